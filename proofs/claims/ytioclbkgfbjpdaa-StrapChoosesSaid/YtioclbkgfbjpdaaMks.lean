/- Marks that ranges over functions leave behind in a loop. Of whatever program. -/
import Derived.RangeFuncWrites
import Derived.RangeFuncLeaves
import Derived.RangeFuncRecord
import Derived.RangeFuncKeeps
import Derived.RangeFuncCalls
namespace Go
open Go.RowKit
set_option linter.unusedVariables false
/-- Marks, the latest first: each at or above lo, below hi. -/
def Marked (lo : Nat) (W : World) : Nat → List Deferred → Prop
  | _, [] => True
  | hi, d :: ds => ∃ D, d = { target := .collected D, args := #[] } ∧ lo ≤ D ∧ D < hi ∧ W.heap[D]? = some (.deferred (some [])) ∧ Marked lo W D ds
theorem Marked.mono {lo : Nat} {W : World} : ∀ {hi hi' : Nat} {ds : List Deferred}, Marked lo W hi ds → hi ≤ hi' → Marked lo W hi' ds
  | _, _, [], _, _ => trivial
  | _, _, _ :: _, ⟨D, h1, h2, h3, h4, h5⟩, hh => ⟨D, h1, h2, Nat.lt_of_lt_of_le h3 hh, h4, h5⟩
theorem Marked.kept {lo : Nat} {W W' : World} : ∀ {hi : Nat} {ds : List Deferred}, Marked lo W hi ds → (∀ k, lo ≤ k → k < hi → W.heap[k]? = some (.deferred (some [])) → W'.heap[k]? = some (.deferred (some []))) → Marked lo W' hi ds
  | _, [], _, _ => trivial
  | hi, _ :: _, ⟨D, h1, h2, h3, h4, h5⟩, hk => ⟨D, h1, h2, h3, hk D h2 h3 h4, h5.kept (fun k a b c => hk k a (Nat.lt_trans b h3) c)⟩
theorem Marked.below {lo : Nat} {W W' : World} {hi n : Nat} {ds : List Deferred} (h : Marked lo W hi ds) (hb : Below n W W') (hn : hi ≤ n) : Marked lo W' hi ds :=
  h.kept fun k _ hk hq => (hb.block k (Nat.lt_of_lt_of_le hk hn)).trans hq
theorem Marked.own {β : Type} {lo hi B : Nat} {ds : List Deferred} (hB : hi ≤ B) : OwnFrom B (fun (_ : β) W => Marked lo W hi ds) :=
  fun _ X Y row hs hg hr => hs.kept fun k _ hk hq => (hg.block k (Array.getElem?_eq_some_iff.1 hq).1 (fun e => by have := (hr k e.symm).1; omega)).trans hq
theorem leaves_marks {F : Fence} {n : Nat} {P : Program} {fn : Func} {tmps : Array Value} {R : Ending → World → Prop} {lo : Nat} (J : World → Prop)
    (hJ : ∀ W D, J W → lo ≤ D → W.heap[D]? = some (.deferred (some [])) → J (W.putObj D (.deferred none)))
    (hE : ∀ W, J W → LeavesIn F n P fn tmps R [] .returning W) : ∀ (ds : List Deferred) (hi : Nat) (W : World), Marked lo W hi ds → J W → LeavesInM F n P fn tmps R ds .returning W
  | [], _, W, _, hj => hE W hj
  | d :: ds, hi, W, ⟨D, h1, h2, h3, h4, h5⟩, hj => by
    refine ⟨by simp, .inl ⟨D, _, by rw [h1], run_takeDeferred h4, ?_⟩⟩
    refine leaves_marks J hJ hE ds D _ (h5.kept fun k _ hk hq => ?_) (hJ W D hj h2 h4)
    exact (World.putObj_heap_other (by omega)).trans hq
end Go
