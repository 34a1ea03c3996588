/- Space packets that lie behind one another. -/
import Derived.Test.YtmihhapedpalmaaPk2
import Derived.Test.YtmihhapedpalmaaKeep
namespace Go.Proofs.Ytmihhapedpalmaa
open Go.RowKit Go.Own
set_option linter.unusedVariables false
set_option linter.unusedSimpArgs false

theorem slice8_upto (a : Option Addr) (len cap k : Nat) (hk : k ≤ cap) (w : World) : (Instr.slice 54 (.slice a len cap) none (some (.int .i64 (k : Nat))) none).run Try.prog w = .ok (.slice a k cap) w := by
  rw [run_slice_h w 54 a len cap (by kernel_rfl) .i64 _ (by omega) (by omega)]
  have hz : (sizeOf (Try.prog.elem 54)).run Try.prog w = .ok 1 w := by kernel_rfl
  rw [hz]
  simp [sliced, Result.andThen]
  cases a <;> simp [Addr.add]
theorem slice8_from (a : Option Addr) (len cap k : Nat) (hk : k ≤ len) (w : World) : (Instr.slice 54 (.slice a len cap) (some (.int .i64 (k : Nat))) none none).run Try.prog w = .ok (.slice (if cap = k then a else a.map (·.add k)) (len - k) (cap - k)) w := by
  rw [run_slice_l w 54 a len cap (by kernel_rfl) .i64 _ (by omega) (by omega)]
  have hz : (sizeOf (Try.prog.elem 54)).run Try.prog w = .ok 1 w := by kernel_rfl
  rw [hz]
  simp [sliced, Result.andThen]
theorem info_row8 : (Try.prog.info? 54).map (fun i => (i.zero, i.size, i.bytes)) = some (some (.slice none 0 0), 1, 24) := by kernel_rfl
def rw8 (r : Option Addr × Nat × List Nat) : Value := .slice r.1 r.2.2.length r.2.1
/-- A row of the call's own, of rows of bytes of its own. -/
def Rows8 (base : Nat) (w : World) (v : Value) (n : Nat) (Ls : List (List Nat)) : Prop :=
  ∃ R : List (Option Addr × Nat × List Nat), R.map (·.2.2) = Ls ∧ Ls.length = n ∧ w.ownsRow base 54 1 v n (R.map rw8) ∧ ∀ r ∈ R, w.ownsRow base 5 1 (rw8 r) r.2.2.length (bl r.2.2)
theorem Rows8.nil (base : Nat) (w : World) : Rows8 base w (.slice none 0 0) 0 [] := ⟨[], rfl, rfl, World.ownsRow_nil _ _ _ _, fun r hr => by cases hr⟩
theorem Rows8.below {base k n : Nat} {w w' : World} {v : Value} {Ls : List (List Nat)} (h : Rows8 base w v n Ls) (hb : Below k w w') (hk : w.heap.size ≤ k) : Rows8 base w' v n Ls := by
  obtain ⟨R, h1, h2, h3, h4⟩ := h
  exact ⟨R, h1, h2, own_below h3 hb hk, fun r hr => own_below (h4 r hr) hb hk⟩
theorem Rows8.push {base n ck m : Nat} {w3 w4 : World} {v v' : Value} {Ls : List (List Nat)} {L : List Nat} {pk : Option Addr} {tmp : Obj} {R : List (Option Addr × Nat × List Nat)} (hm : L.length = m) (hR : R.map (·.2.2) = Ls) (hn : Ls.length = n)
    (hr : ∀ r ∈ R, w3.ownsRow base 5 1 (rw8 r) r.2.2.length (bl r.2.2)) (hout : (w3.alloc tmp).ownsRow base 54 1 v n (R.map rw8)) (hL : w3.ownsRow base 5 1 (.slice pk m ck) m (bl L))
    (ho : w4.ownsRow base 54 1 v' (n + 1) (R.map rw8 ++ [.slice pk m ck])) (hg : (w3.alloc tmp).grownBy w4 v.ownBlock) : Rows8 base w4 v' (n + 1) (Ls ++ [L]) := by
  subst hm
  have keep : ∀ {x : Value} {k : Nat} {l : List Value}, w3.ownsRow base 5 1 x k l → w4.ownsRow base 5 1 x k l := fun hx => (hx.alloc tmp).kept hg (own_apart (hx.alloc tmp) hout (by decide))
  refine ⟨R ++ [(pk, ck, L)], by simp [hR], by simp [hn], by simpa [rw8] using ho, fun r hrr => ?_⟩
  rcases List.mem_append.1 hrr with h | h
  · exact keep (hr r h)
  · obtain rfl := List.mem_singleton.1 h
    exact keep hL
theorem Rows8.rds {base n : Nat} {w : World} {v : Value} {Ls : List (List Nat)} (h : Rows8 base w v n Ls) : ∃ a c, v = .slice a n c ∧ ∃ (p : Nat → Option Addr) (q : Nat → Nat), Rd w.heap.size w a n c (fun i => .slice (p i) (Ls.getD i []).length (q i)) ∧ ∀ i, i < n → Rd w.heap.size w (p i) (Ls.getD i []).length (q i) (bv (Ls.getD i [])) := by
  obtain ⟨R, h1, h2, h3, h4⟩ := h
  obtain ⟨a, c, rfl⟩ := own_form h3
  have hlen : R.length = n := by rw [← h2, ← h1, List.length_map]
  have hget : ∀ i (hi : i < R.length), Ls.getD i [] = (R[i]).2.2 := fun i hi => by rw [← h1]; simp [List.getD, hi]
  refine ⟨a, c, rfl, fun i => (R.getD i (none, 0, [])).1, fun i => (R.getD i (none, 0, [])).2.1, rd_of_own h3 (fun i hi => ?_), fun i hi => ?_⟩
  · rw [List.getElem?_map, List.getElem?_eq_getElem (by omega : i < R.length), hget i (by omega)]
    simp [rw8, List.getD, show i < R.length by omega]
  · have hm := h4 (R[i]'(by omega)) (List.getElem_mem _)
    rw [hget i (by omega)]
    have e : R.getD i (none, 0, []) = R[i]'(by omega) := by simp [List.getD, show i < R.length by omega]
    show Rd _ _ (R.getD i (none, 0, [])).1 _ (R.getD i (none, 0, [])).2.1 _
    rw [e]
    exact rd_of_own hm (fun j hj => bl_at _ hj)
/-- How long a slice is. -/
def lenS : Value → Nat
  | .slice _ l _ => l
  | _ => 0
def SplitPost (w : World) (l : List Nat) (e : Ending) (w' : World) : Prop :=
  ∃ v s n m Ls r, e = .returned (.tuple #[v, s]) ∧ Rows8 w.heap.size w' v n Ls ∧ r.length = m ∧ w'.ownsRow w.heap.size 5 1 s m (bl r) ∧ Below w.heap.size w w' ∧ Ls.flatten ++ r = l ∧ (∀ x ∈ Ls, psize x + 7 = x.length) ∧ (m < 6 ∨ m < psize r + 7)
end Go.Proofs.Ytmihhapedpalmaa
