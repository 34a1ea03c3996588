/- Layer 18: the law's map, and the document's. -/
import Derived.Test.YtioclbkgfbjpdaaSw8
import Derived.Test.YtioclbkgfbjpdaaTn3
import Derived.Deep.MidRow
import Derived.Test.YtioclbkgfbjpdaaSetCs
namespace Go.Proofs.Ytioclbkgfbjpdaa
open Go.RowKit Go.Own Bs
set_option linter.unusedVariables false
set_option linter.unusedSimpArgs false
/-- One role more: its units, without those that were there. -/
def layOne (p : List Nat × Nat) (s : Nat) : List Nat × Nat := (p.1 ++ [s &&& (65535 - p.2)], p.2 ||| (s &&& (65535 - p.2)))
def layS (z : List Nat) : List Nat × Nat := z.foldl layOne ([], 0)
theorem layS_snoc (z : List Nat) (s : Nat) : layS (z ++ [s]) = layOne (layS z) s := by simp [layS]
theorem layS_len : ∀ z : List Nat, (layS z).1.length = z.length := by
  intro z
  suffices h : ∀ (z : List Nat) (p : List Nat × Nat), (z.foldl layOne p).1.length = p.1.length + z.length by simpa [layS] using h z ([], 0)
  intro z
  induction z with
  | nil => intro p; rfl
  | cons s z ih => intro p; rw [List.foldl_cons, ih]; simp [layOne]; omega
theorem layS_lt : ∀ z : List Nat, (∀ s ∈ z, s < 65536) → (layS z).2 < 65536 ∧ ∀ t ∈ (layS z).1, t < 65536 := by
  intro z
  suffices h : ∀ (z : List Nat) (p : List Nat × Nat), (∀ s ∈ z, s < 65536) → p.2 < 65536 → (∀ t ∈ p.1, t < 65536) → (z.foldl layOne p).2 < 65536 ∧ ∀ t ∈ (z.foldl layOne p).1, t < 65536 from fun hz => h z ([], 0) hz (by decide) (by simp)
  intro z
  induction z with
  | nil => intro p _ h1 h2; exact ⟨h1, h2⟩
  | cons s z ih =>
    intro p hz h1 h2
    have hs := hz s (by simp)
    have ht : s &&& (65535 - p.2) < 65536 := Nat.lt_of_le_of_lt Nat.and_le_left hs
    exact ih _ (fun t h => hz t (by simp [h])) (Nat.or_lt_two_pow (n := 16) h1 ht) (fun t h => by
      simp only [layOne, List.mem_append, List.mem_singleton] at h
      rcases h with h | rfl
      · exact h2 t h
      · exact ht)
def svl (l : List Nat) : List Value := l.map fun t => .int .u16 ((t : Nat) : Int)
theorem svl_at (l : List Nat) (i : Nat) (h : i < l.length) : (svl l)[i]? = some (sv l i) := by simp [svl, sv, List.getD, h]
/-- Rows of units in a row of one's own. -/
structure RowsO (base : Nat) (w : World) (v : Value) (l : List Nat) : Prop where
  ex : ∃ vs : List Value, w.ownsRow base 89 1 v l.length vs ∧ vs.length = l.length ∧ ∀ i, i < l.length → ∃ a c, vs[i]? = some (.slice a (upTo (l.getD i 0) 16).length c) ∧ w.ownsRow base 3 1 (.slice a (upTo (l.getD i 0) 16).length c) (upTo (l.getD i 0) 16).length (zl (upTo (l.getD i 0) 16))
theorem RowsO.nil (base : Nat) (w : World) : RowsO base w (.slice none 0 0) [] := ⟨[], World.ownsRow_nil _ _ _ _, rfl, fun i h => absurd h (by simp)⟩
theorem RowsO.kept {base : Nat} {w w' : World} {v : Value} {l : List Nat} (h : RowsO base w v l) (hb : Below w.heap.size w w') : RowsO base w' v l := by
  obtain ⟨vs, h1, h2, h3⟩ := h.ex
  exact ⟨vs, own_keepZ h1 hb, h2, fun i hi => by obtain ⟨a, c, h4, h5⟩ := h3 i hi; exact ⟨a, c, h4, own_keepZ h5 hb⟩⟩
theorem RowsO.box {base g : Nat} {w w' : World} {v : Value} {l : List Nat} {cs : Array Value} {t : TypeId} (h : RowsO base w v l) (hg : w.grownBy w' (some g)) (hx : w.heap[g]? = some (.cells cs t (0, 0))) (h1 : t ≠ 89) (h2 : t ≠ 3) : RowsO base w' v l := by
  obtain ⟨vs, k1, k2, k3⟩ := h.ex
  exact ⟨vs, k1.kept hg (.inr (Ne.symm (box_apart hx k1 h1))), k2, fun i hi => by obtain ⟨a, c, h4, h5⟩ := k3 i hi; exact ⟨a, c, h4, h5.kept hg (.inr (Ne.symm (box_apart hx h5 h2)))⟩⟩
theorem RowsO.app {base base' : Nat} {w w' : World} {v v' : Value} {l : List Nat} {e : TypeId} {size n : Nat} {xs : List Value} (h : RowsO base w v l) (ho : w.ownsRow base' e size v' n xs) (hg : w.grownBy w' v'.ownBlock) (h1 : 89 ≠ e) (h2 : 3 ≠ e) : RowsO base w' v l := by
  obtain ⟨vs, k1, k2, k3⟩ := h.ex
  exact ⟨vs, k1.kept hg (own_apart k1 ho h1), k2, fun i hi => by obtain ⟨a, c, h4, h5⟩ := k3 i hi; exact ⟨a, c, h4, h5.kept hg (own_apart h5 ho h2)⟩⟩
theorem Bq.app {w W W' : World} {bs : List (Nat × Array Value × TypeId)} {base : Nat} {e : TypeId} {size n : Nat} {v : Value} {xs : List Value} (h : Bq w W bs) (ho : W.ownsRow base e size v n xs) (hb : w.heap.size ≤ base) (hg : W.grownBy W' v.ownBlock) (ht : ∀ x ∈ bs, x.2.2 ≠ e) : Bq w W' bs :=
  ⟨h.be.grown hg h.be.size (fun j hj => Nat.le_trans hb (ho.lt j hj).1), fun x hx => box_kept (h.al x hx) hg (box_apart (h.al x hx) ho (ht x hx)), h.lo, h.nd⟩
/-- A row's new block, its data in new memory. -/
def SpB (n0 : Nat) (l : List Nat) : Go.Flo.Spec :=
  ⟨fun v w => ∃ g x c, n0 ≤ g ∧ v = .slice (some ⟨g, 0, none⟩) 1 1 ∧ w.heap[g]? = some (.cells #[.slice x l.length c] 89 (0, 0)) ∧ w.ownsRow n0 3 1 (.slice x l.length c) l.length (zl l),
   fun v w w' hb ⟨g, x, c, h0, hv, h, hr⟩ => ⟨g, x, c, h0, hv, box_below h hb (box_lt h), own_keepZ hr hb⟩⟩
theorem owes_B {o : Oper} {n0 : Nat} {l : List Nat} {w : World} {x : Option Addr} {c : Nat} (h0 : n0 ≤ w.heap.size) (hr : w.ownsRow n0 3 1 (.slice x l.length c) l.length (zl l)) :
    Go.Flo.owes o (SpB n0 l) w (.slice (some ⟨w.heap.size, 0, none⟩) 1 1) (w.alloc (.cells #[.slice x l.length c] 89)) := by
  have hb := (Below.refl w.heap.size w).alloc (Nat.le_refl _) (.cells #[.slice x l.length c] 89)
  refine ⟨⟨w.heap.size, x, c, h0, rfl, heap_alloc_new w _, own_keepZ hr hb⟩, hb, fun g hg => ?_⟩
  unfold Go.Flo.ownOf at hg
  split at hg
  · simp [Go.Flo.blockOf] at hg; subst hg; simp
  · cases hg
theorem ex_B {C : World → Prop} {o : Oper} {n0 : Nat} {l : List Nat} {v : Value} {F : Go.Flo.Facts} {G : Go.Flo.Used} (h : Go.Flo.Ex C o (SpB n0 l) F G v) : ∃ g, v = .slice (some ⟨g, 0, none⟩) 1 1 := by
  obtain ⟨w, _, _, ⟨g, x, c, _, h1, _⟩, _⟩ := h
  exact ⟨g, h1⟩
theorem res_ccS {P : Program} {fn : Func} {p q : Tmp} {ty uy : TypeId} (h : fn.results = #[.cell p ty, .cell q uy]) (tmps : Array Value) (w : World) (g k : Nat) (t u : TypeId) (cs ds : Array Value) (fr gr : Nat × Nat) {d e : TypeDesc}
    (hp : tmps.getD p undef = .pointer (some ⟨g, 0, none⟩)) (hq : tmps.getD q undef = .pointer (some ⟨k, 0, none⟩)) (hg : w.heap[g]? = some (.cells cs t fr)) (hk : w.heap[k]? = some (.cells ds u gr))
    (hu : P.underlying ty = some d) (hd : (match d with | .struct _ | .array _ _ => true | _ => false) = true) (hi : (P.info? ty).map (·.size) = some cs.size)
    (hu' : P.underlying uy = some e) (he : (match e with | .struct _ | .array _ _ => true | _ => false) = true) (hi' : (P.info? uy).map (·.size) = some ds.size) :
    (results fn tmps).run P w = .ok (.tuple #[.agg cs, .agg ds]) w := by
  have hp' : tmps[p]?.getD undef = .pointer (some ⟨g, 0, none⟩) := by simpa using hp
  have hq' : tmps[q]?.getD undef = .pointer (some ⟨k, 0, none⟩) := by simpa using hq
  simp only [results, h]
  simp [Sem.run_bind, Result.andThen, hp', hq', asAddr, run_loadVar_row w g t ty cs fr d hg hu hd hi, run_loadVar_row w k u uy ds gr e hk hu' he hi']
/-- Cells stored into a box's middle. -/
theorem Bq.mid {w wr : World} {bs : List (Nat × Array Value × TypeId)} (h : Bq w wr bs) (i : Nat) {g : Nat} {A : Array Value} {t : TypeId} (hi : bs[i]? = some (g, A, t)) (o : Nat) (vs : List Value) : Bq w (wr.setCells g o vs) (bs.set i (g, SetCs.arrSets A o vs, t)) :=
  ⟨SetCs.below_setCells vs o wr g (h.low i hi) h.be, fun x hx => by
    rcases mem_set hi h.nd hx with rfl | ⟨hm, hne⟩
    · exact SetCs.heap_setCells _ _ _ _ _ _ (h.of i hi)
    · exact (SetCs.heap_setCells_other _ _ _ _ _ hne).trans (h.al x hm), fun x hx => by
    rcases mem_set hi h.nd hx with rfl | ⟨hm, _⟩
    · exact h.low i hi
    · exact h.lo x hm, by rw [keys_set hi]; exact h.nd⟩
theorem RowsO.mid {base g o : Nat} {vs : List Value} {w : World} {v : Value} {l : List Nat} {cs : Array Value} {t : TypeId} (h : RowsO base w v l) (hx : w.heap[g]? = some (.cells cs t (0, 0))) (h1 : t ≠ 89) (h2 : t ≠ 3) : RowsO base (w.setCells g o vs) v l := by
  have hg : w.grownBy (w.setCells g o vs) (some g) := by
    have hb := SetCs.below_setCells (B := 0) (w := w) vs o w g (Nat.zero_le _) ⟨rfl, rfl, rfl, Nat.le_refl _, fun _ h => absurd h (by omega)⟩
    exact ⟨hb.os, hb.tape, hb.output, hb.size, fun k _ hne => SetCs.heap_setCells_other _ _ _ _ _ (fun e => hne (by rw [e]))⟩
  exact h.box hg hx h1 h2
theorem own_mid {base g o : Nat} {vs : List Value} {w : World} {v : Value} {e : TypeId} {size n : Nat} {xs : List Value} {cs : Array Value} {t : TypeId} (h : w.ownsRow base e size v n xs) (hx : w.heap[g]? = some (.cells cs t (0, 0))) (h1 : t ≠ e) : (w.setCells g o vs).ownsRow base e size v n xs := by
  have hb := SetCs.below_setCells (B := 0) (w := w) vs o w g (Nat.zero_le _) ⟨rfl, rfl, rfl, Nat.le_refl _, fun _ h => absurd h (by omega)⟩
  exact h.kept ⟨hb.os, hb.tape, hb.output, hb.size, fun k _ hne => SetCs.heap_setCells_other _ _ _ _ _ (fun e => hne (by rw [e]))⟩ (.inr (Ne.symm (box_apart hx h h1)))
/-- The links up to one. -/
def upl (lk : Nat → Nat) (j : Nat) : Nat → Nat := fun i => if i < j then lk i else 0
theorem upl_zero (v : Value) (lk : Nat → Nat) : (#[v, .int .u16 (((upl lk 0) 0 : Nat) : Int), .int .u16 (((upl lk 0) 1 : Nat) : Int), .int .u16 (((upl lk 0) 2 : Nat) : Int), .int .u16 (((upl lk 0) 3 : Nat) : Int), .int .u16 (((upl lk 0) 4 : Nat) : Int), .int .u16 (((upl lk 0) 5 : Nat) : Int), .int .u16 (((upl lk 0) 6 : Nat) : Int), .int .u16 (((upl lk 0) 7 : Nat) : Int), .int .u16 (((upl lk 0) 8 : Nat) : Int), .int .u16 (((upl lk 0) 9 : Nat) : Int), .int .u16 (((upl lk 0) 10 : Nat) : Int), .int .u16 (((upl lk 0) 11 : Nat) : Int), .int .u16 (((upl lk 0) 12 : Nat) : Int), .int .u16 (((upl lk 0) 13 : Nat) : Int), .int .u16 (((upl lk 0) 14 : Nat) : Int), .int .u16 (((upl lk 0) 15 : Nat) : Int)] : Array Value) = #[v, .int .u16 0, .int .u16 0, .int .u16 0, .int .u16 0, .int .u16 0, .int .u16 0, .int .u16 0, .int .u16 0, .int .u16 0, .int .u16 0, .int .u16 0, .int .u16 0, .int .u16 0, .int .u16 0, .int .u16 0, .int .u16 0] := rfl
theorem upl_all (v : Value) (lk : Nat → Nat) : (#[v, .int .u16 (((upl lk 16) 0 : Nat) : Int), .int .u16 (((upl lk 16) 1 : Nat) : Int), .int .u16 (((upl lk 16) 2 : Nat) : Int), .int .u16 (((upl lk 16) 3 : Nat) : Int), .int .u16 (((upl lk 16) 4 : Nat) : Int), .int .u16 (((upl lk 16) 5 : Nat) : Int), .int .u16 (((upl lk 16) 6 : Nat) : Int), .int .u16 (((upl lk 16) 7 : Nat) : Int), .int .u16 (((upl lk 16) 8 : Nat) : Int), .int .u16 (((upl lk 16) 9 : Nat) : Int), .int .u16 (((upl lk 16) 10 : Nat) : Int), .int .u16 (((upl lk 16) 11 : Nat) : Int), .int .u16 (((upl lk 16) 12 : Nat) : Int), .int .u16 (((upl lk 16) 13 : Nat) : Int), .int .u16 (((upl lk 16) 14 : Nat) : Int), .int .u16 (((upl lk 16) 15 : Nat) : Int)] : Array Value) = #[v, .int .u16 ((lk 0 : Nat) : Int), .int .u16 ((lk 1 : Nat) : Int), .int .u16 ((lk 2 : Nat) : Int), .int .u16 ((lk 3 : Nat) : Int), .int .u16 ((lk 4 : Nat) : Int), .int .u16 ((lk 5 : Nat) : Int), .int .u16 ((lk 6 : Nat) : Int), .int .u16 ((lk 7 : Nat) : Int), .int .u16 ((lk 8 : Nat) : Int), .int .u16 ((lk 9 : Nat) : Int), .int .u16 ((lk 10 : Nat) : Int), .int .u16 ((lk 11 : Nat) : Int), .int .u16 ((lk 12 : Nat) : Int), .int .u16 ((lk 13 : Nat) : Int), .int .u16 ((lk 14 : Nat) : Int), .int .u16 ((lk 15 : Nat) : Int)] := rfl
theorem upl_put (v : Value) (lk : Nat → Nat) {j : Nat} (hj : j < 16) : (#[v, .int .u16 (((upl lk j) 0 : Nat) : Int), .int .u16 (((upl lk j) 1 : Nat) : Int), .int .u16 (((upl lk j) 2 : Nat) : Int), .int .u16 (((upl lk j) 3 : Nat) : Int), .int .u16 (((upl lk j) 4 : Nat) : Int), .int .u16 (((upl lk j) 5 : Nat) : Int), .int .u16 (((upl lk j) 6 : Nat) : Int), .int .u16 (((upl lk j) 7 : Nat) : Int), .int .u16 (((upl lk j) 8 : Nat) : Int), .int .u16 (((upl lk j) 9 : Nat) : Int), .int .u16 (((upl lk j) 10 : Nat) : Int), .int .u16 (((upl lk j) 11 : Nat) : Int), .int .u16 (((upl lk j) 12 : Nat) : Int), .int .u16 (((upl lk j) 13 : Nat) : Int), .int .u16 (((upl lk j) 14 : Nat) : Int), .int .u16 (((upl lk j) 15 : Nat) : Int)] : Array Value).setIfInBounds (1 + j) (.int .u16 ((lk j : Nat) : Int)) = #[v, .int .u16 (((upl lk (j + 1)) 0 : Nat) : Int), .int .u16 (((upl lk (j + 1)) 1 : Nat) : Int), .int .u16 (((upl lk (j + 1)) 2 : Nat) : Int), .int .u16 (((upl lk (j + 1)) 3 : Nat) : Int), .int .u16 (((upl lk (j + 1)) 4 : Nat) : Int), .int .u16 (((upl lk (j + 1)) 5 : Nat) : Int), .int .u16 (((upl lk (j + 1)) 6 : Nat) : Int), .int .u16 (((upl lk (j + 1)) 7 : Nat) : Int), .int .u16 (((upl lk (j + 1)) 8 : Nat) : Int), .int .u16 (((upl lk (j + 1)) 9 : Nat) : Int), .int .u16 (((upl lk (j + 1)) 10 : Nat) : Int), .int .u16 (((upl lk (j + 1)) 11 : Nat) : Int), .int .u16 (((upl lk (j + 1)) 12 : Nat) : Int), .int .u16 (((upl lk (j + 1)) 13 : Nat) : Int), .int .u16 (((upl lk (j + 1)) 14 : Nat) : Int), .int .u16 (((upl lk (j + 1)) 15 : Nat) : Int)] := by
  rcases (by omega : j = 0 ∨ j = 1 ∨ j = 2 ∨ j = 3 ∨ j = 4 ∨ j = 5 ∨ j = 6 ∨ j = 7 ∨ j = 8 ∨ j = 9 ∨ j = 10 ∨ j = 11 ∨ j = 12 ∨ j = 13 ∨ j = 14 ∨ j = 15) with rfl | rfl | rfl | rfl | rfl | rfl | rfl | rfl | rfl | rfl | rfl | rfl | rfl | rfl | rfl | rfl <;> rfl
theorem lk_index (lk : Nat → Nat) {j : Nat} (hj : j < 16) (w : World) : (Instr.index 62 (.agg #[.int .u16 ((lk 0 : Nat) : Int), .int .u16 ((lk 1 : Nat) : Int), .int .u16 ((lk 2 : Nat) : Int), .int .u16 ((lk 3 : Nat) : Int), .int .u16 ((lk 4 : Nat) : Int), .int .u16 ((lk 5 : Nat) : Int), .int .u16 ((lk 6 : Nat) : Int), .int .u16 ((lk 7 : Nat) : Int), .int .u16 ((lk 8 : Nat) : Int), .int .u16 ((lk 9 : Nat) : Int), .int .u16 ((lk 10 : Nat) : Int), .int .u16 ((lk 11 : Nat) : Int), .int .u16 ((lk 12 : Nat) : Int), .int .u16 ((lk 13 : Nat) : Int), .int .u16 ((lk 14 : Nat) : Int), .int .u16 ((lk 15 : Nat) : Int)]) (.int .i64 (j : Nat))).run Try.prog w = .ok (.int .u16 ((lk j : Nat) : Int)) w := by
  rcases (by omega : j = 0 ∨ j = 1 ∨ j = 2 ∨ j = 3 ∨ j = 4 ∨ j = 5 ∨ j = 6 ∨ j = 7 ∨ j = 8 ∨ j = 9 ∨ j = 10 ∨ j = 11 ∨ j = 12 ∨ j = 13 ∨ j = 14 ∨ j = 15) with rfl | rfl | rfl | rfl | rfl | rfl | rfl | rfl | rfl | rfl | rfl | rfl | rfl | rfl | rfl | rfl <;> kernel_rfl
theorem map_links (v : Value) (lk : Nat → Nat) : SetCs.arrSets #[v, .int .u16 0, .int .u16 0, .int .u16 0, .int .u16 0, .int .u16 0, .int .u16 0, .int .u16 0, .int .u16 0, .int .u16 0, .int .u16 0, .int .u16 0, .int .u16 0, .int .u16 0, .int .u16 0, .int .u16 0, .int .u16 0] 1 (#[.int .u16 ((lk 0 : Nat) : Int), .int .u16 ((lk 1 : Nat) : Int), .int .u16 ((lk 2 : Nat) : Int), .int .u16 ((lk 3 : Nat) : Int), .int .u16 ((lk 4 : Nat) : Int), .int .u16 ((lk 5 : Nat) : Int), .int .u16 ((lk 6 : Nat) : Int), .int .u16 ((lk 7 : Nat) : Int), .int .u16 ((lk 8 : Nat) : Int), .int .u16 ((lk 9 : Nat) : Int), .int .u16 ((lk 10 : Nat) : Int), .int .u16 ((lk 11 : Nat) : Int), .int .u16 ((lk 12 : Nat) : Int), .int .u16 ((lk 13 : Nat) : Int), .int .u16 ((lk 14 : Nat) : Int), .int .u16 ((lk 15 : Nat) : Int)] : Array Value).toList = #[v, .int .u16 ((lk 0 : Nat) : Int), .int .u16 ((lk 1 : Nat) : Int), .int .u16 ((lk 2 : Nat) : Int), .int .u16 ((lk 3 : Nat) : Int), .int .u16 ((lk 4 : Nat) : Int), .int .u16 ((lk 5 : Nat) : Int), .int .u16 ((lk 6 : Nat) : Int), .int .u16 ((lk 7 : Nat) : Int), .int .u16 ((lk 8 : Nat) : Int), .int .u16 ((lk 9 : Nat) : Int), .int .u16 ((lk 10 : Nat) : Int), .int .u16 ((lk 11 : Nat) : Int), .int .u16 ((lk 12 : Nat) : Int), .int .u16 ((lk 13 : Nat) : Int), .int .u16 ((lk 14 : Nat) : Int), .int .u16 ((lk 15 : Nat) : Int)] := by
  simp [SetCs.arrSets]
theorem size_lk : (Try.prog.info? 62).map (·.size) = some 16 := by kernel_rfl
theorem size_rm : (Try.prog.info? 69).map (·.size) = some 17 := by kernel_rfl
theorem there_map {w : World} {g : Nat} {v : Value} {t : TypeId} (h : w.heap[g]? = some (.cells #[v, .int .u16 0, .int .u16 0, .int .u16 0, .int .u16 0, .int .u16 0, .int .u16 0, .int .u16 0, .int .u16 0, .int .u16 0, .int .u16 0, .int .u16 0, .int .u16 0, .int .u16 0, .int .u16 0, .int .u16 0, .int .u16 0] t (0, 0))) : w.there g 1 16 := fun j hj => by
  refine ⟨?_, frozen_of_row _ g (1 + j) _ _ h⟩
  rw [cell_of_row _ g (1 + j) _ _ _ h]
  simp
  omega
theorem zero_mp (w : World) : (zeroValue 65).run Try.prog w = .ok (.agg #[.slice none 0 0, .int .u16 0, .int .u16 0, .int .u16 0, .int .u16 0, .int .u16 0, .int .u16 0, .int .u16 0, .int .u16 0, .int .u16 0, .int .u16 0, .int .u16 0, .int .u16 0, .int .u16 0, .int .u16 0, .int .u16 0, .int .u16 0]) w := by kernel_rfl
theorem zero_rm (w : World) : (zeroValue 69).run Try.prog w = .ok (.agg #[.slice none 0 0, .int .u16 0, .int .u16 0, .int .u16 0, .int .u16 0, .int .u16 0, .int .u16 0, .int .u16 0, .int .u16 0, .int .u16 0, .int .u16 0, .int .u16 0, .int .u16 0, .int .u16 0, .int .u16 0, .int .u16 0, .int .u16 0]) w := by kernel_rfl
theorem info_role : (Try.prog.info? 100).map (fun i => (i.zero, i.size, i.bytes)) = some (some (.agg #[.int .u16 0]), 1, 2) := by kernel_rfl
theorem info_ints : (Try.prog.info? 89).map (fun i => (i.zero, i.size, i.bytes)) = some (some (.slice none 0 0), 1, 24) := by kernel_rfl
set_option maxRecDepth 100000 in
set_option maxHeartbeats 8000000 in
theorem lay_any (a : Option Addr) (len cap n : Nat) (z : List Nat) (lk : Nat → Nat) (w : World) (hl : z.length = len) (hv : ∀ t ∈ z, t < 65536) (hlk : ∀ i, lk i < 65536) (hn : n ≤ w.heap.size) (hr : Rd n w a len cap (sv z)) :
    Calls Try.prog 30 #[.slice a len cap, .agg #[.int .u16 ((lk 0 : Nat) : Int), .int .u16 ((lk 1 : Nat) : Int), .int .u16 ((lk 2 : Nat) : Int), .int .u16 ((lk 3 : Nat) : Int), .int .u16 ((lk 4 : Nat) : Int), .int .u16 ((lk 5 : Nat) : Int), .int .u16 ((lk 6 : Nat) : Int), .int .u16 ((lk 7 : Nat) : Int), .int .u16 ((lk 8 : Nat) : Int), .int .u16 ((lk 9 : Nat) : Int), .int .u16 ((lk 10 : Nat) : Int), .int .u16 ((lk 11 : Nat) : Int), .int .u16 ((lk 12 : Nat) : Int), .int .u16 ((lk 13 : Nat) : Int), .int .u16 ((lk 14 : Nat) : Int), .int .u16 ((lk 15 : Nat) : Int)]] w fun e w' => ∃ a1 c1 a2 c2, e = .returned (.tuple #[.agg #[.slice a1 (layS (z.take 6)).1.length c1, .int .u16 ((lk 0 : Nat) : Int), .int .u16 ((lk 1 : Nat) : Int), .int .u16 ((lk 2 : Nat) : Int), .int .u16 ((lk 3 : Nat) : Int), .int .u16 ((lk 4 : Nat) : Int), .int .u16 ((lk 5 : Nat) : Int), .int .u16 ((lk 6 : Nat) : Int), .int .u16 ((lk 7 : Nat) : Int), .int .u16 ((lk 8 : Nat) : Int), .int .u16 ((lk 9 : Nat) : Int), .int .u16 ((lk 10 : Nat) : Int), .int .u16 ((lk 11 : Nat) : Int), .int .u16 ((lk 12 : Nat) : Int), .int .u16 ((lk 13 : Nat) : Int), .int .u16 ((lk 14 : Nat) : Int), .int .u16 ((lk 15 : Nat) : Int)], .agg #[.slice a2 (layS (z.take 6)).1.length c2, .int .u16 ((lk 0 : Nat) : Int), .int .u16 ((lk 1 : Nat) : Int), .int .u16 ((lk 2 : Nat) : Int), .int .u16 ((lk 3 : Nat) : Int), .int .u16 ((lk 4 : Nat) : Int), .int .u16 ((lk 5 : Nat) : Int), .int .u16 ((lk 6 : Nat) : Int), .int .u16 ((lk 7 : Nat) : Int), .int .u16 ((lk 8 : Nat) : Int), .int .u16 ((lk 9 : Nat) : Int), .int .u16 ((lk 10 : Nat) : Int), .int .u16 ((lk 11 : Nat) : Int), .int .u16 ((lk 12 : Nat) : Int), .int .u16 ((lk 13 : Nat) : Int), .int .u16 ((lk 14 : Nat) : Int), .int .u16 ((lk 15 : Nat) : Int)]]) ∧ w'.ownsRow w.heap.size 100 1 (.slice a1 (layS (z.take 6)).1.length c1) (layS (z.take 6)).1.length (svl (layS (z.take 6)).1) ∧ RowsO w.heap.size w' (.slice a2 (layS (z.take 6)).1.length c2) (layS (z.take 6)).1 ∧ Below w.heap.size w w' := by
  have hzm := zero_mp
  have hzr := zero_rm
  have h1 := hr.le
  have h2 := hr.top
  unfold maxLen at h2
  have HR := Lib.hid hr
  have HV := Lib.hid hv
  have HN := Lib.hid hn
  obtain ⟨ir, hir, hir0, hir1, hir2⟩ := info_parts info_role
  obtain ⟨is, his, his0, his1, his2⟩ := info_parts info_ints
  have hq := ((((Bq.nil w).new #[.int .u16 ((lk 0 : Nat) : Int), .int .u16 ((lk 1 : Nat) : Int), .int .u16 ((lk 2 : Nat) : Int), .int .u16 ((lk 3 : Nat) : Int), .int .u16 ((lk 4 : Nat) : Int), .int .u16 ((lk 5 : Nat) : Int), .int .u16 ((lk 6 : Nat) : Int), .int .u16 ((lk 7 : Nat) : Int), .int .u16 ((lk 8 : Nat) : Int), .int .u16 ((lk 9 : Nat) : Int), .int .u16 ((lk 10 : Nat) : Int), .int .u16 ((lk 11 : Nat) : Int), .int .u16 ((lk 12 : Nat) : Int), .int .u16 ((lk 13 : Nat) : Int), .int .u16 ((lk 14 : Nat) : Int), .int .u16 ((lk 15 : Nat) : Int)] 62).new #[.slice none 0 0, .int .u16 0, .int .u16 0, .int .u16 0, .int .u16 0, .int .u16 0, .int .u16 0, .int .u16 0, .int .u16 0, .int .u16 0, .int .u16 0, .int .u16 0, .int .u16 0, .int .u16 0, .int .u16 0, .int .u16 0, .int .u16 0] 65).new #[.slice none 0 0, .int .u16 0, .int .u16 0, .int .u16 0, .int .u16 0, .int .u16 0, .int .u16 0, .int .u16 0, .int .u16 0, .int .u16 0, .int .u16 0, .int .u16 0, .int .u16 0, .int .u16 0, .int .u16 0, .int .u16 0, .int .u16 0] 69).new #[.slice none 0 0, .int .u16 0, .int .u16 0, .int .u16 0, .int .u16 0, .int .u16 0, .int .u16 0, .int .u16 0, .int .u16 0, .int .u16 0, .int .u16 0, .int .u16 0, .int .u16 0, .int .u16 0, .int .u16 0, .int .u16 0, .int .u16 0] 65
  have hq := hq.new #[.slice none 0 0, .int .u16 0, .int .u16 0, .int .u16 0, .int .u16 0, .int .u16 0, .int .u16 0, .int .u16 0, .int .u16 0, .int .u16 0, .int .u16 0, .int .u16 0, .int .u16 0, .int .u16 0, .int .u16 0, .int .u16 0, .int .u16 0] 69
  simp only [World.size_alloc] at hq
  clear hr hv hn
  go_enter Try.func30, Try.ntmps30
  go_upto_region 3 with fail
  obtain ⟨w1, hw1⟩ : ∃ w1, w1 = (((((w.alloc (.cells #[.int .u16 ((lk 0 : Nat) : Int), .int .u16 ((lk 1 : Nat) : Int), .int .u16 ((lk 2 : Nat) : Int), .int .u16 ((lk 3 : Nat) : Int), .int .u16 ((lk 4 : Nat) : Int), .int .u16 ((lk 5 : Nat) : Int), .int .u16 ((lk 6 : Nat) : Int), .int .u16 ((lk 7 : Nat) : Int), .int .u16 ((lk 8 : Nat) : Int), .int .u16 ((lk 9 : Nat) : Int), .int .u16 ((lk 10 : Nat) : Int), .int .u16 ((lk 11 : Nat) : Int), .int .u16 ((lk 12 : Nat) : Int), .int .u16 ((lk 13 : Nat) : Int), .int .u16 ((lk 14 : Nat) : Int), .int .u16 ((lk 15 : Nat) : Int)] 62)).alloc (.cells #[.slice none 0 0, .int .u16 0, .int .u16 0, .int .u16 0, .int .u16 0, .int .u16 0, .int .u16 0, .int .u16 0, .int .u16 0, .int .u16 0, .int .u16 0, .int .u16 0, .int .u16 0, .int .u16 0, .int .u16 0, .int .u16 0, .int .u16 0] 65)).alloc (.cells #[.slice none 0 0, .int .u16 0, .int .u16 0, .int .u16 0, .int .u16 0, .int .u16 0, .int .u16 0, .int .u16 0, .int .u16 0, .int .u16 0, .int .u16 0, .int .u16 0, .int .u16 0, .int .u16 0, .int .u16 0, .int .u16 0, .int .u16 0] 69)).alloc (.cells #[.slice none 0 0, .int .u16 0, .int .u16 0, .int .u16 0, .int .u16 0, .int .u16 0, .int .u16 0, .int .u16 0, .int .u16 0, .int .u16 0, .int .u16 0, .int .u16 0, .int .u16 0, .int .u16 0, .int .u16 0, .int .u16 0, .int .u16 0] 65)).alloc (.cells #[.slice none 0 0, .int .u16 0, .int .u16 0, .int .u16 0, .int .u16 0, .int .u16 0, .int .u16 0, .int .u16 0, .int .u16 0, .int .u16 0, .int .u16 0, .int .u16 0, .int .u16 0, .int .u16 0, .int .u16 0, .int .u16 0, .int .u16 0] 69)) := ⟨_, rfl⟩
  rw [← hw1] at hq ⊢
  obtain ⟨g7, hg7⟩ : ∃ b, b = w.heap.size + 1 + 1 + 1 + 1 := ⟨_, rfl⟩
  obtain ⟨g6, hg6⟩ : ∃ b, b = w.heap.size + 1 + 1 + 1 := ⟨_, rfl⟩
  obtain ⟨g5, hg5⟩ : ∃ b, b = w.heap.size + 1 + 1 := ⟨_, rfl⟩
  obtain ⟨g4, hg4⟩ : ∃ b, b = w.heap.size + 1 := ⟨_, rfl⟩
  rw [← hg7] at hq ⊢
  rw [← hg6] at hq ⊢
  rw [← hg5] at hq ⊢
  rw [← hg4] at hq ⊢
  obtain ⟨g3, hg3⟩ : ∃ b, b = w.heap.size := ⟨_, rfl⟩
  rw [show (Value.pointer (some ⟨w.heap.size, 0, none⟩)) = .pointer (some ⟨g3, 0, none⟩) by rw [hg3]]
  have hq1 : Bq w w1 [(g3, #[.int .u16 ((lk 0 : Nat) : Int), .int .u16 ((lk 1 : Nat) : Int), .int .u16 ((lk 2 : Nat) : Int), .int .u16 ((lk 3 : Nat) : Int), .int .u16 ((lk 4 : Nat) : Int), .int .u16 ((lk 5 : Nat) : Int), .int .u16 ((lk 6 : Nat) : Int), .int .u16 ((lk 7 : Nat) : Int), .int .u16 ((lk 8 : Nat) : Int), .int .u16 ((lk 9 : Nat) : Int), .int .u16 ((lk 10 : Nat) : Int), .int .u16 ((lk 11 : Nat) : Int), .int .u16 ((lk 12 : Nat) : Int), .int .u16 ((lk 13 : Nat) : Int), .int .u16 ((lk 14 : Nat) : Int), .int .u16 ((lk 15 : Nat) : Int)], 62), (g4, #[.slice none 0 0, .int .u16 0, .int .u16 0, .int .u16 0, .int .u16 0, .int .u16 0, .int .u16 0, .int .u16 0, .int .u16 0, .int .u16 0, .int .u16 0, .int .u16 0, .int .u16 0, .int .u16 0, .int .u16 0, .int .u16 0, .int .u16 0], 65), (g5, #[.slice none 0 0, .int .u16 0, .int .u16 0, .int .u16 0, .int .u16 0, .int .u16 0, .int .u16 0, .int .u16 0, .int .u16 0, .int .u16 0, .int .u16 0, .int .u16 0, .int .u16 0, .int .u16 0, .int .u16 0, .int .u16 0, .int .u16 0], 69), (g6, #[.slice none 0 0, .int .u16 0, .int .u16 0, .int .u16 0, .int .u16 0, .int .u16 0, .int .u16 0, .int .u16 0, .int .u16 0, .int .u16 0, .int .u16 0, .int .u16 0, .int .u16 0, .int .u16 0, .int .u16 0, .int .u16 0, .int .u16 0], 65), (g7, #[.slice none 0 0, .int .u16 0, .int .u16 0, .int .u16 0, .int .u16 0, .int .u16 0, .int .u16 0, .int .u16 0, .int .u16 0, .int .u16 0, .int .u16 0, .int .u16 0, .int .u16 0, .int .u16 0, .int .u16 0, .int .u16 0, .int .u16 0], 69)] := by rw [hg3]; exact hq
  have HQ := Lib.hid hq1
  have HLK := Lib.hid hlk
  clear hw1 hg7 hg6 hg5 hg4 hg3 hq hq1 hzm hzr hlk
  go_wp2_with fail
  go_loopw [8, 15] (fun v i wr => ∃ (k : Nat) (v1 v2 : Value), k ≤ len ∧ k ≤ 6 ∧ i = .int .i64 (k : Nat) ∧ v = .int .u16 ((layS (z.take k)).2 : Nat) ∧ Bq w wr [(g3, #[.int .u16 ((lk 0 : Nat) : Int), .int .u16 ((lk 1 : Nat) : Int), .int .u16 ((lk 2 : Nat) : Int), .int .u16 ((lk 3 : Nat) : Int), .int .u16 ((lk 4 : Nat) : Int), .int .u16 ((lk 5 : Nat) : Int), .int .u16 ((lk 6 : Nat) : Int), .int .u16 ((lk 7 : Nat) : Int), .int .u16 ((lk 8 : Nat) : Int), .int .u16 ((lk 9 : Nat) : Int), .int .u16 ((lk 10 : Nat) : Int), .int .u16 ((lk 11 : Nat) : Int), .int .u16 ((lk 12 : Nat) : Int), .int .u16 ((lk 13 : Nat) : Int), .int .u16 ((lk 14 : Nat) : Int), .int .u16 ((lk 15 : Nat) : Int)], 62), (g4, #[.slice none 0 0, .int .u16 0, .int .u16 0, .int .u16 0, .int .u16 0, .int .u16 0, .int .u16 0, .int .u16 0, .int .u16 0, .int .u16 0, .int .u16 0, .int .u16 0, .int .u16 0, .int .u16 0, .int .u16 0, .int .u16 0, .int .u16 0], 65), (g5, #[.slice none 0 0, .int .u16 0, .int .u16 0, .int .u16 0, .int .u16 0, .int .u16 0, .int .u16 0, .int .u16 0, .int .u16 0, .int .u16 0, .int .u16 0, .int .u16 0, .int .u16 0, .int .u16 0, .int .u16 0, .int .u16 0, .int .u16 0], 69), (g6, #[v1, .int .u16 0, .int .u16 0, .int .u16 0, .int .u16 0, .int .u16 0, .int .u16 0, .int .u16 0, .int .u16 0, .int .u16 0, .int .u16 0, .int .u16 0, .int .u16 0, .int .u16 0, .int .u16 0, .int .u16 0, .int .u16 0], 65), (g7, #[v2, .int .u16 0, .int .u16 0, .int .u16 0, .int .u16 0, .int .u16 0, .int .u16 0, .int .u16 0, .int .u16 0, .int .u16 0, .int .u16 0, .int .u16 0, .int .u16 0, .int .u16 0, .int .u16 0, .int .u16 0, .int .u16 0], 69)] ∧ wr.ownsRow w.heap.size 100 1 v1 (layS (z.take k)).1.length (svl (layS (z.take k)).1) ∧ RowsO w.heap.size wr v2 (layS (z.take k)).1) (fun _ i _ => len - (intOf i).toNat)
  case atStart => exact ⟨0, _, _, Nat.zero_le _, Nat.zero_le _, rfl, rfl, HQ.out, World.ownsRow_nil _ _ _ _, RowsO.nil _ _⟩
  case round =>
    clear HQ
    obtain ⟨k, v1, v2, hk, hk6, rfl, rfl, hq, ho1, ho2⟩ := hrel
    have HQ := Lib.hid hq
    have HO1 := Lib.hid ho1
    have HO2 := Lib.hid ho2
    clear hq ho1 ho2
    by_cases hlt : k < len
    · obtain ⟨b, off, rfl, hbn, hc⟩ := HR.out.at hlt
      have hc := (HQ.out.be.cell (p := ⟨b, off + k, none⟩) (show b < w.heap.size by have := HN.out; omega)).trans hc
      unfold sv at hc
      by_cases h66 : k = 6
      · subst h66
        have hz : z.take 6 = z.take 6 := rfl
        go_upto_region 13 with fail
        skip
        have HP1 := Lib.hid (show wr.ownsRow w.heap.size 100 1 v1 (layS (z.take 6)).1.length (svl (layS (z.take 6)).1) by rw [← hz]; exact HO1.out)
        have HP2 := Lib.hid (show RowsO w.heap.size wr v2 (layS (z.take 6)).1 by rw [← hz]; exact HO2.out)
        obtain ⟨L, hL⟩ : ∃ L, L = (layS (z.take 6)).1 := ⟨_, rfl⟩
        rw [← hL] at HP1 HP2
        have HL := Lib.hid hL
        clear hL hz HO1 HO2
        obtain ⟨a1, c1, rfl⟩ := own_form HP1.out
        obtain ⟨vs, hv1, hv2, hv3⟩ := HP2.out.ex
        obtain ⟨a2, c2, rfl⟩ := own_form hv1
        clear hv1 hv2 hv3
        have b3 := HQ.out.of 0 rfl
        have hth := there_map (HQ.out.of 3 rfl)
        have hq2 := HQ.out.mid 3 rfl 1 (#[.int .u16 ((lk 0 : Nat) : Int), .int .u16 ((lk 1 : Nat) : Int), .int .u16 ((lk 2 : Nat) : Int), .int .u16 ((lk 3 : Nat) : Int), .int .u16 ((lk 4 : Nat) : Int), .int .u16 ((lk 5 : Nat) : Int), .int .u16 ((lk 6 : Nat) : Int), .int .u16 ((lk 7 : Nat) : Int), .int .u16 ((lk 8 : Nat) : Int), .int .u16 ((lk 9 : Nat) : Int), .int .u16 ((lk 10 : Nat) : Int), .int .u16 ((lk 11 : Nat) : Int), .int .u16 ((lk 12 : Nat) : Int), .int .u16 ((lk 13 : Nat) : Int), .int .u16 ((lk 14 : Nat) : Int), .int .u16 ((lk 15 : Nat) : Int)] : Array Value).toList
        have ho2 := own_mid (o := 1) (vs := (#[.int .u16 ((lk 0 : Nat) : Int), .int .u16 ((lk 1 : Nat) : Int), .int .u16 ((lk 2 : Nat) : Int), .int .u16 ((lk 3 : Nat) : Int), .int .u16 ((lk 4 : Nat) : Int), .int .u16 ((lk 5 : Nat) : Int), .int .u16 ((lk 6 : Nat) : Int), .int .u16 ((lk 7 : Nat) : Int), .int .u16 ((lk 8 : Nat) : Int), .int .u16 ((lk 9 : Nat) : Int), .int .u16 ((lk 10 : Nat) : Int), .int .u16 ((lk 11 : Nat) : Int), .int .u16 ((lk 12 : Nat) : Int), .int .u16 ((lk 13 : Nat) : Int), .int .u16 ((lk 14 : Nat) : Int), .int .u16 ((lk 15 : Nat) : Int)] : Array Value).toList) HP1.out (HQ.out.of 3 rfl) (by decide)
        have hr2 := HP2.out.mid (o := 1) (vs := (#[.int .u16 ((lk 0 : Nat) : Int), .int .u16 ((lk 1 : Nat) : Int), .int .u16 ((lk 2 : Nat) : Int), .int .u16 ((lk 3 : Nat) : Int), .int .u16 ((lk 4 : Nat) : Int), .int .u16 ((lk 5 : Nat) : Int), .int .u16 ((lk 6 : Nat) : Int), .int .u16 ((lk 7 : Nat) : Int), .int .u16 ((lk 8 : Nat) : Int), .int .u16 ((lk 9 : Nat) : Int), .int .u16 ((lk 10 : Nat) : Int), .int .u16 ((lk 11 : Nat) : Int), .int .u16 ((lk 12 : Nat) : Int), .int .u16 ((lk 13 : Nat) : Int), .int .u16 ((lk 14 : Nat) : Int), .int .u16 ((lk 15 : Nat) : Int)] : Array Value).toList) (HQ.out.of 3 rfl) (by decide) (by decide)
        rw [map_links] at hq2
        go_upto_region 14 with (first | (refine wpList_load_row rfl 62 _ rfl _ rfl _ _ _ _ b3 Try.underlying62 rfl (by exact size_lk) ?_; (try go_simp)) | (refine wpList_store_mid rfl 62 _ _ rfl g6 1 #[.int .u16 ((lk 0 : Nat) : Int), .int .u16 ((lk 1 : Nat) : Int), .int .u16 ((lk 2 : Nat) : Int), .int .u16 ((lk 3 : Nat) : Int), .int .u16 ((lk 4 : Nat) : Int), .int .u16 ((lk 5 : Nat) : Int), .int .u16 ((lk 6 : Nat) : Int), .int .u16 ((lk 7 : Nat) : Int), .int .u16 ((lk 8 : Nat) : Int), .int .u16 ((lk 9 : Nat) : Int), .int .u16 ((lk 10 : Nat) : Int), .int .u16 ((lk 11 : Nat) : Int), .int .u16 ((lk 12 : Nat) : Int), .int .u16 ((lk 13 : Nat) : Int), .int .u16 ((lk 14 : Nat) : Int), .int .u16 ((lk 15 : Nat) : Int)] rfl rfl hth size_lk (by simp [Value.oneCell']) ?_; go_simp))
        obtain ⟨w2, hw2⟩ : ∃ w2, w2 = wr.setCells g6 1 [.int .u16 ((lk 0 : Nat) : Int), .int .u16 ((lk 1 : Nat) : Int), .int .u16 ((lk 2 : Nat) : Int), .int .u16 ((lk 3 : Nat) : Int), .int .u16 ((lk 4 : Nat) : Int), .int .u16 ((lk 5 : Nat) : Int), .int .u16 ((lk 6 : Nat) : Int), .int .u16 ((lk 7 : Nat) : Int), .int .u16 ((lk 8 : Nat) : Int), .int .u16 ((lk 9 : Nat) : Int), .int .u16 ((lk 10 : Nat) : Int), .int .u16 ((lk 11 : Nat) : Int), .int .u16 ((lk 12 : Nat) : Int), .int .u16 ((lk 13 : Nat) : Int), .int .u16 ((lk 14 : Nat) : Int), .int .u16 ((lk 15 : Nat) : Int)] := ⟨_, rfl⟩
        have HQ2 := Lib.hid (show Bq w w2 [(g3, #[.int .u16 ((lk 0 : Nat) : Int), .int .u16 ((lk 1 : Nat) : Int), .int .u16 ((lk 2 : Nat) : Int), .int .u16 ((lk 3 : Nat) : Int), .int .u16 ((lk 4 : Nat) : Int), .int .u16 ((lk 5 : Nat) : Int), .int .u16 ((lk 6 : Nat) : Int), .int .u16 ((lk 7 : Nat) : Int), .int .u16 ((lk 8 : Nat) : Int), .int .u16 ((lk 9 : Nat) : Int), .int .u16 ((lk 10 : Nat) : Int), .int .u16 ((lk 11 : Nat) : Int), .int .u16 ((lk 12 : Nat) : Int), .int .u16 ((lk 13 : Nat) : Int), .int .u16 ((lk 14 : Nat) : Int), .int .u16 ((lk 15 : Nat) : Int)], 62), (g4, #[.slice none 0 0, .int .u16 0, .int .u16 0, .int .u16 0, .int .u16 0, .int .u16 0, .int .u16 0, .int .u16 0, .int .u16 0, .int .u16 0, .int .u16 0, .int .u16 0, .int .u16 0, .int .u16 0, .int .u16 0, .int .u16 0, .int .u16 0], 65), (g5, #[.slice none 0 0, .int .u16 0, .int .u16 0, .int .u16 0, .int .u16 0, .int .u16 0, .int .u16 0, .int .u16 0, .int .u16 0, .int .u16 0, .int .u16 0, .int .u16 0, .int .u16 0, .int .u16 0, .int .u16 0, .int .u16 0, .int .u16 0], 69), (g6, #[.slice a1 L.length c1, .int .u16 ((lk 0 : Nat) : Int), .int .u16 ((lk 1 : Nat) : Int), .int .u16 ((lk 2 : Nat) : Int), .int .u16 ((lk 3 : Nat) : Int), .int .u16 ((lk 4 : Nat) : Int), .int .u16 ((lk 5 : Nat) : Int), .int .u16 ((lk 6 : Nat) : Int), .int .u16 ((lk 7 : Nat) : Int), .int .u16 ((lk 8 : Nat) : Int), .int .u16 ((lk 9 : Nat) : Int), .int .u16 ((lk 10 : Nat) : Int), .int .u16 ((lk 11 : Nat) : Int), .int .u16 ((lk 12 : Nat) : Int), .int .u16 ((lk 13 : Nat) : Int), .int .u16 ((lk 14 : Nat) : Int), .int .u16 ((lk 15 : Nat) : Int)], 65), (g7, #[.slice a2 L.length c2, .int .u16 (((upl lk 0) 0 : Nat) : Int), .int .u16 (((upl lk 0) 1 : Nat) : Int), .int .u16 (((upl lk 0) 2 : Nat) : Int), .int .u16 (((upl lk 0) 3 : Nat) : Int), .int .u16 (((upl lk 0) 4 : Nat) : Int), .int .u16 (((upl lk 0) 5 : Nat) : Int), .int .u16 (((upl lk 0) 6 : Nat) : Int), .int .u16 (((upl lk 0) 7 : Nat) : Int), .int .u16 (((upl lk 0) 8 : Nat) : Int), .int .u16 (((upl lk 0) 9 : Nat) : Int), .int .u16 (((upl lk 0) 10 : Nat) : Int), .int .u16 (((upl lk 0) 11 : Nat) : Int), .int .u16 (((upl lk 0) 12 : Nat) : Int), .int .u16 (((upl lk 0) 13 : Nat) : Int), .int .u16 (((upl lk 0) 14 : Nat) : Int), .int .u16 (((upl lk 0) 15 : Nat) : Int)], 69)] by rw [hw2]; exact hq2)
        have HO2 := Lib.hid (show w2.ownsRow w.heap.size 100 1 (.slice a1 L.length c1) L.length (svl L) by rw [hw2]; exact ho2)
        have HR2 := Lib.hid (show RowsO w.heap.size w2 (.slice a2 L.length c2) L by rw [hw2]; exact hr2)
        rw [← hw2]
        clear hw2 hq2 ho2 hr2 b3 hth HP1 HP2 HQ
        have b3 := HQ2.out.of 0 rfl
        go_upto_region 15 with (refine wpList_load_row rfl 62 _ rfl _ rfl _ _ _ _ b3 Try.underlying62 rfl (by exact size_lk) ?_; (try go_simp))
        clear b3
        go_loopw [47] (fun i wr => ∃ j : Nat, j ≤ 16 ∧ i = .int .i64 (j : Nat) ∧ Bq w wr [(g3, #[.int .u16 ((lk 0 : Nat) : Int), .int .u16 ((lk 1 : Nat) : Int), .int .u16 ((lk 2 : Nat) : Int), .int .u16 ((lk 3 : Nat) : Int), .int .u16 ((lk 4 : Nat) : Int), .int .u16 ((lk 5 : Nat) : Int), .int .u16 ((lk 6 : Nat) : Int), .int .u16 ((lk 7 : Nat) : Int), .int .u16 ((lk 8 : Nat) : Int), .int .u16 ((lk 9 : Nat) : Int), .int .u16 ((lk 10 : Nat) : Int), .int .u16 ((lk 11 : Nat) : Int), .int .u16 ((lk 12 : Nat) : Int), .int .u16 ((lk 13 : Nat) : Int), .int .u16 ((lk 14 : Nat) : Int), .int .u16 ((lk 15 : Nat) : Int)], 62), (g4, #[.slice none 0 0, .int .u16 0, .int .u16 0, .int .u16 0, .int .u16 0, .int .u16 0, .int .u16 0, .int .u16 0, .int .u16 0, .int .u16 0, .int .u16 0, .int .u16 0, .int .u16 0, .int .u16 0, .int .u16 0, .int .u16 0, .int .u16 0], 65), (g5, #[.slice none 0 0, .int .u16 0, .int .u16 0, .int .u16 0, .int .u16 0, .int .u16 0, .int .u16 0, .int .u16 0, .int .u16 0, .int .u16 0, .int .u16 0, .int .u16 0, .int .u16 0, .int .u16 0, .int .u16 0, .int .u16 0, .int .u16 0], 69), (g6, #[.slice a1 L.length c1, .int .u16 ((lk 0 : Nat) : Int), .int .u16 ((lk 1 : Nat) : Int), .int .u16 ((lk 2 : Nat) : Int), .int .u16 ((lk 3 : Nat) : Int), .int .u16 ((lk 4 : Nat) : Int), .int .u16 ((lk 5 : Nat) : Int), .int .u16 ((lk 6 : Nat) : Int), .int .u16 ((lk 7 : Nat) : Int), .int .u16 ((lk 8 : Nat) : Int), .int .u16 ((lk 9 : Nat) : Int), .int .u16 ((lk 10 : Nat) : Int), .int .u16 ((lk 11 : Nat) : Int), .int .u16 ((lk 12 : Nat) : Int), .int .u16 ((lk 13 : Nat) : Int), .int .u16 ((lk 14 : Nat) : Int), .int .u16 ((lk 15 : Nat) : Int)], 65), (g7, #[.slice a2 L.length c2, .int .u16 (((upl lk j) 0 : Nat) : Int), .int .u16 (((upl lk j) 1 : Nat) : Int), .int .u16 (((upl lk j) 2 : Nat) : Int), .int .u16 (((upl lk j) 3 : Nat) : Int), .int .u16 (((upl lk j) 4 : Nat) : Int), .int .u16 (((upl lk j) 5 : Nat) : Int), .int .u16 (((upl lk j) 6 : Nat) : Int), .int .u16 (((upl lk j) 7 : Nat) : Int), .int .u16 (((upl lk j) 8 : Nat) : Int), .int .u16 (((upl lk j) 9 : Nat) : Int), .int .u16 (((upl lk j) 10 : Nat) : Int), .int .u16 (((upl lk j) 11 : Nat) : Int), .int .u16 (((upl lk j) 12 : Nat) : Int), .int .u16 (((upl lk j) 13 : Nat) : Int), .int .u16 (((upl lk j) 14 : Nat) : Int), .int .u16 (((upl lk j) 15 : Nat) : Int)], 69)] ∧ wr.ownsRow w.heap.size 100 1 (.slice a1 L.length c1) L.length (svl L) ∧ RowsO w.heap.size wr (.slice a2 L.length c2) L) (fun i _ => 16 - (intOf i).toNat)
        case atStart => exact ⟨0, Nat.zero_le _, rfl, HQ2.out, HO2.out, HR2.out⟩
        case round =>
          clear HQ2 HO2 HR2
          obtain ⟨j, hj, rfl, hq, ho, hr⟩ := hrel
          have HQ := Lib.hid hq
          have HO := Lib.hid ho
          have HRR := Lib.hid hr
          clear hq ho hr
          by_cases hj16 : j < 16
          · have hix := fun w => lk_index lk hj16 w
            have k7 := cell_of_row _ g7 (1 + j) _ _ _ (HQ.out.of 4 rfl)
            rw [mapv_cell _ (upl lk j) hj16] at k7
            have z7 := frozen_of_row _ g7 (1 + j) _ _ (HQ.out.of 4 rfl)
            have hgS := grown_set wr ⟨g7, 1 + j, none⟩ (.int .u16 ((lk j : Nat) : Int))
            have hq5 := HQ.out.set 4 rfl (1 + j) (.int .u16 ((lk j : Nat) : Int))
            rw [upl_put _ lk hj16] at hq5
            have HQ5 := Lib.hid (show Bq w (wr.setCell ⟨g7, 1 + j, none⟩ (.int .u16 ((lk j : Nat) : Int))) [(g3, #[.int .u16 ((lk 0 : Nat) : Int), .int .u16 ((lk 1 : Nat) : Int), .int .u16 ((lk 2 : Nat) : Int), .int .u16 ((lk 3 : Nat) : Int), .int .u16 ((lk 4 : Nat) : Int), .int .u16 ((lk 5 : Nat) : Int), .int .u16 ((lk 6 : Nat) : Int), .int .u16 ((lk 7 : Nat) : Int), .int .u16 ((lk 8 : Nat) : Int), .int .u16 ((lk 9 : Nat) : Int), .int .u16 ((lk 10 : Nat) : Int), .int .u16 ((lk 11 : Nat) : Int), .int .u16 ((lk 12 : Nat) : Int), .int .u16 ((lk 13 : Nat) : Int), .int .u16 ((lk 14 : Nat) : Int), .int .u16 ((lk 15 : Nat) : Int)], 62), (g4, #[.slice none 0 0, .int .u16 0, .int .u16 0, .int .u16 0, .int .u16 0, .int .u16 0, .int .u16 0, .int .u16 0, .int .u16 0, .int .u16 0, .int .u16 0, .int .u16 0, .int .u16 0, .int .u16 0, .int .u16 0, .int .u16 0, .int .u16 0], 65), (g5, #[.slice none 0 0, .int .u16 0, .int .u16 0, .int .u16 0, .int .u16 0, .int .u16 0, .int .u16 0, .int .u16 0, .int .u16 0, .int .u16 0, .int .u16 0, .int .u16 0, .int .u16 0, .int .u16 0, .int .u16 0, .int .u16 0, .int .u16 0], 69), (g6, #[.slice a1 L.length c1, .int .u16 ((lk 0 : Nat) : Int), .int .u16 ((lk 1 : Nat) : Int), .int .u16 ((lk 2 : Nat) : Int), .int .u16 ((lk 3 : Nat) : Int), .int .u16 ((lk 4 : Nat) : Int), .int .u16 ((lk 5 : Nat) : Int), .int .u16 ((lk 6 : Nat) : Int), .int .u16 ((lk 7 : Nat) : Int), .int .u16 ((lk 8 : Nat) : Int), .int .u16 ((lk 9 : Nat) : Int), .int .u16 ((lk 10 : Nat) : Int), .int .u16 ((lk 11 : Nat) : Int), .int .u16 ((lk 12 : Nat) : Int), .int .u16 ((lk 13 : Nat) : Int), .int .u16 ((lk 14 : Nat) : Int), .int .u16 ((lk 15 : Nat) : Int)], 65), (g7, #[.slice a2 L.length c2, .int .u16 (((upl lk (j + 1)) 0 : Nat) : Int), .int .u16 (((upl lk (j + 1)) 1 : Nat) : Int), .int .u16 (((upl lk (j + 1)) 2 : Nat) : Int), .int .u16 (((upl lk (j + 1)) 3 : Nat) : Int), .int .u16 (((upl lk (j + 1)) 4 : Nat) : Int), .int .u16 (((upl lk (j + 1)) 5 : Nat) : Int), .int .u16 (((upl lk (j + 1)) 6 : Nat) : Int), .int .u16 (((upl lk (j + 1)) 7 : Nat) : Int), .int .u16 (((upl lk (j + 1)) 8 : Nat) : Int), .int .u16 (((upl lk (j + 1)) 9 : Nat) : Int), .int .u16 (((upl lk (j + 1)) 10 : Nat) : Int), .int .u16 (((upl lk (j + 1)) 11 : Nat) : Int), .int .u16 (((upl lk (j + 1)) 12 : Nat) : Int), .int .u16 (((upl lk (j + 1)) 13 : Nat) : Int), .int .u16 (((upl lk (j + 1)) 14 : Nat) : Int), .int .u16 (((upl lk (j + 1)) 15 : Nat) : Int)], 69)] from hq5)
            have HO5 := Lib.hid (HO.out.kept hgS (.inr (Ne.symm (box_apart (HQ.out.of 4 rfl) HO.out (by decide)))))
            have HR5 := Lib.hid (HRR.out.box hgS (HQ.out.of 4 rfl) (by decide) (by decide))
            obtain ⟨y, hy⟩ : ∃ y, y = lk j := ⟨_, rfl⟩
            rw [← hy] at hix HQ5 HO5 HR5
            clear hq5 hgS hy
            go_wp2_with fail
            go_roundw
            case rel => exact ⟨j + 1, by omega, by go_num, HQ5.out, HO5.out, HR5.out⟩
            case measure => simp [intOf]; omega
          · obtain rfl : j = 16 := by omega
            have HQ6 := Lib.hid (show Bq w wr [(g3, #[.int .u16 ((lk 0 : Nat) : Int), .int .u16 ((lk 1 : Nat) : Int), .int .u16 ((lk 2 : Nat) : Int), .int .u16 ((lk 3 : Nat) : Int), .int .u16 ((lk 4 : Nat) : Int), .int .u16 ((lk 5 : Nat) : Int), .int .u16 ((lk 6 : Nat) : Int), .int .u16 ((lk 7 : Nat) : Int), .int .u16 ((lk 8 : Nat) : Int), .int .u16 ((lk 9 : Nat) : Int), .int .u16 ((lk 10 : Nat) : Int), .int .u16 ((lk 11 : Nat) : Int), .int .u16 ((lk 12 : Nat) : Int), .int .u16 ((lk 13 : Nat) : Int), .int .u16 ((lk 14 : Nat) : Int), .int .u16 ((lk 15 : Nat) : Int)], 62), (g4, #[.slice none 0 0, .int .u16 0, .int .u16 0, .int .u16 0, .int .u16 0, .int .u16 0, .int .u16 0, .int .u16 0, .int .u16 0, .int .u16 0, .int .u16 0, .int .u16 0, .int .u16 0, .int .u16 0, .int .u16 0, .int .u16 0, .int .u16 0], 65), (g5, #[.slice none 0 0, .int .u16 0, .int .u16 0, .int .u16 0, .int .u16 0, .int .u16 0, .int .u16 0, .int .u16 0, .int .u16 0, .int .u16 0, .int .u16 0, .int .u16 0, .int .u16 0, .int .u16 0, .int .u16 0, .int .u16 0, .int .u16 0], 69), (g6, #[.slice a1 L.length c1, .int .u16 ((lk 0 : Nat) : Int), .int .u16 ((lk 1 : Nat) : Int), .int .u16 ((lk 2 : Nat) : Int), .int .u16 ((lk 3 : Nat) : Int), .int .u16 ((lk 4 : Nat) : Int), .int .u16 ((lk 5 : Nat) : Int), .int .u16 ((lk 6 : Nat) : Int), .int .u16 ((lk 7 : Nat) : Int), .int .u16 ((lk 8 : Nat) : Int), .int .u16 ((lk 9 : Nat) : Int), .int .u16 ((lk 10 : Nat) : Int), .int .u16 ((lk 11 : Nat) : Int), .int .u16 ((lk 12 : Nat) : Int), .int .u16 ((lk 13 : Nat) : Int), .int .u16 ((lk 14 : Nat) : Int), .int .u16 ((lk 15 : Nat) : Int)], 65), (g7, #[.slice a2 L.length c2, .int .u16 ((lk 0 : Nat) : Int), .int .u16 ((lk 1 : Nat) : Int), .int .u16 ((lk 2 : Nat) : Int), .int .u16 ((lk 3 : Nat) : Int), .int .u16 ((lk 4 : Nat) : Int), .int .u16 ((lk 5 : Nat) : Int), .int .u16 ((lk 6 : Nat) : Int), .int .u16 ((lk 7 : Nat) : Int), .int .u16 ((lk 8 : Nat) : Int), .int .u16 ((lk 9 : Nat) : Int), .int .u16 ((lk 10 : Nat) : Int), .int .u16 ((lk 11 : Nat) : Int), .int .u16 ((lk 12 : Nat) : Int), .int .u16 ((lk 13 : Nat) : Int), .int .u16 ((lk 14 : Nat) : Int), .int .u16 ((lk 15 : Nat) : Int)], 69)] from HQ.out)
            have y6 := box_lt (HQ6.out.of 3 rfl)
            have y7 := box_lt (HQ6.out.of 4 rfl)
            clear HQ hj
            go_upto_region 19 with fail
            have b6 := HQ6.out.of 3 rfl
            have b7 := HQ6.out.of 4 rfl
            obtain ⟨I, W, hne, hWI, hIW⟩ := Go.Mix.family (fun v => v.heap[g6]? = some (.cells #[.slice a1 L.length c1, .int .u16 ((lk 0 : Nat) : Int), .int .u16 ((lk 1 : Nat) : Int), .int .u16 ((lk 2 : Nat) : Int), .int .u16 ((lk 3 : Nat) : Int), .int .u16 ((lk 4 : Nat) : Int), .int .u16 ((lk 5 : Nat) : Int), .int .u16 ((lk 6 : Nat) : Int), .int .u16 ((lk 7 : Nat) : Int), .int .u16 ((lk 8 : Nat) : Int), .int .u16 ((lk 9 : Nat) : Int), .int .u16 ((lk 10 : Nat) : Int), .int .u16 ((lk 11 : Nat) : Int), .int .u16 ((lk 12 : Nat) : Int), .int .u16 ((lk 13 : Nat) : Int), .int .u16 ((lk 14 : Nat) : Int), .int .u16 ((lk 15 : Nat) : Int)] 65 (0, 0)) ∧ v.heap[g7]? = some (.cells #[.slice a2 L.length c2, .int .u16 ((lk 0 : Nat) : Int), .int .u16 ((lk 1 : Nat) : Int), .int .u16 ((lk 2 : Nat) : Int), .int .u16 ((lk 3 : Nat) : Int), .int .u16 ((lk 4 : Nat) : Int), .int .u16 ((lk 5 : Nat) : Int), .int .u16 ((lk 6 : Nat) : Int), .int .u16 ((lk 7 : Nat) : Int), .int .u16 ((lk 8 : Nat) : Int), .int .u16 ((lk 9 : Nat) : Int), .int .u16 ((lk 10 : Nat) : Int), .int .u16 ((lk 11 : Nat) : Int), .int .u16 ((lk 12 : Nat) : Int), .int .u16 ((lk 13 : Nat) : Int), .int .u16 ((lk 14 : Nat) : Int), .int .u16 ((lk 15 : Nat) : Int)] 69 (0, 0))) ⟨b6, b7⟩
            have HJ := Lib.hid hIW
            have HW := Lib.hid hWI
            clear hWI hIW
            have hdr : Below wr.heap.size wr wr.drew := ⟨rfl, rfl, rfl, Nat.le_refl _, fun _ _ => rfl⟩
            have HQ8 := Lib.hid (HQ6.out.step hdr)
            have HO8 := Lib.hid (own_keepZ HO.out hdr)
            have HR8 := Lib.hid (HRR.out.kept hdr)
            clear HQ6 HO HRR hdr
            have b4 := HQ8.out.of 1 rfl
            have HQ9 := Lib.hid (HQ8.out.put 1 rfl #[.slice a1 L.length c1, .int .u16 ((lk 0 : Nat) : Int), .int .u16 ((lk 1 : Nat) : Int), .int .u16 ((lk 2 : Nat) : Int), .int .u16 ((lk 3 : Nat) : Int), .int .u16 ((lk 4 : Nat) : Int), .int .u16 ((lk 5 : Nat) : Int), .int .u16 ((lk 6 : Nat) : Int), .int .u16 ((lk 7 : Nat) : Int), .int .u16 ((lk 8 : Nat) : Int), .int .u16 ((lk 9 : Nat) : Int), .int .u16 ((lk 10 : Nat) : Int), .int .u16 ((lk 11 : Nat) : Int), .int .u16 ((lk 12 : Nat) : Int), .int .u16 ((lk 13 : Nat) : Int), .int .u16 ((lk 14 : Nat) : Int), .int .u16 ((lk 15 : Nat) : Int)])
            have b5 := HQ9.out.of 2 rfl
            have HQX := Lib.hid (HQ9.out.put 2 rfl #[.slice a2 L.length c2, .int .u16 ((lk 0 : Nat) : Int), .int .u16 ((lk 1 : Nat) : Int), .int .u16 ((lk 2 : Nat) : Int), .int .u16 ((lk 3 : Nat) : Int), .int .u16 ((lk 4 : Nat) : Int), .int .u16 ((lk 5 : Nat) : Int), .int .u16 ((lk 6 : Nat) : Int), .int .u16 ((lk 7 : Nat) : Int), .int .u16 ((lk 8 : Nat) : Int), .int .u16 ((lk 9 : Nat) : Int), .int .u16 ((lk 10 : Nat) : Int), .int .u16 ((lk 11 : Nat) : Int), .int .u16 ((lk 12 : Nat) : Int), .int .u16 ((lk 13 : Nat) : Int), .int .u16 ((lk 14 : Nat) : Int), .int .u16 ((lk 15 : Nat) : Int)])
            have d6 := HQ9.out.of 3 rfl
            have d7 := HQ9.out.of 4 rfl
            have e6 := HQX.out.of 3 rfl
            have e7 := HQX.out.of 4 rfl
            refine Go.Mix.wp_region (fun w' => ∃ i, w' = W i) (by kernel_rfl) (by kernel_rfl) (HJ.out _ ⟨b6, b7⟩) ?_
            simp only []
            (refine Go.Mix.walk_calm rfl ?_ (fun K hK => ?_); (first | exact Go.Mix.wanted_none rfl | exact Go.Mix.wanted_tt rfl rfl rfl | exact Go.Mix.wanted_ff rfl rfl rfl); refine Go.Flo.quiet_load_row 65 _ rfl _ rfl _ #[.slice a1 L.length c1, .int .u16 ((lk 0 : Nat) : Int), .int .u16 ((lk 1 : Nat) : Int), .int .u16 ((lk 2 : Nat) : Int), .int .u16 ((lk 3 : Nat) : Int), .int .u16 ((lk 4 : Nat) : Int), .int .u16 ((lk 5 : Nat) : Int), .int .u16 ((lk 6 : Nat) : Int), .int .u16 ((lk 7 : Nat) : Int), .int .u16 ((lk 8 : Nat) : Int), .int .u16 ((lk 9 : Nat) : Int), .int .u16 ((lk 10 : Nat) : Int), .int .u16 ((lk 11 : Nat) : Int), .int .u16 ((lk 12 : Nat) : Int), .int .u16 ((lk 13 : Nat) : Int), .int .u16 ((lk 14 : Nat) : Int), .int .u16 ((lk 15 : Nat) : Int)] _ (by rintro _ ⟨i, rfl⟩; exact (HW.out i).1) Try.underlying65 rfl size_mp ?_; go_simp; refine hK _ ?_; clear hK K)
            (refine Go.Mix.walk_calm rfl ?_ (fun K hK => ?_); (first | exact Go.Mix.wanted_none rfl | exact Go.Mix.wanted_tt rfl rfl rfl | exact Go.Mix.wanted_ff rfl rfl rfl); refine Go.Flo.quiet_load_row 69 _ rfl _ rfl _ #[.slice a2 L.length c2, .int .u16 ((lk 0 : Nat) : Int), .int .u16 ((lk 1 : Nat) : Int), .int .u16 ((lk 2 : Nat) : Int), .int .u16 ((lk 3 : Nat) : Int), .int .u16 ((lk 4 : Nat) : Int), .int .u16 ((lk 5 : Nat) : Int), .int .u16 ((lk 6 : Nat) : Int), .int .u16 ((lk 7 : Nat) : Int), .int .u16 ((lk 8 : Nat) : Int), .int .u16 ((lk 9 : Nat) : Int), .int .u16 ((lk 10 : Nat) : Int), .int .u16 ((lk 11 : Nat) : Int), .int .u16 ((lk 12 : Nat) : Int), .int .u16 ((lk 13 : Nat) : Int), .int .u16 ((lk 14 : Nat) : Int), .int .u16 ((lk 15 : Nat) : Int)] _ (by rintro _ ⟨i, rfl⟩; exact (HW.out i).2) Try.underlying69 rfl size_rm ?_; go_simp; refine hK _ ?_; clear hK K)
            (refine Go.Mix.walk_loud rfl ?_ (fun K hK => ?_); (first | exact Go.Mix.wanted_none rfl | exact Go.Mix.wanted_tt rfl rfl rfl | exact Go.Mix.wanted_ff rfl rfl rfl); refine wp_store_row 65 _ _ rfl _ #[.slice a1 L.length c1, .int .u16 ((lk 0 : Nat) : Int), .int .u16 ((lk 1 : Nat) : Int), .int .u16 ((lk 2 : Nat) : Int), .int .u16 ((lk 3 : Nat) : Int), .int .u16 ((lk 4 : Nat) : Int), .int .u16 ((lk 5 : Nat) : Int), .int .u16 ((lk 6 : Nat) : Int), .int .u16 ((lk 7 : Nat) : Int), .int .u16 ((lk 8 : Nat) : Int), .int .u16 ((lk 9 : Nat) : Int), .int .u16 ((lk 10 : Nat) : Int), .int .u16 ((lk 11 : Nat) : Int), .int .u16 ((lk 12 : Nat) : Int), .int .u16 ((lk 13 : Nat) : Int), .int .u16 ((lk 14 : Nat) : Int), .int .u16 ((lk 15 : Nat) : Int)] rfl rfl 65 _ b4 size_mp rfl (by simp [Value.oneCell']) (hK _ _ (HJ.out _ ⟨d6, d7⟩) ?_); clear hK K)
            (refine Go.Mix.walk_loud rfl ?_ (fun K hK => ?_); (first | exact Go.Mix.wanted_none rfl | exact Go.Mix.wanted_tt rfl rfl rfl | exact Go.Mix.wanted_ff rfl rfl rfl); refine wp_store_row 69 _ _ rfl _ #[.slice a2 L.length c2, .int .u16 ((lk 0 : Nat) : Int), .int .u16 ((lk 1 : Nat) : Int), .int .u16 ((lk 2 : Nat) : Int), .int .u16 ((lk 3 : Nat) : Int), .int .u16 ((lk 4 : Nat) : Int), .int .u16 ((lk 5 : Nat) : Int), .int .u16 ((lk 6 : Nat) : Int), .int .u16 ((lk 7 : Nat) : Int), .int .u16 ((lk 8 : Nat) : Int), .int .u16 ((lk 9 : Nat) : Int), .int .u16 ((lk 10 : Nat) : Int), .int .u16 ((lk 11 : Nat) : Int), .int .u16 ((lk 12 : Nat) : Int), .int .u16 ((lk 13 : Nat) : Int), .int .u16 ((lk 14 : Nat) : Int), .int .u16 ((lk 15 : Nat) : Int)] rfl rfl 69 _ b5 size_rm rfl (by simp [Value.oneCell']) (hK _ _ (HJ.out _ ⟨e6, e7⟩) ?_); clear hK K)
            refine Go.Mix.walk_nil ?_
            simp only [Act.put]
            clear HJ HW hne b6 b7 d6 d7 e6 e7
            clear W I
            obtain ⟨w8, hw8⟩ : ∃ w8, w8 = wr.drew := ⟨_, rfl⟩
            have hw8' : ({ wr with drawn := wr.drawn + 1 } : World) = w8 := hw8.symm
            rw [← hw8] at HQ8 HO8 HR8 HQ9 HQX
            (try rw [hw8'])
            (try rw [← hw8])
            have hg1 := grown_rowS w8 g4 #[.slice a1 L.length c1, .int .u16 ((lk 0 : Nat) : Int), .int .u16 ((lk 1 : Nat) : Int), .int .u16 ((lk 2 : Nat) : Int), .int .u16 ((lk 3 : Nat) : Int), .int .u16 ((lk 4 : Nat) : Int), .int .u16 ((lk 5 : Nat) : Int), .int .u16 ((lk 6 : Nat) : Int), .int .u16 ((lk 7 : Nat) : Int), .int .u16 ((lk 8 : Nat) : Int), .int .u16 ((lk 9 : Nat) : Int), .int .u16 ((lk 10 : Nat) : Int), .int .u16 ((lk 11 : Nat) : Int), .int .u16 ((lk 12 : Nat) : Int), .int .u16 ((lk 13 : Nat) : Int), .int .u16 ((lk 14 : Nat) : Int), .int .u16 ((lk 15 : Nat) : Int)]
            have ho9 := HO8.out.kept hg1 (.inr (Ne.symm (box_apart (HQ8.out.of 1 rfl) HO8.out (by decide))))
            have hr9 := HR8.out.box hg1 (HQ8.out.of 1 rfl) (by decide) (by decide)
            have hg2 := grown_rowS (w8.setRow g4 #[.slice a1 L.length c1, .int .u16 ((lk 0 : Nat) : Int), .int .u16 ((lk 1 : Nat) : Int), .int .u16 ((lk 2 : Nat) : Int), .int .u16 ((lk 3 : Nat) : Int), .int .u16 ((lk 4 : Nat) : Int), .int .u16 ((lk 5 : Nat) : Int), .int .u16 ((lk 6 : Nat) : Int), .int .u16 ((lk 7 : Nat) : Int), .int .u16 ((lk 8 : Nat) : Int), .int .u16 ((lk 9 : Nat) : Int), .int .u16 ((lk 10 : Nat) : Int), .int .u16 ((lk 11 : Nat) : Int), .int .u16 ((lk 12 : Nat) : Int), .int .u16 ((lk 13 : Nat) : Int), .int .u16 ((lk 14 : Nat) : Int), .int .u16 ((lk 15 : Nat) : Int)]) g5 #[.slice a2 L.length c2, .int .u16 ((lk 0 : Nat) : Int), .int .u16 ((lk 1 : Nat) : Int), .int .u16 ((lk 2 : Nat) : Int), .int .u16 ((lk 3 : Nat) : Int), .int .u16 ((lk 4 : Nat) : Int), .int .u16 ((lk 5 : Nat) : Int), .int .u16 ((lk 6 : Nat) : Int), .int .u16 ((lk 7 : Nat) : Int), .int .u16 ((lk 8 : Nat) : Int), .int .u16 ((lk 9 : Nat) : Int), .int .u16 ((lk 10 : Nat) : Int), .int .u16 ((lk 11 : Nat) : Int), .int .u16 ((lk 12 : Nat) : Int), .int .u16 ((lk 13 : Nat) : Int), .int .u16 ((lk 14 : Nat) : Int), .int .u16 ((lk 15 : Nat) : Int)]
            have HOX := Lib.hid (ho9.kept hg2 (.inr (Ne.symm (box_apart (HQ9.out.of 2 rfl) ho9 (by decide)))))
            have HRX := Lib.hid (hr9.box hg2 (HQ9.out.of 2 rfl) (by decide) (by decide))
            clear hg1 ho9 hr9 hg2
            go_wp2_with fail
            refine bodyPost_ret (res_ccS rfl _ _ _ _ _ _ _ _ _ _ rfl rfl (HQX.out.of 1 rfl) (HQX.out.of 2 rfl) Try.underlying65 rfl size_mp Try.underlying69 rfl size_rm) rfl ?_
            rw [← HL.out]
            exact ⟨a1, c1, a2, c2, rfl, HOX.out, HRX.out, HQX.out.be⟩
      have hk5 : k < 6 := by omega
      have hs : z.getD k 0 < 65536 := HV.out _ (by
        unfold List.getD
        rw [List.getElem?_eq_getElem (show k < z.length by omega)]
        exact List.getElem_mem _)
      have hd : z.take (k + 1) = z.take k ++ [z.getD k 0] := by
        rw [List.take_add_one, List.getElem?_eq_getElem (show k < z.length by omega)]
        simp [List.getD, show k < z.length by omega]
      have hA := layS_lt (z.take k) (fun t h => HV.out t (List.mem_of_mem_take h))
      have hLl : (layS (z.take k)).1.length = k := by rw [layS_len, List.length_take]; omega
      have hst := layS_snoc (z.take k) (z.getD k 0)
      rw [← hd] at hst
      obtain ⟨s, hse⟩ : ∃ s, s = z.getD k 0 := ⟨_, rfl⟩
      obtain ⟨L, hLe⟩ : ∃ L, L = (layS (z.take k)).1 := ⟨_, rfl⟩
      obtain ⟨A, hAe⟩ : ∃ A, A = (layS (z.take k)).2 := ⟨_, rfl⟩
      rw [← hse] at hc hs hst
      have hst2 : layS (z.take (k + 1)) = (L ++ [s &&& (65535 - A)], A ||| (s &&& (65535 - A))) := by rw [hst, hLe, hAe]; rfl
      rw [← hLe] at hLl HO1 HO2
      rw [← hLe, ← hAe] at hA
      rw [← hAe]
      obtain ⟨t, ht⟩ : ∃ t, t = s &&& (65535 - A) := ⟨_, rfl⟩
      rw [← ht] at hst2
      obtain ⟨hA1, hA2⟩ := hA
      have ht16 : t < 65536 := by rw [ht]; exact Nat.lt_of_le_of_lt Nat.and_le_left hs
      have eo : orS A [t] = A ||| t := by simp [orS]
      have HST := Lib.hid hst2
      have HT := Lib.hid ht
      have HLL := Lib.hid hLl
      have HA2 := Lib.hid hA2
      have EO := Lib.hid eo
      clear hd hst hst2 ht hLl hA2 hse hLe hAe eo
      · clear h66 hk6
        go_wp2_with fail
        go_at_call 73
        refine (Less_any s A _ hs hA1).mono ?_
        rintro e w' ⟨rfl, rfl⟩
        rw [← HT.out]
        have hal := (Below.refl wr.heap.size wr).alloc (Nat.le_refl _) (.cells #[.int .u16 ((t : Nat) : Int)] 61)
        have HQ2 := Lib.hid (HQ.out.step hal)
        have HO12 := Lib.hid (own_keepZ HO1.out hal)
        have HO22 := Lib.hid (HO2.out.kept hal)
        clear hal HQ HO1 HO2 hc
        go_wp2_with fail
        go_at_call 48
        refine (Or_any _ 1 1 _ A [t] _ hA1 rfl (fun z hz => by simp at hz; omega) (Nat.le_refl _) (rd_set (heap_alloc_new _ _))).mono ?_
        rintro e w4 ⟨rfl, rfl⟩
        rw [EO.out]
        obtain ⟨w2, hw2⟩ : ∃ w2, w2 = wr.alloc (.cells #[.int .u16 ((t : Nat) : Int)] 61) := ⟨_, rfl⟩
        rw [← hw2] at HQ2 HO12 HO22 ⊢
        clear hw2
        have c6 := cell_of_row _ g6 0 _ _ _ (HQ2.out.of 3 rfl)
        have f6 := frozen_of_row _ g6 0 _ _ (HQ2.out.of 3 rfl)
        simp at c6
        obtain ⟨a1, c1, rfl⟩ := own_form HO12.out
        have hal := (Below.refl w2.heap.size w2).alloc (Nat.le_refl _) (.cells #[.int .u16 ((t : Nat) : Int)] 100)
        have HQ3 := Lib.hid (HQ2.out.step hal)
        have HO13 := Lib.hid (own_keepZ HO12.out hal)
        have HO23 := Lib.hid (HO22.out.kept hal)
        have hL5 : L.length ≤ 5 := by have := HLL.out; omega
        have hw2 : w.heap.size ≤ w2.heap.size := HQ2.out.be.size
        clear hal
        go_upto_region 11 with (at_builtin; refine wpList_append_own _ rfl _ _ 63 rfl w.heap.size 100 ir (.agg #[.int .u16 0]) 1 2 Try.underlying63 hir hir0 hir1 hir2 rfl (by decide) _ _ _ rfl HO13.out ⟨w2.heap.size, 0, none⟩ 1 1 [.int .u16 ((t : Nat) : Int)] rfl rfl (cell_one_new _ _ _) (by simp [Value.oneCell']) (by unfold maxLen; omega) (by omega) (by simp; omega) ?_; intro v' w4 hown4 hgr4 _; obtain ⟨a3, c3, rfl⟩ := own_form hown4; have hq4 := HQ3.out.app HO13.out (Nat.le_refl _) hgr4 (by simp); have d6 : w4.cell? ⟨g6, 0, none⟩ = some (.slice a1 L.length c1) := cell_of_row _ g6 0 _ _ _ (hq4.of 3 rfl); have e6 := frozen_of_row _ g6 0 _ _ (hq4.of 3 rfl); have HO24 := Lib.hid (HO23.out.app HO13.out hgr4 (by decide) (by decide)); have HQ4 := Lib.hid hq4; have HO14 := Lib.hid hown4; clear hown4 hgr4 hq4)
        obtain ⟨w5, hw5⟩ : ∃ w5, w5 = w4.setCell ⟨g6, 0, none⟩ (.slice a3 (L.length + 1) c3) := ⟨_, rfl⟩
        have hgS := grown_set w4 ⟨g6, 0, none⟩ (.slice a3 (L.length + 1) c3)
        have hq5 := HQ4.out.set 3 rfl 0 (.slice a3 (L.length + 1) c3)
        have ho5 := HO14.out.kept hgS (.inr (Ne.symm (box_apart (HQ4.out.of 3 rfl) HO14.out (by decide))))
        have ho25 := HO24.out.box hgS (HQ4.out.of 3 rfl) (by decide) (by decide)
        rw [← hw5] at hq5 ho5 ho25 ⊢
        have HQ5 := Lib.hid (show Bq w w5 [(g3, #[.int .u16 ((lk 0 : Nat) : Int), .int .u16 ((lk 1 : Nat) : Int), .int .u16 ((lk 2 : Nat) : Int), .int .u16 ((lk 3 : Nat) : Int), .int .u16 ((lk 4 : Nat) : Int), .int .u16 ((lk 5 : Nat) : Int), .int .u16 ((lk 6 : Nat) : Int), .int .u16 ((lk 7 : Nat) : Int), .int .u16 ((lk 8 : Nat) : Int), .int .u16 ((lk 9 : Nat) : Int), .int .u16 ((lk 10 : Nat) : Int), .int .u16 ((lk 11 : Nat) : Int), .int .u16 ((lk 12 : Nat) : Int), .int .u16 ((lk 13 : Nat) : Int), .int .u16 ((lk 14 : Nat) : Int), .int .u16 ((lk 15 : Nat) : Int)], 62), (g4, #[.slice none 0 0, .int .u16 0, .int .u16 0, .int .u16 0, .int .u16 0, .int .u16 0, .int .u16 0, .int .u16 0, .int .u16 0, .int .u16 0, .int .u16 0, .int .u16 0, .int .u16 0, .int .u16 0, .int .u16 0, .int .u16 0, .int .u16 0], 65), (g5, #[.slice none 0 0, .int .u16 0, .int .u16 0, .int .u16 0, .int .u16 0, .int .u16 0, .int .u16 0, .int .u16 0, .int .u16 0, .int .u16 0, .int .u16 0, .int .u16 0, .int .u16 0, .int .u16 0, .int .u16 0, .int .u16 0, .int .u16 0], 69), (g6, #[.slice a3 (L.length + 1) c3, .int .u16 0, .int .u16 0, .int .u16 0, .int .u16 0, .int .u16 0, .int .u16 0, .int .u16 0, .int .u16 0, .int .u16 0, .int .u16 0, .int .u16 0, .int .u16 0, .int .u16 0, .int .u16 0, .int .u16 0, .int .u16 0], 65), (g7, #[v2, .int .u16 0, .int .u16 0, .int .u16 0, .int .u16 0, .int .u16 0, .int .u16 0, .int .u16 0, .int .u16 0, .int .u16 0, .int .u16 0, .int .u16 0, .int .u16 0, .int .u16 0, .int .u16 0, .int .u16 0, .int .u16 0], 69)] from hq5)
        have HO15 := Lib.hid ho5
        have HO25 := Lib.hid ho25
        clear hw5 hgS hq5 ho5 ho25 HO14 HO24 HQ4 HQ3 HO13 HO23 HO22 HO12 HQ2 d6 e6 c6 f6
        obtain ⟨vs, hv1, hv2, hv3⟩ := HO25.out.ex
        obtain ⟨a2, c2, rfl⟩ := own_form hv1
        have HV1 := Lib.hid hv1
        have HV2 := Lib.hid hv2
        have HV3 := Lib.hid hv3
        clear hv1 hv2 hv3
        have hw5 : w.heap.size ≤ w5.heap.size := HQ5.out.be.size
        have x7 := cell_of_row _ g7 0 _ _ _ (HQ5.out.of 4 rfl)
        have y7 := box_lt (HQ5.out.of 4 rfl)
        simp at x7
        obtain ⟨I, W, hne, hWI, hIW⟩ := Go.Mix.family (fun v => Below w5.heap.size w5 v) (Below.refl _ _)
        have HJ := Lib.hid hIW
        have HW := Lib.hid hWI
        clear hWI hIW
        refine Go.Flo3.wp_region (fun w' => ∃ i, w' = W i) 5 [SpZ w5.heap.size (upTo t 16), SpB w5.heap.size (upTo t 16)] (by kernel_rfl) (by kernel_rfl) (by decide) (by rintro _ w' ⟨i, rfl⟩ hb; exact HJ.out _ ((HW.out i).trans (hb.mono (HW.out i).size))) (HJ.out _ (Below.refl _ _).drew) ?_
        simp only [Go.Flo.pair, Go.Mix.calm, List.take, List.drop, if_true, Bool.false_eq_true, if_false, Nat.reduceAdd, Nat.reduceSub]
        have e7 : ∀ i, (W i).cell? ⟨g7, 0, none⟩ = some (.slice a2 L.length c2) := fun i => ((HW.out i).cell (p := ⟨g7, 0, none⟩) y7).trans x7
        (repeat (first | (refine Go.Flo.fw_calm rfl ?_ (fun K hK => ?_); (first | exact Go.Mix.wanted_none rfl | exact Go.Mix.wanted_tt rfl rfl rfl | exact Go.Mix.wanted_ff rfl rfl rfl); go_big_quiet_op; refine hK _ ?_; clear hK K) | (refine Go.Flo.fw_skip ?_ (fun K hK => ?_); (first | exact Go.Mix.wanted_tf rfl rfl rfl | exact Go.Mix.wanted_ft rfl rfl rfl); go_simp; refine hK _ ?_; clear hK K) | (refine Go.Flo.fw_any rfl ?_ (fun K hK => ?_); (first | exact Go.Mix.wanted_none rfl | exact Go.Mix.wanted_tt rfl rfl rfl | exact Go.Mix.wanted_ff rfl rfl rfl); go_simp; (try (go_ints; try go_simp)); refine hK _ ?_; clear hK K)))
        refine Go.Flo.fw_loud rfl ?_ rfl (by simp) (fun wv hwv hav K hK => ?_) (fun v hv K hK => ?_)
        · (first | exact Go.Mix.wanted_none rfl | exact Go.Mix.wanted_tt rfl rfl rfl | exact Go.Mix.wanted_ff rfl rfl rfl)
        · obtain ⟨iv, rfl⟩ := hwv
          (first | go_big_op | go_simp)
          go_at_call 74
          refine (List_any t _ ht16).mono ?_
          rintro e w' ⟨v, rfl, hown, hb⟩
          exact hK _ _ (owes_Z rfl hb hown (HW.out iv).size)
        obtain ⟨xa, xc, rfl⟩ := ex_Z hv
        go_simp
        refine hK _ ?_
        clear hK K hv
        refine Go.Flo.fw_loud rfl ?_ rfl (by simp) (fun wv hwv hav K hK => ?_) (fun v hv K hK => ?_)
        · (first | exact Go.Mix.wanted_none rfl | exact Go.Mix.wanted_tt rfl rfl rfl | exact Go.Mix.wanted_ff rfl rfl rfl)
        · obtain ⟨iv, rfl⟩ := hwv
          have hrow := ((hav 39 (by decide +kernel)).2 rfl).1
          have hbs := (HW.out iv).size
          (first | go_big_op | go_simp)
          exact hK _ _ (owes_B hbs hrow)
        obtain ⟨gb, rfl⟩ := ex_B hv
        go_simp
        refine hK _ ?_
        clear hK K hv
        refine Go.Flo.fw_nil ?_
        intro w6 hww6 hfw6 huw6
        obtain ⟨iend, hiend⟩ := hww6
        have hbw6 := HW.out iend
        rw [← hiend] at hbw6
        clear hiend iend huw6
        obtain ⟨gb', xb, cb, hgb, hge, hbh, hbo⟩ := ((hfw6 (some 40)).2 rfl).1
        injection hge with hge _ _
        injection hge with hge
        injection hge with hge
        subst hge
        have HQ6 := Lib.hid (HQ5.out.step hbw6)
        have HV6 := Lib.hid (own_keepZ HV1.out hbw6)
        have HO16 := Lib.hid (own_keepZ HO15.out hbw6)
        have HI6 := Lib.hid (show ∀ i, i < L.length → ∃ a c, vs[i]? = some (.slice a (upTo (L.getD i 0) 16).length c) ∧ w6.ownsRow w.heap.size 3 1 (.slice a (upTo (L.getD i 0) 16).length c) (upTo (L.getD i 0) 16).length (zl (upTo (L.getD i 0) 16)) from fun i hi => by obtain ⟨a, c, h4, h5⟩ := HV3.out i hi; exact ⟨a, c, h4, own_keepZ h5 hbw6⟩)
        have HBO := Lib.hid (own_baseZ hbo hw5)
        have HBH := Lib.hid hbh
        have hw6 : w.heap.size ≤ w6.heap.size := Nat.le_trans hw5 hbw6.size
        clear hfw6 HJ HW hne e7 hbw6 hbo hbh x7 y7 hgb HV1 HV3 HO15 HO25 HQ5
        clear W I
        refine ⟨fun _ => True, trivial, ?_⟩

        refine Go.Mix.walk_loud rfl ?_ (fun K hK => ?_)
        · (first | exact Go.Mix.wanted_none rfl | exact Go.Mix.wanted_tt rfl rfl rfl | exact Go.Mix.wanted_ff rfl rfl rfl)
        refine wp_append_own _ _ _ 66 rfl w.heap.size 89 is (.slice none 0 0) 1 24 Try.underlying66 his his0 his1 his2 rfl (by decide) _ _ _ rfl HV6.out ⟨gb, 0, none⟩ 1 1 [.slice xb (upTo t 16).length cb] rfl rfl (fun j u hj => by
          rw [Addr.add_mid, Nat.zero_add, cell_of_row _ _ _ _ _ _ HBH.out]
          simpa using hj) (by simp [Value.oneCell']) (by unfold maxLen; omega) (by omega) hw6 ?_
        intro v7 w7 hown7 hgr7 _
        obtain ⟨a7, c7, rfl⟩ := own_form hown7
        have hq7 := HQ6.out.app HV6.out (Nat.le_refl _) hgr7 (by simp)
        have d7 : w7.cell? ⟨g7, 0, none⟩ = some (.slice a2 L.length c2) := cell_of_row _ g7 0 _ _ _ (hq7.of 4 rfl)
        have f7 := frozen_of_row _ g7 0 _ _ (hq7.of 4 rfl)
        have HQ7 := Lib.hid hq7
        have HO7 := Lib.hid hown7
        have HO17 := Lib.hid (HO16.out.kept hgr7 (own_apart HO16.out HV6.out (by decide)))
        have HI7 := Lib.hid (show ∀ i, i < L.length → ∃ a c, vs[i]? = some (.slice a (upTo (L.getD i 0) 16).length c) ∧ w7.ownsRow w.heap.size 3 1 (.slice a (upTo (L.getD i 0) 16).length c) (upTo (L.getD i 0) 16).length (zl (upTo (L.getD i 0) 16)) from fun i hi => by obtain ⟨a, c, h4, h5⟩ := HI6.out i hi; exact ⟨a, c, h4, h5.kept hgr7 (own_apart h5 HV6.out (by decide))⟩)
        have HB7 := Lib.hid (HBO.out.kept hgr7 (own_apart HBO.out HV6.out (by decide)))
        clear hown7 hgr7 hq7 HQ6 HV6 HO16 HI6 HBO HBH
        refine hK _ _ trivial ?_
        clear hK K
        (repeat (first | (refine Go.Mix.walk_calm rfl ?_ (fun K hK => ?_); (first | exact Go.Mix.wanted_none rfl | exact Go.Mix.wanted_tt rfl rfl rfl | exact Go.Mix.wanted_ff rfl rfl rfl); go_big_quiet_op; refine hK _ ?_; clear hK K) | (refine Go.Mix.walk_skip ?_ (fun K hK => ?_); (first | exact Go.Mix.wanted_tf rfl rfl rfl | exact Go.Mix.wanted_ft rfl rfl rfl); go_simp; refine hK _ ?_; clear hK K) | (refine Go.Mix.walk_loud rfl ?_ (fun K hK => ?_); (first | exact Go.Mix.wanted_none rfl | exact Go.Mix.wanted_tt rfl rfl rfl | exact Go.Mix.wanted_ff rfl rfl rfl); (first | go_big_op | go_simp); (first | (refine hK _ _ trivial ?_; clear hK K) | (fail; (try dsimp only); refine hK _ _ trivial ?_; clear hK K))) | (refine Go.Mix.walk_step (fun K hK => ?_); go_simp; (try (go_ints; try go_simp)); refine hK _ _ ?_; clear hK K)))
        refine Go.Mix.walk_nil ?_
        have hgS := grown_set w7 ⟨g7, 0, none⟩ (.slice a7 (L.length + 1) c7)
        have hq8 := HQ7.out.set 4 rfl 0 (.slice a7 (L.length + 1) c7)
        have ho18 := HO17.out.kept hgS (.inr (Ne.symm (box_apart (HQ7.out.of 4 rfl) HO17.out (by decide))))
        have hne7 : (69 : TypeId) ≠ 3 := by decide
        have hr8 : RowsO w.heap.size (w7.setCell ⟨g7, 0, none⟩ (.slice a7 (L.length + 1) c7)) (.slice a7 (L.length + 1) c7) (L ++ [t]) := by
          have hlen : (L ++ [t]).length = L.length + 1 := by simp
          refine ⟨vs ++ [.slice xb (upTo t 16).length cb], ?_, by rw [List.length_append, HV2.out, hlen]; rfl, fun i hi => ?_⟩
          · rw [hlen]
            exact HO7.out.kept hgS (.inr (Ne.symm (box_apart (HQ7.out.of 4 rfl) HO7.out (by decide))))
          · rw [hlen] at hi
            rcases Nat.lt_or_ge i L.length with h | h
            · obtain ⟨a, c, h4, h5⟩ := HI7.out i h
              have eg : (L ++ [t]).getD i 0 = L.getD i 0 := by simp [List.getD, List.getElem?_append_left h]
              rw [eg, List.getElem?_append_left (by rw [HV2.out]; exact h)]
              exact ⟨a, c, h4, h5.kept hgS (.inr (Ne.symm (box_apart (HQ7.out.of 4 rfl) h5 hne7)))⟩
            · obtain rfl : i = L.length := by omega
              have eg : (L ++ [t]).getD L.length 0 = t := by simp [List.getD]
              rw [eg]
              refine ⟨xb, cb, by rw [← HV2.out]; simp, HB7.out.kept hgS (.inr (Ne.symm (box_apart (HQ7.out.of 4 rfl) HB7.out hne7)))⟩
        obtain ⟨w8, hw8⟩ : ∃ w8, w8 = w7.setCell ⟨g7, 0, none⟩ (.slice a7 (L.length + 1) c7) := ⟨_, rfl⟩
        rw [← hw8] at hq8 ho18 hr8 ⊢
        have HQ8 := Lib.hid (show Bq w w8 [(g3, #[.int .u16 ((lk 0 : Nat) : Int), .int .u16 ((lk 1 : Nat) : Int), .int .u16 ((lk 2 : Nat) : Int), .int .u16 ((lk 3 : Nat) : Int), .int .u16 ((lk 4 : Nat) : Int), .int .u16 ((lk 5 : Nat) : Int), .int .u16 ((lk 6 : Nat) : Int), .int .u16 ((lk 7 : Nat) : Int), .int .u16 ((lk 8 : Nat) : Int), .int .u16 ((lk 9 : Nat) : Int), .int .u16 ((lk 10 : Nat) : Int), .int .u16 ((lk 11 : Nat) : Int), .int .u16 ((lk 12 : Nat) : Int), .int .u16 ((lk 13 : Nat) : Int), .int .u16 ((lk 14 : Nat) : Int), .int .u16 ((lk 15 : Nat) : Int)], 62), (g4, #[.slice none 0 0, .int .u16 0, .int .u16 0, .int .u16 0, .int .u16 0, .int .u16 0, .int .u16 0, .int .u16 0, .int .u16 0, .int .u16 0, .int .u16 0, .int .u16 0, .int .u16 0, .int .u16 0, .int .u16 0, .int .u16 0, .int .u16 0], 65), (g5, #[.slice none 0 0, .int .u16 0, .int .u16 0, .int .u16 0, .int .u16 0, .int .u16 0, .int .u16 0, .int .u16 0, .int .u16 0, .int .u16 0, .int .u16 0, .int .u16 0, .int .u16 0, .int .u16 0, .int .u16 0, .int .u16 0, .int .u16 0], 69), (g6, #[.slice a3 (L.length + 1) c3, .int .u16 0, .int .u16 0, .int .u16 0, .int .u16 0, .int .u16 0, .int .u16 0, .int .u16 0, .int .u16 0, .int .u16 0, .int .u16 0, .int .u16 0, .int .u16 0, .int .u16 0, .int .u16 0, .int .u16 0, .int .u16 0], 65), (g7, #[.slice a7 (L.length + 1) c7, .int .u16 0, .int .u16 0, .int .u16 0, .int .u16 0, .int .u16 0, .int .u16 0, .int .u16 0, .int .u16 0, .int .u16 0, .int .u16 0, .int .u16 0, .int .u16 0, .int .u16 0, .int .u16 0, .int .u16 0, .int .u16 0], 69)] from hq8)
        have HO18 := Lib.hid ho18
        have HR8 := Lib.hid hr8
        clear hw8 hgS hq8 ho18 hr8 d7 f7 HQ7 HO7 HO17 HI7 HB7
        go_wp2_with fail
        go_roundw
        case rel =>
          refine ⟨k + 1, .slice a3 (L.length + 1) c3, .slice a7 (L.length + 1) c7, by omega, by omega, by go_num, by rw [HST.out], HQ8.out, ?_, ?_⟩
          · rw [HST.out]
            show w8.ownsRow _ _ _ _ (L ++ [t]).length (svl (L ++ [t]))
            rw [show (L ++ [t]).length = L.length + 1 by simp, show svl (L ++ [t]) = svl L ++ [.int .u16 ((t : Nat) : Int)] by simp [svl]]
            exact HO18.out
          · rw [HST.out]; exact HR8.out
        case measure => simp [intOf]; omega
    · obtain rfl : k = len := by omega
      have hz : z.take k = z.take 6 := by rw [List.take_of_length_le (by omega), List.take_of_length_le (by omega)]
      go_upto_region 13 with fail
      skip
      have HP1 := Lib.hid (show wr.ownsRow w.heap.size 100 1 v1 (layS (z.take 6)).1.length (svl (layS (z.take 6)).1) by rw [← hz]; exact HO1.out)
      have HP2 := Lib.hid (show RowsO w.heap.size wr v2 (layS (z.take 6)).1 by rw [← hz]; exact HO2.out)
      obtain ⟨L, hL⟩ : ∃ L, L = (layS (z.take 6)).1 := ⟨_, rfl⟩
      rw [← hL] at HP1 HP2
      have HL := Lib.hid hL
      clear hL hz HO1 HO2
      obtain ⟨a1, c1, rfl⟩ := own_form HP1.out
      obtain ⟨vs, hv1, hv2, hv3⟩ := HP2.out.ex
      obtain ⟨a2, c2, rfl⟩ := own_form hv1
      clear hv1 hv2 hv3
      have b3 := HQ.out.of 0 rfl
      have hth := there_map (HQ.out.of 3 rfl)
      have hq2 := HQ.out.mid 3 rfl 1 (#[.int .u16 ((lk 0 : Nat) : Int), .int .u16 ((lk 1 : Nat) : Int), .int .u16 ((lk 2 : Nat) : Int), .int .u16 ((lk 3 : Nat) : Int), .int .u16 ((lk 4 : Nat) : Int), .int .u16 ((lk 5 : Nat) : Int), .int .u16 ((lk 6 : Nat) : Int), .int .u16 ((lk 7 : Nat) : Int), .int .u16 ((lk 8 : Nat) : Int), .int .u16 ((lk 9 : Nat) : Int), .int .u16 ((lk 10 : Nat) : Int), .int .u16 ((lk 11 : Nat) : Int), .int .u16 ((lk 12 : Nat) : Int), .int .u16 ((lk 13 : Nat) : Int), .int .u16 ((lk 14 : Nat) : Int), .int .u16 ((lk 15 : Nat) : Int)] : Array Value).toList
      have ho2 := own_mid (o := 1) (vs := (#[.int .u16 ((lk 0 : Nat) : Int), .int .u16 ((lk 1 : Nat) : Int), .int .u16 ((lk 2 : Nat) : Int), .int .u16 ((lk 3 : Nat) : Int), .int .u16 ((lk 4 : Nat) : Int), .int .u16 ((lk 5 : Nat) : Int), .int .u16 ((lk 6 : Nat) : Int), .int .u16 ((lk 7 : Nat) : Int), .int .u16 ((lk 8 : Nat) : Int), .int .u16 ((lk 9 : Nat) : Int), .int .u16 ((lk 10 : Nat) : Int), .int .u16 ((lk 11 : Nat) : Int), .int .u16 ((lk 12 : Nat) : Int), .int .u16 ((lk 13 : Nat) : Int), .int .u16 ((lk 14 : Nat) : Int), .int .u16 ((lk 15 : Nat) : Int)] : Array Value).toList) HP1.out (HQ.out.of 3 rfl) (by decide)
      have hr2 := HP2.out.mid (o := 1) (vs := (#[.int .u16 ((lk 0 : Nat) : Int), .int .u16 ((lk 1 : Nat) : Int), .int .u16 ((lk 2 : Nat) : Int), .int .u16 ((lk 3 : Nat) : Int), .int .u16 ((lk 4 : Nat) : Int), .int .u16 ((lk 5 : Nat) : Int), .int .u16 ((lk 6 : Nat) : Int), .int .u16 ((lk 7 : Nat) : Int), .int .u16 ((lk 8 : Nat) : Int), .int .u16 ((lk 9 : Nat) : Int), .int .u16 ((lk 10 : Nat) : Int), .int .u16 ((lk 11 : Nat) : Int), .int .u16 ((lk 12 : Nat) : Int), .int .u16 ((lk 13 : Nat) : Int), .int .u16 ((lk 14 : Nat) : Int), .int .u16 ((lk 15 : Nat) : Int)] : Array Value).toList) (HQ.out.of 3 rfl) (by decide) (by decide)
      rw [map_links] at hq2
      go_upto_region 14 with (first | (refine wpList_load_row rfl 62 _ rfl _ rfl _ _ _ _ b3 Try.underlying62 rfl (by exact size_lk) ?_; (try go_simp)) | (refine wpList_store_mid rfl 62 _ _ rfl g6 1 #[.int .u16 ((lk 0 : Nat) : Int), .int .u16 ((lk 1 : Nat) : Int), .int .u16 ((lk 2 : Nat) : Int), .int .u16 ((lk 3 : Nat) : Int), .int .u16 ((lk 4 : Nat) : Int), .int .u16 ((lk 5 : Nat) : Int), .int .u16 ((lk 6 : Nat) : Int), .int .u16 ((lk 7 : Nat) : Int), .int .u16 ((lk 8 : Nat) : Int), .int .u16 ((lk 9 : Nat) : Int), .int .u16 ((lk 10 : Nat) : Int), .int .u16 ((lk 11 : Nat) : Int), .int .u16 ((lk 12 : Nat) : Int), .int .u16 ((lk 13 : Nat) : Int), .int .u16 ((lk 14 : Nat) : Int), .int .u16 ((lk 15 : Nat) : Int)] rfl rfl hth size_lk (by simp [Value.oneCell']) ?_; go_simp))
      obtain ⟨w2, hw2⟩ : ∃ w2, w2 = wr.setCells g6 1 [.int .u16 ((lk 0 : Nat) : Int), .int .u16 ((lk 1 : Nat) : Int), .int .u16 ((lk 2 : Nat) : Int), .int .u16 ((lk 3 : Nat) : Int), .int .u16 ((lk 4 : Nat) : Int), .int .u16 ((lk 5 : Nat) : Int), .int .u16 ((lk 6 : Nat) : Int), .int .u16 ((lk 7 : Nat) : Int), .int .u16 ((lk 8 : Nat) : Int), .int .u16 ((lk 9 : Nat) : Int), .int .u16 ((lk 10 : Nat) : Int), .int .u16 ((lk 11 : Nat) : Int), .int .u16 ((lk 12 : Nat) : Int), .int .u16 ((lk 13 : Nat) : Int), .int .u16 ((lk 14 : Nat) : Int), .int .u16 ((lk 15 : Nat) : Int)] := ⟨_, rfl⟩
      have HQ2 := Lib.hid (show Bq w w2 [(g3, #[.int .u16 ((lk 0 : Nat) : Int), .int .u16 ((lk 1 : Nat) : Int), .int .u16 ((lk 2 : Nat) : Int), .int .u16 ((lk 3 : Nat) : Int), .int .u16 ((lk 4 : Nat) : Int), .int .u16 ((lk 5 : Nat) : Int), .int .u16 ((lk 6 : Nat) : Int), .int .u16 ((lk 7 : Nat) : Int), .int .u16 ((lk 8 : Nat) : Int), .int .u16 ((lk 9 : Nat) : Int), .int .u16 ((lk 10 : Nat) : Int), .int .u16 ((lk 11 : Nat) : Int), .int .u16 ((lk 12 : Nat) : Int), .int .u16 ((lk 13 : Nat) : Int), .int .u16 ((lk 14 : Nat) : Int), .int .u16 ((lk 15 : Nat) : Int)], 62), (g4, #[.slice none 0 0, .int .u16 0, .int .u16 0, .int .u16 0, .int .u16 0, .int .u16 0, .int .u16 0, .int .u16 0, .int .u16 0, .int .u16 0, .int .u16 0, .int .u16 0, .int .u16 0, .int .u16 0, .int .u16 0, .int .u16 0, .int .u16 0], 65), (g5, #[.slice none 0 0, .int .u16 0, .int .u16 0, .int .u16 0, .int .u16 0, .int .u16 0, .int .u16 0, .int .u16 0, .int .u16 0, .int .u16 0, .int .u16 0, .int .u16 0, .int .u16 0, .int .u16 0, .int .u16 0, .int .u16 0, .int .u16 0], 69), (g6, #[.slice a1 L.length c1, .int .u16 ((lk 0 : Nat) : Int), .int .u16 ((lk 1 : Nat) : Int), .int .u16 ((lk 2 : Nat) : Int), .int .u16 ((lk 3 : Nat) : Int), .int .u16 ((lk 4 : Nat) : Int), .int .u16 ((lk 5 : Nat) : Int), .int .u16 ((lk 6 : Nat) : Int), .int .u16 ((lk 7 : Nat) : Int), .int .u16 ((lk 8 : Nat) : Int), .int .u16 ((lk 9 : Nat) : Int), .int .u16 ((lk 10 : Nat) : Int), .int .u16 ((lk 11 : Nat) : Int), .int .u16 ((lk 12 : Nat) : Int), .int .u16 ((lk 13 : Nat) : Int), .int .u16 ((lk 14 : Nat) : Int), .int .u16 ((lk 15 : Nat) : Int)], 65), (g7, #[.slice a2 L.length c2, .int .u16 (((upl lk 0) 0 : Nat) : Int), .int .u16 (((upl lk 0) 1 : Nat) : Int), .int .u16 (((upl lk 0) 2 : Nat) : Int), .int .u16 (((upl lk 0) 3 : Nat) : Int), .int .u16 (((upl lk 0) 4 : Nat) : Int), .int .u16 (((upl lk 0) 5 : Nat) : Int), .int .u16 (((upl lk 0) 6 : Nat) : Int), .int .u16 (((upl lk 0) 7 : Nat) : Int), .int .u16 (((upl lk 0) 8 : Nat) : Int), .int .u16 (((upl lk 0) 9 : Nat) : Int), .int .u16 (((upl lk 0) 10 : Nat) : Int), .int .u16 (((upl lk 0) 11 : Nat) : Int), .int .u16 (((upl lk 0) 12 : Nat) : Int), .int .u16 (((upl lk 0) 13 : Nat) : Int), .int .u16 (((upl lk 0) 14 : Nat) : Int), .int .u16 (((upl lk 0) 15 : Nat) : Int)], 69)] by rw [hw2]; exact hq2)
      have HO2 := Lib.hid (show w2.ownsRow w.heap.size 100 1 (.slice a1 L.length c1) L.length (svl L) by rw [hw2]; exact ho2)
      have HR2 := Lib.hid (show RowsO w.heap.size w2 (.slice a2 L.length c2) L by rw [hw2]; exact hr2)
      rw [← hw2]
      clear hw2 hq2 ho2 hr2 b3 hth HP1 HP2 HQ
      have b3 := HQ2.out.of 0 rfl
      go_upto_region 15 with (refine wpList_load_row rfl 62 _ rfl _ rfl _ _ _ _ b3 Try.underlying62 rfl (by exact size_lk) ?_; (try go_simp))
      clear b3
      go_loopw [47] (fun i wr => ∃ j : Nat, j ≤ 16 ∧ i = .int .i64 (j : Nat) ∧ Bq w wr [(g3, #[.int .u16 ((lk 0 : Nat) : Int), .int .u16 ((lk 1 : Nat) : Int), .int .u16 ((lk 2 : Nat) : Int), .int .u16 ((lk 3 : Nat) : Int), .int .u16 ((lk 4 : Nat) : Int), .int .u16 ((lk 5 : Nat) : Int), .int .u16 ((lk 6 : Nat) : Int), .int .u16 ((lk 7 : Nat) : Int), .int .u16 ((lk 8 : Nat) : Int), .int .u16 ((lk 9 : Nat) : Int), .int .u16 ((lk 10 : Nat) : Int), .int .u16 ((lk 11 : Nat) : Int), .int .u16 ((lk 12 : Nat) : Int), .int .u16 ((lk 13 : Nat) : Int), .int .u16 ((lk 14 : Nat) : Int), .int .u16 ((lk 15 : Nat) : Int)], 62), (g4, #[.slice none 0 0, .int .u16 0, .int .u16 0, .int .u16 0, .int .u16 0, .int .u16 0, .int .u16 0, .int .u16 0, .int .u16 0, .int .u16 0, .int .u16 0, .int .u16 0, .int .u16 0, .int .u16 0, .int .u16 0, .int .u16 0, .int .u16 0], 65), (g5, #[.slice none 0 0, .int .u16 0, .int .u16 0, .int .u16 0, .int .u16 0, .int .u16 0, .int .u16 0, .int .u16 0, .int .u16 0, .int .u16 0, .int .u16 0, .int .u16 0, .int .u16 0, .int .u16 0, .int .u16 0, .int .u16 0, .int .u16 0], 69), (g6, #[.slice a1 L.length c1, .int .u16 ((lk 0 : Nat) : Int), .int .u16 ((lk 1 : Nat) : Int), .int .u16 ((lk 2 : Nat) : Int), .int .u16 ((lk 3 : Nat) : Int), .int .u16 ((lk 4 : Nat) : Int), .int .u16 ((lk 5 : Nat) : Int), .int .u16 ((lk 6 : Nat) : Int), .int .u16 ((lk 7 : Nat) : Int), .int .u16 ((lk 8 : Nat) : Int), .int .u16 ((lk 9 : Nat) : Int), .int .u16 ((lk 10 : Nat) : Int), .int .u16 ((lk 11 : Nat) : Int), .int .u16 ((lk 12 : Nat) : Int), .int .u16 ((lk 13 : Nat) : Int), .int .u16 ((lk 14 : Nat) : Int), .int .u16 ((lk 15 : Nat) : Int)], 65), (g7, #[.slice a2 L.length c2, .int .u16 (((upl lk j) 0 : Nat) : Int), .int .u16 (((upl lk j) 1 : Nat) : Int), .int .u16 (((upl lk j) 2 : Nat) : Int), .int .u16 (((upl lk j) 3 : Nat) : Int), .int .u16 (((upl lk j) 4 : Nat) : Int), .int .u16 (((upl lk j) 5 : Nat) : Int), .int .u16 (((upl lk j) 6 : Nat) : Int), .int .u16 (((upl lk j) 7 : Nat) : Int), .int .u16 (((upl lk j) 8 : Nat) : Int), .int .u16 (((upl lk j) 9 : Nat) : Int), .int .u16 (((upl lk j) 10 : Nat) : Int), .int .u16 (((upl lk j) 11 : Nat) : Int), .int .u16 (((upl lk j) 12 : Nat) : Int), .int .u16 (((upl lk j) 13 : Nat) : Int), .int .u16 (((upl lk j) 14 : Nat) : Int), .int .u16 (((upl lk j) 15 : Nat) : Int)], 69)] ∧ wr.ownsRow w.heap.size 100 1 (.slice a1 L.length c1) L.length (svl L) ∧ RowsO w.heap.size wr (.slice a2 L.length c2) L) (fun i _ => 16 - (intOf i).toNat)
      case atStart => exact ⟨0, Nat.zero_le _, rfl, HQ2.out, HO2.out, HR2.out⟩
      case round =>
        clear HQ2 HO2 HR2
        obtain ⟨j, hj, rfl, hq, ho, hr⟩ := hrel
        have HQ := Lib.hid hq
        have HO := Lib.hid ho
        have HRR := Lib.hid hr
        clear hq ho hr
        by_cases hj16 : j < 16
        · have hix := fun w => lk_index lk hj16 w
          have k7 := cell_of_row _ g7 (1 + j) _ _ _ (HQ.out.of 4 rfl)
          rw [mapv_cell _ (upl lk j) hj16] at k7
          have z7 := frozen_of_row _ g7 (1 + j) _ _ (HQ.out.of 4 rfl)
          have hgS := grown_set wr ⟨g7, 1 + j, none⟩ (.int .u16 ((lk j : Nat) : Int))
          have hq5 := HQ.out.set 4 rfl (1 + j) (.int .u16 ((lk j : Nat) : Int))
          rw [upl_put _ lk hj16] at hq5
          have HQ5 := Lib.hid (show Bq w (wr.setCell ⟨g7, 1 + j, none⟩ (.int .u16 ((lk j : Nat) : Int))) [(g3, #[.int .u16 ((lk 0 : Nat) : Int), .int .u16 ((lk 1 : Nat) : Int), .int .u16 ((lk 2 : Nat) : Int), .int .u16 ((lk 3 : Nat) : Int), .int .u16 ((lk 4 : Nat) : Int), .int .u16 ((lk 5 : Nat) : Int), .int .u16 ((lk 6 : Nat) : Int), .int .u16 ((lk 7 : Nat) : Int), .int .u16 ((lk 8 : Nat) : Int), .int .u16 ((lk 9 : Nat) : Int), .int .u16 ((lk 10 : Nat) : Int), .int .u16 ((lk 11 : Nat) : Int), .int .u16 ((lk 12 : Nat) : Int), .int .u16 ((lk 13 : Nat) : Int), .int .u16 ((lk 14 : Nat) : Int), .int .u16 ((lk 15 : Nat) : Int)], 62), (g4, #[.slice none 0 0, .int .u16 0, .int .u16 0, .int .u16 0, .int .u16 0, .int .u16 0, .int .u16 0, .int .u16 0, .int .u16 0, .int .u16 0, .int .u16 0, .int .u16 0, .int .u16 0, .int .u16 0, .int .u16 0, .int .u16 0, .int .u16 0], 65), (g5, #[.slice none 0 0, .int .u16 0, .int .u16 0, .int .u16 0, .int .u16 0, .int .u16 0, .int .u16 0, .int .u16 0, .int .u16 0, .int .u16 0, .int .u16 0, .int .u16 0, .int .u16 0, .int .u16 0, .int .u16 0, .int .u16 0, .int .u16 0], 69), (g6, #[.slice a1 L.length c1, .int .u16 ((lk 0 : Nat) : Int), .int .u16 ((lk 1 : Nat) : Int), .int .u16 ((lk 2 : Nat) : Int), .int .u16 ((lk 3 : Nat) : Int), .int .u16 ((lk 4 : Nat) : Int), .int .u16 ((lk 5 : Nat) : Int), .int .u16 ((lk 6 : Nat) : Int), .int .u16 ((lk 7 : Nat) : Int), .int .u16 ((lk 8 : Nat) : Int), .int .u16 ((lk 9 : Nat) : Int), .int .u16 ((lk 10 : Nat) : Int), .int .u16 ((lk 11 : Nat) : Int), .int .u16 ((lk 12 : Nat) : Int), .int .u16 ((lk 13 : Nat) : Int), .int .u16 ((lk 14 : Nat) : Int), .int .u16 ((lk 15 : Nat) : Int)], 65), (g7, #[.slice a2 L.length c2, .int .u16 (((upl lk (j + 1)) 0 : Nat) : Int), .int .u16 (((upl lk (j + 1)) 1 : Nat) : Int), .int .u16 (((upl lk (j + 1)) 2 : Nat) : Int), .int .u16 (((upl lk (j + 1)) 3 : Nat) : Int), .int .u16 (((upl lk (j + 1)) 4 : Nat) : Int), .int .u16 (((upl lk (j + 1)) 5 : Nat) : Int), .int .u16 (((upl lk (j + 1)) 6 : Nat) : Int), .int .u16 (((upl lk (j + 1)) 7 : Nat) : Int), .int .u16 (((upl lk (j + 1)) 8 : Nat) : Int), .int .u16 (((upl lk (j + 1)) 9 : Nat) : Int), .int .u16 (((upl lk (j + 1)) 10 : Nat) : Int), .int .u16 (((upl lk (j + 1)) 11 : Nat) : Int), .int .u16 (((upl lk (j + 1)) 12 : Nat) : Int), .int .u16 (((upl lk (j + 1)) 13 : Nat) : Int), .int .u16 (((upl lk (j + 1)) 14 : Nat) : Int), .int .u16 (((upl lk (j + 1)) 15 : Nat) : Int)], 69)] from hq5)
          have HO5 := Lib.hid (HO.out.kept hgS (.inr (Ne.symm (box_apart (HQ.out.of 4 rfl) HO.out (by decide)))))
          have HR5 := Lib.hid (HRR.out.box hgS (HQ.out.of 4 rfl) (by decide) (by decide))
          obtain ⟨y, hy⟩ : ∃ y, y = lk j := ⟨_, rfl⟩
          rw [← hy] at hix HQ5 HO5 HR5
          clear hq5 hgS hy
          go_wp2_with fail
          go_roundw
          case rel => exact ⟨j + 1, by omega, by go_num, HQ5.out, HO5.out, HR5.out⟩
          case measure => simp [intOf]; omega
        · obtain rfl : j = 16 := by omega
          have HQ6 := Lib.hid (show Bq w wr [(g3, #[.int .u16 ((lk 0 : Nat) : Int), .int .u16 ((lk 1 : Nat) : Int), .int .u16 ((lk 2 : Nat) : Int), .int .u16 ((lk 3 : Nat) : Int), .int .u16 ((lk 4 : Nat) : Int), .int .u16 ((lk 5 : Nat) : Int), .int .u16 ((lk 6 : Nat) : Int), .int .u16 ((lk 7 : Nat) : Int), .int .u16 ((lk 8 : Nat) : Int), .int .u16 ((lk 9 : Nat) : Int), .int .u16 ((lk 10 : Nat) : Int), .int .u16 ((lk 11 : Nat) : Int), .int .u16 ((lk 12 : Nat) : Int), .int .u16 ((lk 13 : Nat) : Int), .int .u16 ((lk 14 : Nat) : Int), .int .u16 ((lk 15 : Nat) : Int)], 62), (g4, #[.slice none 0 0, .int .u16 0, .int .u16 0, .int .u16 0, .int .u16 0, .int .u16 0, .int .u16 0, .int .u16 0, .int .u16 0, .int .u16 0, .int .u16 0, .int .u16 0, .int .u16 0, .int .u16 0, .int .u16 0, .int .u16 0, .int .u16 0], 65), (g5, #[.slice none 0 0, .int .u16 0, .int .u16 0, .int .u16 0, .int .u16 0, .int .u16 0, .int .u16 0, .int .u16 0, .int .u16 0, .int .u16 0, .int .u16 0, .int .u16 0, .int .u16 0, .int .u16 0, .int .u16 0, .int .u16 0, .int .u16 0], 69), (g6, #[.slice a1 L.length c1, .int .u16 ((lk 0 : Nat) : Int), .int .u16 ((lk 1 : Nat) : Int), .int .u16 ((lk 2 : Nat) : Int), .int .u16 ((lk 3 : Nat) : Int), .int .u16 ((lk 4 : Nat) : Int), .int .u16 ((lk 5 : Nat) : Int), .int .u16 ((lk 6 : Nat) : Int), .int .u16 ((lk 7 : Nat) : Int), .int .u16 ((lk 8 : Nat) : Int), .int .u16 ((lk 9 : Nat) : Int), .int .u16 ((lk 10 : Nat) : Int), .int .u16 ((lk 11 : Nat) : Int), .int .u16 ((lk 12 : Nat) : Int), .int .u16 ((lk 13 : Nat) : Int), .int .u16 ((lk 14 : Nat) : Int), .int .u16 ((lk 15 : Nat) : Int)], 65), (g7, #[.slice a2 L.length c2, .int .u16 ((lk 0 : Nat) : Int), .int .u16 ((lk 1 : Nat) : Int), .int .u16 ((lk 2 : Nat) : Int), .int .u16 ((lk 3 : Nat) : Int), .int .u16 ((lk 4 : Nat) : Int), .int .u16 ((lk 5 : Nat) : Int), .int .u16 ((lk 6 : Nat) : Int), .int .u16 ((lk 7 : Nat) : Int), .int .u16 ((lk 8 : Nat) : Int), .int .u16 ((lk 9 : Nat) : Int), .int .u16 ((lk 10 : Nat) : Int), .int .u16 ((lk 11 : Nat) : Int), .int .u16 ((lk 12 : Nat) : Int), .int .u16 ((lk 13 : Nat) : Int), .int .u16 ((lk 14 : Nat) : Int), .int .u16 ((lk 15 : Nat) : Int)], 69)] from HQ.out)
          have y6 := box_lt (HQ6.out.of 3 rfl)
          have y7 := box_lt (HQ6.out.of 4 rfl)
          clear HQ hj
          go_upto_region 19 with fail
          have b6 := HQ6.out.of 3 rfl
          have b7 := HQ6.out.of 4 rfl
          obtain ⟨I, W, hne, hWI, hIW⟩ := Go.Mix.family (fun v => v.heap[g6]? = some (.cells #[.slice a1 L.length c1, .int .u16 ((lk 0 : Nat) : Int), .int .u16 ((lk 1 : Nat) : Int), .int .u16 ((lk 2 : Nat) : Int), .int .u16 ((lk 3 : Nat) : Int), .int .u16 ((lk 4 : Nat) : Int), .int .u16 ((lk 5 : Nat) : Int), .int .u16 ((lk 6 : Nat) : Int), .int .u16 ((lk 7 : Nat) : Int), .int .u16 ((lk 8 : Nat) : Int), .int .u16 ((lk 9 : Nat) : Int), .int .u16 ((lk 10 : Nat) : Int), .int .u16 ((lk 11 : Nat) : Int), .int .u16 ((lk 12 : Nat) : Int), .int .u16 ((lk 13 : Nat) : Int), .int .u16 ((lk 14 : Nat) : Int), .int .u16 ((lk 15 : Nat) : Int)] 65 (0, 0)) ∧ v.heap[g7]? = some (.cells #[.slice a2 L.length c2, .int .u16 ((lk 0 : Nat) : Int), .int .u16 ((lk 1 : Nat) : Int), .int .u16 ((lk 2 : Nat) : Int), .int .u16 ((lk 3 : Nat) : Int), .int .u16 ((lk 4 : Nat) : Int), .int .u16 ((lk 5 : Nat) : Int), .int .u16 ((lk 6 : Nat) : Int), .int .u16 ((lk 7 : Nat) : Int), .int .u16 ((lk 8 : Nat) : Int), .int .u16 ((lk 9 : Nat) : Int), .int .u16 ((lk 10 : Nat) : Int), .int .u16 ((lk 11 : Nat) : Int), .int .u16 ((lk 12 : Nat) : Int), .int .u16 ((lk 13 : Nat) : Int), .int .u16 ((lk 14 : Nat) : Int), .int .u16 ((lk 15 : Nat) : Int)] 69 (0, 0))) ⟨b6, b7⟩
          have HJ := Lib.hid hIW
          have HW := Lib.hid hWI
          clear hWI hIW
          have hdr : Below wr.heap.size wr wr.drew := ⟨rfl, rfl, rfl, Nat.le_refl _, fun _ _ => rfl⟩
          have HQ8 := Lib.hid (HQ6.out.step hdr)
          have HO8 := Lib.hid (own_keepZ HO.out hdr)
          have HR8 := Lib.hid (HRR.out.kept hdr)
          clear HQ6 HO HRR hdr
          have b4 := HQ8.out.of 1 rfl
          have HQ9 := Lib.hid (HQ8.out.put 1 rfl #[.slice a1 L.length c1, .int .u16 ((lk 0 : Nat) : Int), .int .u16 ((lk 1 : Nat) : Int), .int .u16 ((lk 2 : Nat) : Int), .int .u16 ((lk 3 : Nat) : Int), .int .u16 ((lk 4 : Nat) : Int), .int .u16 ((lk 5 : Nat) : Int), .int .u16 ((lk 6 : Nat) : Int), .int .u16 ((lk 7 : Nat) : Int), .int .u16 ((lk 8 : Nat) : Int), .int .u16 ((lk 9 : Nat) : Int), .int .u16 ((lk 10 : Nat) : Int), .int .u16 ((lk 11 : Nat) : Int), .int .u16 ((lk 12 : Nat) : Int), .int .u16 ((lk 13 : Nat) : Int), .int .u16 ((lk 14 : Nat) : Int), .int .u16 ((lk 15 : Nat) : Int)])
          have b5 := HQ9.out.of 2 rfl
          have HQX := Lib.hid (HQ9.out.put 2 rfl #[.slice a2 L.length c2, .int .u16 ((lk 0 : Nat) : Int), .int .u16 ((lk 1 : Nat) : Int), .int .u16 ((lk 2 : Nat) : Int), .int .u16 ((lk 3 : Nat) : Int), .int .u16 ((lk 4 : Nat) : Int), .int .u16 ((lk 5 : Nat) : Int), .int .u16 ((lk 6 : Nat) : Int), .int .u16 ((lk 7 : Nat) : Int), .int .u16 ((lk 8 : Nat) : Int), .int .u16 ((lk 9 : Nat) : Int), .int .u16 ((lk 10 : Nat) : Int), .int .u16 ((lk 11 : Nat) : Int), .int .u16 ((lk 12 : Nat) : Int), .int .u16 ((lk 13 : Nat) : Int), .int .u16 ((lk 14 : Nat) : Int), .int .u16 ((lk 15 : Nat) : Int)])
          have d6 := HQ9.out.of 3 rfl
          have d7 := HQ9.out.of 4 rfl
          have e6 := HQX.out.of 3 rfl
          have e7 := HQX.out.of 4 rfl
          refine Go.Mix.wp_region (fun w' => ∃ i, w' = W i) (by kernel_rfl) (by kernel_rfl) (HJ.out _ ⟨b6, b7⟩) ?_
          simp only []
          (refine Go.Mix.walk_calm rfl ?_ (fun K hK => ?_); (first | exact Go.Mix.wanted_none rfl | exact Go.Mix.wanted_tt rfl rfl rfl | exact Go.Mix.wanted_ff rfl rfl rfl); refine Go.Flo.quiet_load_row 65 _ rfl _ rfl _ #[.slice a1 L.length c1, .int .u16 ((lk 0 : Nat) : Int), .int .u16 ((lk 1 : Nat) : Int), .int .u16 ((lk 2 : Nat) : Int), .int .u16 ((lk 3 : Nat) : Int), .int .u16 ((lk 4 : Nat) : Int), .int .u16 ((lk 5 : Nat) : Int), .int .u16 ((lk 6 : Nat) : Int), .int .u16 ((lk 7 : Nat) : Int), .int .u16 ((lk 8 : Nat) : Int), .int .u16 ((lk 9 : Nat) : Int), .int .u16 ((lk 10 : Nat) : Int), .int .u16 ((lk 11 : Nat) : Int), .int .u16 ((lk 12 : Nat) : Int), .int .u16 ((lk 13 : Nat) : Int), .int .u16 ((lk 14 : Nat) : Int), .int .u16 ((lk 15 : Nat) : Int)] _ (by rintro _ ⟨i, rfl⟩; exact (HW.out i).1) Try.underlying65 rfl size_mp ?_; go_simp; refine hK _ ?_; clear hK K)
          (refine Go.Mix.walk_calm rfl ?_ (fun K hK => ?_); (first | exact Go.Mix.wanted_none rfl | exact Go.Mix.wanted_tt rfl rfl rfl | exact Go.Mix.wanted_ff rfl rfl rfl); refine Go.Flo.quiet_load_row 69 _ rfl _ rfl _ #[.slice a2 L.length c2, .int .u16 ((lk 0 : Nat) : Int), .int .u16 ((lk 1 : Nat) : Int), .int .u16 ((lk 2 : Nat) : Int), .int .u16 ((lk 3 : Nat) : Int), .int .u16 ((lk 4 : Nat) : Int), .int .u16 ((lk 5 : Nat) : Int), .int .u16 ((lk 6 : Nat) : Int), .int .u16 ((lk 7 : Nat) : Int), .int .u16 ((lk 8 : Nat) : Int), .int .u16 ((lk 9 : Nat) : Int), .int .u16 ((lk 10 : Nat) : Int), .int .u16 ((lk 11 : Nat) : Int), .int .u16 ((lk 12 : Nat) : Int), .int .u16 ((lk 13 : Nat) : Int), .int .u16 ((lk 14 : Nat) : Int), .int .u16 ((lk 15 : Nat) : Int)] _ (by rintro _ ⟨i, rfl⟩; exact (HW.out i).2) Try.underlying69 rfl size_rm ?_; go_simp; refine hK _ ?_; clear hK K)
          (refine Go.Mix.walk_loud rfl ?_ (fun K hK => ?_); (first | exact Go.Mix.wanted_none rfl | exact Go.Mix.wanted_tt rfl rfl rfl | exact Go.Mix.wanted_ff rfl rfl rfl); refine wp_store_row 65 _ _ rfl _ #[.slice a1 L.length c1, .int .u16 ((lk 0 : Nat) : Int), .int .u16 ((lk 1 : Nat) : Int), .int .u16 ((lk 2 : Nat) : Int), .int .u16 ((lk 3 : Nat) : Int), .int .u16 ((lk 4 : Nat) : Int), .int .u16 ((lk 5 : Nat) : Int), .int .u16 ((lk 6 : Nat) : Int), .int .u16 ((lk 7 : Nat) : Int), .int .u16 ((lk 8 : Nat) : Int), .int .u16 ((lk 9 : Nat) : Int), .int .u16 ((lk 10 : Nat) : Int), .int .u16 ((lk 11 : Nat) : Int), .int .u16 ((lk 12 : Nat) : Int), .int .u16 ((lk 13 : Nat) : Int), .int .u16 ((lk 14 : Nat) : Int), .int .u16 ((lk 15 : Nat) : Int)] rfl rfl 65 _ b4 size_mp rfl (by simp [Value.oneCell']) (hK _ _ (HJ.out _ ⟨d6, d7⟩) ?_); clear hK K)
          (refine Go.Mix.walk_loud rfl ?_ (fun K hK => ?_); (first | exact Go.Mix.wanted_none rfl | exact Go.Mix.wanted_tt rfl rfl rfl | exact Go.Mix.wanted_ff rfl rfl rfl); refine wp_store_row 69 _ _ rfl _ #[.slice a2 L.length c2, .int .u16 ((lk 0 : Nat) : Int), .int .u16 ((lk 1 : Nat) : Int), .int .u16 ((lk 2 : Nat) : Int), .int .u16 ((lk 3 : Nat) : Int), .int .u16 ((lk 4 : Nat) : Int), .int .u16 ((lk 5 : Nat) : Int), .int .u16 ((lk 6 : Nat) : Int), .int .u16 ((lk 7 : Nat) : Int), .int .u16 ((lk 8 : Nat) : Int), .int .u16 ((lk 9 : Nat) : Int), .int .u16 ((lk 10 : Nat) : Int), .int .u16 ((lk 11 : Nat) : Int), .int .u16 ((lk 12 : Nat) : Int), .int .u16 ((lk 13 : Nat) : Int), .int .u16 ((lk 14 : Nat) : Int), .int .u16 ((lk 15 : Nat) : Int)] rfl rfl 69 _ b5 size_rm rfl (by simp [Value.oneCell']) (hK _ _ (HJ.out _ ⟨e6, e7⟩) ?_); clear hK K)
          refine Go.Mix.walk_nil ?_
          simp only [Act.put]
          clear HJ HW hne b6 b7 d6 d7 e6 e7
          clear W I
          obtain ⟨w8, hw8⟩ : ∃ w8, w8 = wr.drew := ⟨_, rfl⟩
          have hw8' : ({ wr with drawn := wr.drawn + 1 } : World) = w8 := hw8.symm
          rw [← hw8] at HQ8 HO8 HR8 HQ9 HQX
          (try rw [hw8'])
          (try rw [← hw8])
          have hg1 := grown_rowS w8 g4 #[.slice a1 L.length c1, .int .u16 ((lk 0 : Nat) : Int), .int .u16 ((lk 1 : Nat) : Int), .int .u16 ((lk 2 : Nat) : Int), .int .u16 ((lk 3 : Nat) : Int), .int .u16 ((lk 4 : Nat) : Int), .int .u16 ((lk 5 : Nat) : Int), .int .u16 ((lk 6 : Nat) : Int), .int .u16 ((lk 7 : Nat) : Int), .int .u16 ((lk 8 : Nat) : Int), .int .u16 ((lk 9 : Nat) : Int), .int .u16 ((lk 10 : Nat) : Int), .int .u16 ((lk 11 : Nat) : Int), .int .u16 ((lk 12 : Nat) : Int), .int .u16 ((lk 13 : Nat) : Int), .int .u16 ((lk 14 : Nat) : Int), .int .u16 ((lk 15 : Nat) : Int)]
          have ho9 := HO8.out.kept hg1 (.inr (Ne.symm (box_apart (HQ8.out.of 1 rfl) HO8.out (by decide))))
          have hr9 := HR8.out.box hg1 (HQ8.out.of 1 rfl) (by decide) (by decide)
          have hg2 := grown_rowS (w8.setRow g4 #[.slice a1 L.length c1, .int .u16 ((lk 0 : Nat) : Int), .int .u16 ((lk 1 : Nat) : Int), .int .u16 ((lk 2 : Nat) : Int), .int .u16 ((lk 3 : Nat) : Int), .int .u16 ((lk 4 : Nat) : Int), .int .u16 ((lk 5 : Nat) : Int), .int .u16 ((lk 6 : Nat) : Int), .int .u16 ((lk 7 : Nat) : Int), .int .u16 ((lk 8 : Nat) : Int), .int .u16 ((lk 9 : Nat) : Int), .int .u16 ((lk 10 : Nat) : Int), .int .u16 ((lk 11 : Nat) : Int), .int .u16 ((lk 12 : Nat) : Int), .int .u16 ((lk 13 : Nat) : Int), .int .u16 ((lk 14 : Nat) : Int), .int .u16 ((lk 15 : Nat) : Int)]) g5 #[.slice a2 L.length c2, .int .u16 ((lk 0 : Nat) : Int), .int .u16 ((lk 1 : Nat) : Int), .int .u16 ((lk 2 : Nat) : Int), .int .u16 ((lk 3 : Nat) : Int), .int .u16 ((lk 4 : Nat) : Int), .int .u16 ((lk 5 : Nat) : Int), .int .u16 ((lk 6 : Nat) : Int), .int .u16 ((lk 7 : Nat) : Int), .int .u16 ((lk 8 : Nat) : Int), .int .u16 ((lk 9 : Nat) : Int), .int .u16 ((lk 10 : Nat) : Int), .int .u16 ((lk 11 : Nat) : Int), .int .u16 ((lk 12 : Nat) : Int), .int .u16 ((lk 13 : Nat) : Int), .int .u16 ((lk 14 : Nat) : Int), .int .u16 ((lk 15 : Nat) : Int)]
          have HOX := Lib.hid (ho9.kept hg2 (.inr (Ne.symm (box_apart (HQ9.out.of 2 rfl) ho9 (by decide)))))
          have HRX := Lib.hid (hr9.box hg2 (HQ9.out.of 2 rfl) (by decide) (by decide))
          clear hg1 ho9 hr9 hg2
          go_wp2_with fail
          refine bodyPost_ret (res_ccS rfl _ _ _ _ _ _ _ _ _ _ rfl rfl (HQX.out.of 1 rfl) (HQX.out.of 2 rfl) Try.underlying65 rfl size_mp Try.underlying69 rfl size_rm) rfl ?_
          rw [← HL.out]
          exact ⟨a1, c1, a2, c2, rfl, HOX.out, HRX.out, HQX.out.be⟩
end Go.Proofs.Ytioclbkgfbjpdaa
