/- Space packets: the document's own. -/
import Derived.Test.YtmihhapedpalmaaPk5
import Derived.Test.YtmihhapedpalmaaLaw06
namespace Go.Proofs.Ytmihhapedpalmaa
open Go.RowKit Go.Own
set_option linter.unusedVariables false
set_option linter.unusedSimpArgs false

theorem head_num (k a c n : Nat) (hk : k ≤ 1) (ha : a < 2048) (hc : c < 16384) (hn : n ≤ 1000) : numB (k * 4096 + 2048 + a) 2 ++ numB (49152 + c) 2 ++ numB (n + 1) 2 = pkHead k a c n := by
  simp only [numB, pkHead, Nat.pow_one, Nat.pow_zero, Nat.div_one, List.cons_append, List.nil_append, List.cons.injEq, and_true]
  omega
/-- A new block of four slices that read as these bytes. -/
def SpRow4 (n0 : Nat) (l1 l2 l3 l4 : List Nat) (t : TypeId) : Go.Flo.Spec :=
  ⟨fun v w => ∃ g a1 c1 a2 c2 a3 c3 a4 c4, n0 ≤ g ∧ v = .slice (some ⟨g, 0, none⟩) 4 4 ∧ w.heap[g]? = some (.cells #[.slice a1 l1.length c1, .slice a2 l2.length c2, .slice a3 l3.length c3, .slice a4 l4.length c4] t (0, 0)) ∧ Rd w.heap.size w a1 l1.length c1 (bv l1) ∧ Rd w.heap.size w a2 l2.length c2 (bv l2) ∧ Rd w.heap.size w a3 l3.length c3 (bv l3) ∧ Rd w.heap.size w a4 l4.length c4 (bv l4),
   fun v w w' hb ⟨g, a1, c1, a2, c2, a3, c3, a4, c4, h0, hv, h, r1, r2, r3, r4⟩ => ⟨g, a1, c1, a2, c2, a3, c3, a4, c4, h0, hv, heap_below hb h, rd_grow r1 hb, rd_grow r2 hb, rd_grow r3 hb, rd_grow r4 hb⟩⟩
theorem owes_row4 {o : Oper} {l1 l2 l3 l4 : List Nat} {w : World} {n0 m1 m2 m3 m4 c1 c2 c3 c4 : Nat} {a1 a2 a3 a4 : Option Addr} {t : TypeId} (h0 : n0 ≤ w.heap.size) (e1 : l1.length = m1) (e2 : l2.length = m2) (e3 : l3.length = m3) (e4 : l4.length = m4)
    (r1 : Rd w.heap.size w a1 m1 c1 (bv l1)) (r2 : Rd w.heap.size w a2 m2 c2 (bv l2)) (r3 : Rd w.heap.size w a3 m3 c3 (bv l3)) (r4 : Rd w.heap.size w a4 m4 c4 (bv l4)) :
    Go.Flo.owes o (SpRow4 n0 l1 l2 l3 l4 t) w (.slice (some ⟨w.heap.size, 0, none⟩) 4 4) (w.alloc (.cells #[.slice a1 m1 c1, .slice a2 m2 c2, .slice a3 m3 c3, .slice a4 m4 c4] t)) := by
  subst e1 e2 e3 e4
  have hb := (Below.refl w.heap.size w).alloc (Nat.le_refl _) (.cells #[.slice a1 l1.length c1, .slice a2 l2.length c2, .slice a3 l3.length c3, .slice a4 l4.length c4] t)
  refine ⟨⟨w.heap.size, a1, c1, a2, c2, a3, c3, a4, c4, h0, rfl, heap_alloc_new w _, rd_grow r1 hb, rd_grow r2 hb, rd_grow r3 hb, rd_grow r4 hb⟩, hb, fun g hg => ?_⟩
  unfold Go.Flo.ownOf at hg
  split at hg
  · simp [Go.Flo.blockOf] at hg; subst hg; simp
  · cases hg
theorem ex_row4 {C : World → Prop} {o : Oper} {n0 : Nat} {l1 l2 l3 l4 : List Nat} {t : TypeId} {v : Value} {F : Go.Flo.Facts} {G : Go.Flo.Used} (h : Go.Flo.Ex C o (SpRow4 n0 l1 l2 l3 l4 t) F G v) : ∃ g, v = .slice (some ⟨g, 0, none⟩) 4 4 := by
  obtain ⟨w, _, _, ⟨g, a1, c1, a2, c2, a3, c3, a4, c4, _, h1, _⟩, _⟩ := h
  exact ⟨g, h1⟩
theorem flat_four (l m k o : List Nat) : flat (sel4 l m k o) 4 = l ++ m ++ k ++ o := by simp [flat, List.range_succ, sel4]
theorem Join4 {g : Nat} {l1 l2 l3 l4 : List Nat} {n0 : Nat} {t : TypeId} {w : World} (h : (SpRow4 n0 l1 l2 l3 l4 t).says (.slice (some ⟨g, 0, none⟩) 4 4) w) (hs : (l1 ++ l2 ++ l3 ++ l4).length ≤ 140737488355328) :
    Calls Try.prog 29 #[.slice (some ⟨g, 0, none⟩) 4 4] w fun e w' => ∃ v, e = .returned v ∧ w'.ownsRow w.heap.size 5 1 v (l1 ++ l2 ++ l3 ++ l4).length (bl (l1 ++ l2 ++ l3 ++ l4)) ∧ Below w.heap.size w w' := by
  obtain ⟨g', a1, c1, a2, c2, a3, c3, a4, c4, _, hv, hg, r1, r2, r3, r4⟩ := h
  simp at hv
  subst hv
  have hr := (rd_four hg (lt_of_heap hg)).same (g := fun i => .slice (sel4 a1 a2 a3 a4 i) (sel4 l1 l2 l3 l4 i).length (sel4 c1 c2 c3 c4 i)) (fun i hi => by
    have : i = 0 ∨ i = 1 ∨ i = 2 ∨ i = 3 := by omega
    rcases this with rfl | rfl | rfl | rfl <;> rfl)
  have := Join_any (some ⟨g, 0, none⟩) 4 4 w.heap.size (sel4 a1 a2 a3 a4) (sel4 c1 c2 c3 c4) (sel4 l1 l2 l3 l4) w (Nat.le_refl _) hr
    (fun i hi => by
      have : i = 0 ∨ i = 1 ∨ i = 2 ∨ i = 3 := by omega
      rcases this with rfl | rfl | rfl | rfl
      · exact r1
      · exact r2
      · exact r3
      · exact r4) (by rw [flat_four]; exact hs)
  rw [flat_four] at this
  exact this
theorem Num_z (z : Int) (n k : Nat) (w : World) (hz : z = (n : Int)) (hn : n < 18446744073709551616) (hk : k ≤ 8) :
    Calls Try.prog 37 #[.int .u64 z, .int .i64 k] w fun e w' => ∃ a c, e = .returned (.slice a k c) ∧ w'.ownsRow w.heap.size 5 1 (.slice a k c) k (bl (numB n k)) ∧ Below w.heap.size w w' := by
  subst hz
  exact Num_any n k w hn hk
end Go.Proofs.Ytmihhapedpalmaa
