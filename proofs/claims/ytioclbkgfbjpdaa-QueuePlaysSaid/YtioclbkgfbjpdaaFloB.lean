/- Specs for results that are bytes in memory. -/
import Derived.Test.YtioclbkgfbjpdaaByt
import Derived.Test.YtioclbkgfbjpdaaFlo
import Derived.Deep.Onto
namespace Go.Proofs.Ytioclbkgfbjpdaa
open Go.RowKit Go.Own
set_option linter.unusedVariables false
set_option linter.unusedSimpArgs false

theorem heap_below {w w' : World} {g : Nat} {o : Obj} (hb : Below w.heap.size w w') (h : w.heap[g]? = some o) : w'.heap[g]? = some o := by
  have hg : g < w.heap.size := by
    rcases Nat.lt_or_ge g w.heap.size with h' | h'
    · exact h'
    · rw [Array.getElem?_eq_none h'] at h; cases h
  exact (hb.block g hg).trans h
theorem rd_grow {w w' : World} {a : Option Addr} {len cap : Nat} {f : Nat → Value} (h : Rd w.heap.size w a len cap f) (hb : Below w.heap.size w w') : Rd w'.heap.size w' a len cap f := (h.below hb).mono hb.size
theorem own_some {w : World} {base : Nat} {e : TypeId} {v : Value} {m : Nat} {xs : List Value} (h : w.ownsRow base e 1 v m xs) (hm : 0 < m) : ∃ g cap, v = .slice (some ⟨g, 0, none⟩) m cap ∧ base ≤ g ∧ g < w.heap.size := by
  rcases h.2 with ⟨_, hx⟩ | ⟨g, cap, cur, hv, hb, hg, _⟩
  · omega
  · refine ⟨g, cap, hv, hb, ?_⟩
    rcases Nat.lt_or_ge g w.heap.size with h' | h'
    · exact h'
    · rw [Array.getElem?_eq_none h'] at hg; cases hg
theorem own_keep {w w' : World} {base : Nat} {e : TypeId} {size : Nat} {v : Value} {n : Nat} {xs : List Value} (h : w.ownsRow base e size v n xs) (hb : Below w.heap.size w w') : w'.ownsRow base e size v n xs := by
  obtain ⟨h1, h2 | ⟨g, cap, cur, hv, hg, hr, ho⟩⟩ := h
  · exact ⟨h1, .inl h2⟩
  · exact ⟨h1, .inr ⟨g, cap, cur, hv, hg, heap_below hb hr, ho⟩⟩
/-- A slice that reads as these bytes. -/
def SpB (l : List Nat) : Go.Flo.Spec :=
  ⟨fun v w => ∃ a c, v = .slice a l.length c ∧ Rd w.heap.size w a l.length c (bv l), fun v w w' hb ⟨a, c, hv, h⟩ => ⟨a, c, hv, rd_grow h hb⟩⟩
/-- A new block of one slice that reads as these bytes. -/
def SpRow1 (n0 : Nat) (l : List Nat) (t : TypeId) : Go.Flo.Spec :=
  ⟨fun v w => ∃ g a c, n0 ≤ g ∧ v = .slice (some ⟨g, 0, none⟩) 1 1 ∧ w.heap[g]? = some (.cells #[.slice a l.length c] t (0, 0)) ∧ Rd w.heap.size w a l.length c (bv l),
   fun v w w' hb ⟨g, a, c, h0, hv, h, hr⟩ => ⟨g, a, c, h0, hv, heap_below hb h, rd_grow hr hb⟩⟩
theorem owes_B {o : Oper} {l : List Nat} {m : Nat} {w w' : World} {v : Value} {base : Nat} (hl : l.length = m) (hm : Go.Flo.makes o = false) (hb : Below w.heap.size w w') (h : w'.ownsRow base 5 1 v m (bl l)) : Go.Flo.owes o (SpB l) w v w' := by
  subst hl
  obtain ⟨a, c, rfl⟩ := own_form h
  exact ⟨⟨a, c, rfl, rd_of_own h fun i hi => bl_at l hi⟩, hb, fun g hg => by simp [Go.Flo.ownOf, hm] at hg⟩
theorem ex_B {C : World → Prop} {o : Oper} {l : List Nat} {v : Value} {F : Go.Flo.Facts} {G : Go.Flo.Used} (h : Go.Flo.Ex C o (SpB l) F G v) : ∃ a c, v = .slice a l.length c := by
  obtain ⟨w, _, _, ⟨a, c, h1, _⟩, _⟩ := h
  exact ⟨a, c, h1⟩
theorem says_B {l : List Nat} {a : Option Addr} {m c : Nat} {w : World} (h : (SpB l).says (.slice a m c) w) : Rd w.heap.size w a m c (bv l) := by
  obtain ⟨a', c', h1, h2⟩ := h
  injection h1 with h1 h3 h4
  rw [h1, h3, h4]; exact h2
theorem owes_row1 {o : Oper} {l : List Nat} {w : World} {n0 m c : Nat} {a : Option Addr} {t : TypeId} (h0 : n0 ≤ w.heap.size) (hl : l.length = m) (hr : Rd w.heap.size w a m c (bv l)) : Go.Flo.owes o (SpRow1 n0 l t) w (.slice (some ⟨w.heap.size, 0, none⟩) 1 1) (w.alloc (.cells #[.slice a m c] t)) := by
  subst hl
  have hb := (Below.refl w.heap.size w).alloc (Nat.le_refl _) (.cells #[.slice a l.length c] t)
  refine ⟨⟨w.heap.size, a, c, h0, rfl, heap_alloc_new w _, rd_grow hr hb⟩, hb, fun g hg => ?_⟩
  unfold Go.Flo.ownOf at hg
  split at hg
  · simp [Go.Flo.blockOf] at hg; subst hg; simp
  · cases hg
theorem ex_row1 {C : World → Prop} {o : Oper} {n0 : Nat} {l : List Nat} {t : TypeId} {v : Value} {F : Go.Flo.Facts} {G : Go.Flo.Used} (h : Go.Flo.Ex C o (SpRow1 n0 l t) F G v) : ∃ g, v = .slice (some ⟨g, 0, none⟩) 1 1 := by
  obtain ⟨w, _, _, ⟨g, a, c, _, h1, _⟩, _⟩ := h
  exact ⟨g, h1⟩
theorem says_row1 {n0 g : Nat} {l : List Nat} {t : TypeId} {w : World} (h : (SpRow1 n0 l t).says (.slice (some ⟨g, 0, none⟩) 1 1) w) : ∃ a c, w.heap[g]? = some (.cells #[.slice a l.length c] t (0, 0)) ∧ Rd w.heap.size w a l.length c (bv l) := by
  obtain ⟨g', a, c, _, h1, h2, h3⟩ := h
  injection h1 with h1
  injection h1 with h1
  injection h1 with h1
  exact ⟨a, c, by rw [h1]; exact h2, h3⟩
/-- The call's own row of these bytes. -/
def SpO (n0 : Nat) (l : List Nat) : Go.Flo.Spec :=
  ⟨fun v w => w.ownsRow n0 5 1 v l.length (bl l), fun v w w' hb h => own_keep h hb⟩
theorem owes_O {o : Oper} {n0 : Nat} {l : List Nat} {m : Nat} {w w' : World} {v : Value} {base : Nat} (hl : l.length = m) (hm : Go.Flo.makes o = false) (hb : Below w.heap.size w w') (h : w'.ownsRow base 5 1 v m (bl l)) (h0 : n0 ≤ base) : Go.Flo.owes o (SpO n0 l) w v w' := by
  subst hl
  exact ⟨World.ownsRow.mono h h0, hb, fun g hg => by simp [Go.Flo.ownOf, hm] at hg⟩
theorem ex_O {C : World → Prop} {o : Oper} {n0 : Nat} {l : List Nat} {v : Value} {F : Go.Flo.Facts} {G : Go.Flo.Used} (h : Go.Flo.Ex C o (SpO n0 l) F G v) : ∃ a c, v = .slice a l.length c := by
  obtain ⟨w, _, _, h1, _⟩ := h
  exact own_form h1
end Go.Proofs.Ytioclbkgfbjpdaa
