/- Layer 20: what one chain has, and the other one hasn't; the law's lists. -/
import Derived.Test.YtioclbkgfbjpdaaTn
import Derived.Test.YtioclbkgfbjpdaaFlo3
namespace Go.Proofs.Ytioclbkgfbjpdaa
open Go.RowKit Go.Own Bs
set_option linter.unusedVariables false
set_option linter.unusedSimpArgs false
theorem own_keepZ {w w' : World} {base : Nat} {e : TypeId} {size : Nat} {v : Value} {n : Nat} {xs : List Value} (h : w.ownsRow base e size v n xs) (hb : Below w.heap.size w w') : w'.ownsRow base e size v n xs := by
  obtain ⟨h1, h2 | ⟨g, cap, cur, hv, hg, hr, ho⟩⟩ := h
  · exact ⟨h1, .inl h2⟩
  · exact ⟨h1, .inr ⟨g, cap, cur, hv, hg, box_below hr hb (box_lt hr), ho⟩⟩
/-- The call's own row of these units. -/
def SpZ (n0 : Nat) (l : List Nat) : Go.Flo.Spec :=
  ⟨fun v w => w.ownsRow n0 3 1 v l.length (zl l), fun v w w' hb h => own_keepZ h hb⟩
theorem owes_Z {o : Oper} {n0 : Nat} {l : List Nat} {w w' : World} {v : Value} {base : Nat} (hm : Go.Flo.makes o = false) (hb : Below w.heap.size w w') (h : w'.ownsRow base 3 1 v l.length (zl l)) (h0 : n0 ≤ base) : Go.Flo.owes o (SpZ n0 l) w v w' :=
  ⟨own_baseZ h h0, hb, fun g hg => by simp [Go.Flo.ownOf, hm] at hg⟩
theorem ex_Z {C : World → Prop} {o : Oper} {n0 : Nat} {l : List Nat} {v : Value} {F : Go.Flo.Facts} {G : Go.Flo.Used} (h : Go.Flo.Ex C o (SpZ n0 l) F G v) : ∃ a c, v = .slice a l.length c := by
  obtain ⟨w, _, _, h1, _⟩ := h
  exact own_form h1
theorem al2T (w : World) (A B : Obj) : ((w.alloc A).alloc B).heap[w.heap.size]? = some A ∧ ((w.alloc A).alloc B).heap[w.heap.size + 1]? = some B := ⟨heap_alloc2_old w A B, heap_alloc2_new w A B⟩
/-- The units of one set that another one hasn't. -/
def lessS (a b : Nat) : Nat := a &&& (65535 - b)
theorem lessS_lt {a b : Nat} (h : a < 65536) : lessS a b < 65536 := Nat.lt_of_le_of_lt Nat.and_le_left h
/-- A chain's numbers. -/
def ChOk (c : Nat → Int) : Prop := ∀ k, k < 6 → -128 ≤ c k ∧ c k < 128
def onlyS (c d : Nat → Int) : Nat := lessS (unitsS c 6) (unitsS d 6)
end Go.Proofs.Ytioclbkgfbjpdaa
