/- Layer 3: the example; rings looked at. -/
import Derived.Test.YtnjkpamjjdkmoaaRingN
namespace Go.Proofs.Ytnjkpamjjdkmoaa
open Go.RowKit Go.Own
set_option linter.unusedVariables false
set_option linter.unusedSimpArgs false

theorem rd_ints {w : World} {g : Nat} {l : List Int} {t : TypeId} {fr : Nat × Nat} (h : w.heap[g]? = some (.cells (il l).toArray t fr)) (hm : l.length ≤ maxLen) : Rd w.heap.size w (some ⟨g, 0, none⟩) l.length l.length (iv l) :=
  ⟨Nat.le_refl _, hm, fun h => (by cases h), fun _ => ⟨g, 0, rfl, (Array.getElem?_eq_some_iff.1 h).1, fun i hi => by
    rw [Nat.zero_add, cell_of_row w g i _ _ _ h, List.getElem?_toArray, il_at l hi]; rfl⟩⟩
set_option maxRecDepth 100000 in
set_option maxHeartbeats 2000000 in
theorem awake03 (w : World) : Calls Try.prog 22 #[] w fun e w' => e = .returned (.bool true) ∧ Below w.heap.size w w' := by
  go_enter Try.func22, Try.ntmps22
  go_wp2_with fail
  go_at_call 23
  refine (iNew_ok 2 w (by decide) (by decide)).mono ?_
  rintro e w1 ⟨g, b, rfl, hR, hg, hb, hB⟩
  have H1 := Lib.hid hR
  have HB1 := Lib.hid hB
  have hgw := hR.le.2.2.2.2.2.1
  have hbw := hR.le.2.2.2.2.2.2.1
  clear hR hB
  go_wp2_with fail
  go_at_call 90
  have hal : Below w1.heap.size w1 (w1.alloc (.cells #[.int .i64 1, .int .i64 2, .int .i64 3] 3)) := (Below.refl _ _).alloc (Nat.le_refl _) _
  refine (rPush (some ⟨w1.heap.size, 0, none⟩) 3 3 [1, 2, 3] (H1.out.below hal (Nat.le_refl _)) rfl (rd_ints (l := [1, 2, 3]) (heap_alloc_new _ _) (by decide)) (fun x hx => by cases hx; exact ⟨by show w1.heap.size ≠ g; omega, by show w1.heap.size ≠ b; omega⟩) (by omega)).mono ?_
  rintro e w2 ⟨rfl, h2, k2⟩
  have e2 : lastn 2 ([] ++ [1, 2, 3]) = [2, 3] := rfl
  rw [e2] at h2
  have H2 := Lib.hid h2
  have HB2 := Lib.hid (HB1.out.trans ((hal.mono HB1.out.size).trans (k2.below hg hb (by have := HB1.out.size; simp; omega))))
  clear h2 k2 hal e2
  go_wp2_with fail
  go_at_call 91
  refine (rOffer_full 4 H2.out rfl).mono ?_
  rintro e w3 ⟨rfl, h3, k3⟩
  have H3 := Lib.hid h3
  have HB3 := Lib.hid (HB2.out.trans (k3.below hg hb HB2.out.size))
  clear h3 k3
  go_wp2_with fail
  go_at_call 92
  refine (rPop_some H3.out).mono ?_
  rintro e w4 ⟨rfl, h4, k4⟩
  have H4 := Lib.hid h4
  have HB4 := Lib.hid (HB3.out.trans (k4.below hg hb HB3.out.size))
  clear h4 k4
  go_wp2_with fail
  go_at_call 29
  refine (rLost H4.out).mono ?_
  rintro e w' ⟨rfl, rfl⟩
  go_wp2_with fail
  go_at_call 30
  refine (rDropped H4.out).mono ?_
  rintro e w' ⟨rfl, rfl⟩
  go_wp2
  go_ret
  exact ⟨rfl, HB4.out⟩
end Go.Proofs.Ytnjkpamjjdkmoaa
