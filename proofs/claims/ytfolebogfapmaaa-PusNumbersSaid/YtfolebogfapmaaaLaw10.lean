/- Commands and reports: the helpers of the statements. -/
import Derived.Test.YtfolebogfapmaaaPs5
import Derived.Test.YtfolebogfapmaaaLaw05
namespace Go.Proofs.Ytfolebogfapmaaa
open Go.RowKit Go.Own
set_option linter.unusedVariables false
set_option linter.unusedSimpArgs false

set_option maxRecDepth 100000 in
set_option maxHeartbeats 2000000 in
theorem awake10 (w : World) : Calls Try.prog 23 #[] w fun e w' => e = .returned (.bool true) ∧ Below w.heap.size w w' := by
  have hzc := zero_cm
  go_enter Try.func23, Try.ntmps23
  go_wp2_with fail
  go_at_call 24
  refine (cBytes_any 9 17 1 0 none 0 0 0 [] w (by decide) (by decide) (by decide) (by decide) rfl (Nat.zero_le _) (Rd.none_ _ _ _)).mono ?_
  rintro e w1 ⟨hb1, ⟨h, _⟩ | ⟨_, v, rfl, hown⟩⟩
  · exact absurd rfl h
  obtain ⟨va, vc, rfl⟩ := own_form hown
  have hK : cmB 9 17 1 0 [] = [41, 17, 1, 0, 0] := rfl
  rw [hK] at hown
  have hKb : bytes [41, 17, 1, 0, 0] := by unfold bytes; decide
  have hr1 := rd_of_own (f := bv [41, 17, 1, 0, 0]) hown (fun i hi => bl_at _ hi)
  have hb0 : Below w1.heap.size w1 (w1.alloc (.cells (bl [41, 17, 1, 0, 0]).toArray 5)) := (Below.refl _ _).alloc (Nat.le_refl _) _
  have hlit := owns_lit (P := Try.prog) w1 [41, 17, 1, 0, 0] (by decide)
  have hr0 := rd_of_own (f := bv [41, 17, 1, 0, 0]) hlit (fun i hi => bl_at _ hi)
  have HR1 := Lib.hid (rd_grow hr1 hb0)
  have HR0 := Lib.hid hr0
  have HB1 := Lib.hid (hb1.trans (hb0.mono hb1.size))
  clear hown hb1 hr1 hb0 hlit hr0 hzc
  go_wp2_with fail
  go_at_call 21
  refine (Same_any va _ 5 5 vc 5 _ _ [41, 17, 1, 0, 0] [41, 17, 1, 0, 0] _ rfl rfl HR1.out HR0.out hKb hKb).mono ?_
  rintro e w3 ⟨rfl, j, rfl⟩
  simp only [decide_true]
  go_wp2
  go_ret
  exact ⟨rfl, HB1.out.trans (below_drews _ _ _)⟩
end Go.Proofs.Ytfolebogfapmaaa
