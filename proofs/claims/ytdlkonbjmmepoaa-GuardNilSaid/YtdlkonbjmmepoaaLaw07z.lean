/- GuardNil: a nil memory. -/
import Derived.Test.YtdlkonbjmmepoaaLaw07
namespace Go.Proofs.Ytdlkonbjmmepoaa
open Go.RowKit Go.Own
set_option linter.unusedVariables false
set_option linter.unusedSimpArgs false

set_option maxRecDepth 100000 in
set_option maxHeartbeats 4000000 in
theorem walk_GuardNil (a0 : Option Addr) (len0 cap0 : Nat) (z0 : List Int) (a1 a2 a3 : Int) (w : World) (w0 : IsRow .u8 w a0 len0 cap0 z0) (w1 : (Lit.int .i64 a1).wf = true) (w2 : (Lit.int .i64 a2).wf = true) (w3 : (Lit.int .u8 a3).wf = true) :
    Calls Try.prog 5 #[.slice a0 len0 cap0, .int .i64 a1, .int .i64 a2, .int .u8 a3] w fun e w' => e = .returned (.bool true) ∧ Below w.heap.size w w' := by
  obtain ⟨l, hl, hb, hr⟩ := isRow_rd w0
  have HR := Lib.hid hr
  have HL := Lib.hid hl
  clear w0 w1 w2 w3 hr hl hb
  go_enter Try.func5, Try.ntmps5
  go_wp2_with fail
  go_at_call 15
  refine (awake07 w).mono ?_
  rintro e w1 ⟨rfl, hb1⟩
  have B1 := Lib.hid hb1
  clear hb1
  go_wp2_with fail
  go_at_call 17
  refine (Cut_any a0 len0 cap0 l 20 w1 HL.out ((HR.out.below B1.out).mono B1.out.size) (by omega)).mono ?_
  rintro e w2 ⟨x, rfl, hown, hb2⟩
  have B2 := Lib.hid (B1.out.trans (hb2.mono B1.out.size))
  clear hb2 hown
  go_wp2_with (first | (go_at_call 24; refine (zRead _).mono ?_; rintro e w' ⟨rfl, rfl⟩) | (go_at_call 26; refine (zScrub _).mono ?_; rintro e w' ⟨rfl, rfl⟩) | (go_at_call 23; refine (zReset _).mono ?_; rintro e w' ⟨⟨u, rfl⟩, rfl⟩) | (go_at_call 21; refine (zBegin _ _).mono ?_; rintro e w' ⟨rfl, rfl⟩) | (go_at_call 22; refine (zFinish _).mono ?_; rintro e w' ⟨rfl, rfl⟩) | (go_at_call 20; refine (zFlip _ _ _ _).mono ?_; rintro e w' ⟨rfl, rfl⟩) | (go_at_call 18; refine (zFill _ _).mono ?_; rintro e w' ⟨rfl, rfl⟩) | (go_at_call 30; refine (zPending _).mono ?_; rintro e w' ⟨rfl, rfl⟩) | (go_at_call 27; refine (zGood _).mono ?_; rintro e w' ⟨rfl, rfl⟩) | (go_at_call 29; refine (zCopies _).mono ?_; rintro e w' ⟨rfl, rfl⟩))
  go_ret
  exact ⟨rfl, B2.out⟩
end Go.Proofs.Ytdlkonbjmmepoaa
