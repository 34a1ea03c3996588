/- QueueArgs: rooms that there can't be; a nil queue. -/
import Derived.Test.YtpgophkegjeheaaLaw11
namespace Go.Proofs.Ytpgophkegjeheaa
open Go.RowKit Go.Own
set_option linter.unusedVariables false
set_option linter.unusedSimpArgs false
set_option maxRecDepth 100000 in
set_option maxHeartbeats 2000000 in
theorem walk_QueueArgs (a0 a1 : Int) (a2 : Option Addr) (len2 cap2 : Nat) (z2 : List Int) (w : World) (w0 : (Lit.int .i64 a0).wf = true) (w1 : (Lit.int .i64 a1).wf = true) (w2 : IsRow .u8 w a2 len2 cap2 z2) :
    Calls Try.prog 9 #[.int .i64 a0, .int .i64 a1, .slice a2 len2 cap2] w fun e w' => e = .returned (.bool true) ∧ Below w.heap.size w w' := by
  obtain ⟨l, hl, hb, hr⟩ := isRow_rd w2
  have HL := Lib.hid hl
  have HR := Lib.hid hr
  clear w2 w1 w0 hl hr
  go_enter Try.func9, Try.ntmps9
  go_wp2_with fail
  go_at_call 41
  refine (awake11 _).mono ?_
  rintro e wa ⟨rfl, hba⟩
  have HBA := Lib.hid hba
  clear hba
  go_wp2_with fail
  go_at_call 42
  by_cases h1 : a0 < 1
  · refine (qNew_bad a0 wa (.inl h1)).mono ?_
    rintro e w' ⟨rfl, rfl⟩
    go_wp2_with fail
    go_at_call 16
    refine (Cut_any a2 len2 cap2 l 9 _ HL.out (rd_grow HR.out HBA.out) (by omega)).mono ?_
    rintro e w3 ⟨v, rfl, hown, hb3⟩
    have HB3 := Lib.hid (HBA.out.trans (hb3.mono HBA.out.size))
    clear hown hb3
    go_wp2_with fail
    go_at_call 46
    refine (zqPut _ _ _ _ _).mono ?_
    rintro e w' ⟨rfl, rfl⟩
    go_wp2_with fail
    go_at_call 45
    refine (zqTake _ _).mono ?_
    rintro e w' ⟨rfl, rfl⟩
    go_wp2_with fail
    go_at_call 50
    refine (zqAll _).mono ?_
    rintro e w' ⟨rfl, rfl⟩
    go_wp2_with fail
    go_at_call 47
    refine (zqLen _).mono ?_
    rintro e w' ⟨rfl, rfl⟩
    go_wp2_with fail
    go_at_call 48
    refine (zqDropped _).mono ?_
    rintro e w' ⟨rfl, rfl⟩
    go_wp2_with fail
    go_at_call 49
    refine (zqCount _).mono ?_
    rintro e w' ⟨rfl, rfl⟩
    go_wp2
    go_ret
    exact ⟨rfl, HB3.out⟩
  · by_cases h2 : 16 < a0
    · have h3 : decide (a0 ≤ 16) = false := decide_eq_false (by omega)
      refine (qNew_bad a0 wa (.inr h2)).mono ?_
      rintro e w' ⟨rfl, rfl⟩
      go_wp2_with fail
      go_at_call 16
      refine (Cut_any a2 len2 cap2 l 9 _ HL.out (rd_grow HR.out HBA.out) (by omega)).mono ?_
      rintro e w3 ⟨v, rfl, hown, hb3⟩
      have HB3 := Lib.hid (HBA.out.trans (hb3.mono HBA.out.size))
      clear hown hb3
      go_wp2_with fail
      go_at_call 46
      refine (zqPut _ _ _ _ _).mono ?_
      rintro e w' ⟨rfl, rfl⟩
      go_wp2_with fail
      go_at_call 45
      refine (zqTake _ _).mono ?_
      rintro e w' ⟨rfl, rfl⟩
      go_wp2_with fail
      go_at_call 50
      refine (zqAll _).mono ?_
      rintro e w' ⟨rfl, rfl⟩
      go_wp2_with fail
      go_at_call 47
      refine (zqLen _).mono ?_
      rintro e w' ⟨rfl, rfl⟩
      go_wp2_with fail
      go_at_call 48
      refine (zqDropped _).mono ?_
      rintro e w' ⟨rfl, rfl⟩
      go_wp2_with fail
      go_at_call 49
      refine (zqCount _).mono ?_
      rintro e w' ⟨rfl, rfl⟩
      go_wp2
      go_ret
      exact ⟨rfl, HB3.out⟩
    · obtain ⟨n, rfl⟩ := Int.eq_ofNat_of_zero_le (show 0 ≤ a0 by omega)
      refine (qNew_ok n wa (by omega) (by omega)).mono ?_
      rintro e wb ⟨gq, g, b, rfl, _, _, _, _, hbb⟩
      have HBB := Lib.hid (HBA.out.trans (hbb.mono HBA.out.size))
      clear hbb HBA
      go_wp2_with fail
      go_at_call 16
      refine (Cut_any a2 len2 cap2 l 9 _ HL.out (rd_grow HR.out HBB.out) (by omega)).mono ?_
      rintro e w3 ⟨v, rfl, hown, hb3⟩
      have HB3 := Lib.hid (HBB.out.trans (hb3.mono HBB.out.size))
      clear hown hb3
      go_wp2_with fail
      go_at_call 46
      refine (zqPut _ _ _ _ _).mono ?_
      rintro e w' ⟨rfl, rfl⟩
      go_wp2_with fail
      go_at_call 45
      refine (zqTake _ _).mono ?_
      rintro e w' ⟨rfl, rfl⟩
      go_wp2_with fail
      go_at_call 50
      refine (zqAll _).mono ?_
      rintro e w' ⟨rfl, rfl⟩
      go_wp2_with fail
      go_at_call 47
      refine (zqLen _).mono ?_
      rintro e w' ⟨rfl, rfl⟩
      go_wp2_with fail
      go_at_call 48
      refine (zqDropped _).mono ?_
      rintro e w' ⟨rfl, rfl⟩
      go_wp2_with fail
      go_at_call 49
      refine (zqCount _).mono ?_
      rintro e w' ⟨rfl, rfl⟩
      go_wp2
      go_ret
      exact ⟨rfl, HB3.out⟩
end Go.Proofs.Ytpgophkegjeheaa
