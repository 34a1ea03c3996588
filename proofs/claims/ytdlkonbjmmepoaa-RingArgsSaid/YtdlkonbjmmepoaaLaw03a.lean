/- RingArgs: rooms that there can't be; a nil ring. -/
import Derived.Test.YtdlkonbjmmepoaaRingZ
namespace Go.Proofs.Ytdlkonbjmmepoaa
open Go.RowKit Go.Own
set_option linter.unusedVariables false
set_option linter.unusedSimpArgs false

theorem info_text : (Try.prog.info? 9).map (fun i => (i.zero, i.size, i.bytes)) = some (some (.string ByteArray.empty), 1, 16) := by kernel_rfl
def rightRoom (a : Int) : Bool := decide (1 ≤ a ∧ a ≤ 4096)
set_option maxRecDepth 100000 in
set_option maxHeartbeats 1000000 in
theorem NewText_any (a : Int) (w : World) : Calls Try.prog 68 #[.int .i64 a] w fun e w' => ∃ p, e = .returned (.tuple #[.pointer p, .int .i64 (if rightRoom a then 0 else 1)]) ∧ Below w.heap.size w w' := by
  obtain ⟨i0, hi, hz0, hz1, hz2⟩ := info_parts info_text
  by_cases h1 : a < 1
  · have hr : rightRoom a = false := by unfold rightRoom; simp; omega
    rw [hr]
    go_enter Try.func68, Try.ntmps68
    go_wp2
    go_ret2
    exact ⟨⟨_, rfl⟩, Below.refl _ _⟩
  · by_cases h2 : 4096 < a
    · have hr : rightRoom a = false := by unfold rightRoom; simp; omega
      rw [hr]
      go_enter Try.func68, Try.ntmps68
      go_wp2
      go_ret2
      exact ⟨⟨_, rfl⟩, Below.refl _ _⟩
    · have hr : rightRoom a = true := by unfold rightRoom; simp; omega
      rw [hr]
      have hmk := fun w : World => run_make (P := Try.prog) w 157 9 i0 (.string ByteArray.empty) Try.underlying157 hi hz0 .i64 .i64 a a (by omega) (by omega) (by rw [hz2]; omega) (by omega)
      go_enter Try.func68, Try.ntmps68
      go_wp2
      go_ret2
      exact ⟨⟨_, rfl⟩, by repeat' (first | (with_reducible exact Below.refl _ _) | (with_reducible assumption) | (with_reducible refine Below.setCell ?_ ?_ _) | (with_reducible refine Below.alloc ?_ ?_ _) | (with_reducible refine Below.drew ?_) | (with_reducible refine Below.drawsN ?_ _) | go_size)⟩
set_option maxRecDepth 100000 in
set_option maxHeartbeats 4000000 in
theorem walk_RingArgs (a0 a1 a2 : Int) (w : World) (w0 : (Lit.int .i64 a0).wf = true) (w1 : (Lit.int .i64 a1).wf = true) (w2 : (Lit.int .i64 a2).wf = true) :
    Calls Try.prog 14 #[.int .i64 a0, .int .i64 a1, .int .i64 a2] w fun e w' => e = .returned (.bool true) ∧ Below w.heap.size w w' := by
  go_enter Try.func14, Try.ntmps14
  go_wp2_with fail
  go_at_call 57
  refine (awake03 _).mono ?_
  rintro e w1 ⟨rfl, hb1⟩
  have B1 := Lib.hid hb1
  clear hb1
  go_wp2_with fail
  go_at_call 68
  refine (NewText_any a0 _).mono ?_
  rintro e w2 ⟨p, rfl, hb2⟩
  have B2 := Lib.hid (B1.out.trans (hb2.mono B1.out.size))
  clear hb2
  have hcase : (1 ≤ a0 ∧ a0 ≤ 4096) ∨ ¬(1 ≤ a0 ∧ a0 ≤ 4096) := Classical.em _
  have hrr : rightRoom a0 = decide (1 ≤ a0 ∧ a0 ≤ 4096) := rfl
  obtain ⟨e1, he1⟩ : ∃ e1 : Int, e1 = if rightRoom a0 then 0 else 1 := ⟨_, rfl⟩
  rw [← he1]
  have key : ∃ t : Bool, (t = true ∧ 1 ≤ a0 ∧ a0 ≤ 4096 ∧ e1 = 0 ∨ t = false ∧ a0 < 1 ∧ e1 = 1 ∨ t = false ∧ 1 ≤ a0 ∧ decide (a0 ≤ 4096) = false ∧ e1 = 1) := by
    rcases hcase with h | h
    · exact ⟨true, .inl ⟨rfl, h.1, h.2, by rw [he1, hrr, decide_eq_true h]; rfl⟩⟩
    · have : e1 = 1 := by rw [he1, hrr, decide_eq_false h]; rfl
      by_cases h1 : a0 < 1
      · exact ⟨false, .inr (.inl ⟨rfl, h1, this⟩)⟩
      · exact ⟨false, .inr (.inr ⟨rfl, by omega, decide_eq_false (by omega), this⟩)⟩
  clear hcase hrr he1
  obtain ⟨t, ⟨rfl, h1, h2, rfl⟩ | ⟨rfl, h1, rfl⟩ | ⟨rfl, h1, h2, rfl⟩⟩ := key
  all_goals
    go_wp2_with fail
    go_at_call 69
    refine (zPop _).mono ?_
    rintro e w3 ⟨rfl, hb3⟩
    have B3 := Lib.hid (B2.out.trans (hb3.mono B2.out.size))
    clear hb3
    go_wp2_with fail
    go_at_call 67
    refine (zAt a1 _).mono ?_
    rintro e w4 ⟨rfl, hb4⟩
    have B4 := Lib.hid (B3.out.trans (hb4.mono B3.out.size))
    clear hb4
    go_wp2_with fail
    go_at_call 70
    refine (zClear _).mono ?_
    rintro e w' ⟨⟨v, rfl⟩, rfl⟩
    go_wp2_with fail
    go_at_call 66
    refine (zAll _).mono ?_
    rintro e w5 ⟨a, c, rfl, hb5⟩
    have B5 := Lib.hid (B4.out.trans (hb5.mono B4.out.size))
    clear hb5
    go_wp2_with fail
    go_at_call 71
    refine (zPush _ _).mono ?_
    rintro e w6 ⟨rfl, hw6⟩
    have hb6 : Below w5.heap.size w5 w6 := by rw [← hw6]; exact (Below.refl _ _).alloc (Nat.le_refl _) _
    have B6 := Lib.hid (B5.out.trans (hb6.mono B5.out.size))
    clear hb6 hw6
    go_wp2_with (first | (go_at_call 72; refine (zOffer _ _).mono ?_; rintro e w' ⟨rfl, rfl⟩) | (go_at_call 62; refine (zLen _).mono ?_; rintro e w' ⟨rfl, rfl⟩) | (go_at_call 63; refine (zRoom _).mono ?_; rintro e w' ⟨rfl, rfl⟩) | (go_at_call 64; refine (zLost _).mono ?_; rintro e w' ⟨rfl, rfl⟩) | (go_at_call 65; refine (zDropped _).mono ?_; rintro e w' ⟨rfl, rfl⟩) | (go_at_call 73; refine (zDrain _).mono ?_; rintro e w' ⟨rfl, rfl⟩))
    go_ret
    exact ⟨rfl, B6.out⟩
end Go.Proofs.Ytdlkonbjmmepoaa
