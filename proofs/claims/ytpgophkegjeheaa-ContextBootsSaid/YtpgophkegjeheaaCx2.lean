/- Layer 8: which contexts may be. -/
import Derived.Test.YtpgophkegjeheaaCx
namespace Go.Proofs.Ytpgophkegjeheaa
open Go.RowKit Go.Own
set_option linter.unusedVariables false
set_option linter.unusedSimpArgs false

@[go_sem] theorem cidx0 (w : World) (a b c d e f : Int) : (Instr.index 26 (.agg #[.int .i8 a, .int .i8 b, .int .i8 c, .int .i8 d, .int .i8 e, .int .i8 f]) (.int .i64 0)).run Try.prog w = .ok (.int .i8 a) w := by kernel_rfl
@[go_sem] theorem cidx1 (w : World) (a b c d e f : Int) : (Instr.index 26 (.agg #[.int .i8 a, .int .i8 b, .int .i8 c, .int .i8 d, .int .i8 e, .int .i8 f]) (.int .i64 1)).run Try.prog w = .ok (.int .i8 b) w := by kernel_rfl
@[go_sem] theorem cidx2 (w : World) (a b c d e f : Int) : (Instr.index 26 (.agg #[.int .i8 a, .int .i8 b, .int .i8 c, .int .i8 d, .int .i8 e, .int .i8 f]) (.int .i64 2)).run Try.prog w = .ok (.int .i8 c) w := by kernel_rfl
@[go_sem] theorem cidx3 (w : World) (a b c d e f : Int) : (Instr.index 26 (.agg #[.int .i8 a, .int .i8 b, .int .i8 c, .int .i8 d, .int .i8 e, .int .i8 f]) (.int .i64 3)).run Try.prog w = .ok (.int .i8 d) w := by kernel_rfl
@[go_sem] theorem cidx4 (w : World) (a b c d e f : Int) : (Instr.index 26 (.agg #[.int .i8 a, .int .i8 b, .int .i8 c, .int .i8 d, .int .i8 e, .int .i8 f]) (.int .i64 4)).run Try.prog w = .ok (.int .i8 e) w := by kernel_rfl
@[go_sem] theorem cidx5 (w : World) (a b c d e f : Int) : (Instr.index 26 (.agg #[.int .i8 a, .int .i8 b, .int .i8 c, .int .i8 d, .int .i8 e, .int .i8 f]) (.int .i64 5)).run Try.prog w = .ok (.int .i8 f) w := by kernel_rfl
/-- The unit of a role. -/
def Cx.u (c : Cx) (k : Nat) : Int := if k = 0 then c.c0 else if k = 1 then c.c1 else if k = 2 then c.c2 else if k = 3 then c.c3 else if k = 4 then c.c4 else c.c5
/-- May it be? -/
def Cx.right (c : Cx) : Bool := decide (((-1 ≤ c.c0 ∧ c.c0 < 16) ∧ (-1 ≤ c.c1 ∧ c.c1 < 16) ∧ (-1 ≤ c.c2 ∧ c.c2 < 16) ∧ (-1 ≤ c.c3 ∧ c.c3 < 16) ∧ (-1 ≤ c.c4 ∧ c.c4 < 16) ∧ (-1 ≤ c.c5 ∧ c.c5 < 16)) ∧ c.m ≤ 3 ∧ c.h < 32)
theorem Cx.right_iff (c : Cx) : c.right = true ↔ (∀ k, k < 6 → -1 ≤ c.u k ∧ c.u k < 16) ∧ c.m ≤ 3 ∧ c.h < 32 := by
  unfold Cx.right
  rw [decide_eq_true_eq]
  constructor
  · rintro ⟨⟨h0, h1, h2, h3, h4, h5⟩, hm, hh⟩
    refine ⟨fun k hk => ?_, hm, hh⟩
    have : k = 0 ∨ k = 1 ∨ k = 2 ∨ k = 3 ∨ k = 4 ∨ k = 5 := by omega
    rcases this with rfl | rfl | rfl | rfl | rfl | rfl
    · exact h0
    · exact h1
    · exact h2
    · exact h3
    · exact h4
    · exact h5
  · rintro ⟨h, hm, hh⟩
    exact ⟨⟨h 0 (by omega), h 1 (by omega), h 2 (by omega), h 3 (by omega), h 4 (by omega), h 5 (by omega)⟩, hm, hh⟩
theorem Cx.not_right {c : Cx} (h : ¬ ((∀ k, k < 6 → -1 ≤ c.u k ∧ c.u k < 16) ∧ c.m ≤ 3 ∧ c.h < 32)) : c.right = false := by
  cases e : c.right with
  | false => rfl
  | true => exact absurd ((Cx.right_iff c).1 e) h
set_option maxRecDepth 100000 in
set_option maxHeartbeats 4000000 in
theorem Right_any (c : Cx) (w : World) : Calls Try.prog 20 #[.agg #[.int .u16 c.f, .int .u16 c.i, .int .u8 c.r0, .int .u8 c.r1, .int .u8 c.r2, .int .u8 c.r3, .int .u8 c.r4, .int .u8 c.r5, .int .i8 c.c0, .int .i8 c.c1, .int .i8 c.c2, .int .i8 c.c3, .int .i8 c.c4, .int .i8 c.c5, .int .u8 c.m, .int .u16 c.n, .bool c.x, .int .u8 c.h]] w fun e w' => e = .returned (.bool c.right) ∧ Below w.heap.size w w' := by
  go_enter Try.func20, Try.ntmps20
  go_wp2
  have hb0 : Below w.heap.size w (w.alloc (.cells #[.int .u16 c.f, .int .u16 c.i, .int .u8 c.r0, .int .u8 c.r1, .int .u8 c.r2, .int .u8 c.r3, .int .u8 c.r4, .int .u8 c.r5, .int .i8 c.c0, .int .i8 c.c1, .int .i8 c.c2, .int .i8 c.c3, .int .i8 c.c4, .int .i8 c.c5, .int .u8 c.m, .int .u16 c.n, .bool c.x, .int .u8 c.h] 28)) := (Below.refl _ _).alloc (Nat.le_refl _) _
  have hbx := heap_alloc_new w (.cells #[.int .u16 c.f, .int .u16 c.i, .int .u8 c.r0, .int .u8 c.r1, .int .u8 c.r2, .int .u8 c.r3, .int .u8 c.r4, .int .u8 c.r5, .int .i8 c.c0, .int .i8 c.c1, .int .i8 c.c2, .int .i8 c.c3, .int .i8 c.c4, .int .i8 c.c5, .int .u8 c.m, .int .u16 c.n, .bool c.x, .int .u8 c.h] 28)
  obtain ⟨b, hb⟩ : ∃ b, b = w.heap.size := ⟨_, rfl⟩
  obtain ⟨w1, hw1⟩ : ∃ w1, w1 = w.alloc (.cells #[.int .u16 c.f, .int .u16 c.i, .int .u8 c.r0, .int .u8 c.r1, .int .u8 c.r2, .int .u8 c.r3, .int .u8 c.r4, .int .u8 c.r5, .int .i8 c.c0, .int .i8 c.c1, .int .i8 c.c2, .int .i8 c.c3, .int .i8 c.c4, .int .i8 c.c5, .int .u8 c.m, .int .u16 c.n, .bool c.x, .int .u8 c.h] 28) := ⟨_, rfl⟩
  rw [← hb, ← hw1] at hbx
  rw [← hw1] at hb0
  rw [← hb, ← hw1]
  have m0 := cell_of_row w1 b 14 _ _ _ hbx
  have h0 := cell_of_row w1 b 17 _ _ _ hbx
  have HB0 := Lib.hid hb0
  clear hb hw1 hb0 hbx
  go_loopw [7] (fun i wr => ∃ k : Nat, k ≤ 6 ∧ i = .int .i64 (k : Nat) ∧ wr = w1 ∧ ∀ j, j < k → -1 ≤ c.u j ∧ c.u j < 16) (fun i _ => 6 - (intOf i).toNat)
  case atStart => exact ⟨0, by omega, rfl, rfl, fun j hj => absurd hj (by omega)⟩
  case round =>
    obtain ⟨k, hk, rfl, rfl, hup⟩ := hrel
    have hB := HB0.out
    have : k = 0 ∨ k = 1 ∨ k = 2 ∨ k = 3 ∨ k = 4 ∨ k = 5 ∨ k = 6 := by omega
    rcases this with rfl | rfl | rfl | rfl | rfl | rfl | rfl
    · have eu : c.u 0 = c.c0 := rfl
      by_cases h1 : c.c0 < -1
      · have hf : c.right = false := Cx.not_right (fun h => by have := h.1 0 (by omega); rw [eu] at this; omega)
        have HF := Lib.hid hf
        clear hf eu
        go_wp2
        go_ret
        exact ⟨by rw [HF.out]; rfl, hB⟩
      · by_cases h2 : 16 ≤ c.c0
        · have hf : c.right = false := Cx.not_right (fun h => by have := h.1 0 (by omega); rw [eu] at this; omega)
          have HF := Lib.hid hf
          clear hf eu
          go_wp2
          go_ret
          exact ⟨by rw [HF.out]; rfl, hB⟩
        · go_wp2
          go_roundw
          case rel => exact ⟨0 + 1, by omega, by go_num, trivial, fun j hj => by
            by_cases e : j = 0
            · subst e; rw [eu]; omega
            · exact hup j (by omega)⟩
          case measure => simp [intOf]
    · have eu : c.u 1 = c.c1 := rfl
      by_cases h1 : c.c1 < -1
      · have hf : c.right = false := Cx.not_right (fun h => by have := h.1 1 (by omega); rw [eu] at this; omega)
        have HF := Lib.hid hf
        clear hf eu
        go_wp2
        go_ret
        exact ⟨by rw [HF.out]; rfl, hB⟩
      · by_cases h2 : 16 ≤ c.c1
        · have hf : c.right = false := Cx.not_right (fun h => by have := h.1 1 (by omega); rw [eu] at this; omega)
          have HF := Lib.hid hf
          clear hf eu
          go_wp2
          go_ret
          exact ⟨by rw [HF.out]; rfl, hB⟩
        · go_wp2
          go_roundw
          case rel => exact ⟨1 + 1, by omega, by go_num, trivial, fun j hj => by
            by_cases e : j = 1
            · subst e; rw [eu]; omega
            · exact hup j (by omega)⟩
          case measure => simp [intOf]
    · have eu : c.u 2 = c.c2 := rfl
      by_cases h1 : c.c2 < -1
      · have hf : c.right = false := Cx.not_right (fun h => by have := h.1 2 (by omega); rw [eu] at this; omega)
        have HF := Lib.hid hf
        clear hf eu
        go_wp2
        go_ret
        exact ⟨by rw [HF.out]; rfl, hB⟩
      · by_cases h2 : 16 ≤ c.c2
        · have hf : c.right = false := Cx.not_right (fun h => by have := h.1 2 (by omega); rw [eu] at this; omega)
          have HF := Lib.hid hf
          clear hf eu
          go_wp2
          go_ret
          exact ⟨by rw [HF.out]; rfl, hB⟩
        · go_wp2
          go_roundw
          case rel => exact ⟨2 + 1, by omega, by go_num, trivial, fun j hj => by
            by_cases e : j = 2
            · subst e; rw [eu]; omega
            · exact hup j (by omega)⟩
          case measure => simp [intOf]
    · have eu : c.u 3 = c.c3 := rfl
      by_cases h1 : c.c3 < -1
      · have hf : c.right = false := Cx.not_right (fun h => by have := h.1 3 (by omega); rw [eu] at this; omega)
        have HF := Lib.hid hf
        clear hf eu
        go_wp2
        go_ret
        exact ⟨by rw [HF.out]; rfl, hB⟩
      · by_cases h2 : 16 ≤ c.c3
        · have hf : c.right = false := Cx.not_right (fun h => by have := h.1 3 (by omega); rw [eu] at this; omega)
          have HF := Lib.hid hf
          clear hf eu
          go_wp2
          go_ret
          exact ⟨by rw [HF.out]; rfl, hB⟩
        · go_wp2
          go_roundw
          case rel => exact ⟨3 + 1, by omega, by go_num, trivial, fun j hj => by
            by_cases e : j = 3
            · subst e; rw [eu]; omega
            · exact hup j (by omega)⟩
          case measure => simp [intOf]
    · have eu : c.u 4 = c.c4 := rfl
      by_cases h1 : c.c4 < -1
      · have hf : c.right = false := Cx.not_right (fun h => by have := h.1 4 (by omega); rw [eu] at this; omega)
        have HF := Lib.hid hf
        clear hf eu
        go_wp2
        go_ret
        exact ⟨by rw [HF.out]; rfl, hB⟩
      · by_cases h2 : 16 ≤ c.c4
        · have hf : c.right = false := Cx.not_right (fun h => by have := h.1 4 (by omega); rw [eu] at this; omega)
          have HF := Lib.hid hf
          clear hf eu
          go_wp2
          go_ret
          exact ⟨by rw [HF.out]; rfl, hB⟩
        · go_wp2
          go_roundw
          case rel => exact ⟨4 + 1, by omega, by go_num, trivial, fun j hj => by
            by_cases e : j = 4
            · subst e; rw [eu]; omega
            · exact hup j (by omega)⟩
          case measure => simp [intOf]
    · have eu : c.u 5 = c.c5 := rfl
      by_cases h1 : c.c5 < -1
      · have hf : c.right = false := Cx.not_right (fun h => by have := h.1 5 (by omega); rw [eu] at this; omega)
        have HF := Lib.hid hf
        clear hf eu
        go_wp2
        go_ret
        exact ⟨by rw [HF.out]; rfl, hB⟩
      · by_cases h2 : 16 ≤ c.c5
        · have hf : c.right = false := Cx.not_right (fun h => by have := h.1 5 (by omega); rw [eu] at this; omega)
          have HF := Lib.hid hf
          clear hf eu
          go_wp2
          go_ret
          exact ⟨by rw [HF.out]; rfl, hB⟩
        · go_wp2
          go_roundw
          case rel => exact ⟨5 + 1, by omega, by go_num, trivial, fun j hj => by
            by_cases e : j = 5
            · subst e; rw [eu]; omega
            · exact hup j (by omega)⟩
          case measure => simp [intOf]
    · by_cases h1 : c.m ≤ 3
      · by_cases h2 : c.h < 32
        · have hf : c.right = true := (Cx.right_iff c).2 ⟨hup, h1, h2⟩
          have HF := Lib.hid hf
          clear hf
          go_wp2
          go_ret
          exact ⟨by rw [HF.out]; rfl, hB⟩
        · have hf : c.right = false := Cx.not_right (fun h => h2 h.2.2)
          have HF := Lib.hid hf
          clear hf
          have h2' : decide (c.h < 32) = false := decide_eq_false h2
          go_wp2
          go_ret
          exact ⟨by rw [HF.out]; rfl, hB⟩
      · have hf : c.right = false := Cx.not_right (fun h => h1 h.2.1)
        have HF := Lib.hid hf
        clear hf
        have h1' : decide (c.m ≤ 3) = false := decide_eq_false h1
        go_wp2
        go_ret
        exact ⟨by rw [HF.out]; rfl, hB⟩
end Go.Proofs.Ytpgophkegjeheaa
