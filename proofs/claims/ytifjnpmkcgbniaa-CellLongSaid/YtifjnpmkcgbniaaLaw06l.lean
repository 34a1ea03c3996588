/- CellLong, walked. -/
import Derived.Test.YtifjnpmkcgbniaaLaw06
namespace Go.Proofs.Ytifjnpmkcgbniaa
open Go.RowKit Go.Own
set_option linter.unusedVariables false
set_option linter.unusedSimpArgs false

theorem filled_set (n k b : Nat) (h : k < n) : (bl (List.replicate k b ++ List.replicate (n - k) 0)).set k (.int .u8 (b : Int)) = bl (List.replicate (k + 1) b ++ List.replicate (n - (k + 1)) 0) := by
  have e : n - k = (n - (k + 1)) + 1 := by omega
  rw [e, List.replicate_succ (n := n - (k + 1)), List.replicate_succ', bl_append, bl_append, bl_append, List.set_append_right _ _ (by simp [bl_len])]
  simp [bl_len, bl]
theorem filled_len (n k b : Nat) (h : k ≤ n) : (List.replicate k b ++ List.replicate (n - k) 0).length = n := by simp; omega
theorem filled_bytes (n b : Nat) (h : b < 256) : bytes (List.replicate n b) := fun x hx => by
  obtain ⟨_, rfl⟩ := List.mem_replicate.1 hx
  exact h
set_option maxRecDepth 100000 in
set_option maxHeartbeats 2000000 in
theorem walk_CellLong (s n b : Int) (w : World) (ws : (Lit.int .u32 s).wf = true) (wn : (Lit.int .u8 n).wf = true) (wb : (Lit.int .u8 b).wf = true) :
    Calls Try.prog 7 #[.int .u32 s, .int .u8 n, .int .u8 b] w fun e w' => e = .returned (.bool true) ∧ Below w.heap.size w w' := by
  obtain ⟨i0, hi, hz0, hz1, hz2⟩ := info_parts info_u8
  obtain ⟨s0, s1⟩ := bounds_u32 ws
  obtain ⟨n0, n1⟩ := bounds_u8 wn
  obtain ⟨b0, b1⟩ := bounds_u8 wb
  obtain ⟨s, rfl⟩ := Int.eq_ofNat_of_zero_le s0
  obtain ⟨n, rfl⟩ := Int.eq_ofNat_of_zero_le n0
  obtain ⟨b, rfl⟩ := Int.eq_ofNat_of_zero_le b0
  clear ws wn wb
  go_enter Try.func7, Try.ntmps7
  go_wp2_with (first | (go_at_call 14; refine (awake06 _).mono ?_; rintro e w1 ⟨rfl, hb1⟩) | (at_make; refine wpList_make_full w1 rfl _ _ 23 rfl w.heap.size 5 i0 (.int .u8 0) 1 Try.underlying23 hi hz0 hz1 .u8 .u8 _ _ n rfl rfl rfl rfl ?c1 ?c2 ?c3 ?_))
  case c1 => rw [hz2]; omega
  case c2 => unfold maxLen; omega
  case c3 => exact hb1.size
  intro w2 hown hgrow
  rw [zeros_bl] at hown
  have hB2 := hb1.grown hgrow hb1.size (fun k hk => by cases hk)
  obtain ⟨g, hg⟩ : ∃ g, g = w1.heap.size := ⟨_, rfl⟩
  rw [← hg] at hown ⊢
  have hgw : w.heap.size ≤ g := by rw [hg]; exact hb1.size
  clear hgrow hg hb1
  go_wp2
  go_loopw [20] (fun i wr => ∃ k : Nat, k ≤ n ∧ i = .int .i64 k ∧ wr.ownsRow w.heap.size 5 1 (.slice (some ⟨g, 0, none⟩) n n) n (bl (List.replicate k b ++ List.replicate (n - k) 0)) ∧ Below w.heap.size w wr) (fun i _ => n - (intOf i).toNat)
  case atStart => exact ⟨0, Nat.zero_le _, rfl, by simpa using hown, hB2⟩
  case round =>
    clear hown hB2
    obtain ⟨k, hk, rfl, hown, hB⟩ := hrel
    by_cases hlt : k < n
    · have hc := hown.cellAt k (by omega)
      have hf := hown.frozenAt k
      rw [bl_at _ (by rw [filled_len _ _ _ hk]; exact hlt)] at hc
      unfold bv at hc
      obtain ⟨y, hy⟩ : ∃ y, y = (List.replicate k b ++ List.replicate (n - k) 0).getD k 0 := ⟨_, rfl⟩
      rw [← hy] at hc
      have HS := Lib.hid (filled_set n k b hlt)
      have HO := Lib.hid hown
      clear hown hy
      go_wp2
      go_roundw
      case rel =>
        obtain ⟨h1, h2⟩ := HO.out.stored k (.int .u8 (b : Int))
        refine ⟨k + 1, by omega, by go_num, ?_, hB.grown h2 hB.size (fun i hi => by cases hi; omega)⟩
        rw [← HS.out]; exact h1
      case measure => simp [intOf]; omega
    · obtain rfl : k = n := by omega
      rw [Nat.sub_self, List.replicate_zero, List.append_nil] at hown
      have hlen : (List.replicate k b).length = k := List.length_replicate
      have hbb := filled_bytes k b (by omega)
      obtain ⟨P, hP⟩ : ∃ P, P = List.replicate k b := ⟨_, rfl⟩
      rw [← hP] at hown hlen hbb
      have hr := rd_of_own (f := bv P) hown (fun j hj => bl_at _ (by rw [hlen]; exact hj))
      have HLEN := Lib.hid hlen
      have HR := Lib.hid hr
      clear hown hlen hr hP
      go_wp2_with fail
      go_at_call 16
      refine (cMake_any s _ k k _ P _ (by omega) HLEN.out (Nat.le_refl _) HR.out hbb).mono ?_
      rintro e w3 ⟨hb3, ⟨h, rfl⟩ | ⟨h, v, rfl, hown⟩⟩
      · go_wp2
        go_ret
        exact ⟨rfl, hB.trans (hb3.mono hB.size)⟩
      · obtain ⟨a3, c3, rfl⟩ := own_form hown
        have hmc := mkCell_len s P
        rw [HLEN.out] at hmc
        have hme := mkCell_err s P (by rw [HLEN.out]; exact h)
        have hms := mkCell_seq s P (by omega)
        have hmb := mkCell_bytes (s := s) hbb
        have hmd := mkCell_dat s P
        obtain ⟨q, hq⟩ : ∃ q, q = mkCell s P := ⟨_, rfl⟩
        rw [← hq] at hown hmc hme hms hmb hmd
        have HMC := Lib.hid hmc
        have HMD := Lib.hid hmd
        have HMS := Lib.hid hms
        have HME := Lib.hid hme
        have hr3 := rd_of_own (f := bv q) hown (fun j hj => bl_at _ (by rw [hmc]; exact hj))
        have HR3 := Lib.hid hr3
        have HRP := Lib.hid (rd_grow HR.out hb3)
        have HB3 := Lib.hid (hB.trans (hb3.mono hB.size))
        clear hr3 hmc hme hms hmd hown hb3 hB HR hq
        go_wp2_with fail
        go_at_call 18
        refine (cParse_any _ _ _ _ q _ HMC.out (Nat.le_refl _) HR3.out hmb (by omega)).mono ?_
        rintro e w4 ⟨hb4, ⟨h4, x4, c4, rfl, hr4⟩ | ⟨h4, _⟩⟩
        · rw [HMS.out, HMD.out, HLEN.out]
          rw [HMD.out, HLEN.out] at hr4
          have HR4 := Lib.hid hr4
          have HRP4 := Lib.hid (rd_grow HRP.out hb4)
          have HB4 := Lib.hid (HB3.out.trans (hb4.mono HB3.out.size))
          clear hr4 hb4 h4
          go_wp2_with (go_at_call 20; refine (Same_any _ _ _ _ _ _ _ _ P P _ HLEN.out HLEN.out HRP4.out HR4.out hbb hbb).mono ?_; rintro e w5 ⟨rfl, j5, rfl⟩; simp only [decide_true])
          go_ret
          exact ⟨rfl, HB4.out.trans (below_drews _ _ _)⟩
        · exact absurd HME.out h4
end Go.Proofs.Ytifjnpmkcgbniaa
