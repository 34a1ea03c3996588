/- Layer 7: Scrub. -/
import Derived.Test.YtdlkonbjmmepoaaMem6
import Derived.Test.YtdlkonbjmmepoaaMemE
namespace Go.Proofs.Ytdlkonbjmmepoaa
open Go.RowKit Go.Own
set_option linter.unusedVariables false
set_option linter.unusedSimpArgs false
variable {w : World} {B g : Nat} {v : Nat → Value} {ls : Nat → List Nat}

/-- How many of the first k differ. -/
def dcount (ls : Nat → List Nat) (c : List Nat) : Nat → Nat
  | 0 => 0
  | k + 1 => if ls k = c then dcount ls c k else dcount ls c k + 1
theorem dcount_le (ls : Nat → List Nat) (c : List Nat) : ∀ k, dcount ls c k ≤ k
  | 0 => Nat.le_refl _
  | k + 1 => by have := dcount_le ls c k; unfold dcount; split <;> omega
/-- What a vote tells. -/
def best (ls : Nat → List Nat) : List Nat := ls (vst ls 3).2
theorem best_ok (h : 2 ≤ (vst ls 3).1) : (vst ls 3).2 < 3 ∧ perr (best ls) = 0 :=
  ⟨vst_lt ls 3 (by omega), (vst_good ls 3 (by omega)).1⟩
theorem perr_len {l : List Nat} (h : perr l = 0) : 8 ≤ l.length ∧ (pdat l).length = l.length - 8 ∧ (pdat l).length ≤ 200 := by
  unfold perr at h
  split at h
  · omega
  · rename_i h0
    split at h
    · split at h
      · omega
      · rename_i h1 h2
        have := pdat_len (l := l) (by omega)
        refine ⟨by omega, this, by omega⟩
    · omega
set_option maxRecDepth 100000 in
set_option maxHeartbeats 4000000 in
theorem mScrub (h : MemS w B g v ls) :
    Calls Try.prog 26 #[.pointer (some ⟨g, 0, none⟩)] w fun e w' =>
      (ls 3 ≠ [] ∧ e = .returned (.tuple #[.int .i64 0, .int .i64 7]) ∧ Below w.heap.size w w') ∨ (ls 3 = [] ∧ (vst ls 3).1 < 2 ∧ e = .returned (.tuple #[.int .i64 0, .int .i64 3]) ∧ Below w.heap.size w w') ∨
      (ls 3 = [] ∧ 2 ≤ (vst ls 3).1 ∧ e = .returned (.tuple #[.int .i64 (dcount ls (best ls) 3 : Nat), .int .i64 0]) ∧ ∃ v', v' 3 = v 3 ∧ MemS w' B g v' (sel4 (best ls) (best ls) (best ls) (ls 3)) ∧ MStep g v v' w w') := by
  have hP := mPending h
  have HRD := Lib.hid (mRead h)
  have H := Lib.hid h
  clear h
  by_cases h0 : ls 3 = []
  · have hd : decide (0 < (ls 3).length) = false := by rw [h0]; rfl
    rw [hd] at hP
    have HP := Lib.hid hP
    have H0 := Lib.hid h0
    clear hP h0 hd
    go_enter Try.func26, Try.ntmps26
    go_wp2_with fail
    go_at_call 30
    refine HP.out.mono ?_
    rintro e w' ⟨rfl, rfl⟩
    go_wp2_with fail
    go_at_call 24
    refine HRD.out.mono ?_
    rintro e w1 ⟨hb1, ⟨h1, rfl⟩ | ⟨h1, x, xc, rfl, hown⟩⟩
    · have HB1 := Lib.hid hb1
      have H1 := Lib.hid h1
      clear hb1 h1
      go_wp2
      go_ret2
      exact .inr (.inl ⟨H0.out, H1.out, rfl, HB1.out⟩)
    · obtain ⟨hlt, hbe⟩ := best_ok h1
      have hbb : bytes (best ls) := H.out.byt _ (by omega)
      obtain ⟨c, hc⟩ : ∃ c, c = best ls := ⟨_, rfl⟩
      have hbest : ls (vst ls 3).2 = c := by rw [hc]; rfl
      rw [← hc] at hbb hbe
      rw [hbest] at hown ⊢
      obtain ⟨hl8, hpl, hp2⟩ := perr_len hbe
      have hsq := pseq_lt hbb
      have hmk := mkCell_of hbb hbe
      have hM := cMake_any (pseq c) x (pdat c).length xc w1.heap.size (pdat c) w1 hsq rfl (Nat.le_refl _) (rd_of_own hown fun i hi => bl_at _ hi) (pdat_bytes hbb)
      rw [hmk] at hM
      obtain ⟨s, hs⟩ : ∃ s, s = pseq c := ⟨_, rfl⟩
      obtain ⟨n, hn⟩ : ∃ n, n = (pdat c).length := ⟨_, rfl⟩
      rw [← hs, ← hn] at hM ⊢
      rw [← hn] at hpl hp2
      have hcl : c.length = n + 8 := by omega
      have HM := Lib.hid hM
      have HC := Lib.hid hc
      have HCB := Lib.hid hbb
      have HCL := Lib.hid hcl
      have HB1 := Lib.hid hb1
      have H1 := Lib.hid h1
      clear hM hc hbb hb1 h1 hown hs hn hbest hmk hbe hl8 hpl hsq hlt hcl HRD HP
      go_wp2_with fail
      go_at_call 78
      refine HM.out.mono ?_
      rintro e w2 ⟨hb2, ⟨h2, rfl⟩ | ⟨h2, y, rfl, hown⟩⟩
      · omega
      · obtain ⟨ya, yc, rfl⟩ := own_form hown
        clear h2 HM
        have hH2 := (H.out.below HB1.out).below hb2
        have hB2 := HB1.out.trans (hb2.mono HB1.out.size)
        obtain ⟨pa, pc, hf⟩ := hH2.forms
        have c0 := hH2.c0
        have c1 := hH2.c1
        have c2 := hH2.c2
        rw [(hf 0 (by omega)).1] at c0
        rw [(hf 1 (by omega)).1] at c1
        rw [(hf 2 (by omega)).1] at c2
        obtain ⟨len, hlen⟩ : ∃ len, len = n + 8 := ⟨_, rfl⟩
        have hcl := HCL.out
        rw [← hlen] at hown hcl ⊢
        have hlm : len ≤ 1000000 := by omega
        have hEq : ∀ i, i < 3 → ∀ wr, Below w2.heap.size w2 wr → Calls Try.prog 79 #[.slice (pa i) (ls i).length (pc i), .slice ya len yc] wr fun e w' => e = .returned (.bool (decide (ls i = c))) ∧ wr = w' := fun i hi wr hB => by
          have ho := hH2.own i (by omega)
          rw [(hf i (by omega)).1] at ho
          exact Equal_own rfl hcl (own_keep ho hB) (own_keep hown hB) (hH2.byt i (by omega)) HCB.out
        have hSet : ∀ wr, Below w2.heap.size w2 wr → _ := fun wr hB => mset w1.heap.size ya len yc c (hH2.below hB) hcl (own_keep hown hB) HCB.out hlm
        have HEQ := Lib.hid hEq
        have HSET := Lib.hid hSet
        have HB2 := Lib.hid hB2
        clear hown hH2 hB2 hf hlen hcl hEq hSet hb2
        go_wp2
        go_loopw [8, 35] (fun q i wr => ∃ k : Nat, k ≤ 3 ∧ i = .int .i64 k ∧ q = .int .i64 (dcount ls c k : Nat) ∧ Below w2.heap.size w2 wr) (fun _ i _ => 3 - (intOf i).toNat)
        case atStart => exact ⟨0, by omega, rfl, rfl, Below.refl _ _⟩
        case round =>
          obtain ⟨k, hk, rfl, rfl, hB⟩ := hrel
          have hEq := HEQ.out
          have : k = 0 ∨ k = 1 ∨ k = 2 ∨ k = 3 := by omega
          rcases this with rfl | rfl | rfl | rfl
          · have hpo := hEq 0 (by omega) wr hB
            obtain ⟨q, hq⟩ : ∃ q, q = dcount ls c 0 := ⟨_, rfl⟩
            rw [← hq]
            have hqs := dcount_le ls c 0
            rw [← hq] at hqs
            have HQ := Lib.hid hq
            have HPO := Lib.hid hpo
            clear hq hpo
            go_wp2_with fail
            go_at_call 79
            refine HPO.out.mono ?_
            rintro e w2 ⟨rfl, rfl⟩
            by_cases he : ls 0 = c
            · have hd : decide (ls 0 = c) = true := decide_eq_true he
              rw [hd]
              have hg : dcount ls c (0 + 1) = q := by rw [dcount, if_pos he, HQ.out]
              have HG := Lib.hid hg
              have HB2 := Lib.hid hB
              clear hg he hd hB HPO
              go_wp2
              go_roundw
              case rel => exact ⟨0 + 1, by omega, by go_num, by rw [HG.out], HB2.out⟩
              case measure => simp [intOf]
            · have hd : decide (ls 0 = c) = false := decide_eq_false he
              rw [hd]
              obtain ⟨q1, hq1⟩ : ∃ q1, q1 = q + 1 := ⟨_, rfl⟩
              have hg : dcount ls c (0 + 1) = q1 := by rw [dcount, if_neg he, ← HQ.out, hq1]
              have HG := Lib.hid hg
              have HB2 := Lib.hid hB
              have hw : IntKind.i64.wrap ((q : Int) + 1) = (q1 : Int) := by rw [IntKind.wrap_i64]; omega
              have hw2 : (q : Int) + 1 = (q1 : Int) := by omega
              clear hg he hd hB HPO hq1
              go_wp2
              go_roundw
              case rel => exact ⟨0 + 1, by omega, by go_num, by rw [HG.out], HB2.out⟩
              case measure => simp [intOf]
          · have hpo := hEq 1 (by omega) wr hB
            obtain ⟨q, hq⟩ : ∃ q, q = dcount ls c 1 := ⟨_, rfl⟩
            rw [← hq]
            have hqs := dcount_le ls c 1
            rw [← hq] at hqs
            have HQ := Lib.hid hq
            have HPO := Lib.hid hpo
            clear hq hpo
            go_wp2_with fail
            go_at_call 79
            refine HPO.out.mono ?_
            rintro e w2 ⟨rfl, rfl⟩
            by_cases he : ls 1 = c
            · have hd : decide (ls 1 = c) = true := decide_eq_true he
              rw [hd]
              have hg : dcount ls c (1 + 1) = q := by rw [dcount, if_pos he, HQ.out]
              have HG := Lib.hid hg
              have HB2 := Lib.hid hB
              clear hg he hd hB HPO
              go_wp2
              go_roundw
              case rel => exact ⟨1 + 1, by omega, by go_num, by rw [HG.out], HB2.out⟩
              case measure => simp [intOf]
            · have hd : decide (ls 1 = c) = false := decide_eq_false he
              rw [hd]
              obtain ⟨q1, hq1⟩ : ∃ q1, q1 = q + 1 := ⟨_, rfl⟩
              have hg : dcount ls c (1 + 1) = q1 := by rw [dcount, if_neg he, ← HQ.out, hq1]
              have HG := Lib.hid hg
              have HB2 := Lib.hid hB
              have hw : IntKind.i64.wrap ((q : Int) + 1) = (q1 : Int) := by rw [IntKind.wrap_i64]; omega
              have hw2 : (q : Int) + 1 = (q1 : Int) := by omega
              clear hg he hd hB HPO hq1
              go_wp2
              go_roundw
              case rel => exact ⟨1 + 1, by omega, by go_num, by rw [HG.out], HB2.out⟩
              case measure => simp [intOf]
          · have hpo := hEq 2 (by omega) wr hB
            obtain ⟨q, hq⟩ : ∃ q, q = dcount ls c 2 := ⟨_, rfl⟩
            rw [← hq]
            have hqs := dcount_le ls c 2
            rw [← hq] at hqs
            have HQ := Lib.hid hq
            have HPO := Lib.hid hpo
            clear hq hpo
            go_wp2_with fail
            go_at_call 79
            refine HPO.out.mono ?_
            rintro e w2 ⟨rfl, rfl⟩
            by_cases he : ls 2 = c
            · have hd : decide (ls 2 = c) = true := decide_eq_true he
              rw [hd]
              have hg : dcount ls c (2 + 1) = q := by rw [dcount, if_pos he, HQ.out]
              have HG := Lib.hid hg
              have HB2 := Lib.hid hB
              clear hg he hd hB HPO
              go_wp2
              go_roundw
              case rel => exact ⟨2 + 1, by omega, by go_num, by rw [HG.out], HB2.out⟩
              case measure => simp [intOf]
            · have hd : decide (ls 2 = c) = false := decide_eq_false he
              rw [hd]
              obtain ⟨q1, hq1⟩ : ∃ q1, q1 = q + 1 := ⟨_, rfl⟩
              have hg : dcount ls c (2 + 1) = q1 := by rw [dcount, if_neg he, ← HQ.out, hq1]
              have HG := Lib.hid hg
              have HB2 := Lib.hid hB
              have hw : IntKind.i64.wrap ((q : Int) + 1) = (q1 : Int) := by rw [IntKind.wrap_i64]; omega
              have hw2 : (q : Int) + 1 = (q1 : Int) := by omega
              clear hg he hd hB HPO hq1
              go_wp2
              go_roundw
              case rel => exact ⟨2 + 1, by omega, by go_num, by rw [HG.out], HB2.out⟩
              case measure => simp [intOf]
          · clear hEq
            have HS := Lib.hid (HSET.out wr hB)
            have HB := Lib.hid hB
            obtain ⟨q, hq⟩ : ∃ q, q = dcount ls c 3 := ⟨_, rfl⟩
            rw [← hq]
            have HQ := Lib.hid hq
            clear hB hq HSET
            go_wp2_with fail
            go_at_call 75
            refine HS.out.mono ?_
            rintro e w3 ⟨⟨u, rfl⟩, v3, hv3, hm3, hs3⟩
            have HM3 := Lib.hid hm3
            have HS3 := Lib.hid hs3
            have HV3 := Lib.hid hv3
            clear hm3 hs3 hv3
            go_wp2
            go_ret2
            refine .inr (.inr ⟨H0.out, H1.out, ?_, v3, HV3.out, ?_, ((MStep.of_below HB2.out).then_below HB.out).trans HS3.out⟩)
            · rw [← HC.out, ← HQ.out]; rfl
            · rw [← HC.out]; exact HM3.out
  · have hd : decide (0 < (ls 3).length) = true := by simp [List.length_pos_iff, h0]
    rw [hd] at hP
    have HP := Lib.hid hP
    have H0 := Lib.hid h0
    clear hP h0 hd
    go_enter Try.func26, Try.ntmps26
    go_wp2_with fail
    go_at_call 30
    refine HP.out.mono ?_
    rintro e w' ⟨rfl, rfl⟩
    go_wp2
    go_ret2
    exact .inl ⟨H0.out, rfl, Below.refl _ _⟩
end Go.Proofs.Ytdlkonbjmmepoaa
