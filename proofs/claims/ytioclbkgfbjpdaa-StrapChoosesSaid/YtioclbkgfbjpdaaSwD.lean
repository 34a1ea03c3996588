/- Layer 18: is a chain admitted? -/
import Derived.Test.YtioclbkgfbjpdaaSwR
import Derived.Test.YtioclbkgfbjpdaaSw9
import Derived.Test.YtioclbkgfbjpdaaSwE
import Derived.Deep.QuietTactic
namespace Go.Proofs.Ytioclbkgfbjpdaa
open Go.RowKit Go.Own Bs
set_option linter.unusedVariables false
set_option linter.unusedSimpArgs false
def hasI (s : Nat) (i : Int) : Bool := decide (s &&& bit1 i ≠ 0)
theorem hasI_nat (s u : Nat) : hasI s ((u : Nat) : Int) = has s u := rfl
theorem hasI_in {s : Nat} {i : Int} (h : hasI s i = true) : ∃ u : Nat, u < 16 ∧ i = ((u : Nat) : Int) ∧ has s u = true := by
  unfold hasI at h
  have hb : bit1 i ≠ 0 := fun e => by rw [e] at h; simp at h
  unfold bit1 at hb
  split at hb
  · rename_i hi
    refine ⟨i.toNat, by omega, by omega, ?_⟩
    rw [← hasI_nat, Int.toNat_of_nonneg hi.1]
    exact h
  · exact absurd rfl hb
/-- What is asked of a role. -/
def passB (l : List Nat) (lk : Nat → Nat) (c : Nat → Int) (bad r : Nat) : Bool :=
  if l.length ≤ r then decide (c r = -1) else hasI (alB l bad r) (c r) && (decide (r + 1 = l.length) || hasI (lk (c r).toNat) (c (r + 1)))
theorem dfs_iff (v L : Nat → Nat → Bool) : ∀ (k r : Nat) (ok : Nat → Bool) (x : List Nat), x ∈ dfs v L k r ok ↔ x.length = k ∧ (∀ i, i < k → x.getD i 0 < 16 ∧ v (r + i) (x.getD i 0) = true) ∧ (0 < k → ok (x.getD 0 0) = true) ∧ ∀ i, i + 1 < k → L (x.getD i 0) (x.getD (i + 1) 0) = true
  | 0, r, ok, x => by
    constructor
    · intro h
      have : x = [] := by simpa [dfs] using h
      subst this
      exact ⟨rfl, fun i hi => absurd hi (by omega), fun h => absurd h (by omega), fun i hi => absurd hi (by omega)⟩
    · rintro ⟨h, _⟩
      have : x = [] := List.length_eq_zero_iff.1 h
      subst this
      simp [dfs]
  | k + 1, r, ok, x => by
    constructor
    · intro h
      obtain ⟨u, hu, hx⟩ := List.mem_flatMap.1 h
      obtain ⟨y, hy, rfl⟩ := List.mem_map.1 hx
      obtain ⟨h1, h2, h3, h4⟩ := (dfs_iff v L k (r + 1) (L u) y).1 hy
      obtain ⟨h5, h6⟩ := List.mem_filter.1 hu
      rw [Bool.and_eq_true] at h6
      refine ⟨by simp [h1], fun i hi => ?_, fun _ => h6.1, fun i hi => ?_⟩
      · cases i with
        | zero => exact ⟨List.mem_range.1 h5, h6.2⟩
        | succ i =>
          have := h2 i (by omega)
          rw [show r + 1 + i = r + (i + 1) by omega] at this
          exact this
      · cases i with
        | zero => exact h3 (by omega)
        | succ i => exact h4 i (by omega)
    · rintro ⟨h1, h2, h3, h4⟩
      cases x with
      | nil => simp at h1
      | cons u y =>
        refine List.mem_flatMap.2 ⟨u, List.mem_filter.2 ⟨List.mem_range.2 (h2 0 (by omega)).1, ?_⟩, List.mem_map.2 ⟨y, (dfs_iff v L k (r + 1) (L u) y).2 ⟨by simpa using h1, fun i hi => ?_, fun hk => ?_, fun i hi => ?_⟩, rfl⟩⟩
        · rw [Bool.and_eq_true]
          exact ⟨h3 (by omega), (h2 0 (by omega)).2⟩
        · have := h2 (i + 1) (by omega)
          rw [show r + (i + 1) = r + 1 + i by omega] at this
          exact this
        · exact h4 0 (by omega)
        · exact h4 (i + 1) (by omega)
/-- The chains that pass are those that are listed. -/
theorem pass_iff (l : List Nat) (lk : Nat → Nat) (c : Nat → Int) (bad : Nat) (h6 : l.length ≤ 6) : (∀ r, r < 6 → passB l lk c bad r = true) ↔ ∃ x, x ∈ DD l lk bad ∧ ∀ j, j < 6 → chainC x j = c j := by
  constructor
  · intro h
    have hin : ∀ r, r < l.length → ∃ u : Nat, u < 16 ∧ c r = ((u : Nat) : Int) ∧ has (alB l bad r) u = true ∧ (r + 1 < l.length → hasI (lk u) (c (r + 1)) = true) := fun r hr => by
      have := h r (by omega)
      unfold passB at this
      rw [if_neg (by omega), Bool.and_eq_true, Bool.or_eq_true, decide_eq_true_iff] at this
      obtain ⟨h1, h2⟩ := this
      obtain ⟨u, hu, hc, hh⟩ := hasI_in h1
      refine ⟨u, hu, hc, hh, fun h3 => ?_⟩
      rcases h2 with h2 | h2
      · omega
      · rw [hc, Int.toNat_natCast] at h2; exact h2
    refine ⟨(List.range l.length).map fun r => (c r).toNat, ?_, fun j hj => ?_⟩
    · have hg : ∀ i, i < l.length → ((List.range l.length).map fun r => (c r).toNat).getD i 0 = (c i).toNat := fun i hi => by simp [List.getD, hi]
      refine (dfs_iff _ _ _ _ _ _).2 ⟨by simp, fun i hi => ?_, fun _ => rfl, fun i hi => ?_⟩
      · rw [hg i hi]
        obtain ⟨u, hu, hc, hh, _⟩ := hin i hi
        rw [hc, Int.toNat_natCast, Nat.zero_add]
        exact ⟨hu, hh⟩
      · rw [hg i (by omega), hg (i + 1) hi]
        obtain ⟨u, hu, hc, _, hn⟩ := hin i (by omega)
        obtain ⟨t, ht, hd, _, _⟩ := hin (i + 1) hi
        have := hn hi
        rw [hd, hasI_nat] at this
        rw [hc, hd, Int.toNat_natCast, Int.toNat_natCast]
        exact this
    · unfold chainC
      rw [List.length_map, List.length_range]
      by_cases hl : j < l.length
      · rw [if_pos hl]
        obtain ⟨u, hu, hc, _⟩ := hin j hl
        simp [List.getD, hl, hc]
      · rw [if_neg hl]
        have := h j hj
        unfold passB at this
        rw [if_pos (by omega), decide_eq_true_iff] at this
        exact this.symm
  · rintro ⟨x, hx, hc⟩ r hr
    obtain ⟨h1, h2, _, h4⟩ := (dfs_iff _ _ _ _ _ _).1 hx
    unfold passB
    by_cases hl : l.length ≤ r
    · rw [if_pos hl, ← hc r hr]
      unfold chainC
      rw [if_neg (by omega)]
      rfl
    · rw [if_neg hl]
      have e : c r = ((x.getD r 0 : Nat) : Int) := by rw [← hc r hr]; unfold chainC; rw [if_pos (by omega)]
      obtain ⟨hu, hv⟩ := h2 r (by omega)
      rw [Nat.zero_add] at hv
      rw [e, hasI_nat, Int.toNat_natCast, show has (alB l bad r) (x.getD r 0) = true from hv, Bool.true_and, Bool.or_eq_true, decide_eq_true_iff]
      by_cases h5 : r + 1 = l.length
      · exact .inl h5
      · refine .inr ?_
        have e2 : c (r + 1) = ((x.getD (r + 1) 0 : Nat) : Int) := by rw [← hc (r + 1) (by omega)]; unfold chainC; rw [if_pos (by omega)]
        rw [e2, hasI_nat]
        exact h4 r (by omega)
def allB (b : Nat → Bool) : Bool := b 0 && b 1 && b 2 && b 3 && b 4 && b 5
theorem allB_iff (b : Nat → Bool) : allB b = true ↔ ∀ r, r < 6 → b r = true := by
  unfold allB
  simp only [Bool.and_eq_true]
  constructor
  · rintro ⟨⟨⟨⟨⟨h0, h1⟩, h2⟩, h3⟩, h4⟩, h5⟩ r hr
    rcases (by omega : r = 0 ∨ r = 1 ∨ r = 2 ∨ r = 3 ∨ r = 4 ∨ r = 5) with rfl | rfl | rfl | rfl | rfl | rfl <;> assumption
  · intro h
    exact ⟨⟨⟨⟨⟨h 0 (by omega), h 1 (by omega)⟩, h 2 (by omega)⟩, h 3 (by omega)⟩, h 4 (by omega)⟩, h 5 (by omega)⟩
theorem trv_link (x : Value) (lk : Nat → Nat) (c : Nat → Int) (bad : Nat) {u : Nat} (h : u < 16) : (#[x, .int .u16 ((lk 0 : Nat) : Int), .int .u16 ((lk 1 : Nat) : Int), .int .u16 ((lk 2 : Nat) : Int), .int .u16 ((lk 3 : Nat) : Int), .int .u16 ((lk 4 : Nat) : Int), .int .u16 ((lk 5 : Nat) : Int), .int .u16 ((lk 6 : Nat) : Int), .int .u16 ((lk 7 : Nat) : Int), .int .u16 ((lk 8 : Nat) : Int), .int .u16 ((lk 9 : Nat) : Int), .int .u16 ((lk 10 : Nat) : Int), .int .u16 ((lk 11 : Nat) : Int), .int .u16 ((lk 12 : Nat) : Int), .int .u16 ((lk 13 : Nat) : Int), .int .u16 ((lk 14 : Nat) : Int), .int .u16 ((lk 15 : Nat) : Int), .int .i8 (c 0), .int .i8 (c 1), .int .i8 (c 2), .int .i8 (c 3), .int .i8 (c 4), .int .i8 (c 5), .int .u16 ((bad : Nat) : Int)] : Array Value)[1 + u]? = some (.int .u16 ((lk u : Nat) : Int)) := by
  rcases (by omega : u = 0 ∨ u = 1 ∨ u = 2 ∨ u = 3 ∨ u = 4 ∨ u = 5 ∨ u = 6 ∨ u = 7 ∨ u = 8 ∨ u = 9 ∨ u = 10 ∨ u = 11 ∨ u = 12 ∨ u = 13 ∨ u = 14 ∨ u = 15) with rfl | rfl | rfl | rfl | rfl | rfl | rfl | rfl | rfl | rfl | rfl | rfl | rfl | rfl | rfl | rfl <;> rfl
theorem trv_unit (x : Value) (lk : Nat → Nat) (c : Nat → Int) (bad : Nat) {u : Nat} (h : u < 6) : (#[x, .int .u16 ((lk 0 : Nat) : Int), .int .u16 ((lk 1 : Nat) : Int), .int .u16 ((lk 2 : Nat) : Int), .int .u16 ((lk 3 : Nat) : Int), .int .u16 ((lk 4 : Nat) : Int), .int .u16 ((lk 5 : Nat) : Int), .int .u16 ((lk 6 : Nat) : Int), .int .u16 ((lk 7 : Nat) : Int), .int .u16 ((lk 8 : Nat) : Int), .int .u16 ((lk 9 : Nat) : Int), .int .u16 ((lk 10 : Nat) : Int), .int .u16 ((lk 11 : Nat) : Int), .int .u16 ((lk 12 : Nat) : Int), .int .u16 ((lk 13 : Nat) : Int), .int .u16 ((lk 14 : Nat) : Int), .int .u16 ((lk 15 : Nat) : Int), .int .i8 (c 0), .int .i8 (c 1), .int .i8 (c 2), .int .i8 (c 3), .int .i8 (c 4), .int .i8 (c 5), .int .u16 ((bad : Nat) : Int)] : Array Value)[17 + u]? = some (.int .i8 (c u)) := by
  rcases (by omega : u = 0 ∨ u = 1 ∨ u = 2 ∨ u = 3 ∨ u = 4 ∨ u = 5) with rfl | rfl | rfl | rfl | rfl | rfl <;> rfl
set_option maxRecDepth 100000 in
set_option maxHeartbeats 8000000 in
theorem passes_any {n : Nat} {w : World} {a : Option Addr} {len cap : Nat} {l : List Nat} {lk : Nat → Nat} (h : MapIs n w a len cap l lk) (c : Nat → Int) (bad r : Nat) (hbad : bad < 65536) (hc : ∀ k, k < 6 → -128 ≤ c k ∧ c k < 128) (hr : r < 6) :
    Calls Try.prog 78 #[.agg #[.slice a len cap, .int .u16 ((lk 0 : Nat) : Int), .int .u16 ((lk 1 : Nat) : Int), .int .u16 ((lk 2 : Nat) : Int), .int .u16 ((lk 3 : Nat) : Int), .int .u16 ((lk 4 : Nat) : Int), .int .u16 ((lk 5 : Nat) : Int), .int .u16 ((lk 6 : Nat) : Int), .int .u16 ((lk 7 : Nat) : Int), .int .u16 ((lk 8 : Nat) : Int), .int .u16 ((lk 9 : Nat) : Int), .int .u16 ((lk 10 : Nat) : Int), .int .u16 ((lk 11 : Nat) : Int), .int .u16 ((lk 12 : Nat) : Int), .int .u16 ((lk 13 : Nat) : Int), .int .u16 ((lk 14 : Nat) : Int), .int .u16 ((lk 15 : Nat) : Int), .int .i8 (c 0), .int .i8 (c 1), .int .i8 (c 2), .int .i8 (c 3), .int .i8 (c 4), .int .i8 (c 5), .int .u16 ((bad : Nat) : Int)], .int .i64 (r : Nat)] w fun e w' => e = .returned (.bool (passB l lk c bad r)) ∧ Below w.heap.size w w' := by
  have hq := (Bq.nil w).new #[.slice a len cap, .int .u16 ((lk 0 : Nat) : Int), .int .u16 ((lk 1 : Nat) : Int), .int .u16 ((lk 2 : Nat) : Int), .int .u16 ((lk 3 : Nat) : Int), .int .u16 ((lk 4 : Nat) : Int), .int .u16 ((lk 5 : Nat) : Int), .int .u16 ((lk 6 : Nat) : Int), .int .u16 ((lk 7 : Nat) : Int), .int .u16 ((lk 8 : Nat) : Int), .int .u16 ((lk 9 : Nat) : Int), .int .u16 ((lk 10 : Nat) : Int), .int .u16 ((lk 11 : Nat) : Int), .int .u16 ((lk 12 : Nat) : Int), .int .u16 ((lk 13 : Nat) : Int), .int .u16 ((lk 14 : Nat) : Int), .int .u16 ((lk 15 : Nat) : Int), .int .i8 (c 0), .int .i8 (c 1), .int .i8 (c 2), .int .i8 (c 3), .int .i8 (c 4), .int .i8 (c 5), .int .u16 ((bad : Nat) : Int)] 139
  have hal : alB l bad r = l.getD r 0 &&& (65535 - bad) := rfl
  obtain ⟨PB, hPB⟩ : ∃ PB, passB l lk c bad r = PB := ⟨_, rfl⟩
  rw [hPB]
  have HPB := Lib.hid (show PB = if l.length ≤ r then decide (c r = -1) else hasI (alB l bad r) (c r) && (decide (r + 1 = l.length) || hasI (lk (c r).toNat) (c (r + 1))) from hPB ▸ rfl)
  clear hPB
  obtain ⟨c0, c1⟩ := hc r hr
  have H := Lib.hid h
  have HC := Lib.hid hc
  have hle := h.hr.le
  have hlen := h.hl
  have hl6 := h.h6
  clear h hc
  go_enter Try.func78, Try.ntmps78
  go_upto_region 1 with fail
  obtain ⟨w1, hw1⟩ : ∃ w1, w1 = w.alloc (.cells #[.slice a len cap, .int .u16 ((lk 0 : Nat) : Int), .int .u16 ((lk 1 : Nat) : Int), .int .u16 ((lk 2 : Nat) : Int), .int .u16 ((lk 3 : Nat) : Int), .int .u16 ((lk 4 : Nat) : Int), .int .u16 ((lk 5 : Nat) : Int), .int .u16 ((lk 6 : Nat) : Int), .int .u16 ((lk 7 : Nat) : Int), .int .u16 ((lk 8 : Nat) : Int), .int .u16 ((lk 9 : Nat) : Int), .int .u16 ((lk 10 : Nat) : Int), .int .u16 ((lk 11 : Nat) : Int), .int .u16 ((lk 12 : Nat) : Int), .int .u16 ((lk 13 : Nat) : Int), .int .u16 ((lk 14 : Nat) : Int), .int .u16 ((lk 15 : Nat) : Int), .int .i8 (c 0), .int .i8 (c 1), .int .i8 (c 2), .int .i8 (c 3), .int .i8 (c 4), .int .i8 (c 5), .int .u16 ((bad : Nat) : Int)] 139) := ⟨_, rfl⟩
  obtain ⟨g0, hg0⟩ : ∃ b, b = w.heap.size := ⟨_, rfl⟩
  rw [← hw1] at hq ⊢
  rw [← hg0]
  have HQ := Lib.hid (show Bq w w1 [(g0, #[.slice a len cap, .int .u16 ((lk 0 : Nat) : Int), .int .u16 ((lk 1 : Nat) : Int), .int .u16 ((lk 2 : Nat) : Int), .int .u16 ((lk 3 : Nat) : Int), .int .u16 ((lk 4 : Nat) : Int), .int .u16 ((lk 5 : Nat) : Int), .int .u16 ((lk 6 : Nat) : Int), .int .u16 ((lk 7 : Nat) : Int), .int .u16 ((lk 8 : Nat) : Int), .int .u16 ((lk 9 : Nat) : Int), .int .u16 ((lk 10 : Nat) : Int), .int .u16 ((lk 11 : Nat) : Int), .int .u16 ((lk 12 : Nat) : Int), .int .u16 ((lk 13 : Nat) : Int), .int .u16 ((lk 14 : Nat) : Int), .int .u16 ((lk 15 : Nat) : Int), .int .i8 (c 0), .int .i8 (c 1), .int .i8 (c 2), .int .i8 (c 3), .int .i8 (c 4), .int .i8 (c 5), .int .u16 ((bad : Nat) : Int)], 139)] by rw [hg0]; exact hq)
  clear hw1 hg0 hq
  have b0 := HQ.out.of 0 rfl
  have k0 : w1.cell? ⟨g0, 0, none⟩ = some (.slice a len cap) := cell_of_row _ g0 0 _ _ _ b0
  have kr := cell_of_row _ g0 (17 + r) _ _ _ b0
  rw [trv_unit _ lk c bad hr] at kr
  obtain ⟨x, hx⟩ : ∃ x, c r = x := ⟨_, rfl⟩
  rw [hx] at kr c0 c1
  have HX := Lib.hid hx
  clear hx b0
  by_cases hlr : len ≤ r
  · have hP : PB = decide (x = -1) := by rw [HPB.out, if_pos (by omega), HX.out]
    have hge : ((len : Nat) : Int) ≤ ((r : Nat) : Int) := by omega
    obtain ⟨t, ht⟩ : ∃ t, decide (x = -1) = t := ⟨_, rfl⟩
    have hbt : (x == -1) = t := by rw [← ht]; exact Bool.eq_iff_iff.2 (by simp)
    have HT := Lib.hid (hP.trans ht)
    clear ht hP hlr
    go_wp2_with fail
    go_ret
    exact ⟨by rw [HT.out]; rfl, HQ.out.be⟩
  · have hge : ¬ ((len : Nat) : Int) ≤ ((r : Nat) : Int) := by omega
    have hrl : r < len := by omega
    rw [if_neg (by omega)] at HPB
    obtain ⟨b, off, rfl, hbn, hcr⟩ := H.out.hr.at hrl
    have hbw : b < w.heap.size := Nat.lt_of_lt_of_le hbn H.out.hn
    have hcr := (HQ.out.be.cell (p := ⟨b, off + r, none⟩) hbw).trans hcr
    unfold sv at hcr
    have hy : l.getD r 0 < 65536 := H.out.hv _ (by
      unfold List.getD
      rw [List.getElem?_eq_getElem (show r < l.length by omega)]
      exact List.getElem_mem _)
    obtain ⟨y, hye⟩ : ∃ y, y = l.getD r 0 := ⟨_, rfl⟩
    rw [← hye] at hcr hy hal
    obtain ⟨s, hse⟩ : ∃ s, alB l bad r = s := ⟨_, rfl⟩
    rw [hse] at hal HPB
    have hs16 : s < 65536 := by rw [hal]; exact Nat.lt_of_le_of_lt Nat.and_le_left hy
    have HAL := Lib.hid hal
    rw [HX.out] at HPB
    obtain ⟨hb, hhb⟩ : ∃ hb, hasI s x = hb := ⟨_, rfl⟩
    rw [hhb] at HPB
    have HH := Lib.hid hhb
    have kb : w1.cell? ⟨g0, 23, none⟩ = some (.int .u16 ((bad : Nat) : Int)) := cell_of_row _ g0 23 _ _ _ (HQ.out.of 0 rfl)
    have z0 := box_lt (HQ.out.of 0 rfl)
    have zb : b < w1.heap.size := Nat.lt_of_lt_of_le hbw HQ.out.be.size
    clear hye hse hal hhb hlr hbn
    go_upto_region 4 with fail
    obtain ⟨I, W, hne, hWI, hIW⟩ := Go.Mix.family (fun v => Below w1.heap.size w1 v) (Below.refl _ _)
    have HJ := Lib.hid hIW
    have HW := Lib.hid hWI
    clear hWI hIW
    refine Go.Flo3.wp_region (fun w' => ∃ i, w' = W i) 13 [Go.Flo.Spec.is (.int .u16 ((s : Nat) : Int)), Go.Flo.Spec.is (.bool hb)] (by kernel_rfl) (by kernel_rfl) (by decide) (by rintro _ w' ⟨i, rfl⟩ hb; exact HJ.out _ ((HW.out i).trans (hb.mono (HW.out i).size))) (HJ.out _ (Below.refl _ _).drew) ?_
    simp only [Go.Flo.pair, Go.Mix.calm, List.take, List.drop, if_true, Bool.false_eq_true, if_false, Nat.reduceAdd, Nat.reduceSub]
    have e0 : ∀ i, (W i).cell? ⟨g0, 0, none⟩ = some (.slice (some ⟨b, off, none⟩) len cap) := fun i => ((HW.out i).cell (p := ⟨g0, 0, none⟩) z0).trans k0
    have eb : ∀ i, (W i).cell? ⟨g0, 23, none⟩ = some (.int .u16 ((bad : Nat) : Int)) := fun i => ((HW.out i).cell (p := ⟨g0, 23, none⟩) z0).trans kb
    have er : ∀ i, (W i).cell? ⟨b, off + r, none⟩ = some (.int .u16 ((y : Nat) : Int)) := fun i => ((HW.out i).cell (p := ⟨b, off + r, none⟩) zb).trans hcr
    (repeat (first | (refine Go.Flo.fw_calm rfl ?_ (fun K hK => ?_); (first | exact Go.Mix.wanted_none rfl | exact Go.Mix.wanted_tt rfl rfl rfl | exact Go.Mix.wanted_ff rfl rfl rfl); go_big_quiet_op; refine hK _ ?_; clear hK K) | (refine Go.Flo.fw_skip ?_ (fun K hK => ?_); (first | exact Go.Mix.wanted_tf rfl rfl rfl | exact Go.Mix.wanted_ft rfl rfl rfl); go_simp; refine hK _ ?_; clear hK K) | (refine Go.Flo.fw_any rfl ?_ (fun K hK => ?_); (first | exact Go.Mix.wanted_none rfl | exact Go.Mix.wanted_tt rfl rfl rfl | exact Go.Mix.wanted_ff rfl rfl rfl); go_simp; (try (go_ints; try go_simp)); refine hK _ ?_; clear hK K)))
    refine Go.Flo.fw_loud rfl ?_ rfl (by simp) (fun wv hwv hav K hK => ?_) (fun v hv K hK => ?_)
    · (first | exact Go.Mix.wanted_none rfl | exact Go.Mix.wanted_tt rfl rfl rfl | exact Go.Mix.wanted_ff rfl rfl rfl)
    · obtain ⟨iv, rfl⟩ := hwv
      have hbv := HW.out iv
      (first | go_big_op | go_simp)
      go_at_call 73
      refine (Less_any y bad _ hy hbad).mono ?_
      rintro e w' ⟨rfl, hw⟩
      rw [← HAL.out]
      exact hK _ _ (Go.Flo.owes_is _ rfl (by rw [hw]; exact Below.refl _ _))
    obtain rfl := hv.is
    go_simp
    refine hK _ ?_
    clear hK K hv
    (repeat (first | (refine Go.Flo.fw_calm rfl ?_ (fun K hK => ?_); (first | exact Go.Mix.wanted_none rfl | exact Go.Mix.wanted_tt rfl rfl rfl | exact Go.Mix.wanted_ff rfl rfl rfl); go_big_quiet_op; refine hK _ ?_; clear hK K) | (refine Go.Flo.fw_skip ?_ (fun K hK => ?_); (first | exact Go.Mix.wanted_tf rfl rfl rfl | exact Go.Mix.wanted_ft rfl rfl rfl); go_simp; refine hK _ ?_; clear hK K) | (refine Go.Flo.fw_any rfl ?_ (fun K hK => ?_); (first | exact Go.Mix.wanted_none rfl | exact Go.Mix.wanted_tt rfl rfl rfl | exact Go.Mix.wanted_ff rfl rfl rfl); go_simp; (try (go_ints; try go_simp)); refine hK _ ?_; clear hK K)))
    refine Go.Flo.fw_loud rfl ?_ rfl (by simp) (fun wv hwv hav K hK => ?_) (fun v hv K hK => ?_)
    · (first | exact Go.Mix.wanted_none rfl | exact Go.Mix.wanted_tt rfl rfl rfl | exact Go.Mix.wanted_ff rfl rfl rfl)
    · obtain ⟨iv, rfl⟩ := hwv
      have hbv := HW.out iv
      (first | go_big_op | go_simp)
      go_at_call 41
      refine (Has_any s x _ hs16).mono ?_
      rintro e w' ⟨rfl, hbb⟩
      rw [show decide (s &&& bit1 x ≠ 0) = hb from HH.out]
      exact hK _ _ (Go.Flo.owes_is _ rfl hbb)
    obtain rfl := hv.is
    go_simp
    refine hK _ ?_
    clear hK K hv
    (repeat (first | (refine Go.Flo.fw_calm rfl ?_ (fun K hK => ?_); (first | exact Go.Mix.wanted_none rfl | exact Go.Mix.wanted_tt rfl rfl rfl | exact Go.Mix.wanted_ff rfl rfl rfl); go_big_quiet_op; refine hK _ ?_; clear hK K) | (refine Go.Flo.fw_skip ?_ (fun K hK => ?_); (first | exact Go.Mix.wanted_tf rfl rfl rfl | exact Go.Mix.wanted_ft rfl rfl rfl); go_simp; refine hK _ ?_; clear hK K) | (refine Go.Flo.fw_any rfl ?_ (fun K hK => ?_); (first | exact Go.Mix.wanted_none rfl | exact Go.Mix.wanted_tt rfl rfl rfl | exact Go.Mix.wanted_ff rfl rfl rfl); go_simp; (try (go_ints; try go_simp)); refine hK _ ?_; clear hK K)))
    refine Go.Flo.fw_nil ?_
    intro w4 hww4 hfw4 huw4
    obtain ⟨iend, hiend⟩ := hww4
    have hbw4 := HW.out iend
    rw [← hiend] at hbw4
    clear hiend iend huw4
    have HQ4 := Lib.hid (HQ.out.step hbw4)
    clear hfw4 HJ HW hne hbw4 e0 eb er k0 kr kb z0 zb hcr
    clear W I
    refine ⟨fun _ => True, trivial, ?_⟩

    refine Go.Mix.walk_nil ?_
    (try simp only [Act.put])
    have HPP := HPB
    cases hb
    · go_wp2_with fail
      go_ret
      exact ⟨by rw [HPP.out]; rfl, HQ4.out.be⟩
    · obtain ⟨u, hu, hxu, _⟩ := hasI_in HH.out
      subst hxu
      go_upto_region 7 with fail
      have k0 : w4.cell? ⟨g0, 0, none⟩ = some (.slice (some ⟨b, off, none⟩) len cap) := cell_of_row _ g0 0 _ _ _ (HQ4.out.of 0 rfl)
      have z0 := box_lt (HQ4.out.of 0 rfl)
      rw [Int.toNat_natCast, Bool.true_and] at HPP
      by_cases hn : r + 1 = len
      · have hne : ((r : Int) + 1 == (len : Int)) = true := by simp; omega
        have HF := Lib.hid (HPP.out.trans (show (decide (r + 1 = l.length) || hasI (lk u) (c (r + 1))) = true by rw [hlen, decide_eq_true hn]; rfl))
        have HB := Lib.hid (fun k => HQ4.out.be.trans (bel_drewV w4 k |>.mono HQ4.out.be.size))
        clear hn
        go_quiet (fail)
        go_wp2_with fail
        go_ret
        exact ⟨by rw [HF.out]; rfl, HB.out _⟩
      · have hne : ((r : Int) + 1 == (len : Int)) = false := by rw [beq_eq_false_iff_ne]; omega
        have hr6 : r + 1 < 6 := by omega
        have k1 := cell_of_row _ g0 (1 + u) _ _ _ (HQ4.out.of 0 rfl)
        rw [trv_link _ lk c bad hu] at k1
        have k2 := cell_of_row _ g0 (17 + (r + 1)) _ _ _ (HQ4.out.of 0 rfl)
        rw [trv_unit _ lk c bad hr6] at k2
        obtain ⟨d0, d1⟩ := HC.out (r + 1) hr6
        have hlu := H.out.hlk u
        obtain ⟨x2, hx2⟩ : ∃ x2, c (r + 1) = x2 := ⟨_, rfl⟩
        rw [hx2] at HPP k2 d0 d1
        obtain ⟨lu, hlue⟩ : ∃ lu, lk u = lu := ⟨_, rfl⟩
        rw [hlue] at HPP k1 hlu
        obtain ⟨h2, hh2⟩ : ∃ h2, hasI lu x2 = h2 := ⟨_, rfl⟩
        have HH2 := Lib.hid hh2
        have HF := Lib.hid (HPP.out.trans (show (decide (r + 1 = l.length) || hasI lu x2) = h2 by rw [hlen, decide_eq_false hn, hh2]; rfl))
        clear hn hx2 hlue hh2 HPP
        obtain ⟨I, W, hne, hWI, hIW⟩ := Go.Mix.family (fun v => Below w4.heap.size w4 v) (Below.refl _ _)
        have HJ := Lib.hid hIW
        have HW := Lib.hid hWI
        clear hWI hIW
        refine Go.Flo3.wp_region (fun w' => ∃ i, w' = W i) 20 [Go.Flo.Spec.is (.bool h2)] (by kernel_rfl) (by kernel_rfl) (by decide) (by rintro _ w' ⟨i, rfl⟩ hb; exact HJ.out _ ((HW.out i).trans (hb.mono (HW.out i).size))) (HJ.out _ (Below.refl _ _).drew) ?_
        simp only [Go.Flo.pair, Go.Mix.calm, List.take, List.drop, if_true, Bool.false_eq_true, if_false, Nat.reduceAdd, Nat.reduceSub]
        have e0 : ∀ i, (W i).cell? ⟨g0, 0, none⟩ = some (.slice (some ⟨b, off, none⟩) len cap) := fun i => ((HW.out i).cell (p := ⟨g0, 0, none⟩) z0).trans k0
        have e1 : ∀ i, (W i).cell? ⟨g0, 1 + u, none⟩ = some (.int .u16 ((lu : Nat) : Int)) := fun i => ((HW.out i).cell (p := ⟨g0, 1 + u, none⟩) z0).trans k1
        have e2 : ∀ i, (W i).cell? ⟨g0, 17 + (r + 1), none⟩ = some (.int .i8 x2) := fun i => ((HW.out i).cell (p := ⟨g0, 17 + (r + 1), none⟩) z0).trans k2
        (repeat (first | (refine Go.Flo.fw_calm rfl ?_ (fun K hK => ?_); (first | exact Go.Mix.wanted_none rfl | exact Go.Mix.wanted_tt rfl rfl rfl | exact Go.Mix.wanted_ff rfl rfl rfl); go_big_quiet_op; refine hK _ ?_; clear hK K) | (refine Go.Flo.fw_skip ?_ (fun K hK => ?_); (first | exact Go.Mix.wanted_tf rfl rfl rfl | exact Go.Mix.wanted_ft rfl rfl rfl); go_simp; refine hK _ ?_; clear hK K) | (refine Go.Flo.fw_any rfl ?_ (fun K hK => ?_); (first | exact Go.Mix.wanted_none rfl | exact Go.Mix.wanted_tt rfl rfl rfl | exact Go.Mix.wanted_ff rfl rfl rfl); go_simp; (try (go_ints; try go_simp)); refine hK _ ?_; clear hK K)))
        refine Go.Flo.fw_loud rfl ?_ rfl (by simp) (fun wv hwv hav K hK => ?_) (fun v hv K hK => ?_)
        · (first | exact Go.Mix.wanted_none rfl | exact Go.Mix.wanted_tt rfl rfl rfl | exact Go.Mix.wanted_ff rfl rfl rfl)
        · obtain ⟨iv, rfl⟩ := hwv
          have hbv := HW.out iv
          (first | go_big_op | go_simp)
          go_at_call 41
          refine (Has_any lu x2 _ hlu).mono ?_
          rintro e w' ⟨rfl, hbb⟩
          rw [show decide (lu &&& bit1 x2 ≠ 0) = h2 from HH2.out]
          exact hK _ _ (Go.Flo.owes_is _ rfl hbb)
        obtain rfl := hv.is
        go_simp
        refine hK _ ?_
        clear hK K hv
        (repeat (first | (refine Go.Flo.fw_calm rfl ?_ (fun K hK => ?_); (first | exact Go.Mix.wanted_none rfl | exact Go.Mix.wanted_tt rfl rfl rfl | exact Go.Mix.wanted_ff rfl rfl rfl); go_big_quiet_op; refine hK _ ?_; clear hK K) | (refine Go.Flo.fw_skip ?_ (fun K hK => ?_); (first | exact Go.Mix.wanted_tf rfl rfl rfl | exact Go.Mix.wanted_ft rfl rfl rfl); go_simp; refine hK _ ?_; clear hK K) | (refine Go.Flo.fw_any rfl ?_ (fun K hK => ?_); (first | exact Go.Mix.wanted_none rfl | exact Go.Mix.wanted_tt rfl rfl rfl | exact Go.Mix.wanted_ff rfl rfl rfl); go_simp; (try (go_ints; try go_simp)); refine hK _ ?_; clear hK K)))
        refine Go.Flo.fw_nil ?_
        intro w5 hww5 hfw5 huw5
        obtain ⟨iend, hiend⟩ := hww5
        have hbw5 := HW.out iend
        rw [← hiend] at hbw5
        clear hiend iend huw5
        have HQ5 := Lib.hid (HQ4.out.step hbw5)
        clear hfw5 HJ HW hne hbw5 e0 e1 e2 k0 k1 k2 z0
        clear W I
        refine ⟨fun _ => True, trivial, ?_⟩

        refine Go.Mix.walk_nil ?_
        (try simp only [Act.put])
        go_wp2_with fail
        go_ret
        exact ⟨by rw [HF.out]; rfl, HQ5.out.be⟩
theorem size_tr : (Try.prog.info? 139).map (·.size) = some 24 := by kernel_rfl
def upB (b : Nat → Bool) : Nat → Bool
  | 0 => true
  | k + 1 => upB b k && b k
theorem upB_six (b : Nat → Bool) : upB b 6 = allB b := by simp [upB, allB]
theorem upB_false (b : Nat → Bool) {k : Nat} (h : b k = false) (hk : k < 6) : allB b = false := by
  cases h2 : allB b
  · rfl
  · rw [(allB_iff b).1 h2 k hk] at h
    cases h
set_option maxRecDepth 100000 in
set_option maxHeartbeats 8000000 in
theorem forEach_any (rv : Value) (b : Nat → Bool) (w : World) (H : ∀ r, r < 6 → ∀ w', Below w.heap.size w w' → Calls Try.prog 78 #[rv, .int .i64 (r : Nat)] w' fun e w'' => e = .returned (.bool (b r)) ∧ Below w'.heap.size w' w'') :
    Calls Try.prog 77 #[.func (.func 78) #[rv] #[]] w fun e w' => e = .returned (.bool (allB b)) ∧ Below w.heap.size w w' := by
  have HH := Lib.hid H
  clear H
  go_enter Try.func77, Try.ntmps77
  go_wp2_with fail
  go_loopw [4] (fun v wr => ∃ k : Nat, k ≤ 6 ∧ v = .int .i64 (k : Nat) ∧ upB b k = true ∧ Below w.heap.size w wr) (fun v _ => 6 - (intOf v).toNat)
  case atStart => exact ⟨0, Nat.zero_le _, rfl, rfl, Below.refl _ _⟩
  case round =>
    obtain ⟨k, hk, rfl, hu, hb⟩ := hrel
    have HU := Lib.hid hu
    have HB := Lib.hid hb
    clear hu hb
    by_cases hlt : k < 6
    · go_wp2_with fail
      go_at_call 78
      refine (HH.out k hlt wr HB.out).mono ?_
      rintro e w2 ⟨rfl, hb⟩
      obtain ⟨t, ht⟩ : ∃ t, b k = t := ⟨_, rfl⟩
      rw [ht]
      have HT := Lib.hid ht
      have HB2 := Lib.hid (HB.out.trans (hb.mono HB.out.size))
      clear ht hb
      cases t
      · go_wp2_with fail
        go_ret
        exact ⟨by rw [upB_false b HT.out hlt]; rfl, HB2.out⟩
      · go_wp2_with fail
        go_roundw
        case rel => exact ⟨k + 1, by omega, by go_num, by show (upB b k && b k) = true; rw [HU.out, HT.out]; rfl, HB2.out⟩
        case measure => simp [intOf]; omega
    · obtain rfl : k = 6 := by omega
      go_wp2_with fail
      go_ret
      exact ⟨by rw [← upB_six, HU.out]; rfl, HB.out⟩
set_option maxRecDepth 100000 in
set_option maxHeartbeats 8000000 in
theorem Admits_any {n : Nat} {w : World} {a : Option Addr} {len cap : Nat} {l : List Nat} {lk : Nat → Nat} (h : MapIs n w a len cap l lk) (c : Nat → Int) (bad : Nat) (hbad : bad < 65536) (hc : ∀ k, k < 6 → -128 ≤ c k ∧ c k < 128) :
    Calls Try.prog 36 #[.agg #[.slice a len cap, .int .u16 ((lk 0 : Nat) : Int), .int .u16 ((lk 1 : Nat) : Int), .int .u16 ((lk 2 : Nat) : Int), .int .u16 ((lk 3 : Nat) : Int), .int .u16 ((lk 4 : Nat) : Int), .int .u16 ((lk 5 : Nat) : Int), .int .u16 ((lk 6 : Nat) : Int), .int .u16 ((lk 7 : Nat) : Int), .int .u16 ((lk 8 : Nat) : Int), .int .u16 ((lk 9 : Nat) : Int), .int .u16 ((lk 10 : Nat) : Int), .int .u16 ((lk 11 : Nat) : Int), .int .u16 ((lk 12 : Nat) : Int), .int .u16 ((lk 13 : Nat) : Int), .int .u16 ((lk 14 : Nat) : Int), .int .u16 ((lk 15 : Nat) : Int)], .agg #[.int .i8 (c 0), .int .i8 (c 1), .int .i8 (c 2), .int .i8 (c 3), .int .i8 (c 4), .int .i8 (c 5)], .int .u16 (bad : Nat)] w fun e w' => e = .returned (.bool (allB (passB l lk c bad))) ∧ Below w.heap.size w w' := by
  have hq := ((Bq.nil w).new #[.slice a len cap, .int .u16 ((lk 0 : Nat) : Int), .int .u16 ((lk 1 : Nat) : Int), .int .u16 ((lk 2 : Nat) : Int), .int .u16 ((lk 3 : Nat) : Int), .int .u16 ((lk 4 : Nat) : Int), .int .u16 ((lk 5 : Nat) : Int), .int .u16 ((lk 6 : Nat) : Int), .int .u16 ((lk 7 : Nat) : Int), .int .u16 ((lk 8 : Nat) : Int), .int .u16 ((lk 9 : Nat) : Int), .int .u16 ((lk 10 : Nat) : Int), .int .u16 ((lk 11 : Nat) : Int), .int .u16 ((lk 12 : Nat) : Int), .int .u16 ((lk 13 : Nat) : Int), .int .u16 ((lk 14 : Nat) : Int), .int .u16 ((lk 15 : Nat) : Int)] 65).new #[.int .i8 (c 0), .int .i8 (c 1), .int .i8 (c 2), .int .i8 (c 3), .int .i8 (c 4), .int .i8 (c 5)] 76
  simp only [World.size_alloc] at hq
  obtain ⟨R, hR⟩ : ∃ R, allB (passB l lk c bad) = R := ⟨_, rfl⟩
  rw [hR]
  have HR := Lib.hid hR
  have H := Lib.hid h
  have hl6 := h.h6
  clear h hR
  go_enter Try.func36, Try.ntmps36
  go_upto_region 1 with fail
  obtain ⟨w1, hw1⟩ : ∃ w1, w1 = (w.alloc (.cells #[.slice a len cap, .int .u16 ((lk 0 : Nat) : Int), .int .u16 ((lk 1 : Nat) : Int), .int .u16 ((lk 2 : Nat) : Int), .int .u16 ((lk 3 : Nat) : Int), .int .u16 ((lk 4 : Nat) : Int), .int .u16 ((lk 5 : Nat) : Int), .int .u16 ((lk 6 : Nat) : Int), .int .u16 ((lk 7 : Nat) : Int), .int .u16 ((lk 8 : Nat) : Int), .int .u16 ((lk 9 : Nat) : Int), .int .u16 ((lk 10 : Nat) : Int), .int .u16 ((lk 11 : Nat) : Int), .int .u16 ((lk 12 : Nat) : Int), .int .u16 ((lk 13 : Nat) : Int), .int .u16 ((lk 14 : Nat) : Int), .int .u16 ((lk 15 : Nat) : Int)] 65)).alloc (.cells #[.int .i8 (c 0), .int .i8 (c 1), .int .i8 (c 2), .int .i8 (c 3), .int .i8 (c 4), .int .i8 (c 5)] 76) := ⟨_, rfl⟩
  obtain ⟨g1, hg1⟩ : ∃ b, b = w.heap.size + 1 := ⟨_, rfl⟩
  rw [← hw1, ← hg1] at hq
  rw [← hw1, ← hg1]
  obtain ⟨g0, hg0⟩ : ∃ b, b = w.heap.size := ⟨_, rfl⟩
  rw [show (Value.pointer (some ⟨w.heap.size, 0, none⟩)) = .pointer (some ⟨g0, 0, none⟩) by rw [hg0]]
  have HQ := Lib.hid (show Bq w w1 [(g0, #[.slice a len cap, .int .u16 ((lk 0 : Nat) : Int), .int .u16 ((lk 1 : Nat) : Int), .int .u16 ((lk 2 : Nat) : Int), .int .u16 ((lk 3 : Nat) : Int), .int .u16 ((lk 4 : Nat) : Int), .int .u16 ((lk 5 : Nat) : Int), .int .u16 ((lk 6 : Nat) : Int), .int .u16 ((lk 7 : Nat) : Int), .int .u16 ((lk 8 : Nat) : Int), .int .u16 ((lk 9 : Nat) : Int), .int .u16 ((lk 10 : Nat) : Int), .int .u16 ((lk 11 : Nat) : Int), .int .u16 ((lk 12 : Nat) : Int), .int .u16 ((lk 13 : Nat) : Int), .int .u16 ((lk 14 : Nat) : Int), .int .u16 ((lk 15 : Nat) : Int)], 65), (g1, #[.int .i8 (c 0), .int .i8 (c 1), .int .i8 (c 2), .int .i8 (c 3), .int .i8 (c 4), .int .i8 (c 5)], 76)] by rw [hg0]; exact hq)
  clear hw1 hg1 hg0 hq
  have b0 := HQ.out.of 0 rfl
  have b1 := HQ.out.of 1 rfl
  have k0 : w1.cell? ⟨g0, 0, none⟩ = some (.slice a len cap) := cell_of_row _ g0 0 _ _ _ b0
  have hle : ((len : Nat) : Int) ≤ 6 := by omega
  have hle2 : decide (((len : Nat) : Int) ≤ 6) = true := decide_eq_true hle
  go_wp2_with (first | (refine wpLoadGT (by (first | exact Go.Mix.wanted_none rfl | exact Go.Mix.wanted_tt rfl rfl rfl | exact Go.Mix.wanted_ff rfl rfl rfl)) 65 _ rfl _ rfl _ _ _ _ b0 Try.underlying65 rfl (by exact size_mp) ?_; (try go_simp)) | (refine wpLoadGT (by (first | exact Go.Mix.wanted_none rfl | exact Go.Mix.wanted_tt rfl rfl rfl | exact Go.Mix.wanted_ff rfl rfl rfl)) 76 _ rfl _ rfl _ _ _ _ b1 Try.underlying76 rfl (by exact size_ch) ?_; (try go_simp)))
  go_at_call 77
  refine (forEach_any (.agg #[.slice a len cap, .int .u16 ((lk 0 : Nat) : Int), .int .u16 ((lk 1 : Nat) : Int), .int .u16 ((lk 2 : Nat) : Int), .int .u16 ((lk 3 : Nat) : Int), .int .u16 ((lk 4 : Nat) : Int), .int .u16 ((lk 5 : Nat) : Int), .int .u16 ((lk 6 : Nat) : Int), .int .u16 ((lk 7 : Nat) : Int), .int .u16 ((lk 8 : Nat) : Int), .int .u16 ((lk 9 : Nat) : Int), .int .u16 ((lk 10 : Nat) : Int), .int .u16 ((lk 11 : Nat) : Int), .int .u16 ((lk 12 : Nat) : Int), .int .u16 ((lk 13 : Nat) : Int), .int .u16 ((lk 14 : Nat) : Int), .int .u16 ((lk 15 : Nat) : Int), .int .i8 (c 0), .int .i8 (c 1), .int .i8 (c 2), .int .i8 (c 3), .int .i8 (c 4), .int .i8 (c 5), .int .u16 ((bad : Nat) : Int)]) (passB l lk c bad) w1 (fun r hr w' hb => passes_any (H.out.below (HQ.out.be.trans (hb.mono HQ.out.be.size))) c bad r hbad hc hr)).mono ?_
  rintro e w2 ⟨rfl, hb⟩
  rw [HR.out]
  have HQ2 := Lib.hid (HQ.out.step hb)
  clear hb b0 b1 k0
  go_wp2_with fail
  go_ret
  exact ⟨rfl, HQ2.out.be⟩
theorem admits_is (l : List Nat) (lk : Nat → Nat) (c : Nat → Int) (bad : Nat) (h6 : l.length ≤ 6) : allB (passB l lk c bad) = true ↔ ∃ x, x ∈ DD l lk bad ∧ ∀ j, j < 6 → chainC x j = c j := by
  rw [allB_iff, pass_iff l lk c bad h6]
/-- The roles in which chains differ. -/
def difL (c d : Nat → Int) (k : Nat) : List Int := ((List.range k).filter fun i => decide (c i ≠ d i)).map fun i => ((i : Nat) : Int)
theorem difL_snoc (c d : Nat → Int) (k : Nat) : difL c d (k + 1) = if c k ≠ d k then difL c d k ++ [((k : Nat) : Int)] else difL c d k := by
  unfold difL
  rw [List.range_succ, List.filter_append]
  by_cases h : c k ≠ d k <;> simp [h]
theorem difL_len (c d : Nat → Int) (k : Nat) : (difL c d k).length ≤ k := by
  unfold difL
  rw [List.length_map]
  refine Nat.le_trans (List.length_filter_le _ _) (by simp)
def zil (l : List Int) : List Value := l.map (Value.int .i64)
theorem zil_snoc (l : List Int) (x : Int) : zil (l ++ [x]) = zil l ++ [.int .i64 x] := by simp [zil]
set_option maxRecDepth 100000 in
set_option maxHeartbeats 8000000 in
theorem Differs_any (c d : Nat → Int) (w : World) : Calls Try.prog 42 #[.agg #[.int .i8 (c 0), .int .i8 (c 1), .int .i8 (c 2), .int .i8 (c 3), .int .i8 (c 4), .int .i8 (c 5)], .agg #[.int .i8 (d 0), .int .i8 (d 1), .int .i8 (d 2), .int .i8 (d 3), .int .i8 (d 4), .int .i8 (d 5)]] w fun e w' => ∃ v, e = .returned v ∧ w'.ownsRow w.heap.size 3 1 v (difL c d 6).length (zil (difL c d 6)) ∧ Below w.heap.size w w' := by
  obtain ⟨i0, hi, hz0, hz1, hz2⟩ := info_parts info_intZ
  have hq := ((Bq.nil w).new #[.int .i8 (c 0), .int .i8 (c 1), .int .i8 (c 2), .int .i8 (c 3), .int .i8 (c 4), .int .i8 (c 5)] 76).new #[.int .i8 (d 0), .int .i8 (d 1), .int .i8 (d 2), .int .i8 (d 3), .int .i8 (d 4), .int .i8 (d 5)] 76
  simp only [World.size_alloc] at hq
  go_enter Try.func42, Try.ntmps42
  go_upto_region 1 with fail
  obtain ⟨w1, hw1⟩ : ∃ w1, w1 = (w.alloc (.cells #[.int .i8 (c 0), .int .i8 (c 1), .int .i8 (c 2), .int .i8 (c 3), .int .i8 (c 4), .int .i8 (c 5)] 76)).alloc (.cells #[.int .i8 (d 0), .int .i8 (d 1), .int .i8 (d 2), .int .i8 (d 3), .int .i8 (d 4), .int .i8 (d 5)] 76) := ⟨_, rfl⟩
  obtain ⟨g1, hg1⟩ : ∃ b, b = w.heap.size + 1 := ⟨_, rfl⟩
  rw [← hw1, ← hg1] at hq
  rw [← hw1, ← hg1]
  obtain ⟨g0, hg0⟩ : ∃ b, b = w.heap.size := ⟨_, rfl⟩
  rw [show (Value.pointer (some ⟨w.heap.size, 0, none⟩)) = .pointer (some ⟨g0, 0, none⟩) by rw [hg0]]
  have HQ := Lib.hid (show Bq w w1 [(g0, #[.int .i8 (c 0), .int .i8 (c 1), .int .i8 (c 2), .int .i8 (c 3), .int .i8 (c 4), .int .i8 (c 5)], 76), (g1, #[.int .i8 (d 0), .int .i8 (d 1), .int .i8 (d 2), .int .i8 (d 3), .int .i8 (d 4), .int .i8 (d 5)], 76)] by rw [hg0]; exact hq)
  clear hw1 hg1 hg0 hq
  go_wp2_with fail
  go_loopw [5, 7] (fun v i wr => ∃ k : Nat, k ≤ 6 ∧ i = .int .i64 (k : Nat) ∧ wr.ownsRow w.heap.size 3 1 v (difL c d k).length (zil (difL c d k)) ∧ Bq w wr [(g0, #[.int .i8 (c 0), .int .i8 (c 1), .int .i8 (c 2), .int .i8 (c 3), .int .i8 (c 4), .int .i8 (c 5)], 76), (g1, #[.int .i8 (d 0), .int .i8 (d 1), .int .i8 (d 2), .int .i8 (d 3), .int .i8 (d 4), .int .i8 (d 5)], 76)]) (fun _ i _ => 6 - (intOf i).toNat)
  case atStart => exact ⟨0, Nat.zero_le _, rfl, World.ownsRow_nil _ _ _ _, HQ.out⟩
  case round =>
    clear HQ
    obtain ⟨k, hk, rfl, ho, hq⟩ := hrel
    have HO := Lib.hid ho
    have HQ := Lib.hid hq
    clear ho hq
    by_cases hlt : k < 6
    · have e1 := cell_of_row _ g0 k _ _ _ (HQ.out.of 0 rfl)
      rw [ch_cell c hlt] at e1
      have e2 := cell_of_row _ g1 k _ _ _ (HQ.out.of 1 rfl)
      rw [ch_cell d hlt] at e2
      have hsn := difL_snoc c d k
      have hdl := difL_len c d k
      obtain ⟨x, hx⟩ : ∃ x, c k = x := ⟨_, rfl⟩
      obtain ⟨y, hy⟩ : ∃ y, d k = y := ⟨_, rfl⟩
      rw [hx] at e1 hsn
      rw [hy] at e2 hsn
      have HQd := Lib.hid (fun n => HQ.out.step (bel_drewV wr n))
      have HOd := Lib.hid (fun n => own_keepZ HO.out (bel_drewV wr n))
      clear hx hy
      by_cases hxy : x = y
      · rw [if_neg (by simp [hxy])] at hsn
        have HS := Lib.hid hsn
        subst hxy
        have hne : (x != x) = false := by simp
        clear hsn
        go_upto_region 5 with fail
        go_quiet (fail)
        go_wp2_with fail
        go_roundw
        case rel => exact ⟨k + 1, by omega, by go_num, by rw [HS.out]; exact HOd.out _, HQd.out _⟩
        case measure => simp [intOf]; omega
      · rw [if_pos hxy] at hsn
        have HS := Lib.hid hsn
        have hne : (x != y) = true := by simp [hxy]
        clear hsn hxy
        go_upto_region 5 with fail
        go_quiet (fail)
        obtain ⟨w5, hw5⟩ : ∃ w5, w5 = wr.drewN nq := ⟨_, rfl⟩
        have HQ5 := Lib.hid (HQd.out nq)
        have HO5 := Lib.hid (HOd.out nq)
        rw [← hw5] at HQ5 HO5 ⊢
        have hs5 := HQ5.out.be.size
        clear hw5 HQd HOd HO HQ e1 e2
        go_wp2_with (at_builtin; refine wpList_append_own _ rfl _ _ 89 rfl w.heap.size 3 i0 (.int .i64 0) 1 8 Try.underlying89 hi hz0 hz1 hz2 rfl (by decide) _ _ _ rfl (HO5.out.alloc _) ⟨w5.heap.size, 0, none⟩ 1 1 [.int .i64 ((k : Nat) : Int)] rfl rfl (int_new _ _) (by simp [Value.oneCell']) (by unfold maxLen; omega) (by omega) (by simp; omega) ?_; intro v4 w4 hown4 hgr4 _; have HO4 := Lib.hid hown4; have HQ4 := Lib.hid ((HQ5.out.step ((Below.refl w5.heap.size w5).alloc (Nat.le_refl _) (.cells #[.int .i64 ((k : Nat) : Int)] 3))).app (HO5.out.alloc _) (Nat.le_refl _) hgr4 (by simp)); clear hown4 hgr4)
        go_roundw
        case rel =>
          refine ⟨k + 1, by omega, by go_num, ?_, HQ4.out⟩
          rw [HS.out, List.length_append, zil_snoc]
          exact HO4.out
        case measure => simp [intOf]; omega
    · obtain rfl : k = 6 := by omega
      go_wp2_with fail
      go_ret
      exact ⟨_, rfl, HO.out, HQ.out.be⟩
end Go.Proofs.Ytioclbkgfbjpdaa
