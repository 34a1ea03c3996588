/- Contracts of package crc: Right, Append, Cut, and the document's. -/
import Derived.Test.YtmihhapedpalmaaCrc
namespace Go.Proofs.Ytmihhapedpalmaa
open Go.RowKit Go.Own
set_option linter.unusedVariables false
set_option linter.unusedSimpArgs false

theorem rd_one {w : World} {g n : Nat} {v : Value} {t : TypeId} (h : w.heap[g]? = some (.cells #[v] t (0, 0))) (hg : g < n) : Rd n w (some ⟨g, 0, none⟩) 1 1 (fun _ => v) :=
  ⟨Nat.le_refl _, by unfold maxLen; omega, fun h => (by cases h), fun _ => ⟨g, 0, rfl, hg, fun i hi => by
    obtain rfl : i = 0 := by omega
    exact cell_of_row w g 0 _ _ _ h⟩⟩
theorem lt_of_heap {w : World} {g : Nat} {o : Obj} (h : w.heap[g]? = some o) : g < w.heap.size := by
  rcases Nat.lt_or_ge g w.heap.size with h' | h'
  · exact h'
  · rw [Array.getElem?_eq_none h'] at h; cases h
theorem flat_one (l : List Nat) : flat (fun _ => l) 1 = l := by simp [flat]
/-- The sum of one part. -/
theorem TSum1 {g : Nat} {a : Option Addr} {m c n : Nat} {t : TypeId} {l : List Nat} {w : World} (hl : l.length = m) (h : w.heap[g]? = some (.cells #[.slice a m c] t (0, 0))) (hr : Rd n w a m c (bv l)) (hn : n ≤ w.heap.size) (hb : bytes l) :
    Calls Try.prog 93 #[.agg tabV, .slice (some ⟨g, 0, none⟩) 1 1] w fun e w' => e = .returned (.int .u16 (Cr.sum l : Nat)) ∧ Below w.heap.size w w' := by
  subst hl
  have := TSum_any (some ⟨g, 0, none⟩) 1 1 w.heap.size (fun _ => a) (fun _ => c) (fun _ => l) w (Nat.le_refl _) (rd_one h (lt_of_heap h)) (fun _ _ => hr.mono hn) (fun _ _ => hb)
  rw [flat_one] at this
  exact this

theorem orJoin (x y : Nat) (hx : x < 256) (hy : y < 256) : bits .or .u16 ((x : Int) * 256) (y : Int) = (x : Int) * 256 + y :=
  bits_join .u16 16 (by decide) wraps_u16 8 _ _ (by omega) (by omega) (by omega) (by omega) (by omega) (by omega)

theorem own_base {w : World} {B B' : Nat} {e : TypeId} {v : Value} {m : Nat} {xs : List Value} (h : w.ownsRow B' e 1 v m xs) (hB : B ≤ B') : w.ownsRow B e 1 v m xs := by
  obtain ⟨h1, h2 | ⟨g, cap, cur, hv, hg, hr⟩⟩ := h
  · exact ⟨h1, .inl h2⟩
  · exact ⟨h1, .inr ⟨g, cap, cur, hv, by omega, hr⟩⟩
theorem cells_two (w : World) (x y : Value) (t : TypeId) : ∀ j u, [x, y][j]? = some u → (w.alloc (.cells #[x, y] t)).cell? ((⟨w.heap.size, 0, none⟩ : Addr).add j) = some u := by
  intro j u hj
  match j with
  | 0 => simp at hj; subst hj; exact cell_of_row _ w.heap.size 0 _ _ _ (heap_alloc_new w _)
  | 1 => simp at hj; subst hj; exact cell_of_row _ w.heap.size 1 _ _ _ (heap_alloc_new w _)
  | j + 2 => simp at hj
def rightB (l : List Nat) : Bool := decide (2 ≤ l.length ∧ Cr.sum (l.take (l.length - 2)) = l.getD (l.length - 2) 0 * 256 + l.getD (l.length - 1) 0)

set_option maxRecDepth 100000 in
set_option maxHeartbeats 2000000 in
theorem TRight_any (a : Option Addr) (len cap n : Nat) (l : List Nat) (w : World) (hl : l.length = len) (hn : n ≤ w.heap.size) (hr : Rd n w a len cap (bv l)) (hb : bytes l) :
    Calls Try.prog 95 #[.agg tabV, .slice a len cap] w fun e w' => e = .returned (.bool (rightB l)) ∧ Below w.heap.size w w' := by
  have h1 := hr.le
  have h2 := hr.top
  unfold maxLen at h2
  by_cases h : len < 2
  · have hR : rightB l = false := by unfold rightB; simp; omega
    have HR := Lib.hid hR
    clear hR
    go_enter Try.func95, Try.ntmps95
    go_wp2
    go_ret
    exact ⟨by rw [HR.out]; rfl, (Below.refl _ _).alloc (Nat.le_refl _) _⟩
  · obtain ⟨k, hk⟩ : ∃ k, len = k + 2 := ⟨len - 2, by omega⟩
    subst hk
    obtain ⟨b, off, rfl, hbn, hc⟩ := hr.row (by omega)
    have c0 := hc k (by omega)
    have c1 := hc (k + 1) (by omega)
    unfold bv at c0 c1
    have hx := hb.at k
    have hy := hb.at (k + 1)
    have hsl := Cr.sum_lt _ (hb.take k)
    have hRR : rightB l = decide (Cr.sum (l.take k) = l.getD k 0 * 256 + l.getD (k + 1) 0) := by
      unfold rightB
      rw [hl, show k + 2 - 2 = k by omega, show k + 2 - 1 = k + 1 by omega]
      simp
    obtain ⟨x, hx'⟩ : ∃ x, x = l.getD k 0 := ⟨_, rfl⟩
    obtain ⟨y, hy'⟩ : ∃ y, y = l.getD (k + 1) 0 := ⟨_, rfl⟩
    obtain ⟨s, hs'⟩ : ∃ s, s = Cr.sum (l.take k) := ⟨_, rfl⟩
    rw [← hx'] at c0 hx hRR
    rw [← hy'] at c1 hy hRR
    rw [← hs'] at hsl hRR
    have HS := Lib.hid hs'
    have HRR := Lib.hid hRR
    have hrk := hr.first (k := k) (by omega)
    have HRK := Lib.hid hrk
    have HL := Lib.hid hl
    clear hRR hs' hx' hy' hc hr hrk hl
    go_enter Try.func95, Try.ntmps95
    go_wp2
    have hT := IsTab.new w
    have hB0 : Below w.heap.size w (w.alloc (.cells tabV 143)) := (Below.refl _ _).alloc (Nat.le_refl _) _
    have HRK := HRK.out.below' hB0 hn
    have HRK := HRK.same (g := bv (l.take k)) (fun i hi => by unfold bv; simp [List.getD, hi])
    obtain ⟨w1, hw1⟩ : ∃ w1, w1 = w.alloc (.cells tabV 143) := ⟨_, rfl⟩
    obtain ⟨gt, hgt⟩ : ∃ gt, gt = w.heap.size := ⟨_, rfl⟩
    have d0 : w1.cell? ⟨b, off + k, none⟩ = some (.int .u8 (x : Int)) := by rw [hw1, hB0.cell (p := ⟨b, off + k, none⟩) (Nat.lt_of_lt_of_le hbn hn)]; exact c0
    have d1 : w1.cell? ⟨b, off + (k + 1), none⟩ = some (.int .u8 (y : Int)) := by rw [hw1, hB0.cell (p := ⟨b, off + (k + 1), none⟩) (Nat.lt_of_lt_of_le hbn hn)]; exact c1
    have hg1 : gt < w1.heap.size := by rw [hw1, hgt]; simp
    have hbw : b < w1.heap.size := by rw [hw1]; simp; omega
    have hnw : n ≤ w1.heap.size := by rw [hw1]; simp; omega
    rw [← hw1] at hT hB0 HRK ⊢
    rw [← hgt] at hT ⊢
    have HB0 := Lib.hid hB0
    have hor : bits .or .u16 ((x : Int) * 256) (y : Int) = (x : Int) * 256 + y := orJoin x y hx hy
    clear hw1 hgt c0 c1 hB0
    obtain ⟨I, W, hne, hWI, hIW⟩ := Go.Mix.family (fun v => Below w1.heap.size w1 v) (Below.refl _ _)
    have HJ := Lib.hid hIW
    have HW := Lib.hid hWI
    clear hWI hIW
    refine Go.Flo.wp_region (fun w' => ∃ i, w' = W i) 21 [Go.Flo.Spec.row w1.heap.size 1 #[.slice (some ⟨b, off, none⟩) k cap] 54, Go.Flo.Spec.is (.int .u16 (s : Nat))] (by kernel_rfl) (by kernel_rfl) (by decide) (by rintro _ w' ⟨i, rfl⟩ hb; exact HJ.out _ ((HW.out i).trans (hb.mono (HW.out i).size))) (HJ.out _ (Below.refl _ _).drew) ?_
    simp only [Go.Flo.pair, Go.Mix.calm, List.take, List.drop, if_true, Bool.false_eq_true, if_false, Nat.reduceAdd, Nat.reduceSub]
    have e0 : ∀ i, (W i).cell? ⟨b, off + k, none⟩ = some (.int .u8 (x : Int)) := fun i => ((HW.out i).cell hbw).trans d0
    have e1 : ∀ i, (W i).cell? ⟨b, off + (k + 1), none⟩ = some (.int .u8 (y : Int)) := fun i => ((HW.out i).cell hbw).trans d1
    clear d0 d1
    (refine Go.Flo.fw_calm rfl ?_ (fun K hK => ?_); (first | exact Go.Mix.wanted_none rfl | exact Go.Mix.wanted_tt rfl rfl rfl | exact Go.Mix.wanted_ff rfl rfl rfl); refine Go.Flo.quiet_load_row 143 _ rfl gt rfl _ _ _ (by rintro _ ⟨i, rfl⟩; exact hT.below (HW.out i) hg1) Try.underlying143 rfl size_tab' ?_; go_simp; refine hK _ ?_; clear hK K)
    (repeat (first | (refine Go.Flo.fw_calm rfl ?_ (fun K hK => ?_); (first | exact Go.Mix.wanted_none rfl | exact Go.Mix.wanted_tt rfl rfl rfl | exact Go.Mix.wanted_ff rfl rfl rfl); go_big_quiet_op; refine hK _ ?_; clear hK K) | (refine Go.Flo.fw_skip ?_ (fun K hK => ?_); (first | exact Go.Mix.wanted_tf rfl rfl rfl | exact Go.Mix.wanted_ft rfl rfl rfl); go_simp; refine hK _ ?_; clear hK K) | (refine Go.Flo.fw_any rfl ?_ (fun K hK => ?_); (first | exact Go.Mix.wanted_none rfl | exact Go.Mix.wanted_tt rfl rfl rfl | exact Go.Mix.wanted_ff rfl rfl rfl); go_simp; (try (go_ints; try go_simp)); refine hK _ ?_; clear hK K)))
    refine Go.Flo.fw_loud rfl ?_ rfl (by simp) (fun wv hwv hav K hK => ?_) (fun v hv K hK => ?_)
    · (first | exact Go.Mix.wanted_none rfl | exact Go.Mix.wanted_tt rfl rfl rfl | exact Go.Mix.wanted_ff rfl rfl rfl)
    · obtain ⟨iv, rfl⟩ := hwv
      (first | go_big_op | go_simp)
      refine hK _ _ (Go.Flo.owes_row (HW.out iv).size)
    obtain ⟨g1, hg1, rfl⟩ := hv.row
    go_simp
    refine hK _ ?_
    clear hK K hv
    refine Go.Flo.fw_loud rfl ?_ rfl (by simp) (fun wv hwv hav K hK => ?_) (fun v hv K hK => ?_)
    · (first | exact Go.Mix.wanted_none rfl | exact Go.Mix.wanted_tt rfl rfl rfl | exact Go.Mix.wanted_ff rfl rfl rfl)
    · obtain ⟨iv, rfl⟩ := hwv
      have hbv := HW.out iv
      (first | go_big_op | go_simp)
      have hs1 := Go.Flo.says_row ((hav 16 (by decide +kernel)).2 rfl).1
      go_at_call 93
      refine (TSum1 (l := l.take k) (by rw [List.length_take, HL.out]; omega) hs1 (HRK.below' hbv hnw) (Nat.le_trans hnw hbv.size) (hb.take k)).mono ?_
      rintro e w' ⟨rfl, hbb⟩
      rw [← HS.out]
      exact hK _ _ (Go.Flo.owes_is _ rfl hbb)
    obtain rfl := hv.is
    go_simp
    refine hK _ ?_
    clear hK K hv
    (repeat (first | (refine Go.Flo.fw_calm rfl ?_ (fun K hK => ?_); (first | exact Go.Mix.wanted_none rfl | exact Go.Mix.wanted_tt rfl rfl rfl | exact Go.Mix.wanted_ff rfl rfl rfl); go_big_quiet_op; refine hK _ ?_; clear hK K) | (refine Go.Flo.fw_skip ?_ (fun K hK => ?_); (first | exact Go.Mix.wanted_tf rfl rfl rfl | exact Go.Mix.wanted_ft rfl rfl rfl); go_simp; refine hK _ ?_; clear hK K) | (refine Go.Flo.fw_any rfl ?_ (fun K hK => ?_); (first | exact Go.Mix.wanted_none rfl | exact Go.Mix.wanted_tt rfl rfl rfl | exact Go.Mix.wanted_ff rfl rfl rfl); go_simp; (try (go_ints; try go_simp)); refine hK _ ?_; clear hK K)))
    refine Go.Flo.fw_nil ?_
    intro w2 hww2 hfw2 huw2
    refine Go.Flo.tw_nil ?_
    obtain ⟨iend, hiend⟩ := hww2
    have hbw2 := HW.out iend
    rw [← hiend] at hbw2
    clear hiend iend huw2
    clear hfw2
    go_wp2
    go_ret
    refine ⟨?_, HB0.out.trans (hbw2.mono HB0.out.size)⟩
    show Ending.returned (.bool _) = _
    rw [HRR.out]
    congr 2
    rw [Bool.eq_iff_iff]
    simp
    omega

theorem val_two (l : List Nat) (k : Nat) (h : l.length = k + 2) : val (l.drop k) = 256 * l.getD k 0 + l.getD (k + 1) 0 := by
  have e : l.drop k = [l.getD k 0, l.getD (k + 1) 0] := by
    apply List.ext_getElem?
    intro i
    rw [List.getElem?_drop]
    match i with
    | 0 => simp [List.getD, h]
    | 1 => simp [List.getD, h]
    | i + 2 => simp; omega
  rw [e]
  simp [val]

set_option maxRecDepth 100000 in
set_option maxHeartbeats 2000000 in
theorem rRight_any (a : Option Addr) (len cap n : Nat) (l : List Nat) (w : World) (hl : l.length = len) (hn : n ≤ w.heap.size) (hr : Rd n w a len cap (bv l)) (hb : bytes l) :
    Calls Try.prog 89 #[.slice a len cap] w fun e w' => e = .returned (.bool (rightB l)) ∧ Below w.heap.size w w' := by
  have h1 := hr.le
  have h2 := hr.top
  unfold maxLen at h2
  by_cases h : len < 2
  · have hR : rightB l = false := by unfold rightB; simp; omega
    have HR := Lib.hid hR
    have hge : decide (0 ≤ (len : Int) - 2) = false := by simp; omega
    have hge2 : decide (2 ≤ (len : Int)) = false := by simp; omega
    clear hR
    go_enter Try.func89, Try.ntmps89
    go_wp2
    obtain ⟨I, W, hne, hWI, hIW⟩ := Go.Mix.family (fun v => Below w.heap.size w v) (Below.refl _ _)
    have HJ := Lib.hid hIW
    have HW := Lib.hid hWI
    clear hWI hIW
    refine Go.Flo.wp_region (fun w' => ∃ i, w' = W i) 15 [] (by kernel_rfl) (by kernel_rfl) (by decide) (by rintro _ w' ⟨i, rfl⟩ hb; exact HJ.out _ ((HW.out i).trans (hb.mono (HW.out i).size))) (HJ.out _ (Below.refl _ _).drew) ?_
    simp only [Go.Flo.pair, Go.Mix.calm, List.take, List.drop, if_true, Bool.false_eq_true, if_false, Nat.reduceAdd, Nat.reduceSub]
    (repeat (first | (refine Go.Flo.fw_calm rfl ?_ (fun K hK => ?_); (first | exact Go.Mix.wanted_none rfl | exact Go.Mix.wanted_tt rfl rfl rfl | exact Go.Mix.wanted_ff rfl rfl rfl); go_big_quiet_op; refine hK _ ?_; clear hK K) | (refine Go.Flo.fw_skip ?_ (fun K hK => ?_); (first | exact Go.Mix.wanted_tf rfl rfl rfl | exact Go.Mix.wanted_ft rfl rfl rfl); go_simp; refine hK _ ?_; clear hK K) | (refine Go.Flo.fw_any rfl ?_ (fun K hK => ?_); (first | exact Go.Mix.wanted_none rfl | exact Go.Mix.wanted_tt rfl rfl rfl | exact Go.Mix.wanted_ff rfl rfl rfl); go_simp; (try (go_ints; try go_simp)); refine hK _ ?_; clear hK K)))
    refine Go.Flo.fw_nil ?_
    intro w2 hww2 hfw2 huw2
    refine Go.Flo.tw_nil ?_
    obtain ⟨iend, hiend⟩ := hww2
    have hbw2 := HW.out iend
    rw [← hiend] at hbw2
    clear hiend iend huw2
    clear hfw2
    go_wp2
    go_ret
    exact ⟨by rw [HR.out]; rfl, hbw2⟩
  · obtain ⟨k, hk⟩ : ∃ k, len = k + 2 := ⟨len - 2, by omega⟩
    subst hk
    obtain ⟨b, off, rfl, hbn, hc⟩ := hr.row (by omega)
    have hrk := (hr.first (k := k) (by omega)).same (g := bv (l.take k)) (fun i hi => by unfold bv; simp [List.getD, hi])
    have hrr := (hr.rest (k := k) (by omega)).same (g := bv (l.drop k)) (fun i hi => by unfold bv; simp [List.getD])
    have hadd : (if cap = k then some (⟨b, off, none⟩ : Addr) else (some ⟨b, off, none⟩ : Option Addr).map (·.add k)) = some ⟨b, off + k, none⟩ := by
      rw [if_neg (by omega)]
      simp only [Option.map_some, Addr.add]
      split
      · rename_i e; subst e; rfl
      · rfl
    rw [hadd, show k + 2 - k = 2 by omega] at hrr
    have hsl := Cr.sum_lt _ (hb.take k)
    have hv := val_two l k hl
    have hRR : rightB l = decide (val (l.drop k) = Cr.sum (l.take k)) := by
      unfold rightB
      rw [hl, show k + 2 - 2 = k by omega, show k + 2 - 1 = k + 1 by omega, hv]
      rw [Bool.eq_iff_iff]
      simp
      omega
    obtain ⟨s, hs'⟩ : ∃ s, s = Cr.sum (l.take k) := ⟨_, rfl⟩
    obtain ⟨v, hv'⟩ : ∃ v, v = val (l.drop k) := ⟨_, rfl⟩
    rw [← hs'] at hsl hRR
    rw [← hv'] at hRR
    have HS := Lib.hid hs'
    have HV := Lib.hid hv'
    have HRR := Lib.hid hRR
    have HRK := Lib.hid hrk
    have HRT := Lib.hid hrr
    have HL := Lib.hid hl
    clear hRR hs' hv' hc hr hrk hrr hl hv hadd
    go_enter Try.func89, Try.ntmps89
    go_wp2
    obtain ⟨I, W, hne, hWI, hIW⟩ := Go.Mix.family (fun v => Below w.heap.size w v) (Below.refl _ _)
    have HJ := Lib.hid hIW
    have HW := Lib.hid hWI
    clear hWI hIW
    refine Go.Flo.wp_region (fun w' => ∃ i, w' = W i) 15 [Go.Flo.Spec.is (.int .u64 (v : Nat)), Go.Flo.Spec.is (.int .u16 (s : Nat))] (by kernel_rfl) (by kernel_rfl) (by decide) (by rintro _ w' ⟨i, rfl⟩ hb; exact HJ.out _ ((HW.out i).trans (hb.mono (HW.out i).size))) (HJ.out _ (Below.refl _ _).drew) ?_
    simp only [Go.Flo.pair, Go.Mix.calm, List.take, List.drop, if_true, Bool.false_eq_true, if_false, Nat.reduceAdd, Nat.reduceSub]
    (repeat (first | (refine Go.Flo.fw_calm rfl ?_ (fun K hK => ?_); (first | exact Go.Mix.wanted_none rfl | exact Go.Mix.wanted_tt rfl rfl rfl | exact Go.Mix.wanted_ff rfl rfl rfl); go_big_quiet_op; refine hK _ ?_; clear hK K) | (refine Go.Flo.fw_skip ?_ (fun K hK => ?_); (first | exact Go.Mix.wanted_tf rfl rfl rfl | exact Go.Mix.wanted_ft rfl rfl rfl); go_simp; refine hK _ ?_; clear hK K) | (refine Go.Flo.fw_any rfl ?_ (fun K hK => ?_); (first | exact Go.Mix.wanted_none rfl | exact Go.Mix.wanted_tt rfl rfl rfl | exact Go.Mix.wanted_ff rfl rfl rfl); go_simp; (try (go_ints; try go_simp)); refine hK _ ?_; clear hK K)))
    refine Go.Flo.fw_loud rfl ?_ rfl (by simp) (fun wv hwv hav K hK => ?_) (fun v hv K hK => ?_)
    · (first | exact Go.Mix.wanted_none rfl | exact Go.Mix.wanted_tt rfl rfl rfl | exact Go.Mix.wanted_ff rfl rfl rfl)
    · obtain ⟨iv, rfl⟩ := hwv
      have hbv := HW.out iv
      (first | go_big_op | go_simp)
      go_at_call 34
      refine (Value_any _ _ _ n (l.drop k) _ (by rw [List.length_drop, HL.out]; omega) (HRT.out.below' hbv hn) (hb.drop k) (by omega)).mono ?_
      rintro e w' ⟨rfl, rfl⟩
      rw [← HV.out]
      exact hK _ _ (Go.Flo.owes_is _ rfl (Below.refl _ _))
    obtain rfl := hv.is
    go_simp
    refine hK _ ?_
    clear hK K hv
    (repeat (first | (refine Go.Flo.fw_calm rfl ?_ (fun K hK => ?_); (first | exact Go.Mix.wanted_none rfl | exact Go.Mix.wanted_tt rfl rfl rfl | exact Go.Mix.wanted_ff rfl rfl rfl); go_big_quiet_op; refine hK _ ?_; clear hK K) | (refine Go.Flo.fw_skip ?_ (fun K hK => ?_); (first | exact Go.Mix.wanted_tf rfl rfl rfl | exact Go.Mix.wanted_ft rfl rfl rfl); go_simp; refine hK _ ?_; clear hK K) | (refine Go.Flo.fw_any rfl ?_ (fun K hK => ?_); (first | exact Go.Mix.wanted_none rfl | exact Go.Mix.wanted_tt rfl rfl rfl | exact Go.Mix.wanted_ff rfl rfl rfl); go_simp; (try (go_ints; try go_simp)); refine hK _ ?_; clear hK K)))
    refine Go.Flo.fw_loud rfl ?_ rfl (by simp) (fun wv hwv hav K hK => ?_) (fun v hv K hK => ?_)
    · (first | exact Go.Mix.wanted_none rfl | exact Go.Mix.wanted_tt rfl rfl rfl | exact Go.Mix.wanted_ff rfl rfl rfl)
    · obtain ⟨iv, rfl⟩ := hwv
      have hbv := HW.out iv
      (first | go_big_op | go_simp)
      go_at_call 66
      refine (rSum_any _ _ _ n (l.take k) _ (by rw [List.length_take, HL.out]; omega) (HRK.out.below' hbv hn) (hb.take k)).mono ?_
      rintro e w' ⟨rfl, rfl⟩
      rw [← HS.out]
      exact hK _ _ (Go.Flo.owes_is _ rfl (Below.refl _ _))
    obtain rfl := hv.is
    go_simp
    refine hK _ ?_
    clear hK K hv
    (repeat (first | (refine Go.Flo.fw_calm rfl ?_ (fun K hK => ?_); (first | exact Go.Mix.wanted_none rfl | exact Go.Mix.wanted_tt rfl rfl rfl | exact Go.Mix.wanted_ff rfl rfl rfl); go_big_quiet_op; refine hK _ ?_; clear hK K) | (refine Go.Flo.fw_skip ?_ (fun K hK => ?_); (first | exact Go.Mix.wanted_tf rfl rfl rfl | exact Go.Mix.wanted_ft rfl rfl rfl); go_simp; refine hK _ ?_; clear hK K) | (refine Go.Flo.fw_any rfl ?_ (fun K hK => ?_); (first | exact Go.Mix.wanted_none rfl | exact Go.Mix.wanted_tt rfl rfl rfl | exact Go.Mix.wanted_ff rfl rfl rfl); go_simp; (try (go_ints; try go_simp)); refine hK _ ?_; clear hK K)))
    refine Go.Flo.fw_nil ?_
    intro w2 hww2 hfw2 huw2
    refine Go.Flo.tw_nil ?_
    obtain ⟨iend, hiend⟩ := hww2
    have hbw2 := HW.out iend
    rw [← hiend] at hbw2
    clear hiend iend huw2
    clear hfw2
    go_wp2
    go_ret
    refine ⟨?_, hbw2⟩
    show Ending.returned (.bool _) = _
    rw [HRR.out]
    congr 2
    rw [Bool.eq_iff_iff]
    simp
    omega

theorem rd_two {w : World} {g n : Nat} {u v : Value} {t : TypeId} (h : w.heap[g]? = some (.cells #[u, v] t (0, 0))) (hg : g < n) : Rd n w (some ⟨g, 0, none⟩) 2 2 (fun i => if i = 0 then u else v) :=
  ⟨Nat.le_refl _, by unfold maxLen; omega, fun h => (by cases h), fun _ => ⟨g, 0, rfl, hg, fun i hi => by
    have : i = 0 ∨ i = 1 := by omega
    rcases this with rfl | rfl
    · exact cell_of_row w g 0 _ _ _ h
    · exact cell_of_row w g 1 _ _ _ h⟩⟩
theorem two_slices {a b : Option Addr} {la lb ca cb : Nat} (l m : List Nat) (hl : l.length = la) (hm : m.length = lb) : (fun i => if i = 0 then Value.slice a la ca else .slice b lb cb) = fun i => .slice ((fun i => if i = 0 then a else b) i) ((fun i => if i = 0 then l else m) i).length ((fun i => if i = 0 then ca else cb) i) := by
  subst hl hm
  funext i
  by_cases h : i = 0 <;> simp [h]
theorem flat_two (l m : List Nat) : flat (fun i => if i = 0 then l else m) 2 = l ++ m := by simp [flat, List.range_succ]
theorem Join2 {g : Nat} {a b : Option Addr} {la lb ca cb n n' : Nat} {t : TypeId} {l m : List Nat} {w : World} (hl : l.length = la) (hm : m.length = lb) (h : w.heap[g]? = some (.cells #[.slice a la ca, .slice b lb cb] t (0, 0))) (ra : Rd n w a la ca (bv l)) (rb : Rd n' w b lb cb (bv m)) (hn : n ≤ w.heap.size) (hn' : n' ≤ w.heap.size) (hs : (l ++ m).length ≤ 140737488355328) :
    Calls Try.prog 29 #[.slice (some ⟨g, 0, none⟩) 2 2] w fun e w' => ∃ v, e = .returned v ∧ w'.ownsRow w.heap.size 5 1 v (l ++ m).length (bl (l ++ m)) ∧ Below w.heap.size w w' := by
  have hr := rd_two h (lt_of_heap h)
  rw [two_slices l m hl hm] at hr
  subst hl hm
  have := Join_any (some ⟨g, 0, none⟩) 2 2 w.heap.size (fun i => if i = 0 then a else b) (fun i => if i = 0 then ca else cb) (fun i => if i = 0 then l else m) w (Nat.le_refl _) hr
    (fun i hi => by
      by_cases e : i = 0
      · simp only [e, if_true]; exact ra.mono hn
      · simp only [e, if_false]; exact rb.mono hn') (by rw [flat_two]; exact hs)
  rw [flat_two] at this
  exact this
/-- A text with its sum. -/
def whole (l : List Nat) : List Nat := l ++ [Cr.sum l / 256, Cr.sum l % 256]
theorem whole_len (l : List Nat) : (whole l).length = l.length + 2 := by simp [whole]
theorem whole_bytes {l : List Nat} (h : bytes l) : bytes (whole l) := by
  have := Cr.sum_lt l h
  intro b hb
  simp only [whole, List.mem_append, List.mem_cons, List.not_mem_nil, or_false] at hb
  rcases hb with hb | rfl | rfl
  · exact h b hb
  · omega
  · omega
theorem whole_num {l : List Nat} (h : bytes l) : whole l = l ++ numB (Cr.sum l) 2 := by
  have := Cr.sum_lt l h
  have e : Cr.sum l / 256 ^ 1 % 256 = Cr.sum l / 256 := by rw [Nat.pow_one]; omega
  have e0 : Cr.sum l / 256 ^ 0 % 256 = Cr.sum l % 256 := by rw [Nat.pow_zero, Nat.div_one]
  simp only [whole, numB]
  rw [e, e0]

set_option maxRecDepth 100000 in
set_option maxHeartbeats 2000000 in
theorem TAppend_any (a : Option Addr) (len cap n : Nat) (l : List Nat) (w : World) (hl : l.length = len) (hn : n ≤ w.heap.size) (hr : Rd n w a len cap (bv l)) (hb : bytes l) (hm : len ≤ 1000000) :
    Calls Try.prog 85 #[.agg tabV, .slice a len cap] w fun e w' => ∃ v, e = .returned v ∧ w'.ownsRow w.heap.size 5 1 v (len + 2) (bl (whole l)) ∧ Below w.heap.size w w' := by
  obtain ⟨i0, hi, hz0, hz1, hz2⟩ := info_parts info_u8
  have h1 := hr.le
  have h2 := hr.top
  unfold maxLen at h2
  have hsl := Cr.sum_lt _ hb
  obtain ⟨s, hs'⟩ : ∃ s, s = Cr.sum l := ⟨_, rfl⟩
  rw [← hs'] at hsl
  have HS := Lib.hid hs'
  have HR := Lib.hid hr
  have HL := Lib.hid hl
  clear hs' hr hl
  have hT := IsTab.new w
  have hB0 : Below w.heap.size w ((w.alloc (.cells tabV 143)).alloc (.cells #[.slice a len cap] 54)) := ((Below.refl _ _).alloc (Nat.le_refl _) _).alloc (by simp) _
  have hP : ((w.alloc (.cells tabV 143)).alloc (.cells #[.slice a len cap] 54)).heap[w.heap.size + 1]? = some (.cells #[.slice a len cap] 54 (0, 0)) := heap_alloc2_new _ _ _
  have HB0 := Lib.hid hB0
  have HP := Lib.hid hP
  clear hB0 hP
  go_enter Try.func85, Try.ntmps85
  go_wp2_with (refine wpList_load_row rfl 143 _ rfl w.heap.size rfl _ _ _ _ hT Try.underlying143 rfl size_tab' ?_)
  go_at_call 93
  refine (TSum1 HL.out HP.out (HR.out.below' HB0.out hn) (Nat.le_trans hn HB0.out.size) hb).mono ?_
  rintro e w2 ⟨rfl, hb2⟩
  rw [← HS.out]
  have hB2 : Below w.heap.size w w2 := HB0.out.trans (hb2.mono HB0.out.size)
  have hR2 := Lib.hid (HR.out.below' hB2 hn)
  clear hT HP HB0 hb2
  go_wp2_with fail
  go_at_call 88
  refine (Clone_any _ _ _ n l _ (Nat.le_trans hn hB2.size) HL.out hR2.out (by omega)).mono ?_
  rintro e w3 ⟨v, rfl, hown, hb3⟩
  have hB3 := hB2.trans (hb3.mono hB2.size)
  have hq : (Value.int .u8 (IntKind.u8.wrap (s : Int))) = .int .u8 ((s % 256 : Nat) : Int) := by rw [IntKind.wrap_u8]; simp
  go_wp2_with (at_builtin; refine wpList_append_own _ rfl _ _ 54 rfl w2.heap.size 5 i0 (.int .u8 0) 1 1 Try.underlying54 hi hz0 hz1 hz2 rfl (by decide) _ _ _ rfl (hown.alloc _) ⟨w3.heap.size, 0, none⟩ 2 2 [.int .u8 ((s : Int) / 256), .int .u8 ((s : Int) % 256)] rfl rfl ?c1 ?c2 ?c3 ?c4 ?c5 ?_)
  case c1 => exact cells_two _ _ _ _
  case c2 => intro u hu; simp at hu; rcases hu with rfl | rfl <;> rfl
  case c3 => unfold maxLen; omega
  case c4 => omega
  case c5 => have := hb3.size; simp; omega
  intro v' w4 hown4 hgrow4 _
  have hB4 := (hB3.alloc hB3.size _).grown hgrow4 (by have := hB3.size; simp; omega) (fun j hj => Nat.le_trans hB2.size (hown.lt j hj).1)
  have e : bl (whole l) = bl l ++ [.int .u8 ((s : Int) / 256), .int .u8 ((s : Int) % 256)] := by
    unfold whole
    rw [bl_append, ← HS.out]
    simp [bl]
  go_wp2
  go_ret
  exact ⟨_, rfl, by rw [e]; exact own_base hown4 hB2.size, hB4⟩

set_option maxRecDepth 100000 in
set_option maxHeartbeats 2000000 in
theorem rAppend_any (a : Option Addr) (len cap n : Nat) (l : List Nat) (w : World) (hl : l.length = len) (hn : n ≤ w.heap.size) (hr : Rd n w a len cap (bv l)) (hb : bytes l) (hm : len ≤ 1000000) :
    Calls Try.prog 30 #[.slice a len cap] w fun e w' => ∃ v, e = .returned v ∧ w'.ownsRow w.heap.size 5 1 v (len + 2) (bl (whole l)) ∧ Below w.heap.size w w' := by
  have hsl := Cr.sum_lt _ hb
  have hwn := whole_num hb
  obtain ⟨s, hs'⟩ : ∃ s, s = Cr.sum l := ⟨_, rfl⟩
  rw [← hs'] at hsl hwn
  have HS := Lib.hid hs'
  have HW := Lib.hid hwn
  have HR := Lib.hid hr
  have HL := Lib.hid hl
  clear hs' hr hl hwn
  go_enter Try.func30, Try.ntmps30
  go_wp2_with fail
  go_at_call 66
  refine (rSum_any _ _ _ n l _ HL.out HR.out hb).mono ?_
  rintro e w' ⟨rfl, rfl⟩
  rw [← HS.out]
  go_wp2_with fail
  go_at_call 37
  refine (Num_any s 2 _ (by omega) (by omega)).mono ?_
  rintro e w2 ⟨na, nc, rfl, hown, hb2⟩
  have hr2 := Lib.hid (HR.out.below' hb2 hn)
  have hq := Lib.hid (rd_of_own (f := bv (numB s 2)) hown (fun i hi => bl_at _ (by rw [numB_len]; exact hi)))
  clear hown
  go_wp2_with fail
  go_at_call 29
  have hh : ∀ W : World, (W.alloc (.cells #[.slice a len cap, .slice na 2 nc] 54)).heap[W.heap.size]? = some (.cells #[.slice a len cap, .slice na 2 nc] 54 (0, 0)) := fun W => heap_alloc_new _ _
  refine (Join2 (l := l) (m := numB s 2) HL.out (numB_len _ _) (hh w2) (hr2.out.below' (Below.refl _ _ |>.alloc (Nat.le_refl _) _) (Nat.le_trans hn hb2.size)) (hq.out.below' (Below.refl _ _ |>.alloc (Nat.le_refl _) _) (Nat.le_refl _)) (by simp; have := hb2.size; omega) (by simp) (by rw [List.length_append, HL.out, numB_len]; omega)).mono ?_
  rintro e w3 ⟨v, rfl, hown, hb3⟩
  go_wp2
  go_ret
  refine ⟨_, rfl, ?_, ?_⟩
  · rw [HW.out]
    have := own_base (B := w.heap.size) hown (by simp; have := hb2.size; omega)
    rw [List.length_append, HL.out, numB_len] at this
    exact this
  · exact (hb2.alloc hb2.size _).trans (hb3.mono (by simp; have := hb2.size; omega))

/-- What Cut hands back. -/
def CutPost (w : World) (l : List Nat) (e : Ending) (w' : World) : Prop :=
  Below w.heap.size w w' ∧ ((l.length < 2 ∧ e = .returned (.tuple #[.slice none 0 0, .int .i64 2])) ∨ (2 ≤ l.length ∧ rightB l = false ∧ e = .returned (.tuple #[.slice none 0 0, .int .i64 5])) ∨
    (2 ≤ l.length ∧ rightB l = true ∧ ∃ v, e = .returned (.tuple #[v, .int .i64 0]) ∧ w'.ownsRow w.heap.size 5 1 v (l.length - 2) (bl (l.take (l.length - 2)))))

end Go.Proofs.Ytmihhapedpalmaa
