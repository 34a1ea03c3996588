/- Space packets: the document's own. -/
import Derived.Test.YtfolebogfapmaaaPk5
import Derived.Test.YtfolebogfapmaaaLaw06
namespace Go.Proofs.Ytfolebogfapmaaa
open Go.RowKit Go.Own
set_option linter.unusedVariables false
set_option linter.unusedSimpArgs false

set_option maxHeartbeats 1000000 in
theorem rRight09 (k : Bool) (a c len cap : Nat) (x : Option Addr) (w : World) (ha : a < 65536) (hc : c < 65536) :
    Calls Try.prog 31 #[.agg #[.bool k, .int .u16 (a : Nat), .int .u16 (c : Nat), .slice x len cap]] w fun e w' => e = .returned (.int .i64 (pkRight a c len : Nat)) ∧ Below w.heap.size w w' := by
  by_cases hA : 2047 < a
  · have HE := Lib.hid (show pkRight a c len = 1 by unfold pkRight; rw [if_pos (.inl hA)])
    go_enter Try.func31, Try.ntmps31
    go_wp2
    go_ret
    exact ⟨by rw [HE.out]; rfl, by repeat' (first | (with_reducible exact Below.refl _ _) | (with_reducible assumption) | (with_reducible refine Below.setCell ?_ ?_ _) | (with_reducible refine Below.alloc ?_ ?_ _) | (with_reducible refine Below.drew ?_) | (with_reducible refine Below.drawsN ?_ _) | go_size)⟩
  by_cases hC : 16383 < c
  · have HE := Lib.hid (show pkRight a c len = 1 by unfold pkRight; rw [if_pos (.inr hC)])
    go_enter Try.func31, Try.ntmps31
    go_wp2
    go_ret
    exact ⟨by rw [HE.out]; rfl, by repeat' (first | (with_reducible exact Below.refl _ _) | (with_reducible assumption) | (with_reducible refine Below.setCell ?_ ?_ _) | (with_reducible refine Below.alloc ?_ ?_ _) | (with_reducible refine Below.drew ?_) | (with_reducible refine Below.drawsN ?_ _) | go_size)⟩
  by_cases hL : 200 < len
  · have HE := Lib.hid (show pkRight a c len = 4 by unfold pkRight; rw [if_neg (by omega), if_pos hL])
    go_enter Try.func31, Try.ntmps31
    go_wp2
    go_ret
    exact ⟨by rw [HE.out]; rfl, by repeat' (first | (with_reducible exact Below.refl _ _) | (with_reducible assumption) | (with_reducible refine Below.setCell ?_ ?_ _) | (with_reducible refine Below.alloc ?_ ?_ _) | (with_reducible refine Below.drew ?_) | (with_reducible refine Below.drawsN ?_ _) | go_size)⟩
  · have HE := Lib.hid (show pkRight a c len = 0 by unfold pkRight; rw [if_neg (by omega), if_neg hL])
    go_enter Try.func31, Try.ntmps31
    go_wp2
    go_ret
    exact ⟨by rw [HE.out]; rfl, by repeat' (first | (with_reducible exact Below.refl _ _) | (with_reducible assumption) | (with_reducible refine Below.setCell ?_ ?_ _) | (with_reducible refine Below.alloc ?_ ?_ _) | (with_reducible refine Below.drew ?_) | (with_reducible refine Below.drawsN ?_ _) | go_size)⟩
theorem head_num (k a c n : Nat) (hk : k ≤ 1) (ha : a < 2048) (hc : c < 16384) (hn : n ≤ 1000) : numB (k * 4096 + 2048 + a) 2 ++ numB (49152 + c) 2 ++ numB (n + 1) 2 = pkHead k a c n := by
  simp only [numB, pkHead, Nat.pow_one, Nat.pow_zero, Nat.div_one, List.cons_append, List.nil_append, List.cons.injEq, and_true]
  omega
/-- A new block of four slices that read as these bytes. -/
def SpRow4 (n0 : Nat) (l1 l2 l3 l4 : List Nat) (t : TypeId) : Go.Flo.Spec :=
  ⟨fun v w => ∃ g a1 c1 a2 c2 a3 c3 a4 c4, n0 ≤ g ∧ v = .slice (some ⟨g, 0, none⟩) 4 4 ∧ w.heap[g]? = some (.cells #[.slice a1 l1.length c1, .slice a2 l2.length c2, .slice a3 l3.length c3, .slice a4 l4.length c4] t (0, 0)) ∧ Rd w.heap.size w a1 l1.length c1 (bv l1) ∧ Rd w.heap.size w a2 l2.length c2 (bv l2) ∧ Rd w.heap.size w a3 l3.length c3 (bv l3) ∧ Rd w.heap.size w a4 l4.length c4 (bv l4),
   fun v w w' hb ⟨g, a1, c1, a2, c2, a3, c3, a4, c4, h0, hv, h, r1, r2, r3, r4⟩ => ⟨g, a1, c1, a2, c2, a3, c3, a4, c4, h0, hv, heap_below hb h, rd_grow r1 hb, rd_grow r2 hb, rd_grow r3 hb, rd_grow r4 hb⟩⟩
theorem owes_row4 {o : Oper} {l1 l2 l3 l4 : List Nat} {w : World} {n0 m1 m2 m3 m4 c1 c2 c3 c4 : Nat} {a1 a2 a3 a4 : Option Addr} {t : TypeId} (h0 : n0 ≤ w.heap.size) (e1 : l1.length = m1) (e2 : l2.length = m2) (e3 : l3.length = m3) (e4 : l4.length = m4)
    (r1 : Rd w.heap.size w a1 m1 c1 (bv l1)) (r2 : Rd w.heap.size w a2 m2 c2 (bv l2)) (r3 : Rd w.heap.size w a3 m3 c3 (bv l3)) (r4 : Rd w.heap.size w a4 m4 c4 (bv l4)) :
    Go.Flo.owes o (SpRow4 n0 l1 l2 l3 l4 t) w (.slice (some ⟨w.heap.size, 0, none⟩) 4 4) (w.alloc (.cells #[.slice a1 m1 c1, .slice a2 m2 c2, .slice a3 m3 c3, .slice a4 m4 c4] t)) := by
  subst e1 e2 e3 e4
  have hb := (Below.refl w.heap.size w).alloc (Nat.le_refl _) (.cells #[.slice a1 l1.length c1, .slice a2 l2.length c2, .slice a3 l3.length c3, .slice a4 l4.length c4] t)
  refine ⟨⟨w.heap.size, a1, c1, a2, c2, a3, c3, a4, c4, h0, rfl, heap_alloc_new w _, rd_grow r1 hb, rd_grow r2 hb, rd_grow r3 hb, rd_grow r4 hb⟩, hb, fun g hg => ?_⟩
  unfold Go.Flo.ownOf at hg
  split at hg
  · simp [Go.Flo.blockOf] at hg; subst hg; simp
  · cases hg
theorem ex_row4 {C : World → Prop} {o : Oper} {n0 : Nat} {l1 l2 l3 l4 : List Nat} {t : TypeId} {v : Value} {F : Go.Flo.Facts} {G : Go.Flo.Used} (h : Go.Flo.Ex C o (SpRow4 n0 l1 l2 l3 l4 t) F G v) : ∃ g, v = .slice (some ⟨g, 0, none⟩) 4 4 := by
  obtain ⟨w, _, _, ⟨g, a1, c1, a2, c2, a3, c3, a4, c4, _, h1, _⟩, _⟩ := h
  exact ⟨g, h1⟩
theorem flat_four (l m k o : List Nat) : flat (sel4 l m k o) 4 = l ++ m ++ k ++ o := by simp [flat, List.range_succ, sel4]
theorem Join4 {g : Nat} {l1 l2 l3 l4 : List Nat} {n0 : Nat} {t : TypeId} {w : World} (h : (SpRow4 n0 l1 l2 l3 l4 t).says (.slice (some ⟨g, 0, none⟩) 4 4) w) (hs : (l1 ++ l2 ++ l3 ++ l4).length ≤ 140737488355328) :
    Calls Try.prog 18 #[.slice (some ⟨g, 0, none⟩) 4 4] w fun e w' => ∃ v, e = .returned v ∧ w'.ownsRow w.heap.size 5 1 v (l1 ++ l2 ++ l3 ++ l4).length (bl (l1 ++ l2 ++ l3 ++ l4)) ∧ Below w.heap.size w w' := by
  obtain ⟨g', a1, c1, a2, c2, a3, c3, a4, c4, _, hv, hg, r1, r2, r3, r4⟩ := h
  simp at hv
  subst hv
  have hr := (rd_four hg (lt_of_heap hg)).same (g := fun i => .slice (sel4 a1 a2 a3 a4 i) (sel4 l1 l2 l3 l4 i).length (sel4 c1 c2 c3 c4 i)) (fun i hi => by
    have : i = 0 ∨ i = 1 ∨ i = 2 ∨ i = 3 := by omega
    rcases this with rfl | rfl | rfl | rfl <;> rfl)
  have := Join_any (some ⟨g, 0, none⟩) 4 4 w.heap.size (sel4 a1 a2 a3 a4) (sel4 c1 c2 c3 c4) (sel4 l1 l2 l3 l4) w (Nat.le_refl _) hr
    (fun i hi => by
      have : i = 0 ∨ i = 1 ∨ i = 2 ∨ i = 3 := by omega
      rcases this with rfl | rfl | rfl | rfl
      · exact r1
      · exact r2
      · exact r3
      · exact r4) (by rw [flat_four]; exact hs)
  rw [flat_four] at this
  exact this
theorem Num_z (z : Int) (n k : Nat) (w : World) (hz : z = (n : Int)) (hn : n < 18446744073709551616) (hk : k ≤ 8) :
    Calls Try.prog 38 #[.int .u64 z, .int .i64 k] w fun e w' => ∃ a c, e = .returned (.slice a k c) ∧ w'.ownsRow w.heap.size 5 1 (.slice a k c) k (bl (numB n k)) ∧ Below w.heap.size w w' := by
  subst hz
  exact Num_any n k w hn hk
set_option maxRecDepth 100000 in
set_option maxHeartbeats 4000000 in
theorem rBytes09 (k : Bool) (a c : Nat) (x : Option Addr) (len cap n : Nat) (d : List Nat) (w : World) (ha : a < 2048) (hc : c < 16384) (hl : d.length = len) (hn : n ≤ w.heap.size) (hr : Rd n w x len cap (bv d)) (hb : bytes d) (hm : len ≤ 200) :
    Calls Try.prog 32 #[.agg #[.bool k, .int .u16 (a : Nat), .int .u16 (c : Nat), .slice x len cap]] w fun e w' => ∃ v, e = .returned v ∧ w'.ownsRow w.heap.size 5 1 v (len + 8) (bl (mkPkt (if k then 1 else 0) a c d)) ∧ Below w.heap.size w w' := by
  have h1 := hr.le
  have h2 := hr.top
  unfold maxLen at h2
  have hnum := head_num (if k then 1 else 0) a c len (by split <;> omega) ha hc (by omega)
  have hmk : whole (pkHead (if k then 1 else 0) a c len ++ d) = mkPkt (if k then 1 else 0) a c d := by unfold mkPkt; rw [hl]
  have hBb : bytes (pkHead (if k then 1 else 0) a c len ++ d) := (pkHead_bytes (by split <;> omega) ha hc (by omega)).append hb
  have hBl : (pkHead (if k then 1 else 0) a c len ++ d).length = 6 + len := by rw [List.length_append, pkHead_len, hl]
  rw [← hnum] at hmk hBb hBl
  obtain ⟨X, hX⟩ : ∃ X, X = (if k then 1 else 0) * 4096 + 2048 + a := ⟨_, rfl⟩
  obtain ⟨N1, hN1⟩ : ∃ N1, N1 = numB X 2 := ⟨_, rfl⟩
  obtain ⟨N2, hN2⟩ : ∃ N2, N2 = numB (49152 + c) 2 := ⟨_, rfl⟩
  obtain ⟨N3, hN3⟩ : ∃ N3, N3 = numB (len + 1) 2 := ⟨_, rfl⟩
  rw [← hX, ← hN1, ← hN2, ← hN3] at hmk hBb hBl
  have e1 : N1.length = 2 := by rw [hN1]; exact numB_len _ _
  have e2 : N2.length = 2 := by rw [hN2]; exact numB_len _ _
  have e3 : N3.length = 2 := by rw [hN3]; exact numB_len _ _
  obtain ⟨B, hB⟩ : ∃ B, B = N1 ++ N2 ++ N3 ++ d := ⟨_, rfl⟩
  obtain ⟨M, hM⟩ : ∃ M, M = 6 + len := ⟨_, rfl⟩
  rw [← hB] at hmk hBb hBl
  rw [← hM] at hBl
  have hM2 : M ≤ 206 := by omega
  have hwl := whole_len B
  rw [hBl] at hwl
  have HR := Lib.hid hr
  have HL := Lib.hid hl
  have HX := Lib.hid hX
  have HN1 := Lib.hid hN1
  have HN2 := Lib.hid hN2
  have HN3 := Lib.hid hN3
  have E1 := Lib.hid e1
  have E2 := Lib.hid e2
  have E3 := Lib.hid e3
  have HB := Lib.hid hB
  have HM := Lib.hid hM
  have HBL := Lib.hid hBl
  have HWL := Lib.hid hwl
  have HMK := Lib.hid hmk
  clear hr hl hX hN1 hN2 hN3 e1 e2 e3 hB hM hBl hwl hmk hnum
  cases k
  · skip
    go_enter Try.func32, Try.ntmps32
    go_wp2_with fail
    have hc1 := heap_alloc_new w (.cells #[.bool false, .int .u16 (a : Nat), .int .u16 (c : Nat), .slice x len cap] 53)
    have hb1 : Below w.heap.size w (w.alloc (.cells #[.bool false, .int .u16 (a : Nat), .int .u16 (c : Nat), .slice x len cap] 53)) := by repeat' (first | (with_reducible exact Below.refl _ _) | (with_reducible assumption) | (with_reducible refine Below.setCell ?_ ?_ _) | (with_reducible refine Below.alloc ?_ ?_ _) | (with_reducible refine Below.drew ?_) | (with_reducible refine Below.drawsN ?_ _) | go_size)
    obtain ⟨w1, hw1⟩ : ∃ w1, w1 = w.alloc (.cells #[.bool false, .int .u16 (a : Nat), .int .u16 (c : Nat), .slice x len cap] 53) := ⟨_, rfl⟩
    rw [← hw1] at hc1 hb1 ⊢
    have hz1 : w1.heap.size = w.heap.size + 1 := by rw [hw1]; simp
    have d1 := cell_of_row w1 w.heap.size 1 _ _ _ hc1
    have d2 := cell_of_row w1 w.heap.size 2 _ _ _ hc1
    have d3 := cell_of_row w1 w.heap.size 3 _ _ _ hc1
    have HR1 := Lib.hid (HR.out.below' hb1 hn)
    have HB1 := Lib.hid hb1
    clear hw1 hc1 hb1
    obtain ⟨I, W, hne, hWI, hIW⟩ := Go.Mix.family (fun v => Below w1.heap.size w1 v) (Below.refl _ _)
    have HJ := Lib.hid hIW
    have HW := Lib.hid hWI
    clear hWI hIW
    refine Go.Flo.wp_region (fun w' => ∃ i, w' = W i) 25 [SpB N1, SpB N2, SpB N3, SpRow4 0 N1 N2 N3 d 23, SpB B, SpO w.heap.size (whole B)] (by kernel_rfl) (by kernel_rfl) (by decide) (by rintro _ w' ⟨i, rfl⟩ hb; exact HJ.out _ ((HW.out i).trans (hb.mono (HW.out i).size))) (HJ.out _ (Below.refl _ _).drew) ?_
    simp only [Go.Flo.pair, Go.Mix.calm, List.take, List.drop, if_true, Bool.false_eq_true, if_false, Nat.reduceAdd, Nat.reduceSub]
    have k1 : ∀ i, (W i).cell? ⟨w.heap.size, 1, none⟩ = some (.int .u16 (a : Nat)) := fun i => ((HW.out i).cell (p := ⟨w.heap.size, 1, none⟩) (show w.heap.size < _ by omega)).trans d1
    have k2 : ∀ i, (W i).cell? ⟨w.heap.size, 2, none⟩ = some (.int .u16 (c : Nat)) := fun i => ((HW.out i).cell (p := ⟨w.heap.size, 2, none⟩) (show w.heap.size < _ by omega)).trans d2
    have k3 : ∀ i, (W i).cell? ⟨w.heap.size, 3, none⟩ = some (.slice x len cap) := fun i => ((HW.out i).cell (p := ⟨w.heap.size, 3, none⟩) (show w.heap.size < _ by omega)).trans d3
    clear d1 d2 d3
    (repeat (first | (refine Go.Flo.fw_calm rfl ?_ (fun K hK => ?_); (first | exact Go.Mix.wanted_none rfl | exact Go.Mix.wanted_tt rfl rfl rfl | exact Go.Mix.wanted_ff rfl rfl rfl); go_big_quiet_op; refine hK _ ?_; clear hK K) | (refine Go.Flo.fw_skip ?_ (fun K hK => ?_); (first | exact Go.Mix.wanted_tf rfl rfl rfl | exact Go.Mix.wanted_ft rfl rfl rfl); go_simp; refine hK _ ?_; clear hK K) | (refine Go.Flo.fw_any rfl ?_ (fun K hK => ?_); (first | exact Go.Mix.wanted_none rfl | exact Go.Mix.wanted_tt rfl rfl rfl | exact Go.Mix.wanted_ff rfl rfl rfl); go_simp; (try (go_ints; try go_simp)); refine hK _ ?_; clear hK K)))
    refine Go.Flo.fw_loud rfl ?_ rfl (by simp) (fun wv hwv hav K hK => ?_) (fun v hv K hK => ?_)
    · (first | exact Go.Mix.wanted_none rfl | exact Go.Mix.wanted_tt rfl rfl rfl | exact Go.Mix.wanted_ff rfl rfl rfl)
    · obtain ⟨iv, rfl⟩ := hwv
      have hbv := HW.out iv
      (first | go_big_op | go_simp)
      go_at_call 38
      refine (Num_z _ X 2 _ (show (2048 : Int) + a = (X : Int) by have := HX.out; simp at this; omega) (by have := HX.out; simp at this; omega) (by decide)).mono ?_
      rintro e w' ⟨b1, q1, rfl, hown, hbb⟩
      rw [← HN1.out] at hown
      exact hK _ _ (owes_B E1.out rfl hbb hown)
    obtain ⟨b1, q1, rfl⟩ := ex_B hv
    rw [E1.out]
    go_simp
    refine hK _ ?_
    clear hK K hv
    (repeat (first | (refine Go.Flo.fw_calm rfl ?_ (fun K hK => ?_); (first | exact Go.Mix.wanted_none rfl | exact Go.Mix.wanted_tt rfl rfl rfl | exact Go.Mix.wanted_ff rfl rfl rfl); go_big_quiet_op; refine hK _ ?_; clear hK K) | (refine Go.Flo.fw_skip ?_ (fun K hK => ?_); (first | exact Go.Mix.wanted_tf rfl rfl rfl | exact Go.Mix.wanted_ft rfl rfl rfl); go_simp; refine hK _ ?_; clear hK K) | (refine Go.Flo.fw_any rfl ?_ (fun K hK => ?_); (first | exact Go.Mix.wanted_none rfl | exact Go.Mix.wanted_tt rfl rfl rfl | exact Go.Mix.wanted_ff rfl rfl rfl); go_simp; (try (go_ints; try go_simp)); refine hK _ ?_; clear hK K)))
    refine Go.Flo.fw_loud rfl ?_ rfl (by simp) (fun wv hwv hav K hK => ?_) (fun v hv K hK => ?_)
    · (first | exact Go.Mix.wanted_none rfl | exact Go.Mix.wanted_tt rfl rfl rfl | exact Go.Mix.wanted_ff rfl rfl rfl)
    · obtain ⟨iv, rfl⟩ := hwv
      have hbv := HW.out iv
      (first | go_big_op | go_simp)
      go_at_call 38
      refine (Num_z _ (49152 + c) 2 _ (show (49152 : Int) + c = ((49152 + c : Nat) : Int) by omega) (by omega) (by decide)).mono ?_
      rintro e w' ⟨b2, q2, rfl, hown, hbb⟩
      rw [← HN2.out] at hown
      exact hK _ _ (owes_B E2.out rfl hbb hown)
    obtain ⟨b2, q2, rfl⟩ := ex_B hv
    rw [E2.out]
    go_simp
    refine hK _ ?_
    clear hK K hv
    (repeat (first | (refine Go.Flo.fw_calm rfl ?_ (fun K hK => ?_); (first | exact Go.Mix.wanted_none rfl | exact Go.Mix.wanted_tt rfl rfl rfl | exact Go.Mix.wanted_ff rfl rfl rfl); go_big_quiet_op; refine hK _ ?_; clear hK K) | (refine Go.Flo.fw_skip ?_ (fun K hK => ?_); (first | exact Go.Mix.wanted_tf rfl rfl rfl | exact Go.Mix.wanted_ft rfl rfl rfl); go_simp; refine hK _ ?_; clear hK K) | (refine Go.Flo.fw_any rfl ?_ (fun K hK => ?_); (first | exact Go.Mix.wanted_none rfl | exact Go.Mix.wanted_tt rfl rfl rfl | exact Go.Mix.wanted_ff rfl rfl rfl); go_simp; (try (go_ints; try go_simp)); refine hK _ ?_; clear hK K)))
    refine Go.Flo.fw_loud rfl ?_ rfl (by simp) (fun wv hwv hav K hK => ?_) (fun v hv K hK => ?_)
    · (first | exact Go.Mix.wanted_none rfl | exact Go.Mix.wanted_tt rfl rfl rfl | exact Go.Mix.wanted_ff rfl rfl rfl)
    · obtain ⟨iv, rfl⟩ := hwv
      have hbv := HW.out iv
      (first | go_big_op | go_simp)
      go_at_call 38
      refine (Num_z _ (len + 1) 2 _ (show (len : Int) + 1 = ((len + 1 : Nat) : Int) by omega) (by omega) (by decide)).mono ?_
      rintro e w' ⟨b3, q3, rfl, hown, hbb⟩
      rw [← HN3.out] at hown
      exact hK _ _ (owes_B E3.out rfl hbb hown)
    obtain ⟨b3, q3, rfl⟩ := ex_B hv
    rw [E3.out]
    go_simp
    refine hK _ ?_
    clear hK K hv
    (repeat (first | (refine Go.Flo.fw_calm rfl ?_ (fun K hK => ?_); (first | exact Go.Mix.wanted_none rfl | exact Go.Mix.wanted_tt rfl rfl rfl | exact Go.Mix.wanted_ff rfl rfl rfl); go_big_quiet_op; refine hK _ ?_; clear hK K) | (refine Go.Flo.fw_skip ?_ (fun K hK => ?_); (first | exact Go.Mix.wanted_tf rfl rfl rfl | exact Go.Mix.wanted_ft rfl rfl rfl); go_simp; refine hK _ ?_; clear hK K) | (refine Go.Flo.fw_any rfl ?_ (fun K hK => ?_); (first | exact Go.Mix.wanted_none rfl | exact Go.Mix.wanted_tt rfl rfl rfl | exact Go.Mix.wanted_ff rfl rfl rfl); go_simp; (try (go_ints; try go_simp)); refine hK _ ?_; clear hK K)))
    refine Go.Flo.fw_loud rfl ?_ rfl (by simp) (fun wv hwv hav K hK => ?_) (fun v hv K hK => ?_)
    · (first | exact Go.Mix.wanted_none rfl | exact Go.Mix.wanted_tt rfl rfl rfl | exact Go.Mix.wanted_ff rfl rfl rfl)
    · obtain ⟨iv, rfl⟩ := hwv
      have hbv := HW.out iv
      (first | go_big_op | go_simp)
      have f1 := hav 13 (by decide +kernel)
      iterate 13 (replace f1 := f1.1)
      have f2 := hav 18 (by decide +kernel)
      iterate 8 (replace f2 := f2.1)
      have f3 := hav 24 (by decide +kernel)
      iterate 2 (replace f3 := f3.1)
      have s1 := says_B (f1.2 rfl).1
      have s2 := says_B (f2.2 rfl).1
      have s3 := says_B (f3.2 rfl).1
      rw [E1.out] at s1
      rw [E2.out] at s2
      rw [E3.out] at s3
      refine hK _ _ (owes_row4 (Nat.zero_le _) E1.out E2.out E3.out HL.out s1 s2 s3 ((HR1.out.below' hbv (by omega)).mono (by have := hbv.size; omega)))
    obtain ⟨g6, rfl⟩ := ex_row4 hv
    go_simp
    refine hK _ ?_
    clear hK K hv
    (repeat (first | (refine Go.Flo.fw_calm rfl ?_ (fun K hK => ?_); (first | exact Go.Mix.wanted_none rfl | exact Go.Mix.wanted_tt rfl rfl rfl | exact Go.Mix.wanted_ff rfl rfl rfl); go_big_quiet_op; refine hK _ ?_; clear hK K) | (refine Go.Flo.fw_skip ?_ (fun K hK => ?_); (first | exact Go.Mix.wanted_tf rfl rfl rfl | exact Go.Mix.wanted_ft rfl rfl rfl); go_simp; refine hK _ ?_; clear hK K) | (refine Go.Flo.fw_any rfl ?_ (fun K hK => ?_); (first | exact Go.Mix.wanted_none rfl | exact Go.Mix.wanted_tt rfl rfl rfl | exact Go.Mix.wanted_ff rfl rfl rfl); go_simp; (try (go_ints; try go_simp)); refine hK _ ?_; clear hK K)))
    refine Go.Flo.fw_loud rfl ?_ rfl (by simp) (fun wv hwv hav K hK => ?_) (fun v hv K hK => ?_)
    · (first | exact Go.Mix.wanted_none rfl | exact Go.Mix.wanted_tt rfl rfl rfl | exact Go.Mix.wanted_ff rfl rfl rfl)
    · obtain ⟨iv, rfl⟩ := hwv
      have hbv := HW.out iv
      (first | go_big_op | go_simp)
      have s4 := ((hav 27 (by decide +kernel)).2 rfl).1
      go_at_call 18
      refine (Join4 s4 (by rw [← HB.out, HBL.out]; omega)).mono ?_
      rintro e w' ⟨v, rfl, hown, hbb⟩
      rw [← HB.out] at hown
      exact hK _ _ (owes_B rfl rfl hbb hown)
    obtain ⟨a7, c7, rfl⟩ := ex_B hv
    rw [HBL.out]
    go_simp
    refine hK _ ?_
    clear hK K hv
    (repeat (first | (refine Go.Flo.fw_calm rfl ?_ (fun K hK => ?_); (first | exact Go.Mix.wanted_none rfl | exact Go.Mix.wanted_tt rfl rfl rfl | exact Go.Mix.wanted_ff rfl rfl rfl); go_big_quiet_op; refine hK _ ?_; clear hK K) | (refine Go.Flo.fw_skip ?_ (fun K hK => ?_); (first | exact Go.Mix.wanted_tf rfl rfl rfl | exact Go.Mix.wanted_ft rfl rfl rfl); go_simp; refine hK _ ?_; clear hK K) | (refine Go.Flo.fw_any rfl ?_ (fun K hK => ?_); (first | exact Go.Mix.wanted_none rfl | exact Go.Mix.wanted_tt rfl rfl rfl | exact Go.Mix.wanted_ff rfl rfl rfl); go_simp; (try (go_ints; try go_simp)); refine hK _ ?_; clear hK K)))
    refine Go.Flo.fw_loud rfl ?_ rfl (by simp) (fun wv hwv hav K hK => ?_) (fun v hv K hK => ?_)
    · (first | exact Go.Mix.wanted_none rfl | exact Go.Mix.wanted_tt rfl rfl rfl | exact Go.Mix.wanted_ff rfl rfl rfl)
    · obtain ⟨iv, rfl⟩ := hwv
      have hbv := HW.out iv
      (first | go_big_op | go_simp)
      have hs := says_B ((hav 28 (by decide +kernel)).2 rfl).1
      rw [HBL.out] at hs
      go_at_call 83
      refine (rAppend_any a7 M c7 _ B _ HBL.out (Nat.le_refl _) hs hBb (by omega)).mono ?_
      rintro e w' ⟨v, rfl, hown, hbb⟩
      exact hK _ _ (owes_O HWL.out rfl hbb hown (by have := hbv.size; omega))
    obtain ⟨a8, c8, rfl⟩ := ex_O hv
    go_simp
    refine hK _ ?_
    clear hK K hv
    (repeat (first | (refine Go.Flo.fw_calm rfl ?_ (fun K hK => ?_); (first | exact Go.Mix.wanted_none rfl | exact Go.Mix.wanted_tt rfl rfl rfl | exact Go.Mix.wanted_ff rfl rfl rfl); go_big_quiet_op; refine hK _ ?_; clear hK K) | (refine Go.Flo.fw_skip ?_ (fun K hK => ?_); (first | exact Go.Mix.wanted_tf rfl rfl rfl | exact Go.Mix.wanted_ft rfl rfl rfl); go_simp; refine hK _ ?_; clear hK K) | (refine Go.Flo.fw_any rfl ?_ (fun K hK => ?_); (first | exact Go.Mix.wanted_none rfl | exact Go.Mix.wanted_tt rfl rfl rfl | exact Go.Mix.wanted_ff rfl rfl rfl); go_simp; (try (go_ints; try go_simp)); refine hK _ ?_; clear hK K)))
    refine Go.Flo.fw_nil ?_
    intro w4 hww4 hfw4 huw4
    refine Go.Flo.tw_nil ?_
    obtain ⟨iend, hiend⟩ := hww4
    have hbw4 := HW.out iend
    rw [← hiend] at hbw4
    clear hiend iend huw4
    have hsays : w4.ownsRow w.heap.size 5 1 (.slice a8 (whole B).length c8) (whole B).length (bl (whole B)) := ((hfw4 (some 29)).1.2 rfl).1
    clear hfw4 HJ HW hne k1 k2 k3
    clear W I
    rw [HWL.out] at hsays
    rw [HWL.out]
    go_wp2
    go_ret
    refine ⟨_, rfl, ?_, HB1.out.trans (hbw4.mono (by omega))⟩
    rw [HMK.out] at hsays
    rw [show len + 8 = M + 2 by have := HM.out; omega]
    exact hsays
  · skip
    go_enter Try.func32, Try.ntmps32
    go_wp2_with fail
    have hc1 := heap_alloc_new w (.cells #[.bool true, .int .u16 (a : Nat), .int .u16 (c : Nat), .slice x len cap] 53)
    have hb1 : Below w.heap.size w (w.alloc (.cells #[.bool true, .int .u16 (a : Nat), .int .u16 (c : Nat), .slice x len cap] 53)) := by repeat' (first | (with_reducible exact Below.refl _ _) | (with_reducible assumption) | (with_reducible refine Below.setCell ?_ ?_ _) | (with_reducible refine Below.alloc ?_ ?_ _) | (with_reducible refine Below.drew ?_) | (with_reducible refine Below.drawsN ?_ _) | go_size)
    obtain ⟨w1, hw1⟩ : ∃ w1, w1 = w.alloc (.cells #[.bool true, .int .u16 (a : Nat), .int .u16 (c : Nat), .slice x len cap] 53) := ⟨_, rfl⟩
    rw [← hw1] at hc1 hb1 ⊢
    have hz1 : w1.heap.size = w.heap.size + 1 := by rw [hw1]; simp
    have d1 := cell_of_row w1 w.heap.size 1 _ _ _ hc1
    have d2 := cell_of_row w1 w.heap.size 2 _ _ _ hc1
    have d3 := cell_of_row w1 w.heap.size 3 _ _ _ hc1
    have HR1 := Lib.hid (HR.out.below' hb1 hn)
    have HB1 := Lib.hid hb1
    clear hw1 hc1 hb1
    obtain ⟨I, W, hne, hWI, hIW⟩ := Go.Mix.family (fun v => Below w1.heap.size w1 v) (Below.refl _ _)
    have HJ := Lib.hid hIW
    have HW := Lib.hid hWI
    clear hWI hIW
    refine Go.Flo.wp_region (fun w' => ∃ i, w' = W i) 25 [SpB N1, SpB N2, SpB N3, SpRow4 0 N1 N2 N3 d 23, SpB B, SpO w.heap.size (whole B)] (by kernel_rfl) (by kernel_rfl) (by decide) (by rintro _ w' ⟨i, rfl⟩ hb; exact HJ.out _ ((HW.out i).trans (hb.mono (HW.out i).size))) (HJ.out _ (Below.refl _ _).drew) ?_
    simp only [Go.Flo.pair, Go.Mix.calm, List.take, List.drop, if_true, Bool.false_eq_true, if_false, Nat.reduceAdd, Nat.reduceSub]
    have k1 : ∀ i, (W i).cell? ⟨w.heap.size, 1, none⟩ = some (.int .u16 (a : Nat)) := fun i => ((HW.out i).cell (p := ⟨w.heap.size, 1, none⟩) (show w.heap.size < _ by omega)).trans d1
    have k2 : ∀ i, (W i).cell? ⟨w.heap.size, 2, none⟩ = some (.int .u16 (c : Nat)) := fun i => ((HW.out i).cell (p := ⟨w.heap.size, 2, none⟩) (show w.heap.size < _ by omega)).trans d2
    have k3 : ∀ i, (W i).cell? ⟨w.heap.size, 3, none⟩ = some (.slice x len cap) := fun i => ((HW.out i).cell (p := ⟨w.heap.size, 3, none⟩) (show w.heap.size < _ by omega)).trans d3
    clear d1 d2 d3
    (repeat (first | (refine Go.Flo.fw_calm rfl ?_ (fun K hK => ?_); (first | exact Go.Mix.wanted_none rfl | exact Go.Mix.wanted_tt rfl rfl rfl | exact Go.Mix.wanted_ff rfl rfl rfl); go_big_quiet_op; refine hK _ ?_; clear hK K) | (refine Go.Flo.fw_skip ?_ (fun K hK => ?_); (first | exact Go.Mix.wanted_tf rfl rfl rfl | exact Go.Mix.wanted_ft rfl rfl rfl); go_simp; refine hK _ ?_; clear hK K) | (refine Go.Flo.fw_any rfl ?_ (fun K hK => ?_); (first | exact Go.Mix.wanted_none rfl | exact Go.Mix.wanted_tt rfl rfl rfl | exact Go.Mix.wanted_ff rfl rfl rfl); go_simp; (try (go_ints; try go_simp)); refine hK _ ?_; clear hK K)))
    refine Go.Flo.fw_loud rfl ?_ rfl (by simp) (fun wv hwv hav K hK => ?_) (fun v hv K hK => ?_)
    · (first | exact Go.Mix.wanted_none rfl | exact Go.Mix.wanted_tt rfl rfl rfl | exact Go.Mix.wanted_ff rfl rfl rfl)
    · obtain ⟨iv, rfl⟩ := hwv
      have hbv := HW.out iv
      (first | go_big_op | go_simp)
      go_at_call 38
      refine (Num_z _ X 2 _ (show (6144 : Int) + a = (X : Int) by have := HX.out; simp at this; omega) (by have := HX.out; simp at this; omega) (by decide)).mono ?_
      rintro e w' ⟨b1, q1, rfl, hown, hbb⟩
      rw [← HN1.out] at hown
      exact hK _ _ (owes_B E1.out rfl hbb hown)
    obtain ⟨b1, q1, rfl⟩ := ex_B hv
    rw [E1.out]
    go_simp
    refine hK _ ?_
    clear hK K hv
    (repeat (first | (refine Go.Flo.fw_calm rfl ?_ (fun K hK => ?_); (first | exact Go.Mix.wanted_none rfl | exact Go.Mix.wanted_tt rfl rfl rfl | exact Go.Mix.wanted_ff rfl rfl rfl); go_big_quiet_op; refine hK _ ?_; clear hK K) | (refine Go.Flo.fw_skip ?_ (fun K hK => ?_); (first | exact Go.Mix.wanted_tf rfl rfl rfl | exact Go.Mix.wanted_ft rfl rfl rfl); go_simp; refine hK _ ?_; clear hK K) | (refine Go.Flo.fw_any rfl ?_ (fun K hK => ?_); (first | exact Go.Mix.wanted_none rfl | exact Go.Mix.wanted_tt rfl rfl rfl | exact Go.Mix.wanted_ff rfl rfl rfl); go_simp; (try (go_ints; try go_simp)); refine hK _ ?_; clear hK K)))
    refine Go.Flo.fw_loud rfl ?_ rfl (by simp) (fun wv hwv hav K hK => ?_) (fun v hv K hK => ?_)
    · (first | exact Go.Mix.wanted_none rfl | exact Go.Mix.wanted_tt rfl rfl rfl | exact Go.Mix.wanted_ff rfl rfl rfl)
    · obtain ⟨iv, rfl⟩ := hwv
      have hbv := HW.out iv
      (first | go_big_op | go_simp)
      go_at_call 38
      refine (Num_z _ (49152 + c) 2 _ (show (49152 : Int) + c = ((49152 + c : Nat) : Int) by omega) (by omega) (by decide)).mono ?_
      rintro e w' ⟨b2, q2, rfl, hown, hbb⟩
      rw [← HN2.out] at hown
      exact hK _ _ (owes_B E2.out rfl hbb hown)
    obtain ⟨b2, q2, rfl⟩ := ex_B hv
    rw [E2.out]
    go_simp
    refine hK _ ?_
    clear hK K hv
    (repeat (first | (refine Go.Flo.fw_calm rfl ?_ (fun K hK => ?_); (first | exact Go.Mix.wanted_none rfl | exact Go.Mix.wanted_tt rfl rfl rfl | exact Go.Mix.wanted_ff rfl rfl rfl); go_big_quiet_op; refine hK _ ?_; clear hK K) | (refine Go.Flo.fw_skip ?_ (fun K hK => ?_); (first | exact Go.Mix.wanted_tf rfl rfl rfl | exact Go.Mix.wanted_ft rfl rfl rfl); go_simp; refine hK _ ?_; clear hK K) | (refine Go.Flo.fw_any rfl ?_ (fun K hK => ?_); (first | exact Go.Mix.wanted_none rfl | exact Go.Mix.wanted_tt rfl rfl rfl | exact Go.Mix.wanted_ff rfl rfl rfl); go_simp; (try (go_ints; try go_simp)); refine hK _ ?_; clear hK K)))
    refine Go.Flo.fw_loud rfl ?_ rfl (by simp) (fun wv hwv hav K hK => ?_) (fun v hv K hK => ?_)
    · (first | exact Go.Mix.wanted_none rfl | exact Go.Mix.wanted_tt rfl rfl rfl | exact Go.Mix.wanted_ff rfl rfl rfl)
    · obtain ⟨iv, rfl⟩ := hwv
      have hbv := HW.out iv
      (first | go_big_op | go_simp)
      go_at_call 38
      refine (Num_z _ (len + 1) 2 _ (show (len : Int) + 1 = ((len + 1 : Nat) : Int) by omega) (by omega) (by decide)).mono ?_
      rintro e w' ⟨b3, q3, rfl, hown, hbb⟩
      rw [← HN3.out] at hown
      exact hK _ _ (owes_B E3.out rfl hbb hown)
    obtain ⟨b3, q3, rfl⟩ := ex_B hv
    rw [E3.out]
    go_simp
    refine hK _ ?_
    clear hK K hv
    (repeat (first | (refine Go.Flo.fw_calm rfl ?_ (fun K hK => ?_); (first | exact Go.Mix.wanted_none rfl | exact Go.Mix.wanted_tt rfl rfl rfl | exact Go.Mix.wanted_ff rfl rfl rfl); go_big_quiet_op; refine hK _ ?_; clear hK K) | (refine Go.Flo.fw_skip ?_ (fun K hK => ?_); (first | exact Go.Mix.wanted_tf rfl rfl rfl | exact Go.Mix.wanted_ft rfl rfl rfl); go_simp; refine hK _ ?_; clear hK K) | (refine Go.Flo.fw_any rfl ?_ (fun K hK => ?_); (first | exact Go.Mix.wanted_none rfl | exact Go.Mix.wanted_tt rfl rfl rfl | exact Go.Mix.wanted_ff rfl rfl rfl); go_simp; (try (go_ints; try go_simp)); refine hK _ ?_; clear hK K)))
    refine Go.Flo.fw_loud rfl ?_ rfl (by simp) (fun wv hwv hav K hK => ?_) (fun v hv K hK => ?_)
    · (first | exact Go.Mix.wanted_none rfl | exact Go.Mix.wanted_tt rfl rfl rfl | exact Go.Mix.wanted_ff rfl rfl rfl)
    · obtain ⟨iv, rfl⟩ := hwv
      have hbv := HW.out iv
      (first | go_big_op | go_simp)
      have f1 := hav 13 (by decide +kernel)
      iterate 13 (replace f1 := f1.1)
      have f2 := hav 18 (by decide +kernel)
      iterate 8 (replace f2 := f2.1)
      have f3 := hav 24 (by decide +kernel)
      iterate 2 (replace f3 := f3.1)
      have s1 := says_B (f1.2 rfl).1
      have s2 := says_B (f2.2 rfl).1
      have s3 := says_B (f3.2 rfl).1
      rw [E1.out] at s1
      rw [E2.out] at s2
      rw [E3.out] at s3
      refine hK _ _ (owes_row4 (Nat.zero_le _) E1.out E2.out E3.out HL.out s1 s2 s3 ((HR1.out.below' hbv (by omega)).mono (by have := hbv.size; omega)))
    obtain ⟨g6, rfl⟩ := ex_row4 hv
    go_simp
    refine hK _ ?_
    clear hK K hv
    (repeat (first | (refine Go.Flo.fw_calm rfl ?_ (fun K hK => ?_); (first | exact Go.Mix.wanted_none rfl | exact Go.Mix.wanted_tt rfl rfl rfl | exact Go.Mix.wanted_ff rfl rfl rfl); go_big_quiet_op; refine hK _ ?_; clear hK K) | (refine Go.Flo.fw_skip ?_ (fun K hK => ?_); (first | exact Go.Mix.wanted_tf rfl rfl rfl | exact Go.Mix.wanted_ft rfl rfl rfl); go_simp; refine hK _ ?_; clear hK K) | (refine Go.Flo.fw_any rfl ?_ (fun K hK => ?_); (first | exact Go.Mix.wanted_none rfl | exact Go.Mix.wanted_tt rfl rfl rfl | exact Go.Mix.wanted_ff rfl rfl rfl); go_simp; (try (go_ints; try go_simp)); refine hK _ ?_; clear hK K)))
    refine Go.Flo.fw_loud rfl ?_ rfl (by simp) (fun wv hwv hav K hK => ?_) (fun v hv K hK => ?_)
    · (first | exact Go.Mix.wanted_none rfl | exact Go.Mix.wanted_tt rfl rfl rfl | exact Go.Mix.wanted_ff rfl rfl rfl)
    · obtain ⟨iv, rfl⟩ := hwv
      have hbv := HW.out iv
      (first | go_big_op | go_simp)
      have s4 := ((hav 27 (by decide +kernel)).2 rfl).1
      go_at_call 18
      refine (Join4 s4 (by rw [← HB.out, HBL.out]; omega)).mono ?_
      rintro e w' ⟨v, rfl, hown, hbb⟩
      rw [← HB.out] at hown
      exact hK _ _ (owes_B rfl rfl hbb hown)
    obtain ⟨a7, c7, rfl⟩ := ex_B hv
    rw [HBL.out]
    go_simp
    refine hK _ ?_
    clear hK K hv
    (repeat (first | (refine Go.Flo.fw_calm rfl ?_ (fun K hK => ?_); (first | exact Go.Mix.wanted_none rfl | exact Go.Mix.wanted_tt rfl rfl rfl | exact Go.Mix.wanted_ff rfl rfl rfl); go_big_quiet_op; refine hK _ ?_; clear hK K) | (refine Go.Flo.fw_skip ?_ (fun K hK => ?_); (first | exact Go.Mix.wanted_tf rfl rfl rfl | exact Go.Mix.wanted_ft rfl rfl rfl); go_simp; refine hK _ ?_; clear hK K) | (refine Go.Flo.fw_any rfl ?_ (fun K hK => ?_); (first | exact Go.Mix.wanted_none rfl | exact Go.Mix.wanted_tt rfl rfl rfl | exact Go.Mix.wanted_ff rfl rfl rfl); go_simp; (try (go_ints; try go_simp)); refine hK _ ?_; clear hK K)))
    refine Go.Flo.fw_loud rfl ?_ rfl (by simp) (fun wv hwv hav K hK => ?_) (fun v hv K hK => ?_)
    · (first | exact Go.Mix.wanted_none rfl | exact Go.Mix.wanted_tt rfl rfl rfl | exact Go.Mix.wanted_ff rfl rfl rfl)
    · obtain ⟨iv, rfl⟩ := hwv
      have hbv := HW.out iv
      (first | go_big_op | go_simp)
      have hs := says_B ((hav 28 (by decide +kernel)).2 rfl).1
      rw [HBL.out] at hs
      go_at_call 83
      refine (rAppend_any a7 M c7 _ B _ HBL.out (Nat.le_refl _) hs hBb (by omega)).mono ?_
      rintro e w' ⟨v, rfl, hown, hbb⟩
      exact hK _ _ (owes_O HWL.out rfl hbb hown (by have := hbv.size; omega))
    obtain ⟨a8, c8, rfl⟩ := ex_O hv
    go_simp
    refine hK _ ?_
    clear hK K hv
    (repeat (first | (refine Go.Flo.fw_calm rfl ?_ (fun K hK => ?_); (first | exact Go.Mix.wanted_none rfl | exact Go.Mix.wanted_tt rfl rfl rfl | exact Go.Mix.wanted_ff rfl rfl rfl); go_big_quiet_op; refine hK _ ?_; clear hK K) | (refine Go.Flo.fw_skip ?_ (fun K hK => ?_); (first | exact Go.Mix.wanted_tf rfl rfl rfl | exact Go.Mix.wanted_ft rfl rfl rfl); go_simp; refine hK _ ?_; clear hK K) | (refine Go.Flo.fw_any rfl ?_ (fun K hK => ?_); (first | exact Go.Mix.wanted_none rfl | exact Go.Mix.wanted_tt rfl rfl rfl | exact Go.Mix.wanted_ff rfl rfl rfl); go_simp; (try (go_ints; try go_simp)); refine hK _ ?_; clear hK K)))
    refine Go.Flo.fw_nil ?_
    intro w4 hww4 hfw4 huw4
    refine Go.Flo.tw_nil ?_
    obtain ⟨iend, hiend⟩ := hww4
    have hbw4 := HW.out iend
    rw [← hiend] at hbw4
    clear hiend iend huw4
    have hsays : w4.ownsRow w.heap.size 5 1 (.slice a8 (whole B).length c8) (whole B).length (bl (whole B)) := ((hfw4 (some 29)).1.2 rfl).1
    clear hfw4 HJ HW hne k1 k2 k3
    clear W I
    rw [HWL.out] at hsays
    rw [HWL.out]
    go_wp2
    go_ret
    refine ⟨_, rfl, ?_, HB1.out.trans (hbw4.mono (by omega))⟩
    rw [HMK.out] at hsays
    rw [show len + 8 = M + 2 by have := HM.out; omega]
    exact hsays
end Go.Proofs.Ytfolebogfapmaaa
