/- Layer 20: the document's cycle. -/
import Derived.Test.YtboojcahflkkmaaTn7
namespace Go.Proofs.Ytboojcahflkkmaa
open Go.RowKit Go.Own Bs
set_option linter.unusedVariables false
set_option linter.unusedSimpArgs false
theorem res_cttt {P : Program} {fn : Func} {p u1 u2 u3 : Tmp} {ty : TypeId} (h : fn.results = #[.cell p ty, .tmp u1, .tmp u2, .tmp u3]) (tmps : Array Value) (w : World) (g : Nat) (t : TypeId) (cs : Array Value) (fr : Nat × Nat) {d : TypeDesc}
    (hp : tmps.getD p undef = .pointer (some ⟨g, 0, none⟩)) (hg : w.heap[g]? = some (.cells cs t fr))
    (hu : P.underlying ty = some d) (hd : (match d with | .struct _ | .array _ _ => true | _ => false) = true) (hi : (P.info? ty).map (·.size) = some cs.size) :
    (results fn tmps).run P w = .ok (.tuple #[.agg cs, tmps.getD u1 undef, tmps.getD u2 undef, tmps.getD u3 undef]) w := by
  have hp' : tmps[p]?.getD undef = .pointer (some ⟨g, 0, none⟩) := by simpa using hp
  simp only [results, h]
  simp [Sem.run_bind, Result.andThen, hp', asAddr, run_loadVar_row w g t ty cs fr d hg hu hd hi]
/-- The document's turn's box, and that of the result. -/
structure R2 (w wr : World) (g3 g6 : Nat) (p : Int) (f t : Nat → Int) : Prop where
  be : Below w.heap.size w wr
  b3 : wr.heap[g3]? = some (.cells #[.int .u8 p, .int .i8 (f 0), .int .i8 (f 1), .int .i8 (f 2), .int .i8 (f 3), .int .i8 (f 4), .int .i8 (f 5), .int .i8 (t 0), .int .i8 (t 1), .int .i8 (t 2), .int .i8 (t 3), .int .i8 (t 4), .int .i8 (t 5)] 102 (0, 0))
  b6 : wr.heap[g6]? = some (.cells #[.int .u8 0, .int .i8 0, .int .i8 0, .int .i8 0, .int .i8 0, .int .i8 0, .int .i8 0, .int .i8 0, .int .i8 0, .int .i8 0, .int .i8 0, .int .i8 0, .int .i8 0] 102 (0, 0))
  h3 : w.heap.size ≤ g3
  h6 : w.heap.size ≤ g6
  n36 : g3 ≠ g6
theorem R2.step {w wr w' : World} {g3 g6 : Nat} {p : Int} {f t : Nat → Int} (h : R2 w wr g3 g6 p f t) (hb : Below wr.heap.size wr w') : R2 w w' g3 g6 p f t :=
  ⟨h.be.trans (hb.mono h.be.size), box_below h.b3 hb (box_lt h.b3), box_below h.b6 hb (box_lt h.b6), h.h3, h.h6, h.n36⟩
theorem R2.phase {w wr : World} {g3 g6 : Nat} {p : Int} {f t : Nat → Int} (h : R2 w wr g3 g6 p f t) (q : Int) : R2 w (wr.setCell ⟨g3, 0, none⟩ (.int .u8 q)) g3 g6 q f t :=
  ⟨h.be.setCell (p := ⟨g3, 0, none⟩) h.h3 _, heap_setCell_same wr g3 0 _ _ _ h.b3, (heap_setCell_other wr ⟨g3, 0, none⟩ g6 _ (Ne.symm h.n36)).trans h.b6, h.h3, h.h6, h.n36⟩
theorem R2.fin {w wr : World} {g3 g6 : Nat} {p : Int} {f t : Nat → Int} (h : R2 w wr g3 g6 p f t) (C : Array Value) :
    (wr.setRow g6 C).heap[g6]? = some (.cells C 102 (0, 0)) ∧ Below w.heap.size w (wr.setRow g6 C) :=
  ⟨setRow_heap _ g6 _ _ _ _ h.b6, bel_rowS h.be h.h6 C⟩
theorem R2.new (w : World) (p : Int) (f t : Nat → Int) : R2 w ((w.alloc (.cells #[.int .u8 p, .int .i8 (f 0), .int .i8 (f 1), .int .i8 (f 2), .int .i8 (f 3), .int .i8 (f 4), .int .i8 (f 5), .int .i8 (t 0), .int .i8 (t 1), .int .i8 (t 2), .int .i8 (t 3), .int .i8 (t 4), .int .i8 (t 5)] 102)).alloc (.cells #[.int .u8 0, .int .i8 0, .int .i8 0, .int .i8 0, .int .i8 0, .int .i8 0, .int .i8 0, .int .i8 0, .int .i8 0, .int .i8 0, .int .i8 0, .int .i8 0, .int .i8 0] 102)) w.heap.size (w.heap.size + 1) p f t := by
  obtain ⟨h1, h2⟩ := al2T w (.cells #[.int .u8 p, .int .i8 (f 0), .int .i8 (f 1), .int .i8 (f 2), .int .i8 (f 3), .int .i8 (f 4), .int .i8 (f 5), .int .i8 (t 0), .int .i8 (t 1), .int .i8 (t 2), .int .i8 (t 3), .int .i8 (t 4), .int .i8 (t 5)] 102) (.cells #[.int .u8 0, .int .i8 0, .int .i8 0, .int .i8 0, .int .i8 0, .int .i8 0, .int .i8 0, .int .i8 0, .int .i8 0, .int .i8 0, .int .i8 0, .int .i8 0, .int .i8 0] 102)
  exact ⟨by repeat' (first | (with_reducible exact Below.refl _ _) | (with_reducible assumption) | (with_reducible refine Below.setCell ?_ ?_ _) | (with_reducible refine Below.alloc ?_ ?_ _) | (with_reducible refine Below.drew ?_) | (with_reducible refine Below.drawsN ?_ _) | go_size), h1, h2, by omega, by omega, by omega⟩
set_option maxRecDepth 100000 in
set_option maxHeartbeats 8000000 in
theorem rNext_any (p : Int) (f t : Nat → Int) (wk ls : Nat) (w : World) (hf : ChOk f) (ht : ChOk t) (hwk : wk < 65536) (hls : ls < 65536) :
    Calls Try.prog 48 #[.agg #[.int .u8 p, .int .i8 (f 0), .int .i8 (f 1), .int .i8 (f 2), .int .i8 (f 3), .int .i8 (f 4), .int .i8 (f 5), .int .i8 (t 0), .int .i8 (t 1), .int .i8 (t 2), .int .i8 (t 3), .int .i8 (t 4), .int .i8 (t 5)], .int .u16 (wk : Nat), .int .u16 (ls : Nat)] w fun e w' => e = .returned (.tuple #[.agg #[.int .u8 (nxtR p f t wk ls).p, .int .i8 ((nxtR p f t wk ls).f 0), .int .i8 ((nxtR p f t wk ls).f 1), .int .i8 ((nxtR p f t wk ls).f 2), .int .i8 ((nxtR p f t wk ls).f 3), .int .i8 ((nxtR p f t wk ls).f 4), .int .i8 ((nxtR p f t wk ls).f 5), .int .i8 ((nxtR p f t wk ls).t 0), .int .i8 ((nxtR p f t wk ls).t 1), .int .i8 ((nxtR p f t wk ls).t 2), .int .i8 ((nxtR p f t wk ls).t 3), .int .i8 ((nxtR p f t wk ls).t 4), .int .i8 ((nxtR p f t wk ls).t 5)], .int .u16 ((nxtR p f t wk ls).o : Nat), .bool (nxtR p f t wk ls).d, .int .u16 ((nxtR p f t wk ls).q : Nat)]) ∧ Below w.heap.size w w' := by
  obtain ⟨res, hres⟩ : ∃ r, r = nxtR p f t wk ls := ⟨_, rfl⟩
  obtain ⟨s, hs⟩ : ∃ s, s = unitsS t 6 := ⟨_, rfl⟩
  obtain ⟨r, hr⟩ : ∃ r, r = unitsS f 6 := ⟨_, rfl⟩
  have hs1 : s < 65536 := by rw [hs]; exact unitsS_lt t 6
  have hr1 : r < 65536 := by rw [hr]; exact unitsS_lt f 6
  have hq : res = if p = 1 then (if s &&& ls = 0 then (if lessS s wk = 0 then ⟨2, f, t, 0, false, 0⟩ else ⟨1, f, t, 0, false, 0⟩) else ⟨0, f, f, lessS s r, false, s &&& ls⟩) else if p = 2 then ⟨3, f, t, 0, false, 0⟩ else if p = 3 then ⟨0, t, t, lessS r s, true, 0⟩ else ⟨p, f, t, 0, false, 0⟩ := by rw [hres, hs, hr]; rfl
  rw [← hres]
  have hS := R2.new w p f t
  have hzt := zero_tr
  have hand := and16 s ls hs1 hls
  obtain ⟨q, hqq⟩ : ∃ q, q = s &&& ls := ⟨_, rfl⟩
  rw [← hqq] at hq hand
  have HQ := Lib.hid hq
  have HE := Lib.hid (show s = unitsS t 6 ∧ r = unitsS f 6 from ⟨hs, hr⟩)
  have HC := Lib.hid (And.intro hf ht)
  clear hs hr hq hres hf ht hqq
  go_enter Try.func48, Try.ntmps48
  go_upto_region 1 with fail
  obtain ⟨w1, hw1⟩ : ∃ w1, w1 = ((w.alloc (.cells #[.int .u8 p, .int .i8 (f 0), .int .i8 (f 1), .int .i8 (f 2), .int .i8 (f 3), .int .i8 (f 4), .int .i8 (f 5), .int .i8 (t 0), .int .i8 (t 1), .int .i8 (t 2), .int .i8 (t 3), .int .i8 (t 4), .int .i8 (t 5)] 102)).alloc (.cells #[.int .u8 0, .int .i8 0, .int .i8 0, .int .i8 0, .int .i8 0, .int .i8 0, .int .i8 0, .int .i8 0, .int .i8 0, .int .i8 0, .int .i8 0, .int .i8 0, .int .i8 0] 102)) := ⟨_, rfl⟩
  rw [← hw1] at hS ⊢
  obtain ⟨g6, hg6⟩ : ∃ g, g = w.heap.size + 1 := ⟨_, rfl⟩
  rw [← hg6] at hS ⊢
  obtain ⟨g3, hg3⟩ : ∃ g, g = w.heap.size := ⟨_, rfl⟩
  rw [show (Value.pointer (some ⟨w.heap.size, 0, none⟩)) = .pointer (some ⟨g3, 0, none⟩) by rw [hg3]]
  have hS : R2 w w1 g3 g6 p f t := by rw [hg3]; exact hS
  have HS := Lib.hid hS
  clear hS hw1 hg6 hg3
  have b3 := HS.out.b3
  have l3 := box_lt b3
  obtain ⟨I, W, hne, hWI, hIW⟩ := Go.Mix.family (fun v => Below w1.heap.size w1 v) (Below.refl _ _)
  have HJ := Lib.hid hIW
  have HW := Lib.hid hWI
  clear hWI hIW
  refine Go.Flo.wp_region (fun w' => ∃ i, w' = W i) 8 [Go.Flo.Spec.is (.int .u16 (r : Nat)), Go.Flo.Spec.is (.int .u16 (s : Nat))] (by kernel_rfl) (by kernel_rfl) (by decide) (by rintro _ w' ⟨i, rfl⟩ hb; exact HJ.out _ ((HW.out i).trans (hb.mono (HW.out i).size))) (HJ.out _ (Below.refl _ _).drew) ?_
  simp only [Go.Flo.pair, Go.Mix.calm, List.take, List.drop, if_true, Bool.false_eq_true, if_false, Nat.reduceAdd, Nat.reduceSub]
  (first | (refine Go.Flo.fw_calm rfl ?_ (fun K hK => ?_); (first | exact Go.Mix.wanted_none rfl | exact Go.Mix.wanted_tt rfl rfl rfl | exact Go.Mix.wanted_ff rfl rfl rfl); go_big_quiet_op; refine hK _ ?_; clear hK K) | (refine Go.Flo.fw_skip ?_ (fun K hK => ?_); (first | exact Go.Mix.wanted_tf rfl rfl rfl | exact Go.Mix.wanted_ft rfl rfl rfl); go_simp; refine hK _ ?_; clear hK K) | (refine Go.Flo.fw_any rfl ?_ (fun K hK => ?_); (first | exact Go.Mix.wanted_none rfl | exact Go.Mix.wanted_tt rfl rfl rfl | exact Go.Mix.wanted_ff rfl rfl rfl); go_simp; (try (go_ints; try go_simp)); refine hK _ ?_; clear hK K))
  (refine Go.Flo.fw_calm rfl ?_ (fun K hK => ?_); (first | exact Go.Mix.wanted_none rfl | exact Go.Mix.wanted_tt rfl rfl rfl | exact Go.Mix.wanted_ff rfl rfl rfl); refine Go.Flo.quiet_load_midT 66 _ rfl _ 1 rfl [.int .i8 (f 0), .int .i8 (f 1), .int .i8 (f 2), .int .i8 (f 3), .int .i8 (f 4), .int .i8 (f 5)] (by rintro _ ⟨i, rfl⟩; exact rgF (((HW.out i).block _ l3).trans b3)) Try.underlying66 rfl size_cr ?_; go_simp; refine hK _ ?_; clear hK K)
  refine Go.Flo.fw_loud rfl ?_ rfl (by simp) (fun wv hwv hav K hK => ?_) (fun v hv K hK => ?_)
  · (first | exact Go.Mix.wanted_none rfl | exact Go.Mix.wanted_tt rfl rfl rfl | exact Go.Mix.wanted_ff rfl rfl rfl)
  · obtain ⟨iv, rfl⟩ := hwv
    have hbv := HW.out iv
    (first | go_big_op | go_simp)
    go_at_call 56
    refine (rUnits_any f _ HC.out.1).mono ?_
    rintro e w' ⟨rfl, hb⟩
    rw [← HE.out.2]
    exact hK _ _ (Go.Flo.owes_is _ rfl hb)
  obtain rfl := hv.is
  go_simp
  refine hK _ ?_
  clear hK K hv
  (first | (refine Go.Flo.fw_calm rfl ?_ (fun K hK => ?_); (first | exact Go.Mix.wanted_none rfl | exact Go.Mix.wanted_tt rfl rfl rfl | exact Go.Mix.wanted_ff rfl rfl rfl); go_big_quiet_op; refine hK _ ?_; clear hK K) | (refine Go.Flo.fw_skip ?_ (fun K hK => ?_); (first | exact Go.Mix.wanted_tf rfl rfl rfl | exact Go.Mix.wanted_ft rfl rfl rfl); go_simp; refine hK _ ?_; clear hK K) | (refine Go.Flo.fw_any rfl ?_ (fun K hK => ?_); (first | exact Go.Mix.wanted_none rfl | exact Go.Mix.wanted_tt rfl rfl rfl | exact Go.Mix.wanted_ff rfl rfl rfl); go_simp; (try (go_ints; try go_simp)); refine hK _ ?_; clear hK K))
  (refine Go.Flo.fw_calm rfl ?_ (fun K hK => ?_); (first | exact Go.Mix.wanted_none rfl | exact Go.Mix.wanted_tt rfl rfl rfl | exact Go.Mix.wanted_ff rfl rfl rfl); refine Go.Flo.quiet_load_midT 66 _ rfl _ 7 rfl [.int .i8 (t 0), .int .i8 (t 1), .int .i8 (t 2), .int .i8 (t 3), .int .i8 (t 4), .int .i8 (t 5)] (by rintro _ ⟨i, rfl⟩; exact rgT (((HW.out i).block _ l3).trans b3)) Try.underlying66 rfl size_cr ?_; go_simp; refine hK _ ?_; clear hK K)
  refine Go.Flo.fw_loud rfl ?_ rfl (by simp) (fun wv hwv hav K hK => ?_) (fun v hv K hK => ?_)
  · (first | exact Go.Mix.wanted_none rfl | exact Go.Mix.wanted_tt rfl rfl rfl | exact Go.Mix.wanted_ff rfl rfl rfl)
  · obtain ⟨iv, rfl⟩ := hwv
    have hbv := HW.out iv
    (first | go_big_op | go_simp)
    go_at_call 56
    refine (rUnits_any t _ HC.out.2).mono ?_
    rintro e w' ⟨rfl, hb⟩
    rw [← HE.out.1]
    exact hK _ _ (Go.Flo.owes_is _ rfl hb)
  obtain rfl := hv.is
  go_simp
  refine hK _ ?_
  clear hK K hv
  (repeat (first | (refine Go.Flo.fw_calm rfl ?_ (fun K hK => ?_); (first | exact Go.Mix.wanted_none rfl | exact Go.Mix.wanted_tt rfl rfl rfl | exact Go.Mix.wanted_ff rfl rfl rfl); go_big_quiet_op; refine hK _ ?_; clear hK K) | (refine Go.Flo.fw_skip ?_ (fun K hK => ?_); (first | exact Go.Mix.wanted_tf rfl rfl rfl | exact Go.Mix.wanted_ft rfl rfl rfl); go_simp; refine hK _ ?_; clear hK K) | (refine Go.Flo.fw_any rfl ?_ (fun K hK => ?_); (first | exact Go.Mix.wanted_none rfl | exact Go.Mix.wanted_tt rfl rfl rfl | exact Go.Mix.wanted_ff rfl rfl rfl); go_simp; (try (go_ints; try go_simp)); refine hK _ ?_; clear hK K)))
  refine Go.Flo.fw_nil ?_
  intro w2 hww2 hfw2 huw2
  refine Go.Flo.tw_nil ?_
  obtain ⟨iend, hiend⟩ := hww2
  have hbw2 := HW.out iend
  rw [← hiend] at hbw2
  clear hiend iend huw2
  have HS2 := Lib.hid (HS.out.step hbw2)
  clear hfw2 HJ HW hne hbw2 b3 l3 HS
  clear W I
  have c0 := ldTp HS2.out.b3
  by_cases p1 : p = 1
  · have q1 : (p == 1) = true := by simp [p1]
    have HQ1 := Lib.hid (HQ.out.trans (if_pos p1))
    have HP := Lib.hid p1
    clear p1 HQ
    by_cases h0 : q = 0
    · have e0 : ((q : Int) != 0) = false := by simp [h0]
      have HR0 := Lib.hid (HQ1.out.trans (if_pos h0))
      clear h0 HQ1
      go_wp2_with fail
      go_at_call 55
      refine (rLess_any s wk _ hs1 hwk).mono ?_
      rintro e w4 ⟨rfl, rfl⟩
      by_cases h1 : lessS s wk = 0
      · rw [h1]
        have HR1 := Lib.hid (HR0.out.trans (if_pos h1))
        clear h1 HR0
        have fz := frozen_of_row _ g3 0 _ _ HS2.out.b3
        go_upto_region 7 with fail
        have HS3 := Lib.hid (HS2.out.phase 2)
        clear c0 fz
        obtain ⟨w5, hw5⟩ : ∃ w5, w5 = w2.setCell ⟨g3, 0, none⟩ (.int .u8 2) := ⟨_, rfl⟩
        rw [← hw5] at HS3 ⊢
        clear hw5 HS2
        skip
        have b3 := HS3.out.b3
        have b6 := HS3.out.b6
        have HF := Lib.hid (HS3.out.fin #[.int .u8 2, .int .i8 (f 0), .int .i8 (f 1), .int .i8 (f 2), .int .i8 (f 3), .int .i8 (f 4), .int .i8 (f 5), .int .i8 (t 0), .int .i8 (t 1), .int .i8 (t 2), .int .i8 (t 3), .int .i8 (t 4), .int .i8 (t 5)])
        go_wp2_with (first | ((with_reducible show wpList _ _ _ (_ :: _) _ _); refine wpList_load_row rfl 102 _ rfl _ rfl _ _ _ _ b3 Try.underlying102 rfl (by exact size_tr) ?_; (try go_simp)) | ((with_reducible show wpList _ _ _ (_ :: _) _ _); refine wpList_store_row rfl 102 _ _ rfl _ _ rfl rfl _ _ b6 (by exact size_tr) (by rfl) (by simp [Value.oneCell']) ?_))
        refine bodyPost_ret (res_cttt rfl _ _ _ _ _ _ rfl HF.out.1 Try.underlying102 rfl (by exact size_tr)) rfl ?_
        exact ⟨by rw [HR1.out]; rfl, HF.out.2⟩
      · obtain ⟨z, hz⟩ : ∃ z, z = lessS s wk := ⟨_, rfl⟩
        rw [← hz] at h1 ⊢
        have e1 : ((z : Int) == 0) = false := by rw [beq_eq_false_iff_ne]; omega
        have HR1 := Lib.hid (HR0.out.trans (if_neg (by rw [← hz]; exact h1)))
        clear h1 HR0 hz
        clear c0
        skip
        have b3 := HS2.out.b3
        have b6 := HS2.out.b6
        have HF := Lib.hid (HS2.out.fin #[.int .u8 p, .int .i8 (f 0), .int .i8 (f 1), .int .i8 (f 2), .int .i8 (f 3), .int .i8 (f 4), .int .i8 (f 5), .int .i8 (t 0), .int .i8 (t 1), .int .i8 (t 2), .int .i8 (t 3), .int .i8 (t 4), .int .i8 (t 5)])
        go_wp2_with (first | ((with_reducible show wpList _ _ _ (_ :: _) _ _); refine wpList_load_row rfl 102 _ rfl _ rfl _ _ _ _ b3 Try.underlying102 rfl (by exact size_tr) ?_; (try go_simp)) | ((with_reducible show wpList _ _ _ (_ :: _) _ _); refine wpList_store_row rfl 102 _ _ rfl _ _ rfl rfl _ _ b6 (by exact size_tr) (by rfl) (by simp [Value.oneCell']) ?_))
        refine bodyPost_ret (res_cttt rfl _ _ _ _ _ _ rfl HF.out.1 Try.underlying102 rfl (by exact size_tr)) rfl ?_
        exact ⟨by rw [HR1.out, HP.out]; rfl, HF.out.2⟩
    · have e0 : ((q : Int) != 0) = true := by simp only [bne_iff_ne]; omega
      have HR0 := Lib.hid (HQ1.out.trans (if_neg h0))
      clear h0 HQ1
      go_upto_region 4 with fail
      have b3 := HS2.out.b3
      have l3 := box_lt b3
      obtain ⟨o, ho⟩ : ∃ o, o = lessS s r := ⟨_, rfl⟩
      have HO := Lib.hid ho
      clear ho c0
      obtain ⟨I, W, hne, hWI, hIW⟩ := Go.Mix.family (fun v => v.heap[g3]? = some (.cells #[.int .u8 p, .int .i8 (f 0), .int .i8 (f 1), .int .i8 (f 2), .int .i8 (f 3), .int .i8 (f 4), .int .i8 (f 5), .int .i8 (t 0), .int .i8 (t 1), .int .i8 (t 2), .int .i8 (t 3), .int .i8 (t 4), .int .i8 (t 5)] 102 (0, 0))) b3
      have HJ := Lib.hid hIW
      have HW := Lib.hid hWI
      clear hWI hIW
      refine Go.Mix.wp_region (fun w' => ∃ i, w' = W i) (by kernel_rfl) (by kernel_rfl) (HJ.out _ b3) ?_
      simp only []
      (first | (refine Go.Mix.walk_calm rfl ?_ (fun K hK => ?_); (first | exact Go.Mix.wanted_none rfl | exact Go.Mix.wanted_tt rfl rfl rfl | exact Go.Mix.wanted_ff rfl rfl rfl); go_big_quiet_op; refine hK _ ?_; clear hK K) | (refine Go.Mix.walk_skip ?_ (fun K hK => ?_); (first | exact Go.Mix.wanted_tf rfl rfl rfl | exact Go.Mix.wanted_ft rfl rfl rfl); go_simp; refine hK _ ?_; clear hK K) | (refine Go.Mix.walk_loud rfl ?_ (fun K hK => ?_); (first | exact Go.Mix.wanted_none rfl | exact Go.Mix.wanted_tt rfl rfl rfl | exact Go.Mix.wanted_ff rfl rfl rfl); (first | go_big_op | go_simp); (first | (refine hK _ _ trivial ?_; clear hK K) | (fail; (try dsimp only); refine hK _ _ trivial ?_; clear hK K))) | (refine Go.Mix.walk_step (fun K hK => ?_); go_simp; (try (go_ints; try go_simp)); refine hK _ _ ?_; clear hK K))
      (refine Go.Mix.walk_calm rfl ?_ (fun K hK => ?_); (first | exact Go.Mix.wanted_none rfl | exact Go.Mix.wanted_tt rfl rfl rfl | exact Go.Mix.wanted_ff rfl rfl rfl); refine Go.Flo.quiet_load_midT 66 _ rfl _ 1 rfl [.int .i8 (f 0), .int .i8 (f 1), .int .i8 (f 2), .int .i8 (f 3), .int .i8 (f 4), .int .i8 (f 5)] (by rintro _ ⟨i, rfl⟩; exact rgF (HW.out i)) Try.underlying66 rfl size_cr ?_; go_simp; refine hK _ ?_; clear hK K)
      (first | (refine Go.Mix.walk_calm rfl ?_ (fun K hK => ?_); (first | exact Go.Mix.wanted_none rfl | exact Go.Mix.wanted_tt rfl rfl rfl | exact Go.Mix.wanted_ff rfl rfl rfl); go_big_quiet_op; refine hK _ ?_; clear hK K) | (refine Go.Mix.walk_skip ?_ (fun K hK => ?_); (first | exact Go.Mix.wanted_tf rfl rfl rfl | exact Go.Mix.wanted_ft rfl rfl rfl); go_simp; refine hK _ ?_; clear hK K) | (refine Go.Mix.walk_loud rfl ?_ (fun K hK => ?_); (first | exact Go.Mix.wanted_none rfl | exact Go.Mix.wanted_tt rfl rfl rfl | exact Go.Mix.wanted_ff rfl rfl rfl); (first | go_big_op | go_simp); (first | (refine hK _ _ trivial ?_; clear hK K) | (fail; (try dsimp only); refine hK _ _ trivial ?_; clear hK K))) | (refine Go.Mix.walk_step (fun K hK => ?_); go_simp; (try (go_ints; try go_simp)); refine hK _ _ ?_; clear hK K))
      (refine Go.Mix.walk_calm rfl ?_ (fun K hK => ?_); (first | exact Go.Mix.wanted_none rfl | exact Go.Mix.wanted_tt rfl rfl rfl | exact Go.Mix.wanted_ff rfl rfl rfl); refine Go.Flo.quiet_load_midT 66 _ rfl _ 1 rfl [.int .i8 (f 0), .int .i8 (f 1), .int .i8 (f 2), .int .i8 (f 3), .int .i8 (f 4), .int .i8 (f 5)] (by rintro _ ⟨i, rfl⟩; exact rgF (HW.out i)) Try.underlying66 rfl size_cr ?_; go_simp; refine hK _ ?_; clear hK K)
      (first | (refine Go.Mix.walk_calm rfl ?_ (fun K hK => ?_); (first | exact Go.Mix.wanted_none rfl | exact Go.Mix.wanted_tt rfl rfl rfl | exact Go.Mix.wanted_ff rfl rfl rfl); go_big_quiet_op; refine hK _ ?_; clear hK K) | (refine Go.Mix.walk_skip ?_ (fun K hK => ?_); (first | exact Go.Mix.wanted_tf rfl rfl rfl | exact Go.Mix.wanted_ft rfl rfl rfl); go_simp; refine hK _ ?_; clear hK K) | (refine Go.Mix.walk_loud rfl ?_ (fun K hK => ?_); (first | exact Go.Mix.wanted_none rfl | exact Go.Mix.wanted_tt rfl rfl rfl | exact Go.Mix.wanted_ff rfl rfl rfl); (first | go_big_op | go_simp); (first | (refine hK _ _ trivial ?_; clear hK K) | (fail; (try dsimp only); refine hK _ _ trivial ?_; clear hK K))) | (refine Go.Mix.walk_step (fun K hK => ?_); go_simp; (try (go_ints; try go_simp)); refine hK _ _ ?_; clear hK K))
      (first | (refine Go.Mix.walk_calm rfl ?_ (fun K hK => ?_); (first | exact Go.Mix.wanted_none rfl | exact Go.Mix.wanted_tt rfl rfl rfl | exact Go.Mix.wanted_ff rfl rfl rfl); go_big_quiet_op; refine hK _ ?_; clear hK K) | (refine Go.Mix.walk_skip ?_ (fun K hK => ?_); (first | exact Go.Mix.wanted_tf rfl rfl rfl | exact Go.Mix.wanted_ft rfl rfl rfl); go_simp; refine hK _ ?_; clear hK K) | (refine Go.Mix.walk_loud rfl ?_ (fun K hK => ?_); (first | exact Go.Mix.wanted_none rfl | exact Go.Mix.wanted_tt rfl rfl rfl | exact Go.Mix.wanted_ff rfl rfl rfl); (first | go_big_op | go_simp); (first | (refine hK _ _ trivial ?_; clear hK K) | (fail; (try dsimp only); refine hK _ _ trivial ?_; clear hK K))) | (refine Go.Mix.walk_step (fun K hK => ?_); go_simp; (try (go_ints; try go_simp)); refine hK _ _ ?_; clear hK K))
      (first | (refine Go.Mix.walk_calm rfl ?_ (fun K hK => ?_); (first | exact Go.Mix.wanted_none rfl | exact Go.Mix.wanted_tt rfl rfl rfl | exact Go.Mix.wanted_ff rfl rfl rfl); go_big_quiet_op; refine hK _ ?_; clear hK K) | (refine Go.Mix.walk_skip ?_ (fun K hK => ?_); (first | exact Go.Mix.wanted_tf rfl rfl rfl | exact Go.Mix.wanted_ft rfl rfl rfl); go_simp; refine hK _ ?_; clear hK K) | (refine Go.Mix.walk_loud rfl ?_ (fun K hK => ?_); (first | exact Go.Mix.wanted_none rfl | exact Go.Mix.wanted_tt rfl rfl rfl | exact Go.Mix.wanted_ff rfl rfl rfl); (first | go_big_op | go_simp); (first | (refine hK _ _ trivial ?_; clear hK K) | (fail; (try dsimp only); refine hK _ _ trivial ?_; clear hK K))) | (refine Go.Mix.walk_step (fun K hK => ?_); go_simp; (try (go_ints; try go_simp)); refine hK _ _ ?_; clear hK K))
      (refine Go.Mix.walk_loud rfl ?_ (fun K hK => ?_); (first | exact Go.Mix.wanted_none rfl | exact Go.Mix.wanted_tt rfl rfl rfl | exact Go.Mix.wanted_ff rfl rfl rfl); (first | go_big_op | go_simp); go_at_call 55; refine (rLess_any s r _ hs1 hr1).mono ?_)
      rintro e w' ⟨rfl, rfl⟩
      rw [← HO.out]
      (refine hK _ _ (HJ.out _ b3) ?_; clear hK K)
      (repeat (first | (refine Go.Mix.walk_calm rfl ?_ (fun K hK => ?_); (first | exact Go.Mix.wanted_none rfl | exact Go.Mix.wanted_tt rfl rfl rfl | exact Go.Mix.wanted_ff rfl rfl rfl); go_big_quiet_op; refine hK _ ?_; clear hK K) | (refine Go.Mix.walk_skip ?_ (fun K hK => ?_); (first | exact Go.Mix.wanted_tf rfl rfl rfl | exact Go.Mix.wanted_ft rfl rfl rfl); go_simp; refine hK _ ?_; clear hK K) | (refine Go.Mix.walk_loud rfl ?_ (fun K hK => ?_); (first | exact Go.Mix.wanted_none rfl | exact Go.Mix.wanted_tt rfl rfl rfl | exact Go.Mix.wanted_ff rfl rfl rfl); (first | go_big_op | go_simp); (first | (refine hK _ _ trivial ?_; clear hK K) | (fail; (try dsimp only); refine hK _ _ trivial ?_; clear hK K))) | (refine Go.Mix.walk_step (fun K hK => ?_); go_simp; (try (go_ints; try go_simp)); refine hK _ _ ?_; clear hK K)))
      have HS4 := Lib.hid (HS2.out.step (show Below w2.heap.size w2 w2.drew from ⟨rfl, rfl, rfl, Nat.le_refl _, fun _ _ => rfl⟩))
      have HF := Lib.hid (HS4.out.fin #[.int .u8 0, .int .i8 (f 0), .int .i8 (f 1), .int .i8 (f 2), .int .i8 (f 3), .int .i8 (f 4), .int .i8 (f 5), .int .i8 (f 0), .int .i8 (f 1), .int .i8 (f 2), .int .i8 (f 3), .int .i8 (f 4), .int .i8 (f 5)])
      refine Go.Mix.walk_loud rfl ?_ (fun K hK => ?_)
      · (first | exact Go.Mix.wanted_none rfl | exact Go.Mix.wanted_tt rfl rfl rfl | exact Go.Mix.wanted_ff rfl rfl rfl)
      refine wp_store_row 102 _ _ rfl g6 #[.int .u8 0, .int .i8 (f 0), .int .i8 (f 1), .int .i8 (f 2), .int .i8 (f 3), .int .i8 (f 4), .int .i8 (f 5), .int .i8 (f 0), .int .i8 (f 1), .int .i8 (f 2), .int .i8 (f 3), .int .i8 (f 4), .int .i8 (f 5)] rfl rfl 102 _ HS4.out.b6 (by exact size_tr) rfl (by simp [Value.oneCell']) (hK _ _ (HJ.out _ ((setRow_other _ _ _ _ HS4.out.n36).trans b3)) ?_)
      clear hK K
      (repeat (first | (refine Go.Mix.walk_calm rfl ?_ (fun K hK => ?_); (first | exact Go.Mix.wanted_none rfl | exact Go.Mix.wanted_tt rfl rfl rfl | exact Go.Mix.wanted_ff rfl rfl rfl); go_big_quiet_op; refine hK _ ?_; clear hK K) | (refine Go.Mix.walk_skip ?_ (fun K hK => ?_); (first | exact Go.Mix.wanted_tf rfl rfl rfl | exact Go.Mix.wanted_ft rfl rfl rfl); go_simp; refine hK _ ?_; clear hK K) | (refine Go.Mix.walk_loud rfl ?_ (fun K hK => ?_); (first | exact Go.Mix.wanted_none rfl | exact Go.Mix.wanted_tt rfl rfl rfl | exact Go.Mix.wanted_ff rfl rfl rfl); (first | go_big_op | go_simp); (first | (refine hK _ _ trivial ?_; clear hK K) | (fail; (try dsimp only); refine hK _ _ trivial ?_; clear hK K))) | (refine Go.Mix.walk_step (fun K hK => ?_); go_simp; (try (go_ints; try go_simp)); refine hK _ _ ?_; clear hK K)))
      refine Go.Mix.walk_nil ?_
      go_wp2_with fail
      refine bodyPost_ret (res_cttt rfl _ _ _ _ _ _ rfl HF.out.1 Try.underlying102 rfl (by exact size_tr)) rfl ?_
      exact ⟨by rw [HR0.out, ← HO.out]; rfl, HF.out.2⟩
  · have HQ1 := Lib.hid (HQ.out.trans (if_neg p1))
    have q1 : (p == 1) = false := by simp [p1]
    clear HQ
    by_cases p2 : p = 2
    · have q2 : (p == 2) = true := by simp [p2]
      have HR1 := Lib.hid (HQ1.out.trans (if_pos p2))
      clear p1 p2 HQ1
      have fz := frozen_of_row _ g3 0 _ _ HS2.out.b3
      go_upto_region 10 with fail
      have HS3 := Lib.hid (HS2.out.phase 3)
      clear c0 fz
      obtain ⟨w5, hw5⟩ : ∃ w5, w5 = w2.setCell ⟨g3, 0, none⟩ (.int .u8 3) := ⟨_, rfl⟩
      rw [← hw5] at HS3 ⊢
      clear hw5 HS2
      skip
      have b3 := HS3.out.b3
      have b6 := HS3.out.b6
      have HF := Lib.hid (HS3.out.fin #[.int .u8 3, .int .i8 (f 0), .int .i8 (f 1), .int .i8 (f 2), .int .i8 (f 3), .int .i8 (f 4), .int .i8 (f 5), .int .i8 (t 0), .int .i8 (t 1), .int .i8 (t 2), .int .i8 (t 3), .int .i8 (t 4), .int .i8 (t 5)])
      go_wp2_with (first | ((with_reducible show wpList _ _ _ (_ :: _) _ _); refine wpList_load_row rfl 102 _ rfl _ rfl _ _ _ _ b3 Try.underlying102 rfl (by exact size_tr) ?_; (try go_simp)) | ((with_reducible show wpList _ _ _ (_ :: _) _ _); refine wpList_store_row rfl 102 _ _ rfl _ _ rfl rfl _ _ b6 (by exact size_tr) (by rfl) (by simp [Value.oneCell']) ?_))
      refine bodyPost_ret (res_cttt rfl _ _ _ _ _ _ rfl HF.out.1 Try.underlying102 rfl (by exact size_tr)) rfl ?_
      exact ⟨by rw [HR1.out]; rfl, HF.out.2⟩
    · have HQ2 := Lib.hid (HQ1.out.trans (if_neg p2))
      have q2 : (p == 2) = false := by simp [p2]
      clear HQ1
      by_cases p3 : p = 3
      · have q3 : (p == 3) = true := by simp [p3]
        have HR0 := Lib.hid (HQ2.out.trans (if_pos p3))
        clear p1 p2 p3 HQ2
        go_upto_region 12 with fail
        have b3 := HS2.out.b3
        have l3 := box_lt b3
        obtain ⟨o, ho⟩ : ∃ o, o = lessS r s := ⟨_, rfl⟩
        have HO := Lib.hid ho
        clear ho c0
        obtain ⟨I, W, hne, hWI, hIW⟩ := Go.Mix.family (fun v => Below w2.heap.size w2 v) (Below.refl _ _)
        have HJ := Lib.hid hIW
        have HW := Lib.hid hWI
        clear hWI hIW
        refine Go.Flo3.wp_region (fun w' => ∃ i, w' = W i) 8 [Go.Flo.Spec.is (.int .u16 (o : Nat))] (by kernel_rfl) (by kernel_rfl) (by decide) (by rintro _ w' ⟨i, rfl⟩ hb; exact HJ.out _ ((HW.out i).trans (hb.mono (HW.out i).size))) (HJ.out _ (Below.refl _ _).drew) ?_
        simp only [Go.Flo.pair, Go.Mix.calm, List.take, List.drop, if_true, Bool.false_eq_true, if_false, Nat.reduceAdd, Nat.reduceSub]
        (first | (refine Go.Flo.fw_calm rfl ?_ (fun K hK => ?_); (first | exact Go.Mix.wanted_none rfl | exact Go.Mix.wanted_tt rfl rfl rfl | exact Go.Mix.wanted_ff rfl rfl rfl); go_big_quiet_op; refine hK _ ?_; clear hK K) | (refine Go.Flo.fw_skip ?_ (fun K hK => ?_); (first | exact Go.Mix.wanted_tf rfl rfl rfl | exact Go.Mix.wanted_ft rfl rfl rfl); go_simp; refine hK _ ?_; clear hK K) | (refine Go.Flo.fw_any rfl ?_ (fun K hK => ?_); (first | exact Go.Mix.wanted_none rfl | exact Go.Mix.wanted_tt rfl rfl rfl | exact Go.Mix.wanted_ff rfl rfl rfl); go_simp; (try (go_ints; try go_simp)); refine hK _ ?_; clear hK K))
        (refine Go.Flo.fw_calm rfl ?_ (fun K hK => ?_); (first | exact Go.Mix.wanted_none rfl | exact Go.Mix.wanted_tt rfl rfl rfl | exact Go.Mix.wanted_ff rfl rfl rfl); refine Go.Flo.quiet_load_midT 66 _ rfl _ 7 rfl [.int .i8 (t 0), .int .i8 (t 1), .int .i8 (t 2), .int .i8 (t 3), .int .i8 (t 4), .int .i8 (t 5)] (by rintro _ ⟨i, rfl⟩; exact rgT (((HW.out i).block _ l3).trans b3)) Try.underlying66 rfl size_cr ?_; go_simp; refine hK _ ?_; clear hK K)
        (first | (refine Go.Flo.fw_calm rfl ?_ (fun K hK => ?_); (first | exact Go.Mix.wanted_none rfl | exact Go.Mix.wanted_tt rfl rfl rfl | exact Go.Mix.wanted_ff rfl rfl rfl); go_big_quiet_op; refine hK _ ?_; clear hK K) | (refine Go.Flo.fw_skip ?_ (fun K hK => ?_); (first | exact Go.Mix.wanted_tf rfl rfl rfl | exact Go.Mix.wanted_ft rfl rfl rfl); go_simp; refine hK _ ?_; clear hK K) | (refine Go.Flo.fw_any rfl ?_ (fun K hK => ?_); (first | exact Go.Mix.wanted_none rfl | exact Go.Mix.wanted_tt rfl rfl rfl | exact Go.Mix.wanted_ff rfl rfl rfl); go_simp; (try (go_ints; try go_simp)); refine hK _ ?_; clear hK K))
        (refine Go.Flo.fw_calm rfl ?_ (fun K hK => ?_); (first | exact Go.Mix.wanted_none rfl | exact Go.Mix.wanted_tt rfl rfl rfl | exact Go.Mix.wanted_ff rfl rfl rfl); refine Go.Flo.quiet_load_midT 66 _ rfl _ 7 rfl [.int .i8 (t 0), .int .i8 (t 1), .int .i8 (t 2), .int .i8 (t 3), .int .i8 (t 4), .int .i8 (t 5)] (by rintro _ ⟨i, rfl⟩; exact rgT (((HW.out i).block _ l3).trans b3)) Try.underlying66 rfl size_cr ?_; go_simp; refine hK _ ?_; clear hK K)
        (first | (refine Go.Flo.fw_calm rfl ?_ (fun K hK => ?_); (first | exact Go.Mix.wanted_none rfl | exact Go.Mix.wanted_tt rfl rfl rfl | exact Go.Mix.wanted_ff rfl rfl rfl); go_big_quiet_op; refine hK _ ?_; clear hK K) | (refine Go.Flo.fw_skip ?_ (fun K hK => ?_); (first | exact Go.Mix.wanted_tf rfl rfl rfl | exact Go.Mix.wanted_ft rfl rfl rfl); go_simp; refine hK _ ?_; clear hK K) | (refine Go.Flo.fw_any rfl ?_ (fun K hK => ?_); (first | exact Go.Mix.wanted_none rfl | exact Go.Mix.wanted_tt rfl rfl rfl | exact Go.Mix.wanted_ff rfl rfl rfl); go_simp; (try (go_ints; try go_simp)); refine hK _ ?_; clear hK K))
        (first | (refine Go.Flo.fw_calm rfl ?_ (fun K hK => ?_); (first | exact Go.Mix.wanted_none rfl | exact Go.Mix.wanted_tt rfl rfl rfl | exact Go.Mix.wanted_ff rfl rfl rfl); go_big_quiet_op; refine hK _ ?_; clear hK K) | (refine Go.Flo.fw_skip ?_ (fun K hK => ?_); (first | exact Go.Mix.wanted_tf rfl rfl rfl | exact Go.Mix.wanted_ft rfl rfl rfl); go_simp; refine hK _ ?_; clear hK K) | (refine Go.Flo.fw_any rfl ?_ (fun K hK => ?_); (first | exact Go.Mix.wanted_none rfl | exact Go.Mix.wanted_tt rfl rfl rfl | exact Go.Mix.wanted_ff rfl rfl rfl); go_simp; (try (go_ints; try go_simp)); refine hK _ ?_; clear hK K))
        (first | (refine Go.Flo.fw_calm rfl ?_ (fun K hK => ?_); (first | exact Go.Mix.wanted_none rfl | exact Go.Mix.wanted_tt rfl rfl rfl | exact Go.Mix.wanted_ff rfl rfl rfl); go_big_quiet_op; refine hK _ ?_; clear hK K) | (refine Go.Flo.fw_skip ?_ (fun K hK => ?_); (first | exact Go.Mix.wanted_tf rfl rfl rfl | exact Go.Mix.wanted_ft rfl rfl rfl); go_simp; refine hK _ ?_; clear hK K) | (refine Go.Flo.fw_any rfl ?_ (fun K hK => ?_); (first | exact Go.Mix.wanted_none rfl | exact Go.Mix.wanted_tt rfl rfl rfl | exact Go.Mix.wanted_ff rfl rfl rfl); go_simp; (try (go_ints; try go_simp)); refine hK _ ?_; clear hK K))
        refine Go.Flo.fw_loud rfl ?_ rfl (by simp) (fun wv hwv hav K hK => ?_) (fun v hv K hK => ?_)
        · (first | exact Go.Mix.wanted_none rfl | exact Go.Mix.wanted_tt rfl rfl rfl | exact Go.Mix.wanted_ff rfl rfl rfl)
        · obtain ⟨iv, rfl⟩ := hwv
          have hbv := HW.out iv
          (first | go_big_op | go_simp)
          go_at_call 55
          refine (rLess_any r s _ hr1 hs1).mono ?_
          rintro e w' ⟨rfl, rfl⟩
          rw [← HO.out]
          exact hK _ _ (Go.Flo.owes_is _ rfl (Below.refl _ _))
        obtain rfl := hv.is
        go_simp
        refine hK _ ?_
        clear hK K hv
        (repeat (first | (refine Go.Flo.fw_calm rfl ?_ (fun K hK => ?_); (first | exact Go.Mix.wanted_none rfl | exact Go.Mix.wanted_tt rfl rfl rfl | exact Go.Mix.wanted_ff rfl rfl rfl); go_big_quiet_op; refine hK _ ?_; clear hK K) | (refine Go.Flo.fw_skip ?_ (fun K hK => ?_); (first | exact Go.Mix.wanted_tf rfl rfl rfl | exact Go.Mix.wanted_ft rfl rfl rfl); go_simp; refine hK _ ?_; clear hK K) | (refine Go.Flo.fw_any rfl ?_ (fun K hK => ?_); (first | exact Go.Mix.wanted_none rfl | exact Go.Mix.wanted_tt rfl rfl rfl | exact Go.Mix.wanted_ff rfl rfl rfl); go_simp; (try (go_ints; try go_simp)); refine hK _ ?_; clear hK K)))
        refine Go.Flo.fw_nil ?_
        intro w4 hww4 hfw4 huw4
        obtain ⟨iend, hiend⟩ := hww4
        have hbw4 := HW.out iend
        rw [← hiend] at hbw4
        clear hiend iend huw4
        have HS4 := Lib.hid (HS2.out.step hbw4)
        clear hfw4 HJ HW hne hbw4 b3 l3 HS2
        clear W I
        have b6 := HS4.out.b6
        have HF := Lib.hid (HS4.out.fin #[.int .u8 0, .int .i8 (t 0), .int .i8 (t 1), .int .i8 (t 2), .int .i8 (t 3), .int .i8 (t 4), .int .i8 (t 5), .int .i8 (t 0), .int .i8 (t 1), .int .i8 (t 2), .int .i8 (t 3), .int .i8 (t 4), .int .i8 (t 5)])
        refine ⟨fun _ => True, trivial, ?_⟩

        (repeat (first | (refine Go.Mix.walk_calm rfl ?_ (fun K hK => ?_); (first | exact Go.Mix.wanted_none rfl | exact Go.Mix.wanted_tt rfl rfl rfl | exact Go.Mix.wanted_ff rfl rfl rfl); go_big_quiet_op; refine hK _ ?_; clear hK K) | (refine Go.Mix.walk_skip ?_ (fun K hK => ?_); (first | exact Go.Mix.wanted_tf rfl rfl rfl | exact Go.Mix.wanted_ft rfl rfl rfl); go_simp; refine hK _ ?_; clear hK K) | (refine Go.Mix.walk_loud rfl ?_ (fun K hK => ?_); (first | exact Go.Mix.wanted_none rfl | exact Go.Mix.wanted_tt rfl rfl rfl | exact Go.Mix.wanted_ff rfl rfl rfl); (first | go_big_op | go_simp); (first | (refine hK _ _ trivial ?_; clear hK K) | (fail; (try dsimp only); refine hK _ _ trivial ?_; clear hK K))) | (refine Go.Mix.walk_step (fun K hK => ?_); go_simp; (try (go_ints; try go_simp)); refine hK _ _ ?_; clear hK K)))
        (refine Go.Mix.walk_loud rfl ?_ (fun K hK => ?_); (first | exact Go.Mix.wanted_none rfl | exact Go.Mix.wanted_tt rfl rfl rfl | exact Go.Mix.wanted_ff rfl rfl rfl); refine wp_store_row 102 _ _ rfl _ #[.int .u8 0, .int .i8 (t 0), .int .i8 (t 1), .int .i8 (t 2), .int .i8 (t 3), .int .i8 (t 4), .int .i8 (t 5), .int .i8 (t 0), .int .i8 (t 1), .int .i8 (t 2), .int .i8 (t 3), .int .i8 (t 4), .int .i8 (t 5)] rfl rfl 102 _ b6 size_tr rfl (by simp [Value.oneCell']) (hK _ _ trivial ?_); clear hK K)
        (repeat (first | (refine Go.Mix.walk_calm rfl ?_ (fun K hK => ?_); (first | exact Go.Mix.wanted_none rfl | exact Go.Mix.wanted_tt rfl rfl rfl | exact Go.Mix.wanted_ff rfl rfl rfl); go_big_quiet_op; refine hK _ ?_; clear hK K) | (refine Go.Mix.walk_skip ?_ (fun K hK => ?_); (first | exact Go.Mix.wanted_tf rfl rfl rfl | exact Go.Mix.wanted_ft rfl rfl rfl); go_simp; refine hK _ ?_; clear hK K) | (refine Go.Mix.walk_loud rfl ?_ (fun K hK => ?_); (first | exact Go.Mix.wanted_none rfl | exact Go.Mix.wanted_tt rfl rfl rfl | exact Go.Mix.wanted_ff rfl rfl rfl); (first | go_big_op | go_simp); (first | (refine hK _ _ trivial ?_; clear hK K) | (fail; (try dsimp only); refine hK _ _ trivial ?_; clear hK K))) | (refine Go.Mix.walk_step (fun K hK => ?_); go_simp; (try (go_ints; try go_simp)); refine hK _ _ ?_; clear hK K)))
        refine Go.Mix.walk_nil ?_
        go_wp2_with fail
        refine bodyPost_ret (res_cttt rfl _ _ _ _ _ _ rfl HF.out.1 Try.underlying102 rfl (by exact size_tr)) rfl ?_
        exact ⟨by rw [HR0.out, ← HO.out]; rfl, HF.out.2⟩
      · have HR1 := Lib.hid (HQ2.out.trans (if_neg p3))
        have q3 : (p == 3) = false := by simp [p3]
        clear p1 p2 p3 HQ2
        go_upto_region 13 with fail
        clear c0
        skip
        have b3 := HS2.out.b3
        have b6 := HS2.out.b6
        have HF := Lib.hid (HS2.out.fin #[.int .u8 p, .int .i8 (f 0), .int .i8 (f 1), .int .i8 (f 2), .int .i8 (f 3), .int .i8 (f 4), .int .i8 (f 5), .int .i8 (t 0), .int .i8 (t 1), .int .i8 (t 2), .int .i8 (t 3), .int .i8 (t 4), .int .i8 (t 5)])
        go_wp2_with (first | ((with_reducible show wpList _ _ _ (_ :: _) _ _); refine wpList_load_row rfl 102 _ rfl _ rfl _ _ _ _ b3 Try.underlying102 rfl (by exact size_tr) ?_; (try go_simp)) | ((with_reducible show wpList _ _ _ (_ :: _) _ _); refine wpList_store_row rfl 102 _ _ rfl _ _ rfl rfl _ _ b6 (by exact size_tr) (by rfl) (by simp [Value.oneCell']) ?_))
        refine bodyPost_ret (res_cttt rfl _ _ _ _ _ _ rfl HF.out.1 Try.underlying102 rfl (by exact size_tr)) rfl ?_
        exact ⟨by rw [HR1.out]; rfl, HF.out.2⟩
end Go.Proofs.Ytboojcahflkkmaa
