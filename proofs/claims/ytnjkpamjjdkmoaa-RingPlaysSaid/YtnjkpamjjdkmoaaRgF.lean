/- Layer 3: the document's ring is pushed. -/
import Derived.Test.YtnjkpamjjdkmoaaRgE
namespace Go.Proofs.Ytnjkpamjjdkmoaa
open Go.RowKit Go.Own
set_option linter.unusedVariables false
set_option linter.unusedSimpArgs false
/-- What is pushed. -/
def vsP (V : Int) (i : Nat) : List Int := (List.range i).map fun (j : Nat) => V + (j : Int)
theorem vsP_len (V : Int) (i : Nat) : (vsP V i).length = i := by simp [vsP]
theorem vsP_succ (V : Int) (i : Nat) : vsP V (i + 1) = vsP V i ++ [V + (i : Int)] := by simp [vsP, List.range_succ]
def manyN (N : Int) : Nat := (Int.tmod N 12).toNat
theorem manyN_le (N : Int) : manyN N ≤ 11 := by
  unfold manyN
  rcases Int.le_total 0 N with h | h
  · rw [Int.tmod_eq_emod_of_nonneg h]; omega
  · have e := Int.neg_tmod (a := -N) (b := 12)
    rw [Int.neg_neg] at e
    rw [e, Int.tmod_eq_emod_of_nonneg (by omega)]; omega
set_option maxRecDepth 100000 in
set_option maxHeartbeats 1000000 in
theorem Many_any (k : Nat) (V M : Int) (w : World) : Calls Try.prog 93 #[.agg #[.int .u8 ((k : Nat) : Int), .int .i64 V, .int .i64 M]] w fun e w' => e = .returned (.int .i64 ((manyN M : Nat) : Int)) ∧ Below w.heap.size w w' := by
  have hm := manyN_le M
  obtain ⟨q, hq⟩ : ∃ q, q = Int.tmod M 12 := ⟨_, rfl⟩
  have hqn : manyN M = q.toNat := by rw [hq]; rfl
  rw [hqn] at hm ⊢
  have hq2 : Int.tmod M 12 = q := hq.symm
  have hq3 : -12 ≤ q := by
    rw [hq]
    rcases Int.le_total 0 M with h | h
    · rw [Int.tmod_eq_emod_of_nonneg h]; omega
    · have e := Int.neg_tmod (a := -M) (b := 12)
      rw [Int.neg_neg] at e
      rw [e, Int.tmod_eq_emod_of_nonneg (by omega)]; omega
  clear hq hqn
  by_cases h0 : q < 0
  · have HZ := Lib.hid (show ((q.toNat : Nat) : Int) = 0 by omega)
    go_enter Try.func93, Try.ntmps93
    go_wp2
    go_ret
    exact ⟨by first | (rw [HZ.out]; rfl) | (rw [show max q 0 = q by omega]; rfl) | (rw [show max q 0 = 0 by omega]; rfl), by repeat' (first | (with_reducible exact Below.refl _ _) | (with_reducible assumption) | (with_reducible refine Below.setCell ?_ ?_ _) | (with_reducible refine Below.alloc ?_ ?_ _) | (with_reducible refine Below.drew ?_) | (with_reducible refine Below.drawsN ?_ _) | go_size)⟩
  · have HZ := Lib.hid (show ((q.toNat : Nat) : Int) = q by omega)
    go_enter Try.func93, Try.ntmps93
    go_wp2
    go_ret
    exact ⟨by first | (rw [HZ.out]; rfl) | (rw [show max q 0 = q by omega]; rfl) | (rw [show max q 0 = 0 by omega]; rfl), by repeat' (first | (with_reducible exact Below.refl _ _) | (with_reducible assumption) | (with_reducible refine Below.setCell ?_ ?_ _) | (with_reducible refine Below.alloc ?_ ?_ _) | (with_reducible refine Below.drew ?_) | (with_reducible refine Below.drawsN ?_ _) | go_size)⟩
theorem size_ract : (Try.prog.info? 42).map (·.size) = some 3 := by kernel_rfl
theorem kept_app {gx B : Nat} {w1 wc w6 : World} (v : Value) (h : Kept gx gx w1 wc) (hs : w1.heap.size ≤ B) (hb : Below B wc w6) : Kept gx gx w1 (w6.setCell ⟨gx, 0, none⟩ v) := by
  have h2 : Kept gx gx w1 w6 := ⟨hb.os.trans h.os, hb.tape.trans h.tape, hb.output.trans h.output, Nat.le_trans h.size hb.size, fun k hk h1 h2 => (hb.block k (Nat.lt_of_lt_of_le hk hs)).trans (h.block k hk h1 h2)⟩
  exact h2.set (a := ⟨gx, 0, none⟩) (.inl rfl) v
theorem push_roomP {n i : Nat} {L : List Int} (V : Int) (h : L.length + i < n) : lastn n (L ++ vsP V (i + 1)) = lastn n (L ++ vsP V i) ++ [V + (i : Int)] := by
  rw [lastn_room _ (by rw [List.length_append, vsP_len]; exact h), vsP_succ, List.append_assoc]
theorem push_fullP {n i : Nat} {L : List Int} (V : Int) (hn : 1 ≤ n) (h : n ≤ L.length + i) : ∃ y T, lastn n (L ++ vsP V i) = y :: T ∧ lastn n (L ++ vsP V (i + 1)) = T ++ [V + (i : Int)] ∧ T.length < n := by
  obtain ⟨y, T, h1, h2, h3⟩ := lastn_full (M := L ++ vsP V i) (V + (i : Int)) hn (by rw [List.length_append, vsP_len]; exact h)
  exact ⟨y, T, h1, by rw [vsP_succ, ← List.append_assoc, ← h2], h3⟩
theorem CutI.mono {base b' : Nat} {w : World} {a : Option Addr} {len cap : Nat} {L : List Int} (h : CutI base w a len cap L) (hb : b' ≤ base) : CutI b' w a len cap L :=
  ⟨h.ln, h.rd, fun hc => by
    obtain ⟨b, off, e, h1, h2⟩ := h.sp hc
    exact ⟨b, off, e, Nat.le_trans hb h1, h2⟩⟩
set_option maxRecDepth 100000 in
set_option maxHeartbeats 8000000 in
theorem D_push {w : World} {gx base n : Nat} {L : List Int} {lo d cap : Nat} {a : Option Addr} (k : Nat) (V M : Int) (hx : XS w gx base n L lo d a cap) (hk : k % 6 = 0 ∨ k % 6 = 1) (hn1 : 1 ≤ n) (hn : n ≤ 9) (hL : L.length ≤ n) (hlo : lo ≤ 65535) (hV0 : -1000 ≤ V) (hV1 : V ≤ 1000) (hk2 : k < 256) (hbs : base ≤ w.heap.size) :
    Calls Try.prog 24 #[.pointer (some ⟨gx, 0, none⟩), .agg #[.int .u8 ((k : Nat) : Int), .int .i64 V, .int .i64 M]] w fun e w' => e = .returned (.tuple #[.int .i64 ((L.length + manyN M - n : Nat) : Int), .slice none 0 0]) ∧ (∃ a' cap', XS w' gx base n (lastn n (L ++ vsP V (manyN M))) (min (lo + (L.length + manyN M - n)) 65535) d a' cap') ∧ BK gx a cap w w' := by
  obtain ⟨i0, hi, hz0, hz1, hz2⟩ := info_parts info_int
  have hmm := manyN_le M
  obtain ⟨m, hm⟩ : ∃ m, m = manyN M := ⟨_, rfl⟩
  have HMA := Lib.hid (fun w => Many_any k V M w)
  rw [← hm] at HMA hmm ⊢
  obtain ⟨r, hr⟩ : ∃ r, (k : Int) % 6 = r := ⟨_, rfl⟩
  have hr01 : r = 0 ∨ r = 1 := by omega
  have hr2 : (r == 2) = false := by rcases hr01 with rfl | rfl <;> rfl
  have hr3 : (r == 3) = false := by rcases hr01 with rfl | rfl <;> rfl
  have hr4 : (r == 4) = false := by rcases hr01 with rfl | rfl <;> rfl
  have hr5 : (r == 5) = false := by rcases hr01 with rfl | rfl <;> rfl
  clear hr01 hm hk
  have h0 := heap_alloc_new w (.cells #[.int .u8 ((k : Nat) : Int), .int .i64 V, .int .i64 M] 42)
  have hb0 : Below w.heap.size w (w.alloc (.cells #[.int .u8 ((k : Nat) : Int), .int .i64 V, .int .i64 M] 42)) := (Below.refl _ _).alloc (Nat.le_refl _) _
  have hgw := box_lt hx.head
  go_enter Try.func24, Try.ntmps24
  go_upto_region 1 with fail
  obtain ⟨w1, hw1⟩ : ∃ w1, w1 = w.alloc (.cells #[.int .u8 ((k : Nat) : Int), .int .i64 V, .int .i64 M] 42) := ⟨_, rfl⟩
  rw [← hw1] at h0 hb0 ⊢
  obtain ⟨g3, hg3⟩ : ∃ g, g = w.heap.size := ⟨_, rfl⟩
  rw [← hg3] at h0
  rw [show (Value.pointer (some ⟨w.heap.size, 0, none⟩)) = .pointer (some ⟨g3, 0, none⟩) by rw [hg3]]
  have HX := Lib.hid (hx.step hb0)
  have HB := Lib.hid (BK.init (a := a) (cap := cap) hb0 (Nat.le_of_lt hgw))
  have HA := Lib.hid h0
  have hgg : gx < g3 := by rw [hg3]; exact hgw
  clear hw1 hg3 hb0 h0 hx hgw
  have c0 : w1.cell? ⟨gx, 0, none⟩ = some (.slice a L.length cap) := cell_of_row _ _ 0 _ _ _ HX.out.head
  have c1 : w1.cell? ⟨gx, 1, none⟩ = some (.int .i64 ((n : Nat) : Int)) := cell_of_row _ _ 1 _ _ _ HX.out.head
  have c2 : w1.cell? ⟨gx, 2, none⟩ = some (.int .i64 ((lo : Nat) : Int)) := cell_of_row _ _ 2 _ _ _ HX.out.head
  have c3 : w1.cell? ⟨gx, 3, none⟩ = some (.int .i64 ((d : Nat) : Int)) := cell_of_row _ _ 3 _ _ _ HX.out.head
  have k0 : w1.cell? ⟨g3, 0, none⟩ = some (.int .u8 ((k : Nat) : Int)) := cell_of_row _ _ 0 _ _ _ HA.out
  have k1 : w1.cell? ⟨g3, 1, none⟩ = some (.int .i64 V) := cell_of_row _ _ 1 _ _ _ HA.out
  have hs1 : base ≤ w1.heap.size := Nat.le_trans hbs HB.out.be.size
  go_upto_region 22 with fail
  clear c0 c1 c2 c3 k0 k1 hr hr2 hr3 hr4 hr5
  have HL := Lib.hid hL
  have HLO := Lib.hid hlo
  clear hL hlo
  go_wp2_with fail
  go_loopw [8, 9] (fun v8 v9 wr => ∃ (i : Nat) (a' : Option Addr) (cap' : Nat), i ≤ m ∧ v9 = .int .i64 (i : Nat) ∧ v8 = .int .i64 ((L.length + i - n : Nat) : Int) ∧ XS wr gx base n (lastn n (L ++ vsP V i)) (min (lo + (L.length + i - n)) 65535) d a' cap' ∧ Kept gx gx w1 wr) (fun _ v _ => m - (intOf v).toNat)
  case atStart => 
    have e1 : L.length + 0 - n = 0 := by have := HL.out; omega
    have e2 : lastn n (L ++ vsP V 0) = L := by
      rw [show vsP V 0 = [] from rfl, List.append_nil]
      exact lastn_all HL.out
    refine ⟨0, a, cap, Nat.zero_le _, rfl, by rw [e1]; rfl, ?_, Kept.refl _ _ _⟩
    rw [e1, e2, show min (lo + 0) 65535 = lo by have := HLO.out; omega]
    exact HX.out
  case round =>
    clear HX
    obtain ⟨i, a', cap', hi', rfl, rfl, hX, hK⟩ := hrel
    have hA := (hK.block g3 (box_lt HA.out) (by omega) (by omega)).trans HA.out
    obtain ⟨C, hC⟩ : ∃ C, C = lastn n (L ++ vsP V i) := ⟨_, rfl⟩
    obtain ⟨x, hxx⟩ : ∃ x, x = L.length + i - n := ⟨_, rfl⟩
    obtain ⟨lc, hlc⟩ : ∃ lc, lc = min (lo + x) 65535 := ⟨_, rfl⟩
    rw [← hxx] at hX ⊢
    rw [← hC, ← hlc] at hX
    have HX := Lib.hid hX
    have HK := Lib.hid hK
    have HC := Lib.hid hC
    have HLC := Lib.hid (show x = L.length + i - n ∧ lc = min (lo + x) 65535 from ⟨hxx, hlc⟩)
    have hCl : C.length = min n (L.length + i) := by rw [hC, lastn_len, List.length_append, vsP_len]
    have HCL := Lib.hid hCl
    clear hX hK hC hxx hlc hCl
    by_cases hlt : i < m
    · go_wp2_with ((with_reducible show wpList _ _ _ (_ :: _) _ _); refine wpList_load_row rfl 42 _ rfl _ rfl _ _ _ _ hA Try.underlying42 rfl (by exact size_ract) ?_; (try go_simp))
      refine (HMA.out _).mono ?_
      rintro e w2 ⟨rfl, hb⟩
      have HX2 := Lib.hid (HX.out.step hb)
      have HK2 := Lib.hid (HK.out.trans (Kept.of_below hb))
      have HA2 := Lib.hid (box_below hA hb (box_lt hA))
      clear hb HX HK hA
      by_cases hf : L.length + i < n
      · have hCn : ((C.length : Int) == (n : Int)) = false := by rw [beq_eq_false_iff_ne]; have := HCL.out; omega
        have HF := Lib.hid hf
        clear hf
        have c0 : w2.cell? ⟨gx, 0, none⟩ = some (.slice a' C.length cap') := cell_of_row _ _ 0 _ _ _ HX2.out.head
        have c1 : w2.cell? ⟨gx, 1, none⟩ = some (.int .i64 ((n : Nat) : Int)) := cell_of_row _ _ 1 _ _ _ HX2.out.head
        go_upto_region 25 with fail
        go_quiet (fail)
        clear c0 c1 hCn
        have HX5 := Lib.hid (HX2.out.step (bel_drewV w2 nq))
        have HK5 := Lib.hid (HK2.out.trans (Kept.of_below (bel_drewV w2 nq)))
        have hA5 : (w2.drewN nq).heap[g3]? = _ := HA2.out
        obtain ⟨w5, hw5⟩ : ∃ w5, w5 = w2.drewN nq := ⟨_, rfl⟩
        rw [← hw5] at HX5 HK5 hA5 ⊢
        clear hw5 HX2 HK2 HA2
        skip
        go_upto_region 29 with fail
        have hs5 : base ≤ w5.heap.size := Nat.le_trans hs1 HK5.out.size
        have h15 := HK5.out.size
        have lx := box_lt HX5.out.head
        have l3 := box_lt hA5
        have hi11 : i < 12 := by omega
        have hBl : (C).length ≤ 9 := (by have := HCL.out; omega)
        have htm : Int.tmod (i : Int) 100 = (i : Int) := by rw [Int.tmod_eq_emod_of_nonneg (by omega)]; omega
        obtain ⟨I, W, hne, hWI, hIW⟩ := Go.Mix.family (fun v => Below w5.heap.size w5 v) (Below.refl _ _)
        have HJ := Lib.hid hIW
        have HW := Lib.hid hWI
        clear hWI hIW
        refine Go.Flo3.wp_region (fun w' => ∃ i, w' = W i) 13 [Go.Flo.Spec.row w5.heap.size 0 #[] 3, SpW w5.heap.size C, Go.Flo.Spec.row w5.heap.size 1 #[.int .i64 (V + (i : Int))] 3] (by kernel_rfl) (by kernel_rfl) (by decide) (by rintro _ w' ⟨i, rfl⟩ hb; exact HJ.out _ ((HW.out i).trans (hb.mono (HW.out i).size))) (HJ.out _ (Below.refl _ _).drew) ?_
        simp only [Go.Flo.pair, Go.Mix.calm, List.take, List.drop, if_true, Bool.false_eq_true, if_false, Nat.reduceAdd, Nat.reduceSub]
        have q0 : ∀ ii, (W ii).cell? ⟨gx, 0, none⟩ = some (.slice a' (C).length cap') := fun ii => ((HW.out ii).cell (p := ⟨gx, 0, none⟩) lx).trans (cell_of_row _ _ 0 _ _ _ HX5.out.head)
        have q1 : ∀ ii, (W ii).cell? ⟨g3, 1, none⟩ = some (.int .i64 V) := fun ii => ((HW.out ii).cell (p := ⟨g3, 1, none⟩) l3).trans (cell_of_row _ _ 1 _ _ _ hA5)
        (repeat (first | (refine Go.Flo.fw_calm rfl ?_ (fun K hK => ?_); (first | exact Go.Mix.wanted_none rfl | exact Go.Mix.wanted_tt rfl rfl rfl | exact Go.Mix.wanted_ff rfl rfl rfl); go_big_quiet_op; refine hK _ ?_; clear hK K) | (refine Go.Flo.fw_skip ?_ (fun K hK => ?_); (first | exact Go.Mix.wanted_tf rfl rfl rfl | exact Go.Mix.wanted_ft rfl rfl rfl); go_simp; refine hK _ ?_; clear hK K) | (refine Go.Flo.fw_any rfl ?_ (fun K hK => ?_); (first | exact Go.Mix.wanted_none rfl | exact Go.Mix.wanted_tt rfl rfl rfl | exact Go.Mix.wanted_ff rfl rfl rfl); go_simp; (try (go_ints; try go_simp)); refine hK _ ?_; clear hK K)))
        refine Go.Flo.fw_loud rfl ?_ rfl (by simp) (fun wv hwv hav K hK => ?_) (fun v hv K hK => ?_)
        · (first | exact Go.Mix.wanted_none rfl | exact Go.Mix.wanted_tt rfl rfl rfl | exact Go.Mix.wanted_ff rfl rfl rfl)
        · obtain ⟨iv, rfl⟩ := hwv
          (first | go_big_op | go_simp)
          refine hK _ _ (Go.Flo.owes_row (HW.out iv).size)
        obtain ⟨gd, hgd, rfl⟩ := hv.row
        go_simp
        refine hK _ ?_
        clear hK K hv
        (repeat (first | (refine Go.Flo.fw_calm rfl ?_ (fun K hK => ?_); (first | exact Go.Mix.wanted_none rfl | exact Go.Mix.wanted_tt rfl rfl rfl | exact Go.Mix.wanted_ff rfl rfl rfl); go_big_quiet_op; refine hK _ ?_; clear hK K) | (refine Go.Flo.fw_skip ?_ (fun K hK => ?_); (first | exact Go.Mix.wanted_tf rfl rfl rfl | exact Go.Mix.wanted_ft rfl rfl rfl); go_simp; refine hK _ ?_; clear hK K) | (refine Go.Flo.fw_any rfl ?_ (fun K hK => ?_); (first | exact Go.Mix.wanted_none rfl | exact Go.Mix.wanted_tt rfl rfl rfl | exact Go.Mix.wanted_ff rfl rfl rfl); go_simp; (try (go_ints; try go_simp)); refine hK _ ?_; clear hK K)))
        refine Go.Flo.fw_loud rfl ?_ rfl (by simp) (fun wv hwv hav K hK => ?_) (fun v hv K hK => ?_)
        · (first | exact Go.Mix.wanted_none rfl | exact Go.Mix.wanted_tt rfl rfl rfl | exact Go.Mix.wanted_ff rfl rfl rfl)
        · obtain ⟨iv, rfl⟩ := hwv
          have hbv := HW.out iv
          have hrow := Go.Flo.says_row ((hav 123 (by decide +kernel)).1.1.1.1.2 rfl).1
          refine wp_app_empty (base := w5.heap.size) _ _ rfl hi hz0 hz1 hz2 rfl rfl rfl (HX5.out.cut.rd.below hbv) hrow hgd (by omega) ?_
          intro v' w' hown hb'
          exact hK _ _ (owes_W rfl hb' hown (Nat.le_refl _))
        obtain ⟨xa, xc, rfl⟩ := ex_W hv
        go_simp
        refine hK _ ?_
        clear hK K hv
        (repeat (first | (refine Go.Flo.fw_calm rfl ?_ (fun K hK => ?_); (first | exact Go.Mix.wanted_none rfl | exact Go.Mix.wanted_tt rfl rfl rfl | exact Go.Mix.wanted_ff rfl rfl rfl); go_big_quiet_op; refine hK _ ?_; clear hK K) | (refine Go.Flo.fw_skip ?_ (fun K hK => ?_); (first | exact Go.Mix.wanted_tf rfl rfl rfl | exact Go.Mix.wanted_ft rfl rfl rfl); go_simp; refine hK _ ?_; clear hK K) | (refine Go.Flo.fw_any rfl ?_ (fun K hK => ?_); (first | exact Go.Mix.wanted_none rfl | exact Go.Mix.wanted_tt rfl rfl rfl | exact Go.Mix.wanted_ff rfl rfl rfl); go_simp; (try (go_ints; try go_simp)); refine hK _ ?_; clear hK K)))
        refine Go.Flo.fw_loud rfl ?_ rfl (by simp) (fun wv hwv hav K hK => ?_) (fun v hv K hK => ?_)
        · (first | exact Go.Mix.wanted_none rfl | exact Go.Mix.wanted_tt rfl rfl rfl | exact Go.Mix.wanted_ff rfl rfl rfl)
        · obtain ⟨iv, rfl⟩ := hwv
          (first | go_big_op | go_simp)
          refine hK _ _ (Go.Flo.owes_row (HW.out iv).size)
        obtain ⟨ge, hge, rfl⟩ := hv.row
        go_simp
        refine hK _ ?_
        clear hK K hv
        refine Go.Flo.fw_nil ?_
        intro wc hwwc hfwc huwc
        obtain ⟨iend, hiend⟩ := hwwc
        have hbwc := HW.out iend
        rw [← hiend] at hbwc
        clear hiend iend huwc
        have hrow := Go.Flo.says_row ((hfwc (some 134)).2 rfl).1
        have hcx := box_cell hrow
        have hown : wc.ownsRow w5.heap.size 3 1 (.slice xa (C).length xc) (C).length (il C) := ((hfwc (some 128)).1.1.1.1.1.1.2 rfl).1
        obtain ⟨a6, c6, e6, hc6⟩ := cut_own hown
        obtain ⟨rfl, rfl⟩ : xa = a6 ∧ xc = c6 := by
          injection e6 with e1 e2 e3
          exact ⟨e1, e3⟩
        have HX6 := Lib.hid (HX5.out.step hbwc)
        have HK6 := Lib.hid (HK5.out.trans (Kept.of_below hbwc))
        have hs6 : w5.heap.size ≤ wc.heap.size := hbwc.size
        clear hfwc HJ HW hne q0 q1 hrow hbwc HX5 HK5 hA5 lx l3 hown e6 htm
        clear W I
        refine ⟨fun _ => True, trivial, ?_⟩

        refine Go.Mix.walk_loud rfl ?_ (fun K hK => ?_)
        · (first | exact Go.Mix.wanted_none rfl | exact Go.Mix.wanted_tt rfl rfl rfl | exact Go.Mix.wanted_ff rfl rfl rfl)
        refine wp_append_cut _ _ rfl hi hz0 hz1 hz2 rfl hc6 hs6 (V + (i : Int)) ge rfl hcx (by omega) ?_
        intro a7 cap7 w6 hc hb _
        have hln : (C ++ [V + (i : Int)]).length = (C).length + 1 := by simp
        have hput := HX6.out.put (hb.mono hs5) (M := C ++ [V + (i : Int)]) (by rw [hln]; exact hc.mono hs5)
        rw [hln] at hput
        have hlx : gx < w5.heap.size := Nat.lt_of_lt_of_le HX6.out.lt hs5
        have hg0 : w6.cell? ⟨gx, 0, none⟩ = some (.slice a' (C).length cap') := (hb.cell (p := ⟨gx, 0, none⟩) hlx).trans (cell_of_row _ _ 0 _ _ _ HX6.out.head)
        have hf0 : w6.frozen? ⟨gx, 0, none⟩ = false := (World.frozen?_of_block (a := ⟨gx, 0, none⟩) (hb.block gx hlx)).trans (frozen_of_row _ _ 0 _ _ HX6.out.head)
        have HP := Lib.hid hput
        have HK7 := Lib.hid (kept_app (.slice a7 ((C).length + 1) cap7) HK6.out h15 hb)
        refine hK _ _ trivial ?_
        clear hK K hc hb hput hcx hc6
        (repeat (first | (refine Go.Mix.walk_calm rfl ?_ (fun K hK => ?_); (first | exact Go.Mix.wanted_none rfl | exact Go.Mix.wanted_tt rfl rfl rfl | exact Go.Mix.wanted_ff rfl rfl rfl); go_big_quiet_op; refine hK _ ?_; clear hK K) | (refine Go.Mix.walk_skip ?_ (fun K hK => ?_); (first | exact Go.Mix.wanted_tf rfl rfl rfl | exact Go.Mix.wanted_ft rfl rfl rfl); go_simp; refine hK _ ?_; clear hK K) | (refine Go.Mix.walk_loud rfl ?_ (fun K hK => ?_); (first | exact Go.Mix.wanted_none rfl | exact Go.Mix.wanted_tt rfl rfl rfl | exact Go.Mix.wanted_ff rfl rfl rfl); (first | go_big_op | go_simp); (first | (refine hK _ _ trivial ?_; clear hK K) | (fail; (try dsimp only); refine hK _ _ trivial ?_; clear hK K))) | (refine Go.Mix.walk_step (fun K hK => ?_); go_simp; (try (go_ints; try go_simp)); refine hK _ _ ?_; clear hK K)))
        refine Go.Mix.walk_nil ?_
        obtain ⟨w8, hw8⟩ : ∃ w8, w8 = w6.setCell ⟨gx, 0, none⟩ (.slice a7 ((C).length + 1) cap7) := ⟨_, rfl⟩
        rw [← hw8] at HP HK7 ⊢
        clear hw8 hg0 hf0 HX6 HK6
        go_wp2_with fail
        go_roundw
        case rel =>
          have h1 := HF.out
          have h2 := HLC.out
          refine ⟨i + 1, a7, cap7, by omega, by go_num, ?_, ?_, HK7.out⟩
          · rw [show L.length + (i + 1) - n = x by omega]
          · rw [push_roomP V h1, ← HC.out, show L.length + (i + 1) - n = x by omega, ← h2.2]
            exact HP.out
        case measure => simp [intOf]; omega
      · have hf2 : n ≤ L.length + i := by omega
        obtain ⟨y, T, hT, hT2, hTl⟩ := push_fullP V hn1 hf2
        rw [← HC.out] at hT
        have hCn : ((C.length : Int) == (n : Int)) = true := by rw [beq_iff_eq]; have := HCL.out; omega
        have hC1 : 1 ≤ C.length := by have := HCL.out; omega
        have HF := Lib.hid hf2
        have HT2 := Lib.hid hT2
        have HTL := Lib.hid hTl
        have HT := Lib.hid hT
        clear hf hf2 hT2 hTl hT
        have c0 : w2.cell? ⟨gx, 0, none⟩ = some (.slice a' C.length cap') := cell_of_row _ _ 0 _ _ _ HX2.out.head
        have c1 : w2.cell? ⟨gx, 1, none⟩ = some (.int .i64 ((n : Nat) : Int)) := cell_of_row _ _ 1 _ _ _ HX2.out.head
        go_upto_region 25 with fail
        go_quiet (fail)
        clear c0 c1 hCn
        have HX3 := Lib.hid (HX2.out.step (bel_drewV w2 nq))
        have HK3 := Lib.hid (HK2.out.trans (Kept.of_below (bel_drewV w2 nq)))
        have hA3 : (w2.drewN nq).heap[g3]? = _ := HA2.out
        obtain ⟨w3, hw3⟩ : ∃ w3, w3 = w2.drewN nq := ⟨_, rfl⟩
        rw [← hw3] at HX3 HK3 hA3 ⊢
        clear hw3 HX2 HK2 HA2
        have c0 : w3.cell? ⟨gx, 0, none⟩ = some (.slice a' C.length cap') := cell_of_row _ _ 0 _ _ _ HX3.out.head
        have f0 := frozen_of_row _ _ 0 _ _ HX3.out.head
        have hle := HX3.out.cut.rd.le
        have htop := HX3.out.cut.rd.top
        unfold maxLen at htop
        obtain ⟨A, hA⟩ : ∃ A, A = (if cap' = 1 then a' else a'.map (·.add 1)) := ⟨_, rfl⟩
        have hT := HT.out
        have hTC : C.length - 1 = T.length := by rw [hT]; rfl
        have hsl : ∀ w : World, (Instr.slice 38 (.slice a' C.length cap') (some (.int .i64 1)) none none).run Try.prog w = .ok (.slice A T.length (cap' - 1)) w := fun w => by
          have h := run_slice_from a' C.length cap' 1 hC1 w
          rw [← hA, hTC] at h
          exact h
        have hcut : CutI base w3 A T.length (cap' - 1) T := by
          have h := HX3.out.cut
          rw [hT] at h
          have h1 := cut_tail h
          rw [← hA] at h1
          exact h1
        have HP := Lib.hid (HX3.out.put (Below.refl _ _) (M := T) hcut)
        have HK4 := Lib.hid (HK3.out.set (a := ⟨gx, 0, none⟩) (.inl rfl) (.slice A T.length (cap' - 1)))
        have hA4 : (w3.setCell ⟨gx, 0, none⟩ (.slice A T.length (cap' - 1))).heap[g3]? = _ := (heap_setCell_other w3 ⟨gx, 0, none⟩ g3 _ (by show g3 ≠ gx; omega)).trans hA3
        clear hT hTC hA hcut
        go_upto_region 27 with fail
        obtain ⟨w4, hw4⟩ : ∃ w4, w4 = w3.setCell ⟨gx, 0, none⟩ (.slice A T.length (cap' - 1)) := ⟨_, rfl⟩
        rw [← hw4] at HP HK4 hA4 ⊢
        clear hw4 c0 f0 hsl HX3 HK3 hA3
        have hlc2 : lc ≤ 65535 := by have := HLC.out; omega
        have hx13 : x ≤ 21 := by have := HLC.out.1; have := HL.out; omega
        have c2 : w4.cell? ⟨gx, 2, none⟩ = some (.int .i64 ((lc : Nat) : Int)) := cell_of_row _ _ 2 _ _ _ HP.out.head
        have f2 := frozen_of_row _ _ 2 _ _ HP.out.head
        have hmn := fun (w : World) => run_min2 (P := Try.prog) #[3, 3] 3 .i64 ((lc : Int) + 1) 65535 w
        rw [show min ((lc : Int) + 1) 65535 = ((min (lc + 1) 65535 : Nat) : Int) by omega] at hmn
        have HX5 := Lib.hid (HP.out.setLost (min (lc + 1) 65535))
        have HK5 := Lib.hid (HK4.out.set (a := ⟨gx, 2, none⟩) (.inl rfl) (.int .i64 ((min (lc + 1) 65535 : Nat) : Int)))
        have hA5 : (w4.setCell ⟨gx, 2, none⟩ (.int .i64 ((min (lc + 1) 65535 : Nat) : Int))).heap[g3]? = _ := (heap_setCell_other w4 ⟨gx, 2, none⟩ g3 _ (by show g3 ≠ gx; omega)).trans hA4
        go_upto_region 28 with fail
        obtain ⟨w5, hw5⟩ : ∃ w5, w5 = w4.setCell ⟨gx, 2, none⟩ (.int .i64 ((min (lc + 1) 65535 : Nat) : Int)) := ⟨_, rfl⟩
        rw [← hw5] at HX5 HK5 hA5 ⊢
        clear hw5 c2 f2 hmn HP HK4 hA4 hC1 hle htop
        obtain ⟨capn, hcp⟩ : ∃ c, c = cap' - 1 := ⟨_, rfl⟩
        rw [← hcp] at HX5 ⊢
        clear hcp
        skip
        go_upto_region 29 with fail
        have hs5 : base ≤ w5.heap.size := Nat.le_trans hs1 HK5.out.size
        have h15 := HK5.out.size
        have lx := box_lt HX5.out.head
        have l3 := box_lt hA5
        have hi11 : i < 12 := by omega
        have hBl : (T).length ≤ 9 := (by have := HTL.out; omega)
        have htm : Int.tmod (i : Int) 100 = (i : Int) := by rw [Int.tmod_eq_emod_of_nonneg (by omega)]; omega
        obtain ⟨I, W, hne, hWI, hIW⟩ := Go.Mix.family (fun v => Below w5.heap.size w5 v) (Below.refl _ _)
        have HJ := Lib.hid hIW
        have HW := Lib.hid hWI
        clear hWI hIW
        refine Go.Flo3.wp_region (fun w' => ∃ i, w' = W i) 13 [Go.Flo.Spec.row w5.heap.size 0 #[] 3, SpW w5.heap.size T, Go.Flo.Spec.row w5.heap.size 1 #[.int .i64 (V + (i : Int))] 3] (by kernel_rfl) (by kernel_rfl) (by decide) (by rintro _ w' ⟨i, rfl⟩ hb; exact HJ.out _ ((HW.out i).trans (hb.mono (HW.out i).size))) (HJ.out _ (Below.refl _ _).drew) ?_
        simp only [Go.Flo.pair, Go.Mix.calm, List.take, List.drop, if_true, Bool.false_eq_true, if_false, Nat.reduceAdd, Nat.reduceSub]
        have q0 : ∀ ii, (W ii).cell? ⟨gx, 0, none⟩ = some (.slice A (T).length capn) := fun ii => ((HW.out ii).cell (p := ⟨gx, 0, none⟩) lx).trans (cell_of_row _ _ 0 _ _ _ HX5.out.head)
        have q1 : ∀ ii, (W ii).cell? ⟨g3, 1, none⟩ = some (.int .i64 V) := fun ii => ((HW.out ii).cell (p := ⟨g3, 1, none⟩) l3).trans (cell_of_row _ _ 1 _ _ _ hA5)
        (repeat (first | (refine Go.Flo.fw_calm rfl ?_ (fun K hK => ?_); (first | exact Go.Mix.wanted_none rfl | exact Go.Mix.wanted_tt rfl rfl rfl | exact Go.Mix.wanted_ff rfl rfl rfl); go_big_quiet_op; refine hK _ ?_; clear hK K) | (refine Go.Flo.fw_skip ?_ (fun K hK => ?_); (first | exact Go.Mix.wanted_tf rfl rfl rfl | exact Go.Mix.wanted_ft rfl rfl rfl); go_simp; refine hK _ ?_; clear hK K) | (refine Go.Flo.fw_any rfl ?_ (fun K hK => ?_); (first | exact Go.Mix.wanted_none rfl | exact Go.Mix.wanted_tt rfl rfl rfl | exact Go.Mix.wanted_ff rfl rfl rfl); go_simp; (try (go_ints; try go_simp)); refine hK _ ?_; clear hK K)))
        refine Go.Flo.fw_loud rfl ?_ rfl (by simp) (fun wv hwv hav K hK => ?_) (fun v hv K hK => ?_)
        · (first | exact Go.Mix.wanted_none rfl | exact Go.Mix.wanted_tt rfl rfl rfl | exact Go.Mix.wanted_ff rfl rfl rfl)
        · obtain ⟨iv, rfl⟩ := hwv
          (first | go_big_op | go_simp)
          refine hK _ _ (Go.Flo.owes_row (HW.out iv).size)
        obtain ⟨gd, hgd, rfl⟩ := hv.row
        go_simp
        refine hK _ ?_
        clear hK K hv
        (repeat (first | (refine Go.Flo.fw_calm rfl ?_ (fun K hK => ?_); (first | exact Go.Mix.wanted_none rfl | exact Go.Mix.wanted_tt rfl rfl rfl | exact Go.Mix.wanted_ff rfl rfl rfl); go_big_quiet_op; refine hK _ ?_; clear hK K) | (refine Go.Flo.fw_skip ?_ (fun K hK => ?_); (first | exact Go.Mix.wanted_tf rfl rfl rfl | exact Go.Mix.wanted_ft rfl rfl rfl); go_simp; refine hK _ ?_; clear hK K) | (refine Go.Flo.fw_any rfl ?_ (fun K hK => ?_); (first | exact Go.Mix.wanted_none rfl | exact Go.Mix.wanted_tt rfl rfl rfl | exact Go.Mix.wanted_ff rfl rfl rfl); go_simp; (try (go_ints; try go_simp)); refine hK _ ?_; clear hK K)))
        refine Go.Flo.fw_loud rfl ?_ rfl (by simp) (fun wv hwv hav K hK => ?_) (fun v hv K hK => ?_)
        · (first | exact Go.Mix.wanted_none rfl | exact Go.Mix.wanted_tt rfl rfl rfl | exact Go.Mix.wanted_ff rfl rfl rfl)
        · obtain ⟨iv, rfl⟩ := hwv
          have hbv := HW.out iv
          have hrow := Go.Flo.says_row ((hav 123 (by decide +kernel)).1.1.1.1.2 rfl).1
          refine wp_app_empty (base := w5.heap.size) _ _ rfl hi hz0 hz1 hz2 rfl rfl rfl (HX5.out.cut.rd.below hbv) hrow hgd (by omega) ?_
          intro v' w' hown hb'
          exact hK _ _ (owes_W rfl hb' hown (Nat.le_refl _))
        obtain ⟨xa, xc, rfl⟩ := ex_W hv
        go_simp
        refine hK _ ?_
        clear hK K hv
        (repeat (first | (refine Go.Flo.fw_calm rfl ?_ (fun K hK => ?_); (first | exact Go.Mix.wanted_none rfl | exact Go.Mix.wanted_tt rfl rfl rfl | exact Go.Mix.wanted_ff rfl rfl rfl); go_big_quiet_op; refine hK _ ?_; clear hK K) | (refine Go.Flo.fw_skip ?_ (fun K hK => ?_); (first | exact Go.Mix.wanted_tf rfl rfl rfl | exact Go.Mix.wanted_ft rfl rfl rfl); go_simp; refine hK _ ?_; clear hK K) | (refine Go.Flo.fw_any rfl ?_ (fun K hK => ?_); (first | exact Go.Mix.wanted_none rfl | exact Go.Mix.wanted_tt rfl rfl rfl | exact Go.Mix.wanted_ff rfl rfl rfl); go_simp; (try (go_ints; try go_simp)); refine hK _ ?_; clear hK K)))
        refine Go.Flo.fw_loud rfl ?_ rfl (by simp) (fun wv hwv hav K hK => ?_) (fun v hv K hK => ?_)
        · (first | exact Go.Mix.wanted_none rfl | exact Go.Mix.wanted_tt rfl rfl rfl | exact Go.Mix.wanted_ff rfl rfl rfl)
        · obtain ⟨iv, rfl⟩ := hwv
          (first | go_big_op | go_simp)
          refine hK _ _ (Go.Flo.owes_row (HW.out iv).size)
        obtain ⟨ge, hge, rfl⟩ := hv.row
        go_simp
        refine hK _ ?_
        clear hK K hv
        refine Go.Flo.fw_nil ?_
        intro wc hwwc hfwc huwc
        obtain ⟨iend, hiend⟩ := hwwc
        have hbwc := HW.out iend
        rw [← hiend] at hbwc
        clear hiend iend huwc
        have hrow := Go.Flo.says_row ((hfwc (some 134)).2 rfl).1
        have hcx := box_cell hrow
        have hown : wc.ownsRow w5.heap.size 3 1 (.slice xa (T).length xc) (T).length (il T) := ((hfwc (some 128)).1.1.1.1.1.1.2 rfl).1
        obtain ⟨a6, c6, e6, hc6⟩ := cut_own hown
        obtain ⟨rfl, rfl⟩ : xa = a6 ∧ xc = c6 := by
          injection e6 with e1 e2 e3
          exact ⟨e1, e3⟩
        have HX6 := Lib.hid (HX5.out.step hbwc)
        have HK6 := Lib.hid (HK5.out.trans (Kept.of_below hbwc))
        have hs6 : w5.heap.size ≤ wc.heap.size := hbwc.size
        clear hfwc HJ HW hne q0 q1 hrow hbwc HX5 HK5 hA5 lx l3 hown e6 htm
        clear W I
        refine ⟨fun _ => True, trivial, ?_⟩

        refine Go.Mix.walk_loud rfl ?_ (fun K hK => ?_)
        · (first | exact Go.Mix.wanted_none rfl | exact Go.Mix.wanted_tt rfl rfl rfl | exact Go.Mix.wanted_ff rfl rfl rfl)
        refine wp_append_cut _ _ rfl hi hz0 hz1 hz2 rfl hc6 hs6 (V + (i : Int)) ge rfl hcx (by omega) ?_
        intro a7 cap7 w6 hc hb _
        have hln : (T ++ [V + (i : Int)]).length = (T).length + 1 := by simp
        have hput := HX6.out.put (hb.mono hs5) (M := T ++ [V + (i : Int)]) (by rw [hln]; exact hc.mono hs5)
        rw [hln] at hput
        have hlx : gx < w5.heap.size := Nat.lt_of_lt_of_le HX6.out.lt hs5
        have hg0 : w6.cell? ⟨gx, 0, none⟩ = some (.slice A (T).length capn) := (hb.cell (p := ⟨gx, 0, none⟩) hlx).trans (cell_of_row _ _ 0 _ _ _ HX6.out.head)
        have hf0 : w6.frozen? ⟨gx, 0, none⟩ = false := (World.frozen?_of_block (a := ⟨gx, 0, none⟩) (hb.block gx hlx)).trans (frozen_of_row _ _ 0 _ _ HX6.out.head)
        have HP := Lib.hid hput
        have HK7 := Lib.hid (kept_app (.slice a7 ((T).length + 1) cap7) HK6.out h15 hb)
        refine hK _ _ trivial ?_
        clear hK K hc hb hput hcx hc6
        (repeat (first | (refine Go.Mix.walk_calm rfl ?_ (fun K hK => ?_); (first | exact Go.Mix.wanted_none rfl | exact Go.Mix.wanted_tt rfl rfl rfl | exact Go.Mix.wanted_ff rfl rfl rfl); go_big_quiet_op; refine hK _ ?_; clear hK K) | (refine Go.Mix.walk_skip ?_ (fun K hK => ?_); (first | exact Go.Mix.wanted_tf rfl rfl rfl | exact Go.Mix.wanted_ft rfl rfl rfl); go_simp; refine hK _ ?_; clear hK K) | (refine Go.Mix.walk_loud rfl ?_ (fun K hK => ?_); (first | exact Go.Mix.wanted_none rfl | exact Go.Mix.wanted_tt rfl rfl rfl | exact Go.Mix.wanted_ff rfl rfl rfl); (first | go_big_op | go_simp); (first | (refine hK _ _ trivial ?_; clear hK K) | (fail; (try dsimp only); refine hK _ _ trivial ?_; clear hK K))) | (refine Go.Mix.walk_step (fun K hK => ?_); go_simp; (try (go_ints; try go_simp)); refine hK _ _ ?_; clear hK K)))
        refine Go.Mix.walk_nil ?_
        obtain ⟨w8, hw8⟩ : ∃ w8, w8 = w6.setCell ⟨gx, 0, none⟩ (.slice a7 ((T).length + 1) cap7) := ⟨_, rfl⟩
        rw [← hw8] at HP HK7 ⊢
        clear hw8 hg0 hf0 HX6 HK6
        go_wp2_with fail
        go_roundw
        case rel =>
          have h1 := HF.out
          have h2 := HLC.out
          refine ⟨i + 1, a7, cap7, by omega, by go_num, ?_, ?_, HK7.out⟩
          · rw [show L.length + (i + 1) - n = x + 1 by omega]; go_num
          · rw [HT2.out, show L.length + (i + 1) - n = x + 1 by omega, show min (lo + (x + 1)) 65535 = min (lc + 1) 65535 by omega]
            exact HP.out
        case measure => simp [intOf]; omega
    · obtain rfl : i = m := by omega
      clear hi' hlt
      go_wp2_with ((with_reducible show wpList _ _ _ (_ :: _) _ _); refine wpList_load_row rfl 42 _ rfl _ rfl _ _ _ _ hA Try.underlying42 rfl (by exact size_ract) ?_; (try go_simp))
      refine (HMA.out _).mono ?_
      rintro e w2 ⟨rfl, hb⟩
      have HX2 := HX.out.step hb
      have HK2 := HK.out.trans (Kept.of_below hb)
      rw [HC.out, HLC.out.2] at HX2
      have HE := Lib.hid HLC.out.1
      have HB2 := Lib.hid (HB.out.kept HK2 (Nat.le_of_lt (Nat.lt_of_lt_of_le HX.out.lt hs1)))
      go_wp2_with fail
      refine bodyPost_ret (v := .tuple #[.int .i64 ((x : Nat) : Int), .slice none 0 0]) (by simp [results, Try.results24, go_sem]) rfl ?_
      rw [← HE.out]
      exact ⟨rfl, ⟨_, _, HX2⟩, HB2.out⟩
end Go.Proofs.Ytnjkpamjjdkmoaa
