/- PusCommands, walked. -/
import Derived.Test.YtfolebogfapmaaaPs10
namespace Go.Proofs.Ytfolebogfapmaaa
open Go.RowKit Go.Own
set_option linter.unusedVariables false
set_option linter.unusedSimpArgs false

theorem sent_zero (K : List Nat) : sent 0 K = K := rfl
theorem sent_no {er : Nat} (h : er ≠ 0) (K : List Nat) : sent er K = [] := by unfold sent; rw [if_neg h]
theorem pkRight_ok {a c n : Nat} (h : pkRight a c n = 0) : a < 2048 ∧ c < 16384 ∧ n ≤ 200 := by
  unfold pkRight at h
  split at h
  · cases h
  · split at h
    · cases h
    · omega
set_option maxRecDepth 100000 in
set_option maxHeartbeats 8000000 in
theorem walk_PusCommands (a s u c : Int) (x : Option Addr) (len cap : Nat) (z : List Int) (x1 : Option Addr) (len1 cap1 : Nat) (z1 : List Int) (ap ct : Int) (w : World)
    (wa : (Lit.int .u8 a).wf = true) (ws : (Lit.int .u8 s).wf = true) (wu : (Lit.int .u8 u).wf = true) (wc : (Lit.int .u16 c).wf = true) (wx : IsRow .u8 w x len cap z) (wx1 : IsRow .u8 w x1 len1 cap1 z1) (wap : (Lit.int .u16 ap).wf = true) (wct : (Lit.int .u16 ct).wf = true) :
    Calls Try.prog 4 #[.agg #[.int .u8 a, .int .u8 s, .int .u8 u, .int .u16 c, .slice x len cap], .slice x1 len1 cap1, .int .u16 ap, .int .u16 ct] w fun e w' => e = .returned (.bool true) ∧ Below w.heap.size w w' := by
  have hzc := zero_cm
  have hzr := zero_rc
  have hzp := zero_rp
  obtain ⟨p0, p1⟩ := bounds_u8 wa
  obtain ⟨q0, q1⟩ := bounds_u8 ws
  obtain ⟨r0, r1⟩ := bounds_u8 wu
  obtain ⟨t0, t1⟩ := bounds_u16 wc
  obtain ⟨v0, v1⟩ := bounds_u16 wap
  obtain ⟨y0, y1⟩ := bounds_u16 wct
  obtain ⟨a, rfl⟩ := Int.eq_ofNat_of_zero_le p0
  obtain ⟨s, rfl⟩ := Int.eq_ofNat_of_zero_le q0
  obtain ⟨u, rfl⟩ := Int.eq_ofNat_of_zero_le r0
  obtain ⟨c, rfl⟩ := Int.eq_ofNat_of_zero_le t0
  obtain ⟨ap, rfl⟩ := Int.eq_ofNat_of_zero_le v0
  obtain ⟨ct, rfl⟩ := Int.eq_ofNat_of_zero_le y0
  have ha : a < 256 := by omega
  have hs : s < 256 := by omega
  have hu : u < 256 := by omega
  have hc : c < 65536 := by omega
  have hap : ap < 65536 := by omega
  have hct : ct < 65536 := by omega
  obtain ⟨d, hl, hdb, hr⟩ := isRow_rd wx
  obtain ⟨rw_, hl1, hrb, hr1⟩ := isRow_rd wx1
  have HL := Lib.hid hl
  have HR := Lib.hid hr
  have HL1 := Lib.hid hl1
  have HR1 := Lib.hid hr1
  clear wa ws wu wc wx wx1 wap wct p0 p1 q0 q1 r0 r1 t0 t1 v0 v1 y0 y1 hl hr hl1 hr1
  go_enter Try.func4, Try.ntmps4
  go_wp2_with fail
  have hal : Below w.heap.size w (w.alloc (.cells #[.int .u8 (a : Nat), .int .u8 (s : Nat), .int .u8 (u : Nat), .int .u16 (c : Nat), .slice x len cap] 42)) := (Below.refl _ _).alloc (Nat.le_refl _) _
  have hg0 := heap_alloc_new w (.cells #[.int .u8 (a : Nat), .int .u8 (s : Nat), .int .u8 (u : Nat), .int .u16 (c : Nat), .slice x len cap] 42)
  have hgl0 := (Array.getElem?_eq_some_iff.1 hg0).1
  go_at_call 23
  refine (awake10 _).mono ?_
  rintro e w1 ⟨rfl, hb1⟩
  have H1 := Lib.hid ((hb1.block w.heap.size hgl0).trans hg0)
  have k4 := cell_of_row w1 w.heap.size 4 _ _ _ H1.out
  have HB1 := Lib.hid (hal.trans (hb1.mono hal.size))
  have hgl1 : w.heap.size < w1.heap.size := Nat.lt_of_lt_of_le hgl0 hb1.size
  have hs1 : w.heap.size ≤ w1.heap.size := HB1.out.size
  clear hb1 hal hg0 hgl0
  go_wp2_with fail
  go_at_call 19
  refine (Cut_any x len cap d 240 _ HL.out ((HR.out.below HB1.out).mono hs1) (by decide)).mono ?_
  rintro e w2 ⟨v, rfl, hown, hb2⟩
  obtain ⟨y, q, rfl⟩ := own_form hown
  obtain ⟨m, hm⟩ : ∃ m, m = min 240 len := ⟨_, rfl⟩
  obtain ⟨D, hD⟩ : ∃ D, D = d.take 240 := ⟨_, rfl⟩
  have hDb : bytes D := by rw [hD]; exact hdb.take 240
  have hDl : D.length = m := by rw [hD, hm]; exact bytes_take HL.out
  have hm2 : m ≤ 240 := by omega
  rw [← hm, ← hD] at hown
  rw [← hm]
  have HDL := Lib.hid hDl
  have HOD := Lib.hid hown
  have H2 := Lib.hid ((hb2.block w.heap.size hgl1).trans H1.out)
  have HB2 := Lib.hid (HB1.out.trans (hb2.mono hs1))
  have hgl2 : w.heap.size < w2.heap.size := Nat.lt_of_lt_of_le hgl1 hb2.size
  have hs2 : w.heap.size ≤ w2.heap.size := HB2.out.size
  clear hm hD hDl hown hb2 H1 HB1 k4 hdb
  go_wp2_with fail
  go_at_call 19
  refine (Cut_any x1 len1 cap1 rw_ 230 _ HL1.out ((HR1.out.below HB2.out).mono hs2) (by decide)).mono ?_
  rintro e w3 ⟨v, rfl, hown, hb3⟩
  obtain ⟨yr, qr, rfl⟩ := own_form hown
  obtain ⟨mr, hm⟩ : ∃ mr, mr = min 230 len1 := ⟨_, rfl⟩
  obtain ⟨R, hRR⟩ : ∃ R, R = rw_.take 230 := ⟨_, rfl⟩
  have hRb : bytes R := by rw [hRR]; exact hrb.take 230
  have hRl : R.length = mr := by rw [hRR, hm]; exact bytes_take HL1.out
  have hmr2 : mr ≤ 230 := by omega
  rw [← hm, ← hRR] at hown
  rw [← hm]
  have HRL := Lib.hid hRl
  have hoD := own_keep HOD.out hb3
  have hoR := hown
  have h3 := (hb3.block w.heap.size hgl2).trans H2.out
  have HB3 := Lib.hid (HB2.out.trans (hb3.mono hs2))
  have hgl3 : w.heap.size < w3.heap.size := Nat.lt_of_lt_of_le hgl2 hb3.size
  have c4 := cell_of_row w3 w.heap.size 4 _ _ _ h3
  have f4 := frozen_of_row w3 w.heap.size 4 _ _ h3
  have e1 : (w3.setCell ⟨w.heap.size, 4, none⟩ (.slice y m q)).heap[w.heap.size]? = some (.cells #[.int .u8 (a : Nat), .int .u8 (s : Nat), .int .u8 (u : Nat), .int .u16 (c : Nat), .slice y m q] 42 (0, 0)) := by
    rw [setCell_eq_setRow w3 w.heap.size 4 _ _ _ _ h3]
    exact setRow_heap _ _ _ _ _ _ h3
  have hB4 : Below w.heap.size w (w3.setCell ⟨w.heap.size, 4, none⟩ (.slice y m q)) := HB3.out.setCell (p := ⟨w.heap.size, 4, none⟩) (Nat.le_refl _) (.slice y m q)
  have hz4 : (w3.setCell ⟨w.heap.size, 4, none⟩ (.slice y m q)).heap.size = w3.heap.size := by simp
  have hoD4 := hoD.kept (grown_set w3 ⟨w.heap.size, 4, none⟩ (.slice y m q)) (.inr (fun e => by have := (hoD.lt w.heap.size e).1; omega))
  have hoR4 := hoR.kept (grown_set w3 ⟨w.heap.size, 4, none⟩ (.slice y m q)) (.inr (fun e => by have := (hoR.lt w.heap.size e).1; omega))
  have HDR4 := Lib.hid (rd_of_own (f := bv D) hoD4 (fun i hi => bl_at D (by rw [HDL.out]; exact hi)))
  have HRR4 := Lib.hid (rd_of_own (f := bv R) hoR4 (fun i hi => bl_at R (by rw [HRL.out]; exact hi)))
  clear hm hRR hRl hown H2 HB2 HOD HR HR1 hrb hoD hoR hoD4 hoR4
  go_wp2_with (refine wpList_load_row rfl 42 _ rfl _ rfl _ _ _ _ (by (first | exact heap_alloc2_new _ _ _ | exact heap_alloc2_old _ _ _ | exact heap_alloc_new _ _ | assumption)) Try.underlying42 rfl (by exact size_cm) ?_; (try go_simp))
  obtain ⟨w4, hw4⟩ : ∃ w4, w4 = w3.setCell ⟨w.heap.size, 4, none⟩ (.slice y m q) := ⟨_, rfl⟩
  rw [← hw4] at e1 hB4 hz4 HDR4 HRR4 ⊢
  have HB4 := Lib.hid hB4
  have hgl4 : w.heap.size < w4.heap.size := by omega
  have hs4 : w.heap.size ≤ w4.heap.size := by omega
  have H4 := Lib.hid e1
  clear hw4 e1 hB4 hz4 hb3 h3 HB3 c4 f4 hgl1 hgl2 hgl3 hs1 hs2
  go_at_call 24
  refine (cBytes_any a s u c y m q _ D _ ha hs hu hc HDL.out (Nat.le_refl _) HDR4.out).mono ?_
  intro e w5 hpost
  obtain ⟨hb5, xp, qp, rfl, hrp⟩ := CmBytes.uni HDL.out hpost
  clear hpost
  have hPl := cmOut_len a s u c D
  have hPb := cmOut_bytes (a := a) (c := c) hs hu hDb
  obtain ⟨P, hP⟩ : ∃ P, P = cmOut a s u c D := ⟨_, rfl⟩
  obtain ⟨pm, hpm⟩ : ∃ pm, pm = P.length := ⟨_, rfl⟩
  obtain ⟨bad, hbad⟩ : ∃ bad, bad = cmBad a m := ⟨_, rfl⟩
  rw [← hP, ← hpm] at hrp
  rw [← hP, ← hpm] at hPl
  rw [← hP] at hPb
  rw [← hP, ← hpm, ← hbad]
  have HP := Lib.hid hP
  have HPM := Lib.hid hpm.symm
  have HBAD := Lib.hid hbad
  have HPR := Lib.hid hrp
  have h5 := (hb5.block w.heap.size hgl4).trans H4.out
  have HB5 := Lib.hid (HB4.out.trans (hb5.mono hs4))
  have HDR5 := Lib.hid (rd_grow HDR4.out hb5)
  have HRR5 := Lib.hid (rd_grow HRR4.out hb5)
  have hgl5 : w.heap.size < w5.heap.size := Nat.lt_of_lt_of_le hgl4 hb5.size
  have hs5 : w.heap.size ≤ w5.heap.size := HB5.out.size
  clear hP hpm hbad hrp hb5 H4 HB4 HDR4 HRR4 hgl4 hs4
  go_wp2_with (refine wpList_load_row rfl 42 _ rfl _ rfl _ _ _ _ (by (first | exact heap_alloc2_new _ _ _ | exact heap_alloc2_old _ _ _ | exact heap_alloc_new _ _ | assumption)) Try.underlying42 rfl (by exact size_cm) ?_; (try go_simp))
  go_at_call 26
  refine (own10 a s u c m q y _).mono ?_
  rintro e w6 ⟨rfl, hb6⟩
  have H6 := Lib.hid ((hb6.block w.heap.size hgl5).trans h5)
  have HB6 := Lib.hid (HB5.out.trans (hb6.mono hs5))
  have HDR6 := Lib.hid (rd_grow HDR5.out hb6)
  have HRR6 := Lib.hid (rd_grow HRR5.out hb6)
  have HPR6 := Lib.hid (rd_grow HPR.out hb6)
  have hgl6 : w.heap.size < w6.heap.size := Nat.lt_of_lt_of_le hgl5 hb6.size
  have hs6 : w.heap.size ≤ w6.heap.size := HB6.out.size
  clear hb6 h5 HB5 HDR5 HRR5 HPR hgl5 hs5
  go_wp2_with fail
  go_at_call 25
  refine (BytesOf_any a s u c y m q _ D _ ha hs hu hc HDL.out (Nat.le_refl _) HDR6.out (by omega)).mono ?_
  intro e w7 hpost
  obtain ⟨hb7, xq, qq, rfl, hrq⟩ := CmTold.uni HDL.out hpost
  clear hpost
  rw [← HP.out, HPM.out] at hrq
  rw [← HP.out, HPM.out, ← HBAD.out]
  have HQR := Lib.hid hrq
  have H7 := Lib.hid ((hb7.block w.heap.size hgl6).trans H6.out)
  have HB7 := Lib.hid (HB6.out.trans (hb7.mono hs6))
  have HDR7 := Lib.hid (rd_grow HDR6.out hb7)
  have HRR7 := Lib.hid (rd_grow HRR6.out hb7)
  have HPR7 := Lib.hid (rd_grow HPR6.out hb7)
  have hgl7 : w.heap.size < w7.heap.size := Nat.lt_of_lt_of_le hgl6 hb7.size
  have hs7 : w.heap.size ≤ w7.heap.size := HB7.out.size
  clear hb7 hrq H6 HB6 HDR6 HRR6 HPR6 hgl6 hs6
  have hbb : ((bad : Int) != (bad : Int)) = false := by simp
  go_wp2_with fail
  go_at_call 21
  refine (Same_any xp xq pm pm qp qq _ _ P P _ HPM.out HPM.out HPR7.out HQR.out hPb hPb).mono ?_
  rintro e w8 ⟨rfl, j8, hw8⟩
  simp only [decide_true]
  have hb8 : Below w7.heap.size w7 w8 := by rw [hw8]; exact below_drews _ _ _
  have hal8 : Below w8.heap.size w8 (w8.alloc (.cells #[.slice xp pm qp, .slice yr mr qr] 23)) := (Below.refl _ _).alloc (Nat.le_refl _) _
  have hb89 := hb8.trans (hal8.mono hb8.size)
  have hrow := heap_alloc_new w8 (.cells #[.slice xp pm qp, .slice yr mr qr] 23)
  obtain ⟨gt, hgt⟩ : ∃ gt, gt = w8.heap.size := ⟨_, rfl⟩
  have H9 := Lib.hid ((hb89.block w.heap.size hgl7).trans H7.out)
  have HB9 := Lib.hid (HB7.out.trans (hb89.mono hs7))
  have HDR9 := Lib.hid (rd_grow HDR7.out hb89)
  have HRR9 := Lib.hid (rd_grow HRR7.out hb89)
  have HPR9 := Lib.hid (rd_grow HPR7.out hb89)
  have HQR9 := Lib.hid (rd_grow HQR.out hb89)
  have hs79 := hb89.size
  clear hw8 hb8 hal8 hb89 H7 HB7 HDR7 HRR7 HPR7 HQR
  go_wp2_with fail
  rw [← hgt] at hrow
  rw [← hgt]
  obtain ⟨w9, hw9⟩ : ∃ w9, w9 = w8.alloc (.cells #[.slice xp pm qp, .slice yr mr qr] 23) := ⟨_, rfl⟩
  rw [← hw9] at hrow H9 HB9 HDR9 HRR9 HPR9 HQR9 hs79 ⊢
  have hgtl := (Array.getElem?_eq_some_iff.1 hrow).1
  have hgl9 : w.heap.size < w9.heap.size := by omega
  have hs9 : w.heap.size ≤ w9.heap.size := HB9.out.size
  have helem : ∀ k, k < 2 → ∃ xa xm xq X, w9.cell? ⟨gt, k, none⟩ = some (.slice xa xm xq) ∧ X.length = xm ∧ Rd w9.heap.size w9 xa xm xq (bv X) ∧ bytes X ∧ xm ≤ 1000 := by
    intro k hk
    have : k = 0 ∨ k = 1 := by omega
    rcases this with rfl | rfl
    · exact ⟨xp, pm, qp, P, cell_of_row w9 gt 0 _ _ _ hrow, HPM.out, HPR9.out, hPb, by omega⟩
    · exact ⟨yr, mr, qr, R, cell_of_row w9 gt 1 _ _ _ hrow, HRL.out, HRR9.out, hRb, by omega⟩
  have HEL := Lib.hid helem
  clear helem hw9 hgt hrow hgl7 hs7 hs79 hbb
  go_loopw [54] (fun i wr => ∃ k : Nat, k ≤ 2 ∧ i = .int .i64 (k : Nat) ∧ Below w9.heap.size w9 wr) (fun i _ => 2 - (intOf i).toNat)
  case atStart => exact ⟨0, by omega, rfl, Below.refl _ _⟩
  case round =>
    obtain ⟨k, hk, rfl, hBr⟩ := hrel
    by_cases hlt : k < 2
    · obtain ⟨xa, xm, xq', X, hcell, hXl, hXr, hXb, hXm⟩ := HEL.out k hlt
      have hcell := (hBr.cell (p := ⟨gt, k, none⟩) hgtl).trans hcell
      have HXL := Lib.hid hXl
      have HXR := Lib.hid ((hXr.below hBr).mono hBr.size)
      have HBr := Lib.hid hBr
      have hs9r := hBr.size
      clear hXl hXr hBr HEL HQR9 HPR9 HRR9 HDR9 H9
      go_wp2_with fail
      go_at_call 27
      refine (cmParse_any xa xm xq' _ X _ HXL.out (Nat.le_refl _) HXR.out hXb (by omega)).mono ?_
      intro e w10 hpost
      obtain ⟨hb10, xd, qd, rfl, hrd⟩ := hpost.one
      clear hpost
      have hEb := cmpD_bytes hXb
      obtain ⟨p0, hp0⟩ : ∃ p0, p0 = cmp0 X := ⟨_, rfl⟩
      obtain ⟨p1, hp1⟩ : ∃ p1, p1 = cmp1 X := ⟨_, rfl⟩
      obtain ⟨p2, hp2⟩ : ∃ p2, p2 = cmp2 X := ⟨_, rfl⟩
      obtain ⟨p3, hp3⟩ : ∃ p3, p3 = cmp3 X := ⟨_, rfl⟩
      obtain ⟨E, hE⟩ : ∃ E, E = cmpD X := ⟨_, rfl⟩
      obtain ⟨em, hem⟩ : ∃ em, em = E.length := ⟨_, rfl⟩
      obtain ⟨er, her⟩ : ∃ er, er = cmErr X := ⟨_, rfl⟩
      rw [← hE, ← hem] at hrd
      rw [← hE] at hEb
      rw [← hp0, ← hp1, ← hp2, ← hp3, ← hE, ← hem, ← her]
      have hal : Below w10.heap.size w10 (w10.alloc (.cells #[.int .u8 (p0 : Nat), .int .u8 (p1 : Nat), .int .u8 (p2 : Nat), .int .u16 (p3 : Nat), .slice xd em qd] 42)) := (Below.refl _ _).alloc (Nat.le_refl _) _
      have hbr := hb10.trans (hal.mono hb10.size)
      have hbox := heap_alloc_new w10 (.cells #[.int .u8 (p0 : Nat), .int .u8 (p1 : Nat), .int .u8 (p2 : Nat), .int .u16 (p3 : Nat), .slice xd em qd] 42)
      have HBOX := Lib.hid hbox
      have HXR2 := Lib.hid (rd_grow HXR.out hbr)
      have HRD := Lib.hid (rd_grow hrd hal)
      have HB10 := Lib.hid (HBr.out.trans (hbr.mono hs9r))
      have HP0 := Lib.hid hp0
      have HP1 := Lib.hid hp1
      have HP2 := Lib.hid hp2
      have HP3 := Lib.hid hp3
      have HE := Lib.hid hE
      have HEM := Lib.hid hem
      have HER := Lib.hid her
      have hbl10 := (Array.getElem?_eq_some_iff.1 hbox).1
      clear hp0 hp1 hp2 hp3 hE hem her hrd hb10 hal hbr hbox HXR HBr
      go_wp2_with fail
      obtain ⟨g10, hg10⟩ : ∃ g10, g10 = w10.heap.size := ⟨_, rfl⟩
      obtain ⟨v10, hv10⟩ : ∃ v10, v10 = w10.alloc (.cells #[.int .u8 (p0 : Nat), .int .u8 (p1 : Nat), .int .u8 (p2 : Nat), .int .u16 (p3 : Nat), .slice xd em qd] 42) := ⟨_, rfl⟩
      rw [← hg10, ← hv10] at HBOX hbl10
      rw [← hv10] at HXR2 HRD HB10
      rw [← hg10, ← hv10]
      clear hg10 hv10
      have hs10 := HB10.out.size
      go_at_call 28
      refine (rcParse_any xa xm xq' _ X _ HXL.out (Nat.le_refl _) HXR2.out hXb (by omega)).mono ?_
      intro e w11 hpost
      obtain ⟨hb11, xf, qf, rfl, hrf⟩ := hpost.one
      clear hpost
      rw [← HP0.out, ← HP1.out, ← HP2.out, ← HP3.out, ← HE.out, ← HEM.out, ← HER.out]
      rw [← HE.out, ← HEM.out] at hrf
      have hal : Below w11.heap.size w11 (w11.alloc (.cells #[.int .u8 (p0 : Nat), .int .u8 (p1 : Nat), .int .u8 (p2 : Nat), .int .u16 (p3 : Nat), .slice xf em qf] 45)) := (Below.refl _ _).alloc (Nat.le_refl _) _
      have hb12 := hb11.trans (hal.mono hb11.size)
      have hboxa := (hb12.block g10 hbl10).trans HBOX.out
      have hboxb := heap_alloc_new w11 (.cells #[.int .u8 (p0 : Nat), .int .u8 (p1 : Nat), .int .u8 (p2 : Nat), .int .u16 (p3 : Nat), .slice xf em qf] 45)
      have HRD2 := Lib.hid (rd_grow HRD.out hb12)
      have HRF := Lib.hid (rd_grow hrf hal)
      have HB12 := Lib.hid (HB10.out.trans (hb12.mono hs10))
      clear hrf hb11 hal hb12 HRD HB10 HBOX HXR2
      have hee : ((er : Int) != (er : Int)) = false := by simp
      have ka0 := cell_of_row _ g10 0 _ _ _ hboxa
      have ka1 := cell_of_row _ g10 1 _ _ _ hboxa
      have ka2 := cell_of_row _ g10 2 _ _ _ hboxa
      have ka3 := cell_of_row _ g10 3 _ _ _ hboxa
      have ka4 := cell_of_row _ g10 4 _ _ _ hboxa
      go_wp2_with fail
      go_at_call 29
      refine (like10 p0 p1 p2 p3 em qd qf _ _ xd xf E _ HEM.out.symm (Nat.le_refl _) (Nat.le_refl _) HRD2.out HRF.out hEb).mono ?_
      rintro e w13 ⟨rfl, hb13⟩
      have HB13 := Lib.hid (HB12.out.trans (hb13.mono HB12.out.size))
      clear hb13 HB12 HRD2 HRF hboxa hboxb
      go_wp2
      go_roundw
      case rel => exact ⟨k + 1, by omega, by go_num, HB13.out⟩
      case measure => simp [intOf]; omega
    · obtain rfl : k = 2 := by omega
      have h14 := (hBr.block w.heap.size hgl9).trans H9.out
      have HDR := Lib.hid ((HDR9.out.below hBr).mono hBr.size)
      have HPR := Lib.hid ((HPR9.out.below hBr).mono hBr.size)
      have HB := Lib.hid (HB9.out.trans (hBr.mono hs9))
      have hsr : w.heap.size ≤ wr.heap.size := HB.out.size
      clear hBr H9 HDR9 HPR9 HRR9 HQR9 HEL HB9 hlt
      have kb0 := cell_of_row _ w.heap.size 0 _ _ _ h14
      have kb1 := cell_of_row _ w.heap.size 1 _ _ _ h14
      have kb2 := cell_of_row _ w.heap.size 2 _ _ _ h14
      have kb3 := cell_of_row _ w.heap.size 3 _ _ _ h14
      have kb4 := cell_of_row _ w.heap.size 4 _ _ _ h14
      go_wp2_with fail
      go_at_call 30
      refine (Send_any ap ct a s u c y m q _ D _ hap hct ha hs hu hc HDL.out (Nat.le_refl _) HDR.out hDb).mono ?_
      intro e w15 hpost
      obtain ⟨hb15, xs, qs, rfl, hrs⟩ := Sent.uni (by rw [mkPkt_len, cmB_len, HDL.out]) hpost
      clear hpost
      obtain ⟨er, her⟩ : ∃ er, er = sdErr ap ct a m := ⟨_, rfl⟩
      obtain ⟨S, hS⟩ : ∃ S, S = sent er (mkPkt 1 ap ct (cmB a s u c D)) := ⟨_, rfl⟩
      obtain ⟨sm, hsm⟩ : ∃ sm, sm = S.length := ⟨_, rfl⟩
      rw [← her, ← hS, ← hsm] at hrs
      rw [← her, ← hS, ← hsm]
      have HER := Lib.hid her
      have HS := Lib.hid hS
      have HSM := Lib.hid hsm
      have HSR := Lib.hid hrs
      have HPR5 := Lib.hid (rd_grow HPR.out hb15)
      have HB5 := Lib.hid (HB.out.trans (hb15.mono hsr))
      have hs15 : w.heap.size ≤ w15.heap.size := HB5.out.size
      have hal : Below w15.heap.size w15 (w15.alloc (.cells #[.bool true, .int .u16 (ap : Nat), .int .u16 (ct : Nat), .slice xp pm qp] 53)) := (Below.refl _ _).alloc (Nat.le_refl _) _
      have hboxp := heap_alloc_new w15 (.cells #[.bool true, .int .u16 (ap : Nat), .int .u16 (ct : Nat), .slice xp pm qp] 53)
      have HSR6 := Lib.hid (rd_grow HSR.out hal)
      have HPR6 := Lib.hid (rd_grow HPR5.out hal)
      have HB6 := Lib.hid (HB5.out.trans (hal.mono hs15))
      clear her hS hsm hrs hb15 HPR HB HSR HPR5 HB5 hal HDR h14 kb0 kb1 kb2 kb3 kb4
      by_cases hb0 : bad = 0
      · subst hb0
        have hbo := cmBad_ok (HBAD.out.symm)
        have hPe : P = cmB a s u c D := by rw [HP.out]; unfold cmOut; rw [if_pos (by rw [HDL.out]; exact HBAD.out.symm)]
        have hpm5 : pm = m + 5 := by rw [← HPM.out, hPe, cmB_len, HDL.out]
        have hse : er = pkRight ap ct pm := by rw [HER.out, hpm5]; unfold sdErr; rw [if_neg (by rw [← HBAD.out]; simp)]
        have HPE := Lib.hid hPe
        have HSE := Lib.hid hse
        clear hPe hse hpm5
        go_wp2_with fail
        go_at_call 31
        refine (rRight09 true ap ct pm qp xp _ hap hct).mono ?_
        rintro e w17 ⟨rfl, hb17⟩
        rw [← HSE.out]
        have hboxp := (hb17.block _ (Array.getElem?_eq_some_iff.1 hboxp).1).trans hboxp
        have HSR7 := Lib.hid (rd_grow HSR6.out hb17)
        have HPR7 := Lib.hid (rd_grow HPR6.out hb17)
        have HB7 := Lib.hid (HB6.out.trans (hb17.mono HB6.out.size))
        have hs17 : w.heap.size ≤ w17.heap.size := HB7.out.size
        clear hb17 HSR6 HPR6 HB6
        have hee : ((er : Int) == (er : Int)) = true := by simp
        by_cases he0 : er = 0
        · subst he0
          have hok := pkRight_ok HSE.out.symm
          have hSe : S = mkPkt 1 ap ct P := by rw [HS.out, sent_zero, HPE.out]
          have HSE2 := Lib.hid hSe
          clear hSe
          have kc0 := cell_of_row _ _ 0 _ _ _ hboxp
          have kc1 := cell_of_row _ _ 1 _ _ _ hboxp
          have kc2 := cell_of_row _ _ 2 _ _ _ hboxp
          have kc3 := cell_of_row _ _ 3 _ _ _ hboxp
          go_wp2_with fail
          go_at_call 32
          refine (rBytes09 true ap ct xp pm qp _ P _ hok.1 hok.2.1 HPM.out (Nat.le_refl _) HPR7.out hPb hok.2.2).mono ?_
          rintro e w18 ⟨v, rfl, hown, hb18⟩
          rw [if_pos rfl, ← HSE2.out] at hown
          have hsl : sm = pm + 8 := by rw [HSM.out, HSE2.out, mkPkt_len, HPM.out]
          rw [← hsl] at hown
          obtain ⟨xv, qv, rfl⟩ := own_form hown
          have hSb : bytes S := by rw [HSE2.out]; exact mkPkt_bytes (by decide) hok.1 hok.2.1 (by rw [HPM.out]; omega) hPb
          have HSR8 := Lib.hid (rd_grow HSR7.out hb18)
          have HVR := Lib.hid (rd_of_own (f := bv S) hown (fun i hi => bl_at S (by rw [← HSM.out]; exact hi)))
          have HB8 := Lib.hid (HB7.out.trans (hb18.mono hs17))
          clear hown hb18 HSR7 HPR7 HB7 hsl
          go_wp2_with fail
          go_at_call 21
          refine (Same_any xs xv sm sm qs qv _ _ S S _ HSM.out.symm HSM.out.symm HSR8.out HVR.out hSb hSb).mono ?_
          rintro e w19 ⟨rfl, j19, hw19⟩
          simp only [decide_true]
          have HB9' := Lib.hid (HB8.out.trans (show Below w.heap.size w18 w19 by rw [hw19]; exact (below_drews _ _ _).mono HB8.out.size))
          clear hw19
          go_wp2
          go_ret
          exact ⟨rfl, HB9'.out⟩
        · have hnI : ((er : Int) != 0) = true := by simp [bne]; omega
          obtain rfl : sm = 0 := by rw [HSM.out, HS.out, sent_no he0]; rfl
          clear he0
          go_wp2
          go_ret
          exact ⟨rfl, HB7.out⟩
      · have hb0I : ((bad : Int) == 0) = false := by rw [beq_eq_false_iff_ne]; omega
        have hb0J : ((bad : Int) != 0) = true := by simp [bne]; omega
        obtain rfl : er = bad := by rw [HER.out, HBAD.out]; unfold sdErr; rw [if_pos (by rw [← HBAD.out]; exact hb0)]
        obtain rfl : sm = 0 := by rw [HSM.out, HS.out, sent_no hb0]; rfl
        have hee : ((er : Int) == (er : Int)) = true := by simp
        clear hb0
        go_wp2
        go_ret
        exact ⟨rfl, HB6.out⟩
end Go.Proofs.Ytfolebogfapmaaa
