/- PacketSplits, walked. -/
import Derived.Test.YtfolebogfapmaaaPkts
import Derived.Test.YtfolebogfapmaaaPk8
import Derived.Test.YtfolebogfapmaaaLaw09l
namespace Go.Proofs.Ytfolebogfapmaaa
open Go.RowKit Go.Own
set_option linter.unusedVariables false
set_option linter.unusedSimpArgs false

/-- What the first loop keeps: all bytes so far, and the packets. -/
def SplSt (w : World) (k : Nat) (Ks : List (List Nat)) (va vw : Value) (A nw : Nat) (wr : World) : Prop :=
  wr.ownsRow w.heap.size 5 1 va A (bl Ks.flatten) ∧ Ks.flatten.length = A ∧ Rows8 w.heap.size wr vw nw Ks ∧ nw ≤ k ∧ A ≤ 208 * k ∧ bytes Ks.flatten ∧ (∀ x ∈ Ks, psize x + 7 = x.length) ∧ Below w.heap.size w wr
theorem take_flat {Ls : List (List Nat)} {k : Nat} (h : k < Ls.length) : (Ls.take (k + 1)).flatten = (Ls.take k).flatten ++ Ls.getD k [] := by
  rw [List.take_succ_eq_append_getElem h, List.flatten_append]
  simp [List.getD, h]
theorem take_flat_le (Ls : List (List Nat)) (k : Nat) : (Ls.take k).flatten.length ≤ Ls.flatten.length := by
  have h : Ls.flatten = (Ls.take k).flatten ++ (Ls.drop k).flatten := by rw [← List.flatten_append, List.take_append_drop]
  rw [h, List.length_append]; omega
set_option maxRecDepth 100000 in
set_option maxHeartbeats 8000000 in
theorem walk_PacketSplits (a0 : Option Addr) (len0 cap0 : Nat) (a1 : Option Addr) (len1 cap1 : Nat) (z1 : List Int) (w : World) (w0 : IsPkts w a0 len0 cap0) (w1' : IsRow .u8 w a1 len1 cap1 z1) :
    Calls Try.prog 3 #[.slice a0 len0 cap0, .slice a1 len1 cap1] w fun e w' => e = .returned (.bool true) ∧ Below w.heap.size w w' := by
  obtain ⟨i0, hi, hz0, hz1, hz2⟩ := info_parts info_row8
  obtain ⟨l1, hl1, hb1', hr1⟩ := isRow_rd w1'
  obtain ⟨h1, h2, hnil, hrow⟩ := w0
  unfold maxLen at h2
  have HR1 := Lib.hid hr1
  have HL1 := Lib.hid hl1
  have HROW := Lib.hid hrow
  clear w1' hr1 hl1 hrow hnil
  go_enter Try.func3, Try.ntmps3
  go_wp2_with (go_at_call 15; refine (awake09 _).mono ?_; rintro e w1 ⟨rfl, hb1⟩)
  go_loopw [5, 6, 20] (fun va vw i wr => ∃ k A nw Ks, k ≤ len0 ∧ k ≤ 6 ∧ i = .int .i64 (k : Nat) ∧ SplSt w k Ks va vw A nw wr) (fun _ _ i _ => len0 - (intOf i).toNat)
  case atStart => exact ⟨0, 0, 0, [], by omega, by omega, rfl, World.ownsRow_nil _ _ _ _, rfl, Rows8.nil _ _, by omega, by omega, (fun b hb => by cases hb), (fun x hx => by cases hx), hb1⟩
  case round =>
    clear hb1
    obtain ⟨k, A, nw, Ks, hk, hk6, rfl, hall, hAl, hrows, hnw, hA, hAb, hgood, hB⟩ := hrel
    by_cases hlt : k < len0
    · by_cases hk5 : k < 6
      · obtain ⟨b, off, rfl, hbl, hel⟩ := HROW.out (by omega)
        obtain ⟨kk, ap, ct, x, xl, xc, d, r1, r2, r3, r4, r5, e0, e1, e2, e3⟩ := hel k hlt
        have c0 := (hB.cell (p := ⟨b, off + k * 4, none⟩) hbl).trans e0
        have c1 := (hB.cell (p := ⟨b, off + k * 4 + 1, none⟩) hbl).trans e1
        have c2 := (hB.cell (p := ⟨b, off + k * 4 + 2, none⟩) hbl).trans e2
        have c3 := (hB.cell (p := ⟨b, off + k * 4 + 3, none⟩) hbl).trans e3
        obtain ⟨aa, ac, rfl⟩ := own_form hall
        have HALL := Lib.hid hall
        have HAL := Lib.hid hAl
        have HRS := Lib.hid hrows
        have HG := Lib.hid hgood
        have HB := Lib.hid hB
        have HX := Lib.hid r5
        have HD := Lib.hid r3
        have HAB := Lib.hid hAb
        clear hall hAl hrows hgood hB hel e0 e1 e2 e3 r5 r3 hAb
        have hws : w.heap.size ≤ wr.heap.size := HB.out.size
        go_wp2_with fail
        have hal : Below wr.heap.size wr (wr.alloc (.cells #[.bool kk, .int .u16 (ap : Nat), .int .u16 (ct : Nat), .slice x xl xc] 28)) := (Below.refl _ _).alloc (Nat.le_refl _) _
        have hB1 := HB.out.trans (hal.mono hws)
        go_at_call 16
        refine (few09 kk ap ct xl xc w.heap.size x d _ HD.out hB1.size (HX.out.below hB1)).mono ?_
        rintro e w2 ⟨y, q, rfl, hown, hb2⟩
        obtain ⟨m, hm⟩ : ∃ m, m = min 260 xl := ⟨_, rfl⟩
        obtain ⟨D, hD⟩ : ∃ D, D = d.take 260 := ⟨_, rfl⟩
        have hDb : bytes D := by rw [hD]; exact r4.take 260
        have hDl : D.length = m := by rw [hD, hm]; exact bytes_take HD.out
        have hm2 : m ≤ 260 := by omega
        rw [← hm, ← hD] at hown
        rw [← hm]
        have HDL := Lib.hid hDl
        have HRD := Lib.hid (rd_of_own (f := bv D) hown (fun i hi => bl_at D (by rw [HDL.out]; exact hi)))
        have hbr2 := hal.trans (hb2.mono (by simp))
        have HB2 := Lib.hid (HB.out.trans (hbr2.mono hws))
        have HBr2 := Lib.hid hbr2
        have hws2 : w.heap.size ≤ w2.heap.size := HB2.out.size
        clear hm hD hDl hown hb2 hal hB1 hbr2 HX HD r4 c0 c1 c2 c3
        go_wp2_with fail
        go_at_call 17
        refine (pBytes_any kk ap ct y m q _ D _ r1 r2 HDL.out (Nat.le_refl _) HRD.out hDb).mono ?_
        rintro e w3 ⟨hb3, ⟨hne, rfl⟩ | ⟨h0, v, rfl, hown⟩⟩
        · have hbr3 := HBr2.out.trans (hb3.mono HBr2.out.size)
          obtain ⟨er, her⟩ : ∃ er, er = pkRight ap ct m := ⟨_, rfl⟩
          rw [← her] at hne ⊢
          have heI : ((er : Int) == 0) = false := by rw [beq_eq_false_iff_ne]; omega
          have HST := Lib.hid (show SplSt w (k + 1) Ks (.slice aa A ac) u6 A nw w3 from ⟨own_below HALL.out hbr3 (Nat.le_refl _), HAL.out, HRS.out.below hbr3 (Nat.le_refl _), by omega, by omega, HAB.out, HG.out, HB.out.trans (hbr3.mono hws)⟩)
          clear her hb3 hbr3
          go_wp2
          go_roundw
          case rel => exact ⟨k + 1, A, nw, Ks, by omega, by omega, by go_num, HST.out⟩
          case measure => simp [intOf]; omega
        · have hal : ap < 2048 ∧ ct < 16384 ∧ m ≤ 200 := by
            have h := h0
            unfold pkRight at h
            split at h
            · omega
            · split at h
              · omega
              · omega
          obtain ⟨hal, hcl, hml⟩ := hal
          obtain ⟨K, hK⟩ : ∃ K, K = mkPkt (if kk then 1 else 0) ap ct D := ⟨_, rfl⟩
          obtain ⟨M, hM⟩ : ∃ M, M = m + 8 := ⟨_, rfl⟩
          have hKl : K.length = M := by rw [hK, mkPkt_len, HDL.out, hM]
          have hKb : bytes K := by rw [hK]; exact mkPkt_bytes (by split <;> omega) hal hcl (by rw [HDL.out]; omega) hDb
          have hKs : psize K + 7 = K.length := by rw [hKl, hK, mkPkt_size, HDL.out]; omega
          rw [← hK, ← hM] at hown
          obtain ⟨ba, bc, rfl⟩ := own_form hown
          have hM8 : 8 ≤ M := by omega
          have hM9 : M ≤ 208 := by omega
          have HKL := Lib.hid hKl
          have HKS := Lib.hid hKs
          have hbr3 := HBr2.out.trans (hb3.mono HBr2.out.size)
          have HB3 := Lib.hid (HB.out.trans (hbr3.mono hws))
          have hws3 : w.heap.size ≤ w3.heap.size := HB3.out.size
          have hall3 := own_below HALL.out hbr3 (Nat.le_refl _)
          have HRS3 := Lib.hid (HRS.out.below hbr3 (Nat.le_refl _))
          have hKo := own_base hown hws2
          have HKO := Lib.hid hKo
          have HKR := Lib.hid (rd_of_own (f := bv K) hown (fun i hi => bl_at K (by rw [HKL.out]; exact hi)))
          have HAR := Lib.hid (rd_of_own (f := bv Ks.flatten) hall3 (fun i hi => bl_at _ (by rw [HAL.out]; exact hi)))
          clear hK hM hKl hKs hown hb3 hbr3 hall3 hKo HALL HRS HBr2 HB2 HRD h0
          go_wp2_with fail
          go_at_call 18
          have hal3 : Below w3.heap.size w3 (w3.alloc (.cells #[.slice aa A ac, .slice ba M bc] 23)) := (Below.refl _ _).alloc (Nat.le_refl _) _
          have hll : (Ks.flatten ++ K).length = A + M := by rw [List.length_append, HAL.out, HKL.out]
          refine (Join2 (n := w3.heap.size) (n' := w3.heap.size) HAL.out HKL.out (heap_alloc_new _ _) (HAR.out.below hal3) (HKR.out.below hal3) (by simp) (by simp) (by omega)).mono ?_
          rintro e w4 ⟨v, rfl, hown4, hb4⟩
          rw [hll] at hown4
          obtain ⟨na, nc, rfl⟩ := own_form hown4
          have hb34 := hal3.trans (hb4.mono (by simp))
          have hown4 := own_base hown4 (show w.heap.size ≤ (w3.alloc (.cells #[.slice aa A ac, .slice ba M bc] 23)).heap.size by simp; omega)
          have hrows4 := HRS3.out.below hb34 (Nat.le_refl _)
          have HKO4 := Lib.hid (own_keep HKO.out hb34)
          have HB4 := Lib.hid (HB3.out.trans (hb34.mono hws3))
          have hws4 : w.heap.size ≤ w4.heap.size := HB4.out.size
          obtain ⟨R, hR, hkn, hout, hrs⟩ := hrows4
          have HN4 := Lib.hid hown4
          have HLL := Lib.hid hll
          have HOUT := Lib.hid hout
          have HRs := Lib.hid hrs
          have HRR' := Lib.hid hR
          have HKN := Lib.hid hkn
          obtain ⟨A2, hA2⟩ : ∃ A2, A2 = A + M := ⟨_, rfl⟩
          rw [← hA2] at HN4 HLL ⊢
          have HA2 := Lib.hid hA2
          clear hll hown4 hb4 hal3 hb34 HKO HRS3 HB3 hR hkn hout hrs HAR HKR hA2
          go_wp2_with (at_builtin; refine wpList_append_own _ rfl _ _ 25 rfl w.heap.size 23 i0 (.slice none 0 0) 1 24 Try.underlying25 hi hz0 hz1 hz2 rfl (by decide) _ _ _ rfl (HOUT.out.alloc _) ⟨w4.heap.size, 0, none⟩ 1 1 [.slice ba M bc] rfl rfl ?c1 ?c2 ?c3 ?c4 ?c5 ?_)
          case c1 => exact cell_one_new _ _ _
          case c2 => simp [Value.oneCell']
          case c3 => unfold maxLen; omega
          case c4 => omega
          case c5 => simp; omega
          intro v' w5 hown5 hgrow5 _
          have HP := Lib.hid (Rows8.push HKL.out HRR'.out HKN.out HRs.out (HOUT.out.alloc _) HKO4.out hown5 hgrow5)
          have HN5 := Lib.hid ((HN4.out.alloc (.cells #[.slice ba M bc] 23)).kept hgrow5 (own_apart (HN4.out.alloc (.cells #[.slice ba M bc] 23)) (HOUT.out.alloc (.cells #[.slice ba M bc] 23)) (by decide)))
          have hb5 : Below w.heap.size w4 w5 := ((Below.refl _ _).alloc hws4 (.cells #[.slice ba M bc] 23)).grown hgrow5 (by simp; omega) (fun j hj => (HOUT.out.lt j hj).1)
          have HB5 := Lib.hid (HB4.out.trans hb5)
          have hfl : (Ks ++ [K]).flatten = Ks.flatten ++ K := by simp
          have HST := Lib.hid (show SplSt w (k + 1) (Ks ++ [K]) (.slice na A2 nc) v' A2 (nw + 1) w5 from ⟨by rw [hfl]; exact HN5.out, by rw [hfl]; exact HLL.out, HP.out, by omega, by have := HA2.out; omega, by rw [hfl]; exact HAB.out.append hKb, fun x hx => by
            rcases List.mem_append.1 hx with h | h
            · exact HG.out x h
            · obtain rfl := List.mem_singleton.1 h
              exact HKS.out, HB5.out⟩)
          clear hown5 hgrow5 hb5 hfl HN5 HP HOUT HRs HRR' HKN HKO4 HN4
          go_wp2
          go_roundw
          case rel => exact ⟨k + 1, A2, nw + 1, Ks ++ [K], by omega, by omega, by go_num, HST.out⟩
          case measure => simp [intOf]; omega
      · obtain ⟨b, off, rfl, hbl, hel⟩ := HROW.out (by omega)
        obtain ⟨kk, ap, ct, x, xl, xc, d, r1, r2, r3, r4, r5, e0, e1, e2, e3⟩ := hel k hlt
        have c0 := (hB.cell (p := ⟨b, off + k * 4, none⟩) hbl).trans e0
        have c1 := (hB.cell (p := ⟨b, off + k * 4 + 1, none⟩) hbl).trans e1
        have c2 := (hB.cell (p := ⟨b, off + k * 4 + 2, none⟩) hbl).trans e2
        have c3 := (hB.cell (p := ⟨b, off + k * 4 + 3, none⟩) hbl).trans e3
        clear hel r1 r2 r3 r4 r5 e0 e1 e2 e3
        skip
        obtain ⟨aa, ac, rfl⟩ := own_form hall
        have hkn : Ks.length = nw := by
          obtain ⟨_, _, h, _⟩ := hrows
          exact h
        obtain ⟨wa, wc, rfl, wp, wq, hwrd, hwel⟩ := hrows.rds
        have hk12 : nw ≤ 6 := by omega
        have hA12 : A ≤ 1248 := by omega
        have HAL := Lib.hid hAl
        have HAR := Lib.hid (rd_of_own (f := bv Ks.flatten) hall (fun i hi => bl_at _ (by rw [HAL.out]; exact hi)))
        have HG := Lib.hid hgood
        have HB := Lib.hid hB
        have HAB := Lib.hid hAb
        have HWRD := Lib.hid hwrd
        have HWEL := Lib.hid hwel
        have HKN := Lib.hid hkn
        have hws : w.heap.size ≤ wr.heap.size := HB.out.size
        clear hall hAl hrows hnw hA hAb hgood hB hwrd hwel hkn HROW
        go_wp2_with fail
        have hbq : Below wr.heap.size wr (wr.alloc (.cells #[.bool kk, .int .u16 (ap : Nat), .int .u16 (ct : Nat), .slice x xl xc] 28)) := (Below.refl _ _).alloc (Nat.le_refl _) _
        have HAR := Lib.hid (rd_grow HAR.out hbq)
        have HWRD := Lib.hid ((HWRD.out.below hbq).mono hbq.size)
        have HWEL := Lib.hid (fun i (hi : i < nw) => rd_grow (HWEL.out i hi) hbq)
        have HB := Lib.hid (HB.out.trans (hbq.mono hws))
        clear hbq
        obtain ⟨wr, hwr⟩ : ∃ xx9, xx9 = wr.alloc (.cells #[.bool kk, .int .u16 (ap : Nat), .int .u16 (ct : Nat), .slice x xl xc] 28) := ⟨_, rfl⟩
        rw [← hwr] at HAR HWRD HWEL HB ⊢
        have hws : w.heap.size ≤ wr.heap.size := HB.out.size
        clear hwr
        go_at_call 19
        refine (Cut_any a1 len1 cap1 l1 40 _ HL1.out ((HR1.out.below HB.out).mono hws) (by omega)).mono ?_
        rintro e w2 ⟨v, rfl, hown, hb2⟩
        obtain ⟨R, hR⟩ : ∃ R, R = l1.take 40 := ⟨_, rfl⟩
        have hRb : bytes R := by rw [hR]; exact hb1'.take 40
        obtain ⟨r, hr'⟩ : ∃ r, r = min 40 len1 := ⟨_, rfl⟩
        have hRr : R.length = r := by rw [hR, hr']; exact bytes_take HL1.out
        have hr2 : r ≤ 40 := by omega
        rw [← hR, ← hr'] at hown
        obtain ⟨ra, rc, rfl⟩ := own_form hown
        have HRR := Lib.hid hRr
        have HR2 := Lib.hid (rd_of_own (f := bv R) hown (fun i hi => bl_at R (by rw [HRR.out]; exact hi)))
        have HB2 := Lib.hid (HB.out.trans (hb2.mono hws))
        have HAR2 := Lib.hid (rd_grow HAR.out hb2)
        have HBr2 := Lib.hid hb2
        have hws2 : w.heap.size ≤ w2.heap.size := HB2.out.size
        clear hR hr' hRr hown hb2 HAR
        go_wp2_with fail
        go_at_call 18
        have hal2 : Below w2.heap.size w2 (w2.alloc (.cells #[.slice aa A ac, .slice ra r rc] 23)) := (Below.refl _ _).alloc (Nat.le_refl _) _
        have hll : (Ks.flatten ++ R).length = A + r := by rw [List.length_append, HAL.out, HRR.out]
        refine (Join2 (n := w2.heap.size) (n' := w2.heap.size) HAL.out HRR.out (heap_alloc_new _ _) (HAR2.out.below hal2) (HR2.out.below hal2) (by simp) (by simp) (by omega)).mono ?_
        rintro e w3 ⟨v, rfl, hown3, hb3⟩
        rw [hll] at hown3
        obtain ⟨ja, jc, rfl⟩ := own_form hown3
        obtain ⟨J, hJ⟩ : ∃ J, J = A + r := ⟨_, rfl⟩
        obtain ⟨E, hE⟩ : ∃ E, E = Ks.flatten ++ R := ⟨_, rfl⟩
        have hEb : bytes E := by rw [hE]; exact HAB.out.append hRb
        rw [← hJ, ← hE] at hown3
        rw [← hJ]
        rw [← hE, ← hJ] at hll
        have hJ2 : J ≤ 1300 := by omega
        have HJ := Lib.hid hJ
        have HE := Lib.hid hE
        have HEL := Lib.hid hll
        have hb23 := hal2.trans (hb3.mono (by simp))
        have HE3 := Lib.hid (rd_of_own (f := bv E) hown3 (fun i hi => bl_at E (by rw [HEL.out]; exact hi)))
        have HB3 := Lib.hid (HB2.out.trans (hb23.mono hws2))
        have HB23 := Lib.hid hb23
        have hws3 : w.heap.size ≤ w3.heap.size := HB3.out.size
        clear hJ hE hll hown3 hb3 hal2 hb23
        go_wp2_with fail
        go_at_call 20
        refine (pSplit_any ja J jc _ E _ HEL.out (Nat.le_refl _) HE3.out hEb (by omega)).mono ?_
        rintro e w4 ⟨v, s, n4, m4, Ls, r4, rfl, hrows, hrl, hsown, hb4, hfl, hgood, hend⟩
        obtain ⟨Ls', hLs, _⟩ := split_uniq Ks Ls r4 R HG.out hgood (by rw [hrl]; exact hend) (by rw [hfl, HE.out])
        have hn4 : Ls.length = n4 := by
          obtain ⟨_, _, h, _⟩ := hrows
          exact h
        have hnn : nw ≤ n4 := by rw [← hn4, hLs, List.length_append, HKN.out]; omega
        have hget : ∀ i, i < nw → Ks.getD i [] = Ls.getD i [] := fun i hi => by
          rw [hLs]
          simp only [List.getD]
          rw [List.getElem?_append_left (by rw [HKN.out]; exact hi)]
        have hbys : ∀ i, i < n4 → bytes (Ls.getD i []) ∧ psize (Ls.getD i []) + 7 = (Ls.getD i []).length := fun i hi => by
          have hm : Ls.getD i [] ∈ Ls := by simp [List.getD, show i < Ls.length by omega]
          refine ⟨fun b hb => hEb b ?_, hgood _ hm⟩
          rw [← hfl]
          exact List.mem_append_left _ (List.mem_flatten.2 ⟨_, hm, hb⟩)
        have hfll : Ls.flatten.length + m4 = J := by rw [← hrl, ← HEL.out, ← hfl, List.length_append]
        have hr4b : bytes r4 := fun b hb => hEb b (by rw [← hfl]; exact List.mem_append_right _ hb)
        obtain ⟨sa, sc, rfl⟩ := own_form hsown
        obtain ⟨la, lc, rfl, lp, lq, hlrd, hlel⟩ := hrows.rds
        have hb24 := HB23.out.trans (hb4.mono HB23.out.size)
        have hbr4 := HBr2.out.trans (hb24.mono HBr2.out.size)
        have HS4 := Lib.hid (rd_of_own (f := bv r4) hsown (fun i hi => bl_at r4 (by rw [hrl]; exact hi)))
        have HSL := Lib.hid hrl
        have HB4 := Lib.hid (HB3.out.trans (hb4.mono hws3))
        have HAR4 := Lib.hid (rd_grow HAR2.out hb24)
        have HR4 := Lib.hid (rd_grow HR2.out hb24)
        have HWRD4 := Lib.hid (HWRD.out.below hbr4)
        have HWEL4 := Lib.hid (fun i (hi : i < nw) => rd_grow (HWEL.out i hi) hbr4)
        have hn4top : n4 ≤ 9223372036854775807 := by
          have a := hlrd.le
          have b := hlrd.top
          unfold maxLen at b
          omega
        have HLRD := Lib.hid hlrd
        have HLEL := Lib.hid hlel
        have HGET := Lib.hid hget
        have HBYS := Lib.hid hbys
        have HFL := Lib.hid hfl
        have HFLL := Lib.hid hfll
        have HEND := Lib.hid hend
        have HN4 := Lib.hid hn4
        have hws4 : w.heap.size ≤ w4.heap.size := HB4.out.size
        have hwr4 : wr.heap.size ≤ w4.heap.size := hbr4.size
        clear hrows hrl hsown hb4 hfl hgood hend hLs hget hbys hfll hlrd hlel hb24 hbr4 HBr2 HB23 HE3 HB3 HB2 HAR2 HR2 HWRD HWEL hn4 hws hws2 hws3 HB
        go_wp2
        have hdn : decide (n4 < nw) = false := decide_eq_false (by omega)
        rw [hdn]
        go_loopw [13, 61] (fun vb i wr => ∃ k B, k ≤ n4 ∧ i = .int .i64 (k : Nat) ∧ wr.ownsRow w.heap.size 5 1 vb B (bl (Ls.take k).flatten) ∧ (Ls.take k).flatten.length = B ∧ Below w4.heap.size w4 wr) (fun _ i _ => n4 - (intOf i).toNat)
        case atStart => exact ⟨0, 0, by omega, rfl, World.ownsRow_nil _ _ _ _, rfl, Below.refl _ _⟩
        case round =>
          obtain ⟨k, B, hk, rfl, hback, hBl, hBv⟩ := hrel
          obtain ⟨va, vc, rfl⟩ := own_form hback
          have hv4 : w4.heap.size ≤ wr.heap.size := hBv.size
          by_cases hlt : k < n4
          · obtain ⟨lb, loff, rfl, hlb, hlc⟩ := HLRD.out.at hlt
            have hlc := (hBv.cell (p := ⟨lb, loff + k, none⟩) hlb).trans hlc
            have hll := (HLEL.out k hlt).below hBv
            obtain ⟨hLb, hLs⟩ := HBYS.out k hlt
            have htf := take_flat (Ls := Ls) (k := k) (by rw [HN4.out]; exact hlt)
            have htl := take_flat_le Ls (k + 1)
            rw [htf, List.length_append, hBl] at htl
            have hgt := HGET.out k
            obtain ⟨L, hL⟩ : ∃ L, L = Ls.getD k [] := ⟨_, rfl⟩
            obtain ⟨n, hn⟩ : ∃ n, n = L.length := ⟨_, rfl⟩
            obtain ⟨xa, hxa⟩ : ∃ xa, xa = lp k := ⟨_, rfl⟩
            obtain ⟨xc, hxc⟩ : ∃ xc, xc = lq k := ⟨_, rfl⟩
            rw [← hL, ← hxa, ← hxc, ← hn] at hlc hll
            rw [← hL] at hLb hLs htf hgt
            rw [← hL, ← hn] at htl
            obtain ⟨z, hz⟩ : ∃ z, z = psize L := ⟨_, rfl⟩
            rw [← hz, ← hn] at hLs
            have hBn : B + n ≤ 1300 := by have := HFLL.out; omega
            have hxle := hll.le
            have hxtop := hll.top
            unfold maxLen at hxtop
            obtain ⟨xb, xoff, rfl, hxb, _⟩ := hll.row (by omega)
            have hseg := rd_seg (k := 4) (m := 2) hll (by omega)
            have hsl : ((L.drop 4).take 2).length = 2 := by rw [List.length_take, List.length_drop]; omega
            have hvz : val ((L.drop 4).take 2) = z := by rw [hz]; exact val_size L (by omega)
            have hsb := (hLb.drop 4).take 2
            have hzI : ((z : Int) + 7 != (n : Int)) = false := by simp [bne]; omega
            have hz2 : z < 2000 := by omega
            have hn7 : ¬ n < 7 := by omega
            have HTF := Lib.hid htf
            have HNL := Lib.hid hn.symm
            have HLL := Lib.hid hll
            have HSEG := Lib.hid hseg
            have HSLL := Lib.hid hsl
            have HVZ := Lib.hid hvz
            have HBK := Lib.hid hback
            have HBLN := Lib.hid hBl
            have HBV := Lib.hid hBv
            clear hL hn hxa hxc hz hLs htl htf hll hseg hsl hvz hback hBl hBv
            by_cases hkn : k < nw
            · obtain ⟨wb, woff, rfl, hwb, hwc⟩ := HWRD4.out.at hkn
              have hwc := (HBV.out.cell (p := ⟨wb, woff + k, none⟩) (Nat.lt_of_lt_of_le hwb hwr4)).trans hwc
              have hwe := (HWEL4.out k hkn).below HBV.out
              have hgt := hgt hkn
              rw [hgt, HNL.out] at hwc hwe
              obtain ⟨ya, hya⟩ : ∃ ya, ya = wp k := ⟨_, rfl⟩
              obtain ⟨yc, hyc⟩ : ∃ yc, yc = wq k := ⟨_, rfl⟩
              rw [← hya, ← hyc] at hwc hwe
              have HWE := Lib.hid hwe
              clear hgt hya hyc hwe
              go_wp2_with fail
              go_at_call 21
              refine (Same_any (some ⟨xb, xoff, none⟩) ya n n xc yc _ _ L L _ HNL.out HNL.out HLL.out HWE.out hLb hLb).mono ?_
              rintro e wx ⟨rfl, jx, hwx⟩
              simp only [decide_true]
              have hbx : Below wr.heap.size wr wx := by rw [hwx]; exact below_drews _ _ _
              have HBX := Lib.hid (HBV.out.trans (hbx.mono hv4))
              have HSX := Lib.hid (HSEG.out.below' hbx hv4)
              have HLX := Lib.hid (HLL.out.below' hbx hv4)
              have HBKX := Lib.hid (own_keep HBK.out hbx)
              clear hwx hbx hwc hlc HWE HLL HSEG HBK HBV
              go_wp2_with fail
              go_at_call 22
              refine (Value_any (some ⟨xb, xoff + 4, none⟩) 2 (xc - 4) _ ((L.drop 4).take 2) _ HSLL.out HSX.out hsb (by omega)).mono ?_
              rintro e wy ⟨rfl, rfl⟩
              rw [HVZ.out]
              have hsx : w4.heap.size ≤ wx.heap.size := HBX.out.size
              have HBR := Lib.hid (rd_of_own (f := bv (Ls.take k).flatten) HBKX.out (fun i hi => bl_at _ (by rw [HBLN.out]; exact hi)))
              go_wp2_with fail
              go_at_call 18
              have haly : Below wx.heap.size wx (wx.alloc (.cells #[.slice va B vc, .slice (some ⟨xb, xoff, none⟩) n xc] 23)) := (Below.refl _ _).alloc (Nat.le_refl _) _
              have hly : ((Ls.take k).flatten ++ L).length = B + n := by rw [List.length_append, HBLN.out, HNL.out]
              refine (Join2 (n := wx.heap.size) (n' := wx.heap.size) HBLN.out HNL.out (heap_alloc_new _ _) (HBR.out.below haly) ((HLX.out.mono hsx).below haly) (by simp) (by simp) (by omega)).mono ?_
              rintro e wz ⟨v, rfl, hownz, hbz⟩
              rw [hly, ← HTF.out] at hownz
              obtain ⟨ka, kc, rfl⟩ := own_form hownz
              have hbxz := haly.trans (hbz.mono (by simp))
              have HOZ := Lib.hid (own_base hownz (show w.heap.size ≤ (wx.alloc (.cells #[.slice va B vc, .slice (some ⟨xb, xoff, none⟩) n xc] 23)).heap.size by simp; omega))
              have HBZ := Lib.hid (HBX.out.trans (hbxz.mono hsx))
              have HLY := Lib.hid hly
              clear hownz hbz haly hbxz hly HBX HSX HLX HBKX HBR
              go_wp2
              go_roundw
              case rel => exact ⟨k + 1, B + n, by omega, by go_num, HOZ.out, by rw [HTF.out]; exact HLY.out, HBZ.out⟩
              case measure => simp [intOf]; omega
            · have hbx : Below wr.heap.size wr wr := Below.refl _ _
              have HBX := HBV
              have HSX := HSEG
              have HLX := HLL
              have HBKX := HBK
              obtain ⟨wx, hwx⟩ : ∃ wx, wx = wr := ⟨_, rfl⟩
              clear hgt HLL HSEG HBK HBV
              subst hwx
              go_wp2_with fail
              go_at_call 22
              refine (Value_any (some ⟨xb, xoff + 4, none⟩) 2 (xc - 4) _ ((L.drop 4).take 2) _ HSLL.out HSX.out hsb (by omega)).mono ?_
              rintro e wy ⟨rfl, rfl⟩
              rw [HVZ.out]
              have hsx : w4.heap.size ≤ wx.heap.size := HBX.out.size
              have HBR := Lib.hid (rd_of_own (f := bv (Ls.take k).flatten) HBKX.out (fun i hi => bl_at _ (by rw [HBLN.out]; exact hi)))
              go_wp2_with fail
              go_at_call 18
              have haly : Below wx.heap.size wx (wx.alloc (.cells #[.slice va B vc, .slice (some ⟨xb, xoff, none⟩) n xc] 23)) := (Below.refl _ _).alloc (Nat.le_refl _) _
              have hly : ((Ls.take k).flatten ++ L).length = B + n := by rw [List.length_append, HBLN.out, HNL.out]
              refine (Join2 (n := wx.heap.size) (n' := wx.heap.size) HBLN.out HNL.out (heap_alloc_new _ _) (HBR.out.below haly) ((HLX.out.mono hsx).below haly) (by simp) (by simp) (by omega)).mono ?_
              rintro e wz ⟨v, rfl, hownz, hbz⟩
              rw [hly, ← HTF.out] at hownz
              obtain ⟨ka, kc, rfl⟩ := own_form hownz
              have hbxz := haly.trans (hbz.mono (by simp))
              have HOZ := Lib.hid (own_base hownz (show w.heap.size ≤ (wx.alloc (.cells #[.slice va B vc, .slice (some ⟨xb, xoff, none⟩) n xc] 23)).heap.size by simp; omega))
              have HBZ := Lib.hid (HBX.out.trans (hbxz.mono hsx))
              have HLY := Lib.hid hly
              clear hownz hbz haly hbxz hly HBX HSX HLX HBKX HBR
              go_wp2
              go_roundw
              case rel => exact ⟨k + 1, B + n, by omega, by go_num, HOZ.out, by rw [HTF.out]; exact HLY.out, HBZ.out⟩
              case measure => simp [intOf]; omega
          · obtain rfl : k = n4 := by omega
            have hT : Ls.take k = Ls := List.take_of_length_le (by rw [HN4.out]; exact Nat.le_refl _)
            rw [hT] at hback hBl
            have HBLN := Lib.hid hBl
            have HBR := Lib.hid (rd_of_own (f := bv Ls.flatten) hback (fun i hi => bl_at _ (by rw [HBLN.out]; exact hi)))
            have HS := Lib.hid (rd_grow HS4.out hBv)
            have HA5 := Lib.hid (rd_grow HAR4.out hBv)
            have HR5 := Lib.hid (rd_grow HR4.out hBv)
            have HBV := Lib.hid (HB4.out.trans (hBv.mono hws4))
            have hwsr : w.heap.size ≤ wr.heap.size := HBV.out.size
            have hBm : B + m4 = J := by have := HFLL.out; omega
            clear hback hBl hBv hT HS4 HAR4 HR4 HB4 HWRD4 HWEL4 HLRD HLEL HGET HBYS
            go_wp2_with fail
            go_at_call 18
            have hal5 : Below wr.heap.size wr (wr.alloc (.cells #[.slice va B vc, .slice sa m4 sc] 23)) := (Below.refl _ _).alloc (Nat.le_refl _) _
            have hl5 : (Ls.flatten ++ r4).length = J := by rw [List.length_append, HBLN.out, HSL.out]; exact hBm
            refine (Join2 (n := wr.heap.size) (n' := wr.heap.size) HBLN.out HSL.out (heap_alloc_new _ _) (HBR.out.below hal5) (HS.out.below hal5) (by simp) (by simp) (by omega)).mono ?_
            rintro e w6 ⟨v, rfl, hown6, hb6⟩
            rw [hl5, HFL.out] at hown6
            obtain ⟨ea, ec, rfl⟩ := own_form hown6
            have hb56 := hal5.trans (hb6.mono (by simp))
            have HE6 := Lib.hid (rd_of_own (f := bv E) hown6 (fun i hi => bl_at E (by rw [HEL.out]; exact hi)))
            have HA6 := Lib.hid (rd_grow HA5.out hb56)
            have HR6 := Lib.hid (rd_grow HR5.out hb56)
            have HS6 := Lib.hid (rd_grow HS.out hb56)
            have HB6 := Lib.hid (HBV.out.trans (hb56.mono hwsr))
            have hws6 : w.heap.size ≤ w6.heap.size := HB6.out.size
            have HL5 := Lib.hid hl5
            clear hown6 hb6 hal5 hb56 HA5 HR5 HS HBV HBR hl5
            go_wp2_with fail
            go_at_call 18
            have hal6 : Below w6.heap.size w6 (w6.alloc (.cells #[.slice aa A ac, .slice ra r rc] 23)) := (Below.refl _ _).alloc (Nat.le_refl _) _
            have hl6 : (Ks.flatten ++ R).length = J := by rw [← HE.out, HEL.out]
            refine (Join2 (n := w6.heap.size) (n' := w6.heap.size) HAL.out HRR.out (heap_alloc_new _ _) (HA6.out.below hal6) (HR6.out.below hal6) (by simp) (by simp) (by omega)).mono ?_
            rintro e w7 ⟨v, rfl, hown7, hb7⟩
            rw [hl6, ← HE.out] at hown7
            obtain ⟨fa, fc, rfl⟩ := own_form hown7
            have hb67 := hal6.trans (hb7.mono (by simp))
            have HF7 := Lib.hid (rd_of_own (f := bv E) hown7 (fun i hi => bl_at E (by rw [HEL.out]; exact hi)))
            have HE7 := Lib.hid (rd_grow HE6.out hb67)
            have HS7 := Lib.hid (rd_grow HS6.out hb67)
            have HB7 := Lib.hid (HB6.out.trans (hb67.mono hws6))
            have hws7 : w.heap.size ≤ w7.heap.size := HB7.out.size
            have HL6 := Lib.hid hl6
            clear hown7 hb7 hal6 hb67 HA6 HR6 HS6 HB6 HE6 hl6
            go_wp2_with fail
            go_at_call 21
            refine (Same_any ea fa J J ec fc _ _ E E _ HEL.out HEL.out HE7.out HF7.out hEb hEb).mono ?_
            rintro e w8 ⟨rfl, j8, hw8⟩
            simp only [decide_true]
            have hb8 : Below w7.heap.size w7 w8 := by rw [hw8]; exact below_drews _ _ _
            have HB8 := Lib.hid (HB7.out.trans (hb8.mono hws7))
            have HS8 := Lib.hid (rd_grow HS7.out hb8)
            clear hw8 hb8 HE7 HF7 HS7 HB7
            by_cases hm6 : m4 < 6
            · go_wp2
              go_ret
              exact ⟨rfl, HB8.out⟩
            · have hsle := HS8.out.le
              have hstop := HS8.out.top
              unfold maxLen at hstop
              obtain ⟨sb, soff, rfl, hsb, _⟩ := HS8.out.row (by omega)
              have hseg := rd_seg (k := 4) (m := 2) HS8.out (by omega)
              have hsl : ((r4.drop 4).take 2).length = 2 := by rw [List.length_take, List.length_drop, HSL.out]; omega
              obtain ⟨z, hz⟩ : ∃ z, z = psize r4 := ⟨_, rfl⟩
              have hvz : val ((r4.drop 4).take 2) = z := by rw [hz]; exact val_size r4 (by rw [HSL.out]; omega)
              have hzm : m4 < z + 7 := by have := HEND.out; omega
              have hz2 : z < 65536 := by
                have a := hr4b.at 4
                have b := hr4b.at 5
                rw [hz]; unfold psize; omega
              have hsbb := (hr4b.drop 4).take 2
              have HSEG := Lib.hid hseg
              have HSLL := Lib.hid hsl
              have HVZ := Lib.hid hvz
              clear hseg hsl hvz hz
              go_wp2_with fail
              go_at_call 22
              refine (Value_any (some ⟨sb, soff + 4, none⟩) 2 (sc - 4) _ ((r4.drop 4).take 2) _ HSLL.out HSEG.out hsbb (by omega)).mono ?_
              rintro e w9 ⟨rfl, rfl⟩
              rw [HVZ.out]
              have hor : (decide ((m4 : Int) < 6) || decide ((m4 : Int) < (z : Int) + 7)) = true := by rw [decide_eq_true (show (m4 : Int) < (z : Int) + 7 by omega), Bool.or_true]
              go_wp2
              go_ret
              exact ⟨rfl, HB8.out⟩
    · skip
      obtain ⟨aa, ac, rfl⟩ := own_form hall
      have hkn : Ks.length = nw := by
        obtain ⟨_, _, h, _⟩ := hrows
        exact h
      obtain ⟨wa, wc, rfl, wp, wq, hwrd, hwel⟩ := hrows.rds
      have hk12 : nw ≤ 6 := by omega
      have hA12 : A ≤ 1248 := by omega
      have HAL := Lib.hid hAl
      have HAR := Lib.hid (rd_of_own (f := bv Ks.flatten) hall (fun i hi => bl_at _ (by rw [HAL.out]; exact hi)))
      have HG := Lib.hid hgood
      have HB := Lib.hid hB
      have HAB := Lib.hid hAb
      have HWRD := Lib.hid hwrd
      have HWEL := Lib.hid hwel
      have HKN := Lib.hid hkn
      have hws : w.heap.size ≤ wr.heap.size := HB.out.size
      clear hall hAl hrows hnw hA hAb hgood hB hwrd hwel hkn HROW
      go_wp2_with fail
      have hbq : Below wr.heap.size wr (wr) := Below.refl _ _
      have HAR := Lib.hid (rd_grow HAR.out hbq)
      have HWRD := Lib.hid ((HWRD.out.below hbq).mono hbq.size)
      have HWEL := Lib.hid (fun i (hi : i < nw) => rd_grow (HWEL.out i hi) hbq)
      have HB := Lib.hid (HB.out.trans (hbq.mono hws))
      clear hbq
      obtain ⟨wr, hwr⟩ : ∃ xx9, xx9 = wr := ⟨_, rfl⟩
      rw [← hwr] at HAR HWRD HWEL HB ⊢
      have hws : w.heap.size ≤ wr.heap.size := HB.out.size
      clear hwr
      go_at_call 19
      refine (Cut_any a1 len1 cap1 l1 40 _ HL1.out ((HR1.out.below HB.out).mono hws) (by omega)).mono ?_
      rintro e w2 ⟨v, rfl, hown, hb2⟩
      obtain ⟨R, hR⟩ : ∃ R, R = l1.take 40 := ⟨_, rfl⟩
      have hRb : bytes R := by rw [hR]; exact hb1'.take 40
      obtain ⟨r, hr'⟩ : ∃ r, r = min 40 len1 := ⟨_, rfl⟩
      have hRr : R.length = r := by rw [hR, hr']; exact bytes_take HL1.out
      have hr2 : r ≤ 40 := by omega
      rw [← hR, ← hr'] at hown
      obtain ⟨ra, rc, rfl⟩ := own_form hown
      have HRR := Lib.hid hRr
      have HR2 := Lib.hid (rd_of_own (f := bv R) hown (fun i hi => bl_at R (by rw [HRR.out]; exact hi)))
      have HB2 := Lib.hid (HB.out.trans (hb2.mono hws))
      have HAR2 := Lib.hid (rd_grow HAR.out hb2)
      have HBr2 := Lib.hid hb2
      have hws2 : w.heap.size ≤ w2.heap.size := HB2.out.size
      clear hR hr' hRr hown hb2 HAR
      go_wp2_with fail
      go_at_call 18
      have hal2 : Below w2.heap.size w2 (w2.alloc (.cells #[.slice aa A ac, .slice ra r rc] 23)) := (Below.refl _ _).alloc (Nat.le_refl _) _
      have hll : (Ks.flatten ++ R).length = A + r := by rw [List.length_append, HAL.out, HRR.out]
      refine (Join2 (n := w2.heap.size) (n' := w2.heap.size) HAL.out HRR.out (heap_alloc_new _ _) (HAR2.out.below hal2) (HR2.out.below hal2) (by simp) (by simp) (by omega)).mono ?_
      rintro e w3 ⟨v, rfl, hown3, hb3⟩
      rw [hll] at hown3
      obtain ⟨ja, jc, rfl⟩ := own_form hown3
      obtain ⟨J, hJ⟩ : ∃ J, J = A + r := ⟨_, rfl⟩
      obtain ⟨E, hE⟩ : ∃ E, E = Ks.flatten ++ R := ⟨_, rfl⟩
      have hEb : bytes E := by rw [hE]; exact HAB.out.append hRb
      rw [← hJ, ← hE] at hown3
      rw [← hJ]
      rw [← hE, ← hJ] at hll
      have hJ2 : J ≤ 1300 := by omega
      have HJ := Lib.hid hJ
      have HE := Lib.hid hE
      have HEL := Lib.hid hll
      have hb23 := hal2.trans (hb3.mono (by simp))
      have HE3 := Lib.hid (rd_of_own (f := bv E) hown3 (fun i hi => bl_at E (by rw [HEL.out]; exact hi)))
      have HB3 := Lib.hid (HB2.out.trans (hb23.mono hws2))
      have HB23 := Lib.hid hb23
      have hws3 : w.heap.size ≤ w3.heap.size := HB3.out.size
      clear hJ hE hll hown3 hb3 hal2 hb23
      go_wp2_with fail
      go_at_call 20
      refine (pSplit_any ja J jc _ E _ HEL.out (Nat.le_refl _) HE3.out hEb (by omega)).mono ?_
      rintro e w4 ⟨v, s, n4, m4, Ls, r4, rfl, hrows, hrl, hsown, hb4, hfl, hgood, hend⟩
      obtain ⟨Ls', hLs, _⟩ := split_uniq Ks Ls r4 R HG.out hgood (by rw [hrl]; exact hend) (by rw [hfl, HE.out])
      have hn4 : Ls.length = n4 := by
        obtain ⟨_, _, h, _⟩ := hrows
        exact h
      have hnn : nw ≤ n4 := by rw [← hn4, hLs, List.length_append, HKN.out]; omega
      have hget : ∀ i, i < nw → Ks.getD i [] = Ls.getD i [] := fun i hi => by
        rw [hLs]
        simp only [List.getD]
        rw [List.getElem?_append_left (by rw [HKN.out]; exact hi)]
      have hbys : ∀ i, i < n4 → bytes (Ls.getD i []) ∧ psize (Ls.getD i []) + 7 = (Ls.getD i []).length := fun i hi => by
        have hm : Ls.getD i [] ∈ Ls := by simp [List.getD, show i < Ls.length by omega]
        refine ⟨fun b hb => hEb b ?_, hgood _ hm⟩
        rw [← hfl]
        exact List.mem_append_left _ (List.mem_flatten.2 ⟨_, hm, hb⟩)
      have hfll : Ls.flatten.length + m4 = J := by rw [← hrl, ← HEL.out, ← hfl, List.length_append]
      have hr4b : bytes r4 := fun b hb => hEb b (by rw [← hfl]; exact List.mem_append_right _ hb)
      obtain ⟨sa, sc, rfl⟩ := own_form hsown
      obtain ⟨la, lc, rfl, lp, lq, hlrd, hlel⟩ := hrows.rds
      have hb24 := HB23.out.trans (hb4.mono HB23.out.size)
      have hbr4 := HBr2.out.trans (hb24.mono HBr2.out.size)
      have HS4 := Lib.hid (rd_of_own (f := bv r4) hsown (fun i hi => bl_at r4 (by rw [hrl]; exact hi)))
      have HSL := Lib.hid hrl
      have HB4 := Lib.hid (HB3.out.trans (hb4.mono hws3))
      have HAR4 := Lib.hid (rd_grow HAR2.out hb24)
      have HR4 := Lib.hid (rd_grow HR2.out hb24)
      have HWRD4 := Lib.hid (HWRD.out.below hbr4)
      have HWEL4 := Lib.hid (fun i (hi : i < nw) => rd_grow (HWEL.out i hi) hbr4)
      have hn4top : n4 ≤ 9223372036854775807 := by
        have a := hlrd.le
        have b := hlrd.top
        unfold maxLen at b
        omega
      have HLRD := Lib.hid hlrd
      have HLEL := Lib.hid hlel
      have HGET := Lib.hid hget
      have HBYS := Lib.hid hbys
      have HFL := Lib.hid hfl
      have HFLL := Lib.hid hfll
      have HEND := Lib.hid hend
      have HN4 := Lib.hid hn4
      have hws4 : w.heap.size ≤ w4.heap.size := HB4.out.size
      have hwr4 : wr.heap.size ≤ w4.heap.size := hbr4.size
      clear hrows hrl hsown hb4 hfl hgood hend hLs hget hbys hfll hlrd hlel hb24 hbr4 HBr2 HB23 HE3 HB3 HB2 HAR2 HR2 HWRD HWEL hn4 hws hws2 hws3 HB
      go_wp2
      have hdn : decide (n4 < nw) = false := decide_eq_false (by omega)
      rw [hdn]
      go_loopw [13, 61] (fun vb i wr => ∃ k B, k ≤ n4 ∧ i = .int .i64 (k : Nat) ∧ wr.ownsRow w.heap.size 5 1 vb B (bl (Ls.take k).flatten) ∧ (Ls.take k).flatten.length = B ∧ Below w4.heap.size w4 wr) (fun _ i _ => n4 - (intOf i).toNat)
      case atStart => exact ⟨0, 0, by omega, rfl, World.ownsRow_nil _ _ _ _, rfl, Below.refl _ _⟩
      case round =>
        obtain ⟨k, B, hk, rfl, hback, hBl, hBv⟩ := hrel
        obtain ⟨va, vc, rfl⟩ := own_form hback
        have hv4 : w4.heap.size ≤ wr.heap.size := hBv.size
        by_cases hlt : k < n4
        · obtain ⟨lb, loff, rfl, hlb, hlc⟩ := HLRD.out.at hlt
          have hlc := (hBv.cell (p := ⟨lb, loff + k, none⟩) hlb).trans hlc
          have hll := (HLEL.out k hlt).below hBv
          obtain ⟨hLb, hLs⟩ := HBYS.out k hlt
          have htf := take_flat (Ls := Ls) (k := k) (by rw [HN4.out]; exact hlt)
          have htl := take_flat_le Ls (k + 1)
          rw [htf, List.length_append, hBl] at htl
          have hgt := HGET.out k
          obtain ⟨L, hL⟩ : ∃ L, L = Ls.getD k [] := ⟨_, rfl⟩
          obtain ⟨n, hn⟩ : ∃ n, n = L.length := ⟨_, rfl⟩
          obtain ⟨xa, hxa⟩ : ∃ xa, xa = lp k := ⟨_, rfl⟩
          obtain ⟨xc, hxc⟩ : ∃ xc, xc = lq k := ⟨_, rfl⟩
          rw [← hL, ← hxa, ← hxc, ← hn] at hlc hll
          rw [← hL] at hLb hLs htf hgt
          rw [← hL, ← hn] at htl
          obtain ⟨z, hz⟩ : ∃ z, z = psize L := ⟨_, rfl⟩
          rw [← hz, ← hn] at hLs
          have hBn : B + n ≤ 1300 := by have := HFLL.out; omega
          have hxle := hll.le
          have hxtop := hll.top
          unfold maxLen at hxtop
          obtain ⟨xb, xoff, rfl, hxb, _⟩ := hll.row (by omega)
          have hseg := rd_seg (k := 4) (m := 2) hll (by omega)
          have hsl : ((L.drop 4).take 2).length = 2 := by rw [List.length_take, List.length_drop]; omega
          have hvz : val ((L.drop 4).take 2) = z := by rw [hz]; exact val_size L (by omega)
          have hsb := (hLb.drop 4).take 2
          have hzI : ((z : Int) + 7 != (n : Int)) = false := by simp [bne]; omega
          have hz2 : z < 2000 := by omega
          have hn7 : ¬ n < 7 := by omega
          have HTF := Lib.hid htf
          have HNL := Lib.hid hn.symm
          have HLL := Lib.hid hll
          have HSEG := Lib.hid hseg
          have HSLL := Lib.hid hsl
          have HVZ := Lib.hid hvz
          have HBK := Lib.hid hback
          have HBLN := Lib.hid hBl
          have HBV := Lib.hid hBv
          clear hL hn hxa hxc hz hLs htl htf hll hseg hsl hvz hback hBl hBv
          by_cases hkn : k < nw
          · obtain ⟨wb, woff, rfl, hwb, hwc⟩ := HWRD4.out.at hkn
            have hwc := (HBV.out.cell (p := ⟨wb, woff + k, none⟩) (Nat.lt_of_lt_of_le hwb hwr4)).trans hwc
            have hwe := (HWEL4.out k hkn).below HBV.out
            have hgt := hgt hkn
            rw [hgt, HNL.out] at hwc hwe
            obtain ⟨ya, hya⟩ : ∃ ya, ya = wp k := ⟨_, rfl⟩
            obtain ⟨yc, hyc⟩ : ∃ yc, yc = wq k := ⟨_, rfl⟩
            rw [← hya, ← hyc] at hwc hwe
            have HWE := Lib.hid hwe
            clear hgt hya hyc hwe
            go_wp2_with fail
            go_at_call 21
            refine (Same_any (some ⟨xb, xoff, none⟩) ya n n xc yc _ _ L L _ HNL.out HNL.out HLL.out HWE.out hLb hLb).mono ?_
            rintro e wx ⟨rfl, jx, hwx⟩
            simp only [decide_true]
            have hbx : Below wr.heap.size wr wx := by rw [hwx]; exact below_drews _ _ _
            have HBX := Lib.hid (HBV.out.trans (hbx.mono hv4))
            have HSX := Lib.hid (HSEG.out.below' hbx hv4)
            have HLX := Lib.hid (HLL.out.below' hbx hv4)
            have HBKX := Lib.hid (own_keep HBK.out hbx)
            clear hwx hbx hwc hlc HWE HLL HSEG HBK HBV
            go_wp2_with fail
            go_at_call 22
            refine (Value_any (some ⟨xb, xoff + 4, none⟩) 2 (xc - 4) _ ((L.drop 4).take 2) _ HSLL.out HSX.out hsb (by omega)).mono ?_
            rintro e wy ⟨rfl, rfl⟩
            rw [HVZ.out]
            have hsx : w4.heap.size ≤ wx.heap.size := HBX.out.size
            have HBR := Lib.hid (rd_of_own (f := bv (Ls.take k).flatten) HBKX.out (fun i hi => bl_at _ (by rw [HBLN.out]; exact hi)))
            go_wp2_with fail
            go_at_call 18
            have haly : Below wx.heap.size wx (wx.alloc (.cells #[.slice va B vc, .slice (some ⟨xb, xoff, none⟩) n xc] 23)) := (Below.refl _ _).alloc (Nat.le_refl _) _
            have hly : ((Ls.take k).flatten ++ L).length = B + n := by rw [List.length_append, HBLN.out, HNL.out]
            refine (Join2 (n := wx.heap.size) (n' := wx.heap.size) HBLN.out HNL.out (heap_alloc_new _ _) (HBR.out.below haly) ((HLX.out.mono hsx).below haly) (by simp) (by simp) (by omega)).mono ?_
            rintro e wz ⟨v, rfl, hownz, hbz⟩
            rw [hly, ← HTF.out] at hownz
            obtain ⟨ka, kc, rfl⟩ := own_form hownz
            have hbxz := haly.trans (hbz.mono (by simp))
            have HOZ := Lib.hid (own_base hownz (show w.heap.size ≤ (wx.alloc (.cells #[.slice va B vc, .slice (some ⟨xb, xoff, none⟩) n xc] 23)).heap.size by simp; omega))
            have HBZ := Lib.hid (HBX.out.trans (hbxz.mono hsx))
            have HLY := Lib.hid hly
            clear hownz hbz haly hbxz hly HBX HSX HLX HBKX HBR
            go_wp2
            go_roundw
            case rel => exact ⟨k + 1, B + n, by omega, by go_num, HOZ.out, by rw [HTF.out]; exact HLY.out, HBZ.out⟩
            case measure => simp [intOf]; omega
          · have hbx : Below wr.heap.size wr wr := Below.refl _ _
            have HBX := HBV
            have HSX := HSEG
            have HLX := HLL
            have HBKX := HBK
            obtain ⟨wx, hwx⟩ : ∃ wx, wx = wr := ⟨_, rfl⟩
            clear hgt HLL HSEG HBK HBV
            subst hwx
            go_wp2_with fail
            go_at_call 22
            refine (Value_any (some ⟨xb, xoff + 4, none⟩) 2 (xc - 4) _ ((L.drop 4).take 2) _ HSLL.out HSX.out hsb (by omega)).mono ?_
            rintro e wy ⟨rfl, rfl⟩
            rw [HVZ.out]
            have hsx : w4.heap.size ≤ wx.heap.size := HBX.out.size
            have HBR := Lib.hid (rd_of_own (f := bv (Ls.take k).flatten) HBKX.out (fun i hi => bl_at _ (by rw [HBLN.out]; exact hi)))
            go_wp2_with fail
            go_at_call 18
            have haly : Below wx.heap.size wx (wx.alloc (.cells #[.slice va B vc, .slice (some ⟨xb, xoff, none⟩) n xc] 23)) := (Below.refl _ _).alloc (Nat.le_refl _) _
            have hly : ((Ls.take k).flatten ++ L).length = B + n := by rw [List.length_append, HBLN.out, HNL.out]
            refine (Join2 (n := wx.heap.size) (n' := wx.heap.size) HBLN.out HNL.out (heap_alloc_new _ _) (HBR.out.below haly) ((HLX.out.mono hsx).below haly) (by simp) (by simp) (by omega)).mono ?_
            rintro e wz ⟨v, rfl, hownz, hbz⟩
            rw [hly, ← HTF.out] at hownz
            obtain ⟨ka, kc, rfl⟩ := own_form hownz
            have hbxz := haly.trans (hbz.mono (by simp))
            have HOZ := Lib.hid (own_base hownz (show w.heap.size ≤ (wx.alloc (.cells #[.slice va B vc, .slice (some ⟨xb, xoff, none⟩) n xc] 23)).heap.size by simp; omega))
            have HBZ := Lib.hid (HBX.out.trans (hbxz.mono hsx))
            have HLY := Lib.hid hly
            clear hownz hbz haly hbxz hly HBX HSX HLX HBKX HBR
            go_wp2
            go_roundw
            case rel => exact ⟨k + 1, B + n, by omega, by go_num, HOZ.out, by rw [HTF.out]; exact HLY.out, HBZ.out⟩
            case measure => simp [intOf]; omega
        · obtain rfl : k = n4 := by omega
          have hT : Ls.take k = Ls := List.take_of_length_le (by rw [HN4.out]; exact Nat.le_refl _)
          rw [hT] at hback hBl
          have HBLN := Lib.hid hBl
          have HBR := Lib.hid (rd_of_own (f := bv Ls.flatten) hback (fun i hi => bl_at _ (by rw [HBLN.out]; exact hi)))
          have HS := Lib.hid (rd_grow HS4.out hBv)
          have HA5 := Lib.hid (rd_grow HAR4.out hBv)
          have HR5 := Lib.hid (rd_grow HR4.out hBv)
          have HBV := Lib.hid (HB4.out.trans (hBv.mono hws4))
          have hwsr : w.heap.size ≤ wr.heap.size := HBV.out.size
          have hBm : B + m4 = J := by have := HFLL.out; omega
          clear hback hBl hBv hT HS4 HAR4 HR4 HB4 HWRD4 HWEL4 HLRD HLEL HGET HBYS
          go_wp2_with fail
          go_at_call 18
          have hal5 : Below wr.heap.size wr (wr.alloc (.cells #[.slice va B vc, .slice sa m4 sc] 23)) := (Below.refl _ _).alloc (Nat.le_refl _) _
          have hl5 : (Ls.flatten ++ r4).length = J := by rw [List.length_append, HBLN.out, HSL.out]; exact hBm
          refine (Join2 (n := wr.heap.size) (n' := wr.heap.size) HBLN.out HSL.out (heap_alloc_new _ _) (HBR.out.below hal5) (HS.out.below hal5) (by simp) (by simp) (by omega)).mono ?_
          rintro e w6 ⟨v, rfl, hown6, hb6⟩
          rw [hl5, HFL.out] at hown6
          obtain ⟨ea, ec, rfl⟩ := own_form hown6
          have hb56 := hal5.trans (hb6.mono (by simp))
          have HE6 := Lib.hid (rd_of_own (f := bv E) hown6 (fun i hi => bl_at E (by rw [HEL.out]; exact hi)))
          have HA6 := Lib.hid (rd_grow HA5.out hb56)
          have HR6 := Lib.hid (rd_grow HR5.out hb56)
          have HS6 := Lib.hid (rd_grow HS.out hb56)
          have HB6 := Lib.hid (HBV.out.trans (hb56.mono hwsr))
          have hws6 : w.heap.size ≤ w6.heap.size := HB6.out.size
          have HL5 := Lib.hid hl5
          clear hown6 hb6 hal5 hb56 HA5 HR5 HS HBV HBR hl5
          go_wp2_with fail
          go_at_call 18
          have hal6 : Below w6.heap.size w6 (w6.alloc (.cells #[.slice aa A ac, .slice ra r rc] 23)) := (Below.refl _ _).alloc (Nat.le_refl _) _
          have hl6 : (Ks.flatten ++ R).length = J := by rw [← HE.out, HEL.out]
          refine (Join2 (n := w6.heap.size) (n' := w6.heap.size) HAL.out HRR.out (heap_alloc_new _ _) (HA6.out.below hal6) (HR6.out.below hal6) (by simp) (by simp) (by omega)).mono ?_
          rintro e w7 ⟨v, rfl, hown7, hb7⟩
          rw [hl6, ← HE.out] at hown7
          obtain ⟨fa, fc, rfl⟩ := own_form hown7
          have hb67 := hal6.trans (hb7.mono (by simp))
          have HF7 := Lib.hid (rd_of_own (f := bv E) hown7 (fun i hi => bl_at E (by rw [HEL.out]; exact hi)))
          have HE7 := Lib.hid (rd_grow HE6.out hb67)
          have HS7 := Lib.hid (rd_grow HS6.out hb67)
          have HB7 := Lib.hid (HB6.out.trans (hb67.mono hws6))
          have hws7 : w.heap.size ≤ w7.heap.size := HB7.out.size
          have HL6 := Lib.hid hl6
          clear hown7 hb7 hal6 hb67 HA6 HR6 HS6 HB6 HE6 hl6
          go_wp2_with fail
          go_at_call 21
          refine (Same_any ea fa J J ec fc _ _ E E _ HEL.out HEL.out HE7.out HF7.out hEb hEb).mono ?_
          rintro e w8 ⟨rfl, j8, hw8⟩
          simp only [decide_true]
          have hb8 : Below w7.heap.size w7 w8 := by rw [hw8]; exact below_drews _ _ _
          have HB8 := Lib.hid (HB7.out.trans (hb8.mono hws7))
          have HS8 := Lib.hid (rd_grow HS7.out hb8)
          clear hw8 hb8 HE7 HF7 HS7 HB7
          by_cases hm6 : m4 < 6
          · go_wp2
            go_ret
            exact ⟨rfl, HB8.out⟩
          · have hsle := HS8.out.le
            have hstop := HS8.out.top
            unfold maxLen at hstop
            obtain ⟨sb, soff, rfl, hsb, _⟩ := HS8.out.row (by omega)
            have hseg := rd_seg (k := 4) (m := 2) HS8.out (by omega)
            have hsl : ((r4.drop 4).take 2).length = 2 := by rw [List.length_take, List.length_drop, HSL.out]; omega
            obtain ⟨z, hz⟩ : ∃ z, z = psize r4 := ⟨_, rfl⟩
            have hvz : val ((r4.drop 4).take 2) = z := by rw [hz]; exact val_size r4 (by rw [HSL.out]; omega)
            have hzm : m4 < z + 7 := by have := HEND.out; omega
            have hz2 : z < 65536 := by
              have a := hr4b.at 4
              have b := hr4b.at 5
              rw [hz]; unfold psize; omega
            have hsbb := (hr4b.drop 4).take 2
            have HSEG := Lib.hid hseg
            have HSLL := Lib.hid hsl
            have HVZ := Lib.hid hvz
            clear hseg hsl hvz hz
            go_wp2_with fail
            go_at_call 22
            refine (Value_any (some ⟨sb, soff + 4, none⟩) 2 (sc - 4) _ ((r4.drop 4).take 2) _ HSLL.out HSEG.out hsbb (by omega)).mono ?_
            rintro e w9 ⟨rfl, rfl⟩
            rw [HVZ.out]
            have hor : (decide ((m4 : Int) < 6) || decide ((m4 : Int) < (z : Int) + 7)) = true := by rw [decide_eq_true (show (m4 : Int) < (z : Int) + 7 by omega), Bool.or_true]
            go_wp2
            go_ret
            exact ⟨rfl, HB8.out⟩
end Go.Proofs.Ytfolebogfapmaaa
