/- GuardFills: whatever was spoilt, filled it is whole again. -/
import Derived.Test.YtdlkonbjmmepoaaLaw07n
import Derived.Test.YtdlkonbjmmepoaaMem9
namespace Go.Proofs.Ytdlkonbjmmepoaa
open Go.RowKit Go.Own
set_option linter.unusedVariables false
set_option linter.unusedSimpArgs false

/-- A row of k new rows. -/
structure RowsK (w : World) (n0 : Nat) (V : Value) (k : Nat) (A : Nat → Option Addr) (C : Nat → Nat) (ls : Nat → List Nat) : Prop where
  out : w.ownsRow n0 22 1 V k ((List.range k).map fun i => .slice (A i) (ls i).length (C i))
  inn : ∀ i, i < k → w.ownsRow n0 5 1 (.slice (A i) (ls i).length (C i)) (ls i).length (bl (ls i))
theorem range_map_upd {α : Type} (k : Nat) (f g : Nat → α) (h : ∀ i, i < k → f i = g i) : (List.range k).map f = (List.range k).map g := by
  apply List.map_congr_left
  intro i hi
  exact h i (List.mem_range.1 hi)
theorem RowsK.next {w w1 w4 : World} {n0 k c : Nat} {V V' : Value} {y : Option Addr} {A : Nat → Option Addr} {C : Nat → Nat} {ls : Nat → List Nat} {tmp : Obj} (h : RowsK w n0 V k A C ls) (hb : Below w.heap.size w w1) (hy : w1.ownsRow n0 5 1 (.slice y (ls k).length c) (ls k).length (bl (ls k)))
    (hV : w4.ownsRow n0 22 1 V' (k + 1) (((List.range k).map fun i => Value.slice (A i) (ls i).length (C i)) ++ [.slice y (ls k).length c])) (hg : (w1.alloc tmp).grownBy w4 V.ownBlock) : RowsK w4 n0 V' (k + 1) (upd A k y) (upd C k c) ls := by
  have hv1 := (own_keep h.out hb).alloc tmp
  refine ⟨?_, fun i hi => ?_⟩
  · rw [List.range_succ, List.map_append, List.map_singleton, upd_same, upd_same, range_map_upd k _ (fun i => Value.slice (A i) (ls i).length (C i)) (fun i hi => by rw [upd_other _ _ (by omega), upd_other _ _ (by omega)])]
    exact hV
  · by_cases e : i = k
    · subst e
      rw [upd_same, upd_same]
      exact (hy.alloc tmp).kept hg (own_apart (hy.alloc tmp) hv1 (by decide))
    · rw [upd_other _ _ e, upd_other _ _ e]
      have hi2 := (own_keep (h.inn i (by omega)) hb).alloc tmp
      exact hi2.kept hg (own_apart hi2 hv1 (by decide))
theorem RowsK.below {w w' : World} {n0 k : Nat} {V : Value} {A : Nat → Option Addr} {C : Nat → Nat} {ls : Nat → List Nat} (h : RowsK w n0 V k A C ls) (hb : Below w.heap.size w w') : RowsK w' n0 V k A C ls :=
  ⟨own_keep h.out hb, fun i hi => own_keep (h.inn i hi) hb⟩
theorem gtop_first (ls : Nat → List Nat) {k : Nat} (h : k ≤ 3) : gtop (firstL ls k) 3 = gtop ls k := by
  have e : perr [] ≠ 0 := by decide
  have : k = 0 ∨ k = 1 ∨ k = 2 ∨ k = 3 := by omega
  rcases this with rfl | rfl | rfl | rfl <;> simp [gtop, firstL, e]
theorem gtop_all_lt (ls : Nat → List Nat) (h : ∀ i, bytes (ls i)) : ∀ k, gtop ls k < 4294967296
  | 0 => by simp [gtop]
  | k + 1 => by
    have ih := gtop_all_lt ls h k
    have := pseq_lt (h k)
    unfold gtop; split <;> omega
theorem u32_succT {n n1 : Nat} (h : n1 = n + 1) (hl : n < 4294967295) : IntKind.u32.wrap ((n : Int) + 1) = (n1 : Int) := by rw [IntKind.wrap_u32]; omega
set_option maxRecDepth 100000 in
set_option maxHeartbeats 16000000 in
theorem walk_GuardFills (a0 : Option Addr) (len0 cap0 : Nat) (a1 : Option Addr) (len1 cap1 : Nat) (z1 : List Int) (a2 : Bool) (w : World) (w0 : IsRows w a0 len0 cap0) (w1 : IsRow .u8 w a1 len1 cap1 z1) :
    Calls Try.prog 7 #[.slice a0 len0 cap0, .slice a1 len1 cap1, .bool a2] w fun e w' => e = .returned (.bool true) ∧ Below w.heap.size w w' := by
  obtain ⟨i0, hi, hz0, hz1, hz2⟩ := info_parts info_row8
  obtain ⟨rp, rc, rl, hrow, hrows⟩ := w0
  obtain ⟨l1, hl1, hb1, hr1⟩ := isRow_rd w1
  have hle1 := hrow.le
  have htop1 := hrow.top
  unfold maxLen at htop1
  obtain ⟨m, hm⟩ : ∃ m, m = min 100 len1 := ⟨_, rfl⟩
  have hm100 : m ≤ 100 := by omega
  obtain ⟨P, hP⟩ : ∃ P, P = l1.take 100 := ⟨_, rfl⟩
  have hPm : P.length = m := by rw [hP, List.length_take, hl1, hm]
  have hPb : bytes P := by rw [hP]; exact hb1.take _
  have hcut := fun (wr : World) (hB : Below w.heap.size w wr) => Cut_any a1 len1 cap1 l1 100 wr hl1 ((hr1.below hB).mono hB.size) (by omega)
  rw [← hP, ← hm] at hcut
  have HCUT := Lib.hid hcut
  have HROW := Lib.hid hrow
  have HROWS := Lib.hid hrows
  have PM := Lib.hid hPm
  have PB := Lib.hid hPb
  obtain ⟨LS, hLS⟩ : ∃ LS : Nat → List Nat, LS = fun i => if i < len0 then (rl i).take 60 else [] := ⟨_, rfl⟩
  have hLSb : ∀ i, bytes (LS i) := fun i => by
    rw [hLS]; dsimp only
    split
    · exact (hrows i (by assumption)).1.take _
    · exact fun b hb => absurd hb (by simp)
  have hLSm : ∀ i, (LS i).length ≤ 60 := fun i => by
    rw [hLS]; dsimp only
    split
    · rw [List.length_take]; omega
    · simp
  have hLSe : ∀ i, i < len0 → (rl i).take 60 = LS i := fun i h => by rw [hLS]; simp [h]
  have LSB := Lib.hid hLSb
  have LSM := Lib.hid hLSm
  have LSE := Lib.hid hLSe
  clear w1 hrow hrows hl1 hb1 hr1 hP hm hPm hPb hcut hLS hLSb hLSm hLSe
  go_enter Try.func7, Try.ntmps7
  go_wp2_with fail
  go_at_call 15
  refine (awake07 w).mono ?_
  rintro e w1 ⟨rfl, hb1⟩
  have B1 := Lib.hid hb1
  clear hb1
  go_wp2
  go_loopw [7, 8, 25] (fun V t i wr => ∃ (k : Nat) (A : Nat → Option Addr) (C : Nat → Nat), k ≤ len0 ∧ i = .int .i64 (k : Nat) ∧ t = .int .u32 (gtop LS (min k 3) : Nat) ∧ Below w.heap.size w wr ∧ RowsK wr w.heap.size V (min k 3) A C LS) (fun _ _ i _ => len0 - (intOf i).toNat)
  case atStart => exact ⟨0, fun _ => none, fun _ => 0, Nat.zero_le _, rfl, rfl, B1.out, ⟨World.ownsRow_nil _ _ _ _, fun i hi => absurd hi (by omega)⟩⟩
  case round =>
    clear B1
    obtain ⟨k, A, C, hk, rfl, rfl, hB, hK⟩ := hrel
    obtain ⟨av, cv, rfl⟩ := own_form hK.out
    have BB := Lib.hid hB
    have KK := Lib.hid hK
    clear hK
    by_cases hlt : k < len0
    · obtain ⟨b, off, rfl, hbk, hc⟩ := (HROW.out.below' hB (Nat.le_refl _)).at hlt
      obtain ⟨hbl, hrd⟩ := HROWS.out k hlt
      obtain ⟨p, hp⟩ : ∃ p, p = rp k := ⟨_, rfl⟩
      obtain ⟨pc, hpc⟩ : ∃ pc, pc = rc k := ⟨_, rfl⟩
      obtain ⟨l, hl⟩ : ∃ l, l = rl k := ⟨_, rfl⟩
      have hlse := LSE.out k hlt
      rw [← hp, ← hpc, ← hl] at hrd
      rw [← hp, ← hpc, ← hl] at hc
      rw [← hl] at hlse
      obtain ⟨len, hlen⟩ : ∃ len, len = l.length := ⟨_, rfl⟩
      rw [← hlen] at hrd hc
      have hcut := Cut_any p len pc l 60 wr hlen.symm ((hrd.below' hB (Nat.le_refl _)).mono hB.size) (by omega)
      obtain ⟨ml, hml⟩ : ∃ m, m = min 60 len := ⟨_, rfl⟩
      have hlm : (LS k).length = ml := by rw [← hlse, List.length_take, hml, hlen]
      rw [hlse, ← hml] at hcut
      have HC := Lib.hid hcut
      have HLM := Lib.hid hlm
      have hml60 : ml ≤ 60 := by omega
      clear hB hbl hrd hlen hp hpc hl hlse hcut hml hlm
      by_cases h3 : k < 3
      · have e3 : min k 3 = k := by omega
        rw [e3] at KK ⊢
        obtain ⟨t, ht⟩ : ∃ t, t = gtop LS k := ⟨_, rfl⟩
        rw [← ht]
        have HT := Lib.hid ht
        clear ht e3
        go_wp2_with fail
        go_at_call 17
        refine HC.out.mono ?_
        rintro e w5 ⟨y, rfl, hown, hb5⟩
        obtain ⟨ya, yc, rfl⟩ := own_form hown
        have hPar := rParse_any ya ml yc w5.heap.size (LS k) w5 HLM.out (Nat.le_refl _) (rd_of_own hown (fun i hi => bl_at _ (by rw [HLM.out]; exact hi))) (LSB.out k)
        have HPAR := Lib.hid hPar
        have HO := Lib.hid (World.ownsRow.mono hown BB.out.size)
        have HB5 := Lib.hid hb5
        clear hown hb5 hPar hc HC
        go_wp2_with fail
        go_at_call 32
        refine HPAR.out.mono ?_
        rintro e w6 ⟨hb6, ⟨he, x, c, rfl, hrd2⟩ | ⟨he, rfl⟩⟩
        · obtain ⟨s, hs⟩ : ∃ s, s = pseq (LS k) := ⟨_, rfl⟩
          rw [← hs]
          have hgt : gtop LS (k + 1) = max t s := by rw [gtop, if_pos he, HT.out, hs]
          have HGT := Lib.hid hgt
          have hmx := fun w : World => run_maxN (P := Try.prog) #[35, 35] 35 .u32 t s w
          have HY := Lib.hid (own_keep HO.out hb6)
          have HBB := Lib.hid (HB5.out.trans (hb6.mono HB5.out.size))
          have HV1 := Lib.hid (own_keep KK.out.out (HB5.out.trans (hb6.mono HB5.out.size)))
          have HB6 := Lib.hid (BB.out.trans ((HB5.out.trans (hb6.mono HB5.out.size)).mono BB.out.size))
          rw [← HLM.out] at HY
          clear hgt hs he hrd2 hb6 HPAR HO HB5 BB
          have hbs6 := HB6.out.size
          go_wp2_with (at_builtin; refine wpList_append_own _ rfl _ _ 23 rfl w.heap.size 22 i0 (.slice none 0 0) 1 24 Try.underlying23 hi hz0 hz1 hz2 rfl (by decide) _ _ _ rfl (HV1.out.alloc _) ⟨w6.heap.size, 0, none⟩ 1 1 [.slice ya ml yc] rfl rfl (cell_one_new _ _ _) (by simp [Value.oneCell']) (by unfold maxLen; omega) (by omega) (by simp; omega) ?_; intro V4 w4 hown4 hgrow4 _)
          have hB4 : Below w.heap.size w w4 := (HB6.out.alloc HB6.out.size _).grown hgrow4 (by simp; have := HB6.out.size; omega) (fun j e => ((HV1.out.lt j e).1))
          have RK := Lib.hid (RowsK.next KK.out HBB.out HY.out (by rw [HLM.out]; exact hown4) hgrow4)
          have B4 := Lib.hid hB4
          obtain ⟨va, vc, rfl⟩ := own_form hown4
          clear hown4 hgrow4 hB4 HV1 HB6 KK HBB HY
          go_wp2
          go_roundw
          case rel => exact ⟨k + 1, _, _, by omega, by go_num, by rw [show min (k + 1) 3 = k + 1 by omega, HGT.out], B4.out, by rw [show min (k + 1) 3 = k + 1 by omega]; exact RK.out⟩
          case measure => simp [intOf]; omega
        · have hgt : gtop LS (k + 1) = t := by rw [gtop, if_neg he, HT.out]
          have HGT := Lib.hid hgt
          have hmx := fun w : World => run_maxN (P := Try.prog) #[35, 35] 35 .u32 t 0 w
          have hm0 : max t 0 = t := by omega
          simp only [hm0] at hmx
          have HY := Lib.hid (own_keep HO.out hb6)
          have HBB := Lib.hid (HB5.out.trans (hb6.mono HB5.out.size))
          have HV1 := Lib.hid (own_keep KK.out.out (HB5.out.trans (hb6.mono HB5.out.size)))
          have HB6 := Lib.hid (BB.out.trans ((HB5.out.trans (hb6.mono HB5.out.size)).mono BB.out.size))
          rw [← HLM.out] at HY
          clear hgt he hb6 HPAR HO HB5 BB hm0
          have hbs6 := HB6.out.size
          go_wp2_with (at_builtin; refine wpList_append_own _ rfl _ _ 23 rfl w.heap.size 22 i0 (.slice none 0 0) 1 24 Try.underlying23 hi hz0 hz1 hz2 rfl (by decide) _ _ _ rfl (HV1.out.alloc _) ⟨w6.heap.size, 0, none⟩ 1 1 [.slice ya ml yc] rfl rfl (cell_one_new _ _ _) (by simp [Value.oneCell']) (by unfold maxLen; omega) (by omega) (by simp; omega) ?_; intro V4 w4 hown4 hgrow4 _)
          have hB4 : Below w.heap.size w w4 := (HB6.out.alloc HB6.out.size _).grown hgrow4 (by simp; have := HB6.out.size; omega) (fun j e => ((HV1.out.lt j e).1))
          have RK := Lib.hid (RowsK.next KK.out HBB.out HY.out (by rw [HLM.out]; exact hown4) hgrow4)
          have B4 := Lib.hid hB4
          obtain ⟨va, vc, rfl⟩ := own_form hown4
          clear hown4 hgrow4 hB4 HV1 HB6 KK HBB HY
          go_wp2
          go_roundw
          case rel => exact ⟨k + 1, _, _, by omega, by go_num, by rw [show min (k + 1) 3 = k + 1 by omega, HGT.out], B4.out, by rw [show min (k + 1) 3 = k + 1 by omega]; exact RK.out⟩
          case measure => simp [intOf]; omega
      · have h3' : ¬ ((k : Int) < 3) := by omega
        have e1 : min (k + 1) 3 = min k 3 := by omega
        clear HC
        go_wp2
        go_roundw
        case rel => exact ⟨k + 1, A, C, by omega, by go_num, by rw [e1], BB.out, by rw [e1]; exact KK.out⟩
        case measure => simp [intOf]; omega
    · obtain rfl : k = len0 := by omega
      obtain ⟨cn, hcn⟩ : ∃ cn, cn = min k 3 := ⟨_, rfl⟩
      have hcn3 : cn ≤ 3 := by omega
      rw [← hcn] at KK ⊢
      obtain ⟨t, ht⟩ : ∃ t, t = gtop LS cn := ⟨_, rfl⟩
      have htl : t < 4294967296 := by rw [ht]; exact gtop_all_lt LS LSB.out cn
      rw [← ht]
      have HT := Lib.hid ht
      clear hB hcn ht
      go_wp2_with fail
      go_at_call 17
      refine (HCUT.out wr BB.out).mono ?_
      rintro e w5 ⟨y, rfl, hown, hb5⟩
      obtain ⟨pa, pk, rfl⟩ := own_form hown
      have B5 := Lib.hid (BB.out.trans (hb5.mono BB.out.size))
      have K5 := Lib.hid (KK.out.below hb5)
      have P5 := Lib.hid (World.ownsRow.mono hown BB.out.size)
      have hOf := mOf av cn cv A C LS w5 hcn3 (rd_of_own K5.out.out (fun i hi => by simp [hi])) (fun i hi => rd_of_own (K5.out.inn i hi) (fun j hj => bl_at _ hj)) (fun i hi => LSB.out i) (fun i hi => by have := LSM.out i; omega)
      have HOF := Lib.hid hOf
      clear hown hb5 hOf BB KK HCUT
      go_wp2_with fail
      go_at_call 33
      refine HOF.out.mono ?_
      rintro e w6 ⟨v, rfl, hm6, hb6⟩
      obtain ⟨g, hg⟩ : ∃ g, g = w5.heap.size := ⟨_, rfl⟩
      rw [← hg] at hm6 ⊢
      have HG := Lib.hid (show w.heap.size ≤ g by rw [hg]; exact B5.out.size)
      have BM := Lib.hid (B5.out.trans (hb6.mono B5.out.size))
      have MM := Lib.hid hm6
      have PP := Lib.hid (own_keep P5.out hb6)
      have hpo : Off g v (.slice pa m pk) := fun j hj => ⟨fun e => by have := (P5.out.lt j hj).2; omega, fun i hi e => by have h1 := ((hm6.own i hi).lt j e).1; have := (P5.out.lt j hj).2; omega⟩
      have PO := Lib.hid hpo
      have hl3 : firstL LS cn 3 = [] := by unfold firstL; rw [if_neg (by omega)]
      have L3 := Lib.hid hl3
      have TT := Lib.hid (show gtop (firstL LS cn) 3 = t by rw [gtop_first LS hcn3, HT.out])
      clear hb6 hm6 hg hpo hl3 HOF B5 K5 P5 HT
      cases a2 with
      | false =>
        have hF := mFill pa pk w6.heap.size P MM.out (Nat.le_refl _) (by rw [PM.out]; exact rd_of_own PP.out (fun i hi => bl_at P (by rw [PM.out]; exact hi))) PB.out
        rw [PM.out, TT.out] at hF
        have HF := Lib.hid hF
        clear hF
        go_wp2_with fail
        go_at_call 18
        refine HF.out.mono ?_
        rintro e wf (⟨h, _⟩ | ⟨_, h, rfl, hbf⟩ | ⟨_, h, rfl, vf, hmf, hsf⟩)
        · omega
        · have Bf := Lib.hid (BM.out.trans (hbf.mono BM.out.size))
          have ht : ((t : Int) == 4294967295) = true := by rw [beq_iff_eq]; omega
          clear hbf HF
          go_wp2
          go_ret
          exact ⟨rfl, Bf.out⟩
        · have ht : ((t : Int) == 4294967295) = false := by rw [beq_eq_false_iff_ne]; omega
          obtain ⟨t1, ht1⟩ : ∃ t1, t1 = t + 1 := ⟨_, rfl⟩
          have ht1I := u32_succT ht1 h
          obtain ⟨C, hC⟩ : ∃ C, C = mkCell t1 P := ⟨_, rfl⟩
          have hCe : perr C = 0 := by rw [hC]; exact mkCell_err _ _ (by rw [PM.out]; omega)
          have hCd : pdat C = P := by rw [hC]; exact mkCell_dat _ _
          have hCs : pseq C = t1 := by rw [hC]; exact mkCell_seq _ _ (by omega)
          rw [← ht1, ← hC] at hmf
          have Bf := Lib.hid (BM.out.trans ((hsf.below MM.out).mono HG.out))
          have Mf := Lib.hid hmf
          have Pf := Lib.hid (hsf.row PP.out PO.out).1
          have POf := Lib.hid (hsf.row PP.out PO.out).2
          have HCe := Lib.hid hCe
          have HCd := Lib.hid hCd
          have HCs := Lib.hid hCs
          obtain ⟨k1, k2, k3⟩ := all_good hCe
          clear hmf hsf hC hCe hCd hCs HF ht1
          go_wp2_with fail
          go_at_call 24
          refine (mRead Mf.out).mono ?_
          rintro e wq ⟨hbq, ⟨h, _⟩ | ⟨_, x, xc, rfl, hown⟩⟩
          · omega
          have hbb : sel4 C C C [] (vst (sel4 C C C []) 3).2 = C := k2
          rw [hbb, HCd.out, PM.out] at hown
          rw [hbb, HCd.out, PM.out, HCs.out]
          have hoff := Mf.out.off hown
          have Bq := Lib.hid (Bf.out.trans (hbq.mono Bf.out.size))
          have Mq := Lib.hid (Mf.out.below hbq)
          have Pq := Lib.hid (own_keep Pf.out hbq)
          have Xq := Lib.hid hown
          have XO := Lib.hid hoff
          clear hown hoff hbq hbb Mf Bf Pf
          go_wp2_with fail
          go_at_call 26
          refine (mScrub Mq.out).mono ?_
          rintro e ws (⟨h, _⟩ | ⟨_, h, _⟩ | ⟨_, _, rfl, vs, hvs, hms, hss⟩)
          · exact absurd rfl h
          · omega
          rw [k2] at hms ⊢
          rw [k3]
          have Bs := Lib.hid (Bq.out.trans ((hss.below Mq.out).mono HG.out))
          have Ms := Lib.hid hms
          have Xs := (hss.row Xq.out XO.out).1
          have Ps := (hss.row Pq.out POf.out).1
          have hsame := Same_any pa x m m pk xc ws.heap.size ws.heap.size P P ws PM.out PM.out (rd_of_own Ps (fun i hi => bl_at P (by rw [PM.out]; exact hi))) (rd_of_own Xs (fun i hi => bl_at P (by rw [PM.out]; exact hi))) PB.out PB.out
          rw [decide_eq_true (rfl : P = P)] at hsame
          have HSM := Lib.hid hsame
          clear hsame hms hss hvs Xs Ps Mq Bq Pq POf Xq XO k1 k2 k3
          go_wp2_with fail
          go_at_call 25
          refine HSM.out.mono ?_
          rintro e w' ⟨rfl, nj, rfl⟩
          have hq9 := below_drews ws.heap.size ws nj
          obtain ⟨wz, hwz⟩ : ∃ wa, wa = ws.drewN nj := ⟨_, rfl⟩
          rw [← hwz] at hq9 ⊢
          have Bz := Lib.hid (Bs.out.trans (hq9.mono Bs.out.size))
          have hPD := mPending (Ms.out.below hq9)
          rw [show decide (0 < (sel4 C C C (sel4 C C C [] 3) 3).length) = false from rfl] at hPD
          have HPD := Lib.hid hPD
          clear hq9 hwz Ms Bs HSM hPD
          go_wp2_with fail
          go_at_call 30
          refine HPD.out.mono ?_
          rintro e w' ⟨rfl, rfl⟩
          clear HPD
          go_wp2
          go_ret
          exact ⟨rfl, Bz.out⟩
      | true =>
        have hBG := mBegin pa pk w6.heap.size P MM.out (Nat.le_refl _) (by rw [PM.out]; exact rd_of_own PP.out (fun i hi => bl_at P (by rw [PM.out]; exact hi))) PB.out
        rw [PM.out, TT.out] at hBG
        have HBG := Lib.hid hBG
        clear hBG
        go_wp2_with fail
        go_at_call 21
        refine HBG.out.mono ?_
        rintro e w7 (⟨h, _⟩ | ⟨_, h, _⟩ | ⟨_, _, h, rfl, hb7⟩ | ⟨_, _, h, rfl, v7, hm7, hs7⟩)
        · omega
        · exact absurd L3.out h
        · have BM7 := Lib.hid (BM.out.trans (hb7.mono BM.out.size))
          have MM7 := Lib.hid (MM.out.below hb7)
          have PP7 := Lib.hid (own_keep PP.out hb7)
          clear BM MM PP hb7 HBG
          have BM := BM7
          have MM := MM7
          have PP := PP7
          clear BM7 MM7 PP7 h
          have hF := mFill pa pk w7.heap.size P MM.out (Nat.le_refl _) (by rw [PM.out]; exact rd_of_own PP.out (fun i hi => bl_at P (by rw [PM.out]; exact hi))) PB.out
          rw [PM.out, TT.out] at hF
          have HF := Lib.hid hF
          clear hF
          go_wp2_with fail
          go_at_call 18
          refine HF.out.mono ?_
          rintro e wf (⟨h, _⟩ | ⟨_, h, rfl, hbf⟩ | ⟨_, h, rfl, vf, hmf, hsf⟩)
          · omega
          · have Bf := Lib.hid (BM.out.trans (hbf.mono BM.out.size))
            have ht : ((t : Int) == 4294967295) = true := by rw [beq_iff_eq]; omega
            clear hbf HF
            go_wp2
            go_ret
            exact ⟨rfl, Bf.out⟩
          · have ht : ((t : Int) == 4294967295) = false := by rw [beq_eq_false_iff_ne]; omega
            obtain ⟨t1, ht1⟩ : ∃ t1, t1 = t + 1 := ⟨_, rfl⟩
            have ht1I := u32_succT ht1 h
            obtain ⟨C, hC⟩ : ∃ C, C = mkCell t1 P := ⟨_, rfl⟩
            have hCe : perr C = 0 := by rw [hC]; exact mkCell_err _ _ (by rw [PM.out]; omega)
            have hCd : pdat C = P := by rw [hC]; exact mkCell_dat _ _
            have hCs : pseq C = t1 := by rw [hC]; exact mkCell_seq _ _ (by omega)
            rw [← ht1, ← hC] at hmf
            have Bf := Lib.hid (BM.out.trans ((hsf.below MM.out).mono HG.out))
            have Mf := Lib.hid hmf
            have Pf := Lib.hid (hsf.row PP.out PO.out).1
            have POf := Lib.hid (hsf.row PP.out PO.out).2
            have HCe := Lib.hid hCe
            have HCd := Lib.hid hCd
            have HCs := Lib.hid hCs
            obtain ⟨k1, k2, k3⟩ := all_good hCe
            clear hmf hsf hC hCe hCd hCs HF ht1
            go_wp2_with fail
            go_at_call 24
            refine (mRead Mf.out).mono ?_
            rintro e wq ⟨hbq, ⟨h, _⟩ | ⟨_, x, xc, rfl, hown⟩⟩
            · omega
            have hbb : sel4 C C C [] (vst (sel4 C C C []) 3).2 = C := k2
            rw [hbb, HCd.out, PM.out] at hown
            rw [hbb, HCd.out, PM.out, HCs.out]
            have hoff := Mf.out.off hown
            have Bq := Lib.hid (Bf.out.trans (hbq.mono Bf.out.size))
            have Mq := Lib.hid (Mf.out.below hbq)
            have Pq := Lib.hid (own_keep Pf.out hbq)
            have Xq := Lib.hid hown
            have XO := Lib.hid hoff
            clear hown hoff hbq hbb Mf Bf Pf
            go_wp2_with fail
            go_at_call 26
            refine (mScrub Mq.out).mono ?_
            rintro e ws (⟨h, _⟩ | ⟨_, h, _⟩ | ⟨_, _, rfl, vs, hvs, hms, hss⟩)
            · exact absurd rfl h
            · omega
            rw [k2] at hms ⊢
            rw [k3]
            have Bs := Lib.hid (Bq.out.trans ((hss.below Mq.out).mono HG.out))
            have Ms := Lib.hid hms
            have Xs := (hss.row Xq.out XO.out).1
            have Ps := (hss.row Pq.out POf.out).1
            have hsame := Same_any pa x m m pk xc ws.heap.size ws.heap.size P P ws PM.out PM.out (rd_of_own Ps (fun i hi => bl_at P (by rw [PM.out]; exact hi))) (rd_of_own Xs (fun i hi => bl_at P (by rw [PM.out]; exact hi))) PB.out PB.out
            rw [decide_eq_true (rfl : P = P)] at hsame
            have HSM := Lib.hid hsame
            clear hsame hms hss hvs Xs Ps Mq Bq Pq POf Xq XO k1 k2 k3
            go_wp2_with fail
            go_at_call 25
            refine HSM.out.mono ?_
            rintro e w' ⟨rfl, nj, rfl⟩
            have hq9 := below_drews ws.heap.size ws nj
            obtain ⟨wz, hwz⟩ : ∃ wa, wa = ws.drewN nj := ⟨_, rfl⟩
            rw [← hwz] at hq9 ⊢
            have Bz := Lib.hid (Bs.out.trans (hq9.mono Bs.out.size))
            have hPD := mPending (Ms.out.below hq9)
            rw [show decide (0 < (sel4 C C C (sel4 C C C [] 3) 3).length) = false from rfl] at hPD
            have HPD := Lib.hid hPD
            clear hq9 hwz Ms Bs HSM hPD
            go_wp2_with fail
            go_at_call 30
            refine HPD.out.mono ?_
            rintro e w' ⟨rfl, rfl⟩
            clear HPD
            go_wp2
            go_ret
            exact ⟨rfl, Bz.out⟩
        · obtain ⟨t1, ht1⟩ : ∃ t1, t1 = t + 1 := ⟨_, rfl⟩
          have ht1I := u32_succT ht1 h
          have hDe : perr (mkCell (t + 1) P) = 0 := mkCell_err _ _ (by rw [PM.out]; omega)
          have hDs : pseq (mkCell (t + 1) P) = t + 1 := mkCell_seq _ _ (by omega)
          have htt := gtop_begin (ls := firstL LS cn) (d := mkCell (t + 1) P) hDe (by rw [hDs, TT.out])
          rw [TT.out, ← ht1] at htt
          have TT7 := Lib.hid htt
          have BM7 := Lib.hid (BM.out.trans ((hs7.below MM.out).mono HG.out))
          have MM7 := Lib.hid hm7
          have PP7 := Lib.hid (hs7.row PP.out PO.out).1
          have PO7 := Lib.hid (hs7.row PP.out PO.out).2
          rw [← ht1] at MM7
          have htl1 : t1 < 4294967296 := by omega
          clear htl TT BM MM PP PO hm7 hs7 HBG hDe hDs htt ht1 L3
          have TT := TT7
          have BM := BM7
          have MM := MM7
          have PP := PP7
          have PO := PO7
          clear TT7 BM7 MM7 PP7 PO7 h
          have hF := mFill pa pk w7.heap.size P MM.out (Nat.le_refl _) (by rw [PM.out]; exact rd_of_own PP.out (fun i hi => bl_at P (by rw [PM.out]; exact hi))) PB.out
          rw [PM.out, TT.out] at hF
          have HF := Lib.hid hF
          clear hF
          go_wp2_with fail
          go_at_call 18
          refine HF.out.mono ?_
          rintro e wf (⟨h, _⟩ | ⟨_, h, rfl, hbf⟩ | ⟨_, h, rfl, vf, hmf, hsf⟩)
          · omega
          · have Bf := Lib.hid (BM.out.trans (hbf.mono BM.out.size))
            have ht : ((t1 : Int) == 4294967295) = true := by rw [beq_iff_eq]; omega
            clear hbf HF
            go_wp2
            go_ret
            exact ⟨rfl, Bf.out⟩
          · have ht : ((t1 : Int) == 4294967295) = false := by rw [beq_eq_false_iff_ne]; omega
            obtain ⟨t2, ht2⟩ : ∃ t2, t2 = t1 + 1 := ⟨_, rfl⟩
            have ht2I := u32_succT ht2 h
            obtain ⟨C, hC⟩ : ∃ C, C = mkCell t2 P := ⟨_, rfl⟩
            have hCe : perr C = 0 := by rw [hC]; exact mkCell_err _ _ (by rw [PM.out]; omega)
            have hCd : pdat C = P := by rw [hC]; exact mkCell_dat _ _
            have hCs : pseq C = t2 := by rw [hC]; exact mkCell_seq _ _ (by omega)
            rw [← ht2, ← hC] at hmf
            have Bf := Lib.hid (BM.out.trans ((hsf.below MM.out).mono HG.out))
            have Mf := Lib.hid hmf
            have Pf := Lib.hid (hsf.row PP.out PO.out).1
            have POf := Lib.hid (hsf.row PP.out PO.out).2
            have HCe := Lib.hid hCe
            have HCd := Lib.hid hCd
            have HCs := Lib.hid hCs
            obtain ⟨k1, k2, k3⟩ := all_good hCe
            clear hmf hsf hC hCe hCd hCs HF ht2
            go_wp2_with fail
            go_at_call 24
            refine (mRead Mf.out).mono ?_
            rintro e wq ⟨hbq, ⟨h, _⟩ | ⟨_, x, xc, rfl, hown⟩⟩
            · omega
            have hbb : sel4 C C C [] (vst (sel4 C C C []) 3).2 = C := k2
            rw [hbb, HCd.out, PM.out] at hown
            rw [hbb, HCd.out, PM.out, HCs.out]
            have hoff := Mf.out.off hown
            have Bq := Lib.hid (Bf.out.trans (hbq.mono Bf.out.size))
            have Mq := Lib.hid (Mf.out.below hbq)
            have Pq := Lib.hid (own_keep Pf.out hbq)
            have Xq := Lib.hid hown
            have XO := Lib.hid hoff
            clear hown hoff hbq hbb Mf Bf Pf
            go_wp2_with fail
            go_at_call 26
            refine (mScrub Mq.out).mono ?_
            rintro e ws (⟨h, _⟩ | ⟨_, h, _⟩ | ⟨_, _, rfl, vs, hvs, hms, hss⟩)
            · exact absurd rfl h
            · omega
            rw [k2] at hms ⊢
            rw [k3]
            have Bs := Lib.hid (Bq.out.trans ((hss.below Mq.out).mono HG.out))
            have Ms := Lib.hid hms
            have Xs := (hss.row Xq.out XO.out).1
            have Ps := (hss.row Pq.out POf.out).1
            have hsame := Same_any pa x m m pk xc ws.heap.size ws.heap.size P P ws PM.out PM.out (rd_of_own Ps (fun i hi => bl_at P (by rw [PM.out]; exact hi))) (rd_of_own Xs (fun i hi => bl_at P (by rw [PM.out]; exact hi))) PB.out PB.out
            rw [decide_eq_true (rfl : P = P)] at hsame
            have HSM := Lib.hid hsame
            clear hsame hms hss hvs Xs Ps Mq Bq Pq POf Xq XO k1 k2 k3
            go_wp2_with fail
            go_at_call 25
            refine HSM.out.mono ?_
            rintro e w' ⟨rfl, nj, rfl⟩
            have hq9 := below_drews ws.heap.size ws nj
            obtain ⟨wz, hwz⟩ : ∃ wa, wa = ws.drewN nj := ⟨_, rfl⟩
            rw [← hwz] at hq9 ⊢
            have Bz := Lib.hid (Bs.out.trans (hq9.mono Bs.out.size))
            have hPD := mPending (Ms.out.below hq9)
            rw [show decide (0 < (sel4 C C C (sel4 C C C [] 3) 3).length) = false from rfl] at hPD
            have HPD := Lib.hid hPD
            clear hq9 hwz Ms Bs HSM hPD
            go_wp2_with fail
            go_at_call 30
            refine HPD.out.mono ?_
            rintro e w' ⟨rfl, rfl⟩
            clear HPD
            go_wp2
            go_ret
            exact ⟨rfl, Bz.out⟩
end Go.Proofs.Ytdlkonbjmmepoaa
