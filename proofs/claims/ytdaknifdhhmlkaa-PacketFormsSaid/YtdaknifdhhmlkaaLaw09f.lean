/- PacketForms, walked. -/
import Derived.Test.YtdaknifdhhmlkaaPk8
import Derived.Test.YtdaknifdhhmlkaaPk6
namespace Go.Proofs.Ytdaknifdhhmlkaa
open Go.RowKit Go.Own
set_option linter.unusedVariables false
set_option linter.unusedSimpArgs false

theorem sel4_rd {a b d e : Option Addr} {la lb ld le ca cb cd ce : Nat} {l m k o : List Nat} (hl : l.length = la) (hm : m.length = lb) (hk : k.length = ld) (ho : o.length = le) (i : Nat) :
    sel4 (Value.slice a la ca) (.slice b lb cb) (.slice d ld cd) (.slice e le ce) i = .slice (sel4 a b d e i) (sel4 l m k o i).length (sel4 ca cb cd ce i) := by
  subst hl hm hk ho
  unfold sel4
  split
  · rfl
  · split
    · rfl
    · split <;> rfl
theorem sel4_every {α : Type} {p : α → Prop} {a b c d : α} (ha : p a) (hb : p b) (hc : p c) (hd : p d) (i : Nat) : p (sel4 a b c d i) := by
  unfold sel4
  split
  · exact ha
  · split
    · exact hb
    · split
      · exact hc
      · exact hd
set_option maxRecDepth 100000 in
set_option maxHeartbeats 8000000 in
theorem walk_PacketForms (k : Bool) (a c : Int) (x : Option Addr) (len cap : Nat) (z : List Int) (x1 : Option Addr) (len1 cap1 : Nat) (z1 : List Int) (at_ tn : Int) (mend : Bool) (w : World)
    (wa : (Lit.int .u16 a).wf = true) (wc : (Lit.int .u16 c).wf = true) (w0 : IsRow .u8 w x len cap z) (w1' : IsRow .u8 w x1 len1 cap1 z1) (wat : (Lit.int .u16 at_).wf = true) (wt : (Lit.int .u8 tn).wf = true) :
    Calls Try.prog 5 #[.agg #[.bool k, .int .u16 a, .int .u16 c, .slice x len cap], .slice x1 len1 cap1, .int .u16 at_, .int .u8 tn, .bool mend] w fun e w' => e = .returned (.bool true) ∧ Below w.heap.size w w' := by
  obtain ⟨l0, hl0, hb0, hr0⟩ := isRow_rd w0
  obtain ⟨l1, hl1, hb1', hr1⟩ := isRow_rd w1'
  obtain ⟨a0, a1⟩ := bounds_u16 wa
  obtain ⟨c0, c1⟩ := bounds_u16 wc
  obtain ⟨aa, ab⟩ := bounds_u16 wat
  obtain ⟨ta, tb⟩ := bounds_u8 wt
  obtain ⟨a, rfl⟩ := Int.eq_ofNat_of_zero_le a0
  obtain ⟨c, rfl⟩ := Int.eq_ofNat_of_zero_le c0
  obtain ⟨at_, rfl⟩ := Int.eq_ofNat_of_zero_le aa
  obtain ⟨tn, rfl⟩ := Int.eq_ofNat_of_zero_le ta
  have HR0 := Lib.hid hr0
  have HL0 := Lib.hid hl0
  have HR1 := Lib.hid hr1
  have HL1 := Lib.hid hl1
  have h5 := heap_alloc_new w (.cells #[.bool k, .int .u16 (a : Nat), .int .u16 (c : Nat), .slice x len cap] 56)
  have hB0 : Below w.heap.size w (w.alloc (.cells #[.bool k, .int .u16 (a : Nat), .int .u16 (c : Nat), .slice x len cap] 56)) := by repeat' (first | (with_reducible exact Below.refl _ _) | (with_reducible assumption) | (with_reducible refine Below.setCell ?_ ?_ _) | (with_reducible refine Below.alloc ?_ ?_ _) | (with_reducible refine Below.drew ?_) | (with_reducible refine Below.drawsN ?_ _) | go_size)
  clear wa wc wat wt w0 w1' hr0 hl0 hr1 hl1 a0 c0 aa ta
  go_enter Try.func5, Try.ntmps5
  go_wp2_with fail
  obtain ⟨W0, hW0⟩ : ∃ W0, W0 = w.alloc (.cells #[.bool k, .int .u16 (a : Nat), .int .u16 (c : Nat), .slice x len cap] 56) := ⟨_, rfl⟩
  obtain ⟨g, hg⟩ : ∃ g, g = w.heap.size := ⟨_, rfl⟩
  rw [← hW0] at hB0 h5 ⊢
  rw [← hg] at h5 ⊢
  have hgB : w.heap.size ≤ g := by omega
  clear hW0 hg
  go_at_call 32
  refine (awake09 _).mono ?_
  rintro e w1 ⟨rfl, hb1⟩
  have h5 := (hb1.block g (Array.getElem?_eq_some_iff.1 h5).1).trans h5
  have hz1 := (Array.getElem?_eq_some_iff.1 h5).1
  have hB1 := hB0.trans (hb1.mono hB0.size)
  have H5 := Lib.hid h5
  have HB1 := Lib.hid hB1
  have hs1 : w.heap.size ≤ w1.heap.size := hB1.size
  clear hb1 hB0 h5 hB1
  go_wp2_with (refine wpList_load_row rfl 56 _ rfl g rfl _ _ _ _ (H5.out) Try.underlying56 rfl size_pk ?_; (try go_simp))
  go_at_call 33
  refine (few09 k a c len cap w.heap.size x l0 _ HL0.out hs1 (HR0.out.below HB1.out)).mono ?_
  rintro e w2 ⟨y, q, rfl, hown, hb2⟩
  obtain ⟨m, hm⟩ : ∃ m, m = min 260 len := ⟨_, rfl⟩
  obtain ⟨d, hd⟩ : ∃ d, d = l0.take 260 := ⟨_, rfl⟩
  have hdb : bytes d := by rw [hd]; exact hb0.take 260
  have hdl : d.length = m := by rw [hd, hm]; exact bytes_take HL0.out
  have hm2 : m ≤ 260 := by omega
  rw [← hm, ← hd] at hown
  rw [← hm]
  have HDL := Lib.hid hdl
  have HOWN2 := Lib.hid hown
  have H52 := Lib.hid ((hb2.block g hz1).trans H5.out)
  have HB2 := Lib.hid (HB1.out.trans (hb2.mono hs1))
  have hs2 : w1.heap.size ≤ w2.heap.size := hb2.size
  have hws2 : w.heap.size ≤ w2.heap.size := HB2.out.size
  clear hm hd hdl hown hb2 H5 HB1 HR0 HL0 hb0
  go_wp2_with fail
  go_at_call 34
  refine (Cut_any x1 len1 cap1 l1 30 _ HL1.out ((HR1.out.below HB2.out).mono hws2) (by omega)).mono ?_
  rintro e w3 ⟨v, rfl, hown, hb3⟩
  obtain ⟨R, hR⟩ : ∃ R, R = l1.take 30 := ⟨_, rfl⟩
  have hRb : bytes R := by rw [hR]; exact hb1'.take 30
  obtain ⟨r, hr'⟩ : ∃ r, r = min 30 len1 := ⟨_, rfl⟩
  have hRr : R.length = r := by rw [hR, hr']; exact bytes_take HL1.out
  have hr2 : r ≤ 30 := by omega
  rw [← hR, ← hr'] at hown
  obtain ⟨ra, rc, rfl⟩ := own_form hown
  have HRR := Lib.hid hRr
  have hz2 : g < w2.heap.size := Nat.lt_of_lt_of_le hz1 hs2
  have h53 := (hb3.block g hz2).trans H52.out
  have ho3 := own_keep HOWN2.out hb3
  have h54 := setRow_heap _ _ _ #[.bool k, .int .u16 (a : Nat), .int .u16 (c : Nat), .slice y m q] _ _ h53
  have ho4 := ho3.kept (grown_setRow w3 g #[.bool k, .int .u16 (a : Nat), .int .u16 (c : Nat), .slice y m q]) (.inr (fun e => by have := (ho3.lt g e).1; omega))
  have hR4 := rd_of_own (f := bv R) (hown.kept (grown_setRow w3 g #[.bool k, .int .u16 (a : Nat), .int .u16 (c : Nat), .slice y m q]) (.inr (fun e => by have := (hown.lt g e).1; omega))) (fun i hi => bl_at R (by omega))
  have hB4 := below_setRow (HB2.out.trans (hb3.mono hws2)) hgB #[.bool k, .int .u16 (a : Nat), .int .u16 (c : Nat), .slice y m q]
  have H53 := Lib.hid h53
  have H54 := Lib.hid h54
  have HO4 := Lib.hid ho4
  have HR4 := Lib.hid hR4
  have HB4 := Lib.hid hB4
  clear hR hr' hRr hown hb3 h53 h54 ho3 ho4 hR4 hB4 H52 HB2 HOWN2 HR1 HL1 hb1'
  go_wp2_with (first | (refine wpList_store_row rfl 56 _ _ rfl _ _ rfl rfl _ _ (by exact H53.out) (by exact size_pk) (by rfl) (by simp [Value.oneCell']) ?_; (try go_simp)) | (refine wpList_load_row rfl 56 _ rfl g rfl _ _ _ _ (H54.out) Try.underlying56 rfl size_pk ?_; (try go_simp)))
  obtain ⟨w4, hw4⟩ : ∃ w4, w4 = w3.setRow g #[.bool k, .int .u16 (a : Nat), .int .u16 (c : Nat), .slice y m q] := ⟨_, rfl⟩
  rw [← hw4] at H54 HO4 HR4 HB4 ⊢
  have hz4 := (Array.getElem?_eq_some_iff.1 H54.out).1
  have HRD4 := Lib.hid (rd_of_own (f := bv d) HO4.out (fun i hi => bl_at d (by rw [HDL.out]; exact hi)))
  have hws4 : w.heap.size ≤ w4.heap.size := HB4.out.size
  clear hw4 H53 HO4 hs2 hz2 hws2 hz1
  go_at_call 35
  refine (pBytes_any k a c y m q _ d w4 (by omega) (by omega) HDL.out (Nat.le_refl _) HRD4.out hdb).mono ?_
  rintro e w5 ⟨hb5, hpo⟩
  have HRD5 := Lib.hid (rd_grow HRD4.out hb5)
  have HR5 := Lib.hid (rd_grow HR4.out hb5)
  have H55 := Lib.hid ((hb5.block g hz4).trans H54.out)
  have HB5 := Lib.hid (HB4.out.trans (hb5.mono hws4))
  have hz5 : g < w5.heap.size := Nat.lt_of_lt_of_le hz4 hb5.size
  have hws5 : w.heap.size ≤ w5.heap.size := HB5.out.size
  clear hb5 HRD4 HR4 H54 HB4 hz4 hws4
  obtain ⟨er, her⟩ : ∃ er, er = pkRight a c m := ⟨_, rfl⟩
  rw [← her] at hpo
  have HER := Lib.hid her
  have her5 : er < 5 := by rw [her]; unfold pkRight; split <;> (try split) <;> omega
  clear her
  rcases hpo with ⟨hne, rfl⟩ | ⟨h0, v, rfl, hown⟩
  · have heI : ((er : Int) != 0) = true := by simp [bne]; omega
    have heE : ((er : Int) == 0) = false := by rw [beq_eq_false_iff_ne]; omega
    go_wp2_with (refine wpList_load_row rfl 56 _ rfl g rfl _ _ _ _ (H55.out) Try.underlying56 rfl size_pk ?_; (try go_simp))
    go_at_call 37
    refine (own09 k a c m q y _).mono ?_
    rintro e w6 ⟨rfl, hb6⟩
    go_wp2_with fail
    go_at_call 36
    refine (rRight09 k a c m q y _ (by omega) (by omega)).mono ?_
    rintro e w7 ⟨rfl, hb7⟩
    rw [← HER.out]
    have hb57 := hb6.trans (hb7.mono hb6.size)
    have HR7 := Lib.hid (rd_grow HR5.out hb57)
    have HB7 := Lib.hid (HB5.out.trans (hb57.mono hws5))
    have hws7 : w.heap.size ≤ w7.heap.size := HB7.out.size
    clear hb6 hb7 hb57 HR5 HB5 HRD5 H55
    go_wp2_with fail
    skip
    go_at_call 40
    have hal : Below w7.heap.size w7 (w7.alloc (.cells #[.slice ra r rc] 54)) := (Below.refl _ _).alloc (Nat.le_refl _) _
    refine (Join1 HRR.out (heap_alloc_new _ _) (HR7.out.below hal) (by simp) (by rw [HRR.out]; omega)).mono ?_
    rintro e w8 ⟨v8, rfl, hown8, hb8⟩
    obtain ⟨na, nc, rfl⟩ := own_form hown8
    rw [HRR.out] at hown8 ⊢
    have hb78 := hal.trans (hb8.mono (by simp))
    have HN8 := Lib.hid (rd_of_own (f := bv R) hown8 (fun i hi => bl_at R (by rw [HRR.out]; exact hi)))
    have HR8 := Lib.hid (rd_grow HR7.out hb78)
    have HB8 := Lib.hid (HB7.out.trans (hb78.mono hws7))
    have hws8 : w.heap.size ≤ w8.heap.size := HB8.out.size
    clear hal hown8 hb8
    go_wp2_with fail
    have HKL := Lib.hid (show ([] : List Nat).length = 0 from rfl)
    have HNL := HRR
    have hKb : bytes [] := fun b hb => by cases hb
    have hNb := hRb
    have HK8 := Lib.hid (Rd.none_ w8.heap.size w8 (bv []))
    skip
    have hal : Below w8.heap.size w8 (w8.alloc (.cells #[.slice none 0 0, .slice ra r rc] 54)) := (Below.refl _ _).alloc (Nat.le_refl _) _
    have hll : (([] : List Nat) ++ R).length = 0 + r := by rw [List.length_append, HKL.out, HRR.out]
    go_at_call 40
    refine (Join2 (n := w8.heap.size) (n' := w8.heap.size) HKL.out HRR.out (heap_alloc_new _ _) (HK8.out.below hal) (HR8.out.below hal) (by simp) (by simp) (by omega)).mono ?_
    rintro e w9 ⟨v9, rfl, hown9, hb9⟩
    obtain ⟨ja, jc, rfl⟩ := own_form hown9
    rw [hll] at hown9 ⊢
    obtain ⟨J, hJ⟩ : ∃ J, J = 0 + r := ⟨_, rfl⟩
    rw [← hJ] at hll hown9 ⊢
    have hJ2 : J ≤ 300 := by omega
    have hEb : bytes (([] : List Nat) ++ R) := hKb.append hRb
    obtain ⟨E, hE⟩ : ∃ E, E = ([] : List Nat) ++ R := ⟨_, rfl⟩
    rw [← hE] at hll hown9 hEb
    have HEL := Lib.hid hll
    have hb89 := hal.trans (hb9.mono (by simp))
    have HE9 := Lib.hid (rd_of_own (f := bv E) hown9 (fun i hi => bl_at E (by rw [HEL.out]; exact hi)))
    have HK9 := Lib.hid (rd_grow HK8.out hb89)
    have HN9 := Lib.hid (rd_grow HN8.out hb89)
    have HR9 := Lib.hid (rd_grow HR8.out hb89)
    have HB9 := Lib.hid (HB8.out.trans (hb89.mono hws8))
    have hws9 : w.heap.size ≤ w9.heap.size := HB9.out.size
    clear hal hll hown9 hb9 hb89 hE hJ HK8 HN8 HR8 HB8
    go_wp2
    have hbx := heap_alloc_new w9 (.cells #[.slice none 0 0, .slice na r nc, .slice ra r rc, .slice ja J jc] 54)
    have hal : Below w9.heap.size w9 (w9.alloc (.cells #[.slice none 0 0, .slice na r nc, .slice ra r rc, .slice ja J jc] 54)) := (Below.refl _ _).alloc (Nat.le_refl _) _
    have hr4 := (rd_four hbx (lt_of_heap hbx)).same (g := fun i => .slice (sel4 none na ra ja i) (sel4 ([] : List Nat) R R E i).length (sel4 0 nc rc jc i)) (fun i hi => sel4_rd HKL.out HNL.out HRR.out HEL.out i)
    obtain ⟨W0, hW0⟩ : ∃ W0, W0 = w9.alloc (.cells #[.slice none 0 0, .slice na r nc, .slice ra r rc, .slice ja J jc] 54) := ⟨_, rfl⟩
    obtain ⟨gL, hgL⟩ : ∃ gL, gL = w9.heap.size := ⟨_, rfl⟩
    rw [← hW0, ← hgL] at hr4
    rw [← hW0] at hal
    rw [← hW0, ← hgL]
    have HB0 := Lib.hid (HB9.out.trans (hal.mono hws9))
    have hrows : ∀ i, i < 4 → Rd W0.heap.size W0 (sel4 none na ra ja i) (sel4 ([] : List Nat) R R E i).length (sel4 0 nc rc jc i) (bv (sel4 ([] : List Nat) R R E i)) := by
      intro i hi
      have : i = 0 ∨ i = 1 ∨ i = 2 ∨ i = 3 := by omega
      rcases this with rfl | rfl | rfl | rfl
      · show Rd _ _ none (([] : List Nat)).length 0 (bv ([] : List Nat)); rw [HKL.out]; exact rd_grow HK9.out hal
      · show Rd _ _ na (R).length nc (bv R); rw [HNL.out]; exact rd_grow HN9.out hal
      · show Rd _ _ ra R.length rc (bv R); rw [HRR.out]; exact rd_grow HR9.out hal
      · show Rd _ _ ja E.length jc (bv E); rw [HEL.out]; exact rd_grow HE9.out hal
    have hbys : ∀ i, bytes (sel4 ([] : List Nat) R R E i) ∧ (sel4 ([] : List Nat) R R E i).length ≤ 1000 := sel4_every (p := fun l => bytes l ∧ l.length ≤ 1000) ⟨hKb, by rw [HKL.out]; omega⟩ ⟨hNb, by rw [HNL.out]; omega⟩ ⟨hRb, by rw [HRR.out]; omega⟩ ⟨hEb, by rw [HEL.out]; omega⟩
    obtain ⟨ls, hls⟩ : ∃ ls, ls = sel4 ([] : List Nat) R R E := ⟨_, rfl⟩
    obtain ⟨qa, hqa⟩ : ∃ qa, qa = sel4 none na ra ja := ⟨_, rfl⟩
    obtain ⟨qc, hqc⟩ : ∃ qc, qc = sel4 0 nc rc jc := ⟨_, rfl⟩
    rw [← hls, ← hqa, ← hqc] at hr4 hrows
    rw [← hls] at hbys
    have HR4 := Lib.hid hr4
    have HROWS := Lib.hid hrows
    have HBY := Lib.hid hbys
    have hsW : w.heap.size ≤ W0.heap.size := HB0.out.size
    clear hW0 hgL hbx hal hr4 hrows hbys hls hqa hqc HK9 HN9 HR9 HE9 HB9 hws9 hws8
    go_loopw [92] (fun i wr => ∃ k : Nat, k ≤ 4 ∧ i = .int .i64 k ∧ Below W0.heap.size W0 wr) (fun i _ => 4 - (intOf i).toNat)
    case atStart => exact ⟨0, by omega, rfl, Below.refl _ _⟩
    case round =>
      obtain ⟨k, hk, rfl, hB⟩ := hrel
      have hsr : W0.heap.size ≤ wr.heap.size := hB.size
      by_cases hlt : k < 4
      · obtain ⟨bL, oL, he, hbL, hcL⟩ := (HR4.out.below hB).at hlt
        injection he with he
        injection he with he1 he2
        subst he1 he2
        rw [Nat.zero_add] at hcL
        have hrow := (HROWS.out k hlt).below hB
        obtain ⟨hlb, hll⟩ := HBY.out k
        obtain ⟨l, hl⟩ : ∃ l, l = ls k := ⟨_, rfl⟩
        obtain ⟨n, hn⟩ : ∃ n, n = (ls k).length := ⟨_, rfl⟩
        obtain ⟨xa, hxa⟩ : ∃ xa, xa = qa k := ⟨_, rfl⟩
        obtain ⟨xc, hxc⟩ : ∃ xc, xc = qc k := ⟨_, rfl⟩
        rw [← hn, ← hxa, ← hxc] at hcL
        rw [← hn, ← hxa, ← hxc, ← hl] at hrow
        rw [← hl] at hlb
        rw [← hn] at hll
        have hln : l.length = n := by rw [hl, hn]
        have HLN := Lib.hid hln
        have HROW := Lib.hid hrow
        have HB := Lib.hid hB
        clear hl hn hxa hxc hln hrow hB
        go_wp2_with fail
        go_at_call 42
        refine (pParse_any xa n xc W0.heap.size l _ HLN.out hsr HROW.out hlb (by omega)).mono ?_
        rintro e w1 ⟨hb1, hpo⟩
        have HB1 := Lib.hid (HB.out.trans (hb1.mono hsr))
        have HROW1 := Lib.hid (HROW.out.below' hb1 hsr)
        have hs1 : W0.heap.size ≤ w1.heap.size := HB1.out.size
        rcases hpo with ⟨he, x3, c3, rfl, hr3⟩ | ⟨he, rfl⟩
        · obtain ⟨h9, h208, _, _, _⟩ := pkErr_ok he
          have hmk := mkPkt_of hlb he
          have hpb := pdat_bytes hlb
          have hpl := pdat_len (l := l) (by omega)
          have hal := pkA_lt l
          have hcl := pkC_lt l
          have HE0 := Lib.hid he
          rw [HLN.out] at hpl h9 h208
          obtain ⟨D, hD⟩ : ∃ D, D = pdat l := ⟨_, rfl⟩
          obtain ⟨dl, hdl⟩ : ∃ dl, dl = (pdat l).length := ⟨_, rfl⟩
          obtain ⟨kk, hkk⟩ : ∃ kk, kk = pkK l := ⟨_, rfl⟩
          obtain ⟨ka, hka⟩ : ∃ ka, ka = pkA l := ⟨_, rfl⟩
          obtain ⟨kc, hkc⟩ : ∃ kc, kc = pkC l := ⟨_, rfl⟩
          have hDl : D.length = dl := by rw [hD, hdl]
          rw [← hdl, ← hD] at hr3
          rw [← hdl] at hpl
          rw [← hD] at hpb
          rw [← hkk, ← hka, ← hkc, ← hD] at hmk
          rw [← hka] at hal
          rw [← hkc] at hcl
          have hdn : dl + 8 = n := by omega
          have hd2 : dl ≤ 200 := by omega
          have HMK := Lib.hid hmk
          have HDL' := Lib.hid hDl
          have HDN := Lib.hid hdn
          have HR3 := Lib.hid hr3
          rw [← hkk, ← hka, ← hkc, ← hdl]
          have HD := Lib.hid hD
          have HDLE := Lib.hid hdl
          have HKK := Lib.hid hkk
          have HKA := Lib.hid hka
          have HKC := Lib.hid hkc
          clear hD hdl hkk hka hkc hDl hr3 hmk hdn hpl he hb1 h9 h208
          go_wp2_with fail
          have hA := heap_alloc_new w1 (.cells #[.bool kk, .int .u16 (ka : Nat), .int .u16 (kc : Nat), .slice x3 dl c3] 56)
          have hbA : Below w1.heap.size w1 (w1.alloc (.cells #[.bool kk, .int .u16 (ka : Nat), .int .u16 (kc : Nat), .slice x3 dl c3] 56)) := (Below.refl _ _).alloc (Nat.le_refl _) _
          obtain ⟨wA, hwA⟩ : ∃ wA, wA = w1.alloc (.cells #[.bool kk, .int .u16 (ka : Nat), .int .u16 (kc : Nat), .slice x3 dl c3] 56) := ⟨_, rfl⟩
          obtain ⟨gA, hgA⟩ : ∃ gA, gA = w1.heap.size := ⟨_, rfl⟩
          rw [← hwA] at hA hbA ⊢
          rw [← hgA] at hA ⊢
          have HBA := Lib.hid (HB1.out.trans (hbA.mono hs1))
          have HROWA := Lib.hid (HROW1.out.below' hbA hs1)
          have HR3A := Lib.hid (rd_grow HR3.out hbA)
          have HA := Lib.hid hA
          have hgl := (Array.getElem?_eq_some_iff.1 hA).1
          have hsA : W0.heap.size ≤ wA.heap.size := HBA.out.size
          clear hwA hgA hA hbA HB1 HROW1 HR3
          go_at_call 43
          refine (rParse09 xa n xc W0.heap.size l _ HLN.out hsA HROWA.out hlb (by omega)).mono ?_
          rintro e wB ⟨hbB, hpo⟩
          rcases hpo with ⟨_, x4, c4, rfl, hr4⟩ | ⟨hne, _⟩
          · rw [← HD.out, HDL'.out] at hr4
            rw [← HKK.out, ← HKA.out, ← HKC.out, ← HDLE.out]
            have HBB := Lib.hid (HBA.out.trans (hbB.mono hsA))
            have HROWB := Lib.hid (HROWA.out.below' hbB hsA)
            have HR3B := Lib.hid (rd_grow HR3A.out hbB)
            have HR4B := Lib.hid hr4
            have hAB := (hbB.block gA hgl).trans HA.out
            have hglB : gA < wB.heap.size := Nat.lt_of_lt_of_le hgl hbB.size
            have hsB : W0.heap.size ≤ wB.heap.size := HBB.out.size
            skip
            have gAc0 := cell_of_row wB gA 0 _ _ _ (hAB)
            have gAc1 := cell_of_row wB gA 1 _ _ _ (hAB)
            have gAc2 := cell_of_row wB gA 2 _ _ _ (hAB)
            have gAc3 := cell_of_row wB gA 3 _ _ _ (hAB)
            have HAB := Lib.hid hAB
            clear hr4 hbB HBA HROWA HR3A HA hAB hgl
            go_wp2_with fail
            have hbC : Below wB.heap.size wB (wB.alloc (.cells #[.bool kk, .int .u16 (ka : Nat), .int .u16 (kc : Nat), .slice x4 dl c4] 62)) := (Below.refl _ _).alloc (Nat.le_refl _) _
            go_at_call 44
            refine (same09 kk kk ka kc ka kc dl c3 dl c4 wB.heap.size wB.heap.size x3 x4 D D _ HDL'.out HDL'.out (by simp) (by simp) (HR3B.out.below hbC) (HR4B.out.below hbC) hpb hpb true (by simp)).mono ?_
            rintro e wD ⟨rfl, hbD⟩
            have hbBD := hbC.trans (hbD.mono (by simp))
            have HBD := Lib.hid (HBB.out.trans (hbBD.mono hsB))
            have HROWD := Lib.hid (HROWB.out.below' hbBD hsB)
            have HR3D := Lib.hid (rd_grow HR3B.out hbBD)
            have hAD := (hbBD.block gA hglB).trans HAB.out
            have hsD : W0.heap.size ≤ wD.heap.size := HBD.out.size
            clear gAc0 gAc1 gAc2 gAc3 hbC hbD hbBD HBB HROWB HR3B HR4B HAB hglB hsB
            skip
            have gAc0 := cell_of_row wD gA 0 _ _ _ (hAD)
            have gAc1 := cell_of_row wD gA 1 _ _ _ (hAD)
            have gAc2 := cell_of_row wD gA 2 _ _ _ (hAD)
            have gAc3 := cell_of_row wD gA 3 _ _ _ (hAD)
            clear hAD
            go_wp2_with fail
            go_at_call 37
            refine (own09 kk ka kc dl c3 x3 _).mono ?_
            rintro e wE ⟨rfl, hbE⟩
            have HBE := Lib.hid (HBD.out.trans (hbE.mono hsD))
            have HROWE := Lib.hid (HROWD.out.below' hbE hsD)
            have HR3E := Lib.hid (rd_grow HR3D.out hbE)
            have hsE : W0.heap.size ≤ wE.heap.size := HBE.out.size
            clear gAc0 gAc1 gAc2 gAc3 hbE HBD HROWD HR3D hsD
            go_wp2_with fail
            go_at_call 39
            refine (rBytes09 kk ka kc x3 dl c3 wE.heap.size D _ hal hcl HDL'.out (Nat.le_refl _) HR3E.out hpb hd2).mono ?_
            rintro e wF ⟨v, rfl, hownF, hbF⟩
            rw [HMK.out, HDN.out] at hownF
            obtain ⟨va, vc, rfl⟩ := own_form hownF
            have HRF := Lib.hid (rd_of_own (f := bv l) hownF (fun i hi => bl_at l (by rw [HLN.out]; exact hi)))
            have HROWF := Lib.hid (HROWE.out.below' hbF hsE)
            have HBF := Lib.hid (HBE.out.trans (hbF.mono hsE))
            clear hownF hbF HBE HROWE HR3E
            go_wp2_with fail
            go_at_call 38
            refine (Same_any va xa n n vc xc _ _ l l _ HLN.out HLN.out HRF.out HROWF.out hlb hlb).mono ?_
            rintro e wG ⟨rfl, jG, rfl⟩
            simp only [decide_true]
            have HBG := Lib.hid (HBF.out.trans (below_drews _ wF jG))
            clear HBF HRF HROWF hcL
            go_wp2
            go_roundw
            case rel => exact ⟨k + 1, by omega, by go_num, HBG.out⟩
            case measure => simp [intOf]; omega
          · exact absurd HE0.out hne
        · have HE0 := Lib.hid he
          have hpl := pkErr_lt l
          obtain ⟨et, het⟩ : ∃ et, et = pkErr l := ⟨_, rfl⟩
          rw [← het] at he hpl
          have HET := Lib.hid het
          have hne0 : ((et : Int) == 0) = false := by rw [beq_eq_false_iff_ne]; omega
          rw [← het]
          clear het hb1
          go_wp2_with fail
          have hA := heap_alloc_new w1 (.cells #[.bool false, .int .u16 0, .int .u16 0, .slice none 0 0] 56)
          have hbA : Below w1.heap.size w1 (w1.alloc (.cells #[.bool false, .int .u16 0, .int .u16 0, .slice none 0 0] 56)) := (Below.refl _ _).alloc (Nat.le_refl _) _
          obtain ⟨wA, hwA⟩ : ∃ wA, wA = w1.alloc (.cells #[.bool false, .int .u16 0, .int .u16 0, .slice none 0 0] 56) := ⟨_, rfl⟩
          obtain ⟨gA, hgA⟩ : ∃ gA, gA = w1.heap.size := ⟨_, rfl⟩
          rw [← hwA] at hA hbA ⊢
          rw [← hgA] at hA ⊢
          have HBA := Lib.hid (HB1.out.trans (hbA.mono hs1))
          have HROWA := Lib.hid (HROW1.out.below' hbA hs1)
          have HA := Lib.hid hA
          have hgl := (Array.getElem?_eq_some_iff.1 hA).1
          have hsA : W0.heap.size ≤ wA.heap.size := HBA.out.size
          clear hwA hgA hA hbA HB1 HROW1
          go_at_call 43
          refine (rParse09 xa n xc W0.heap.size l _ HLN.out hsA HROWA.out hlb (by omega)).mono ?_
          rintro e wB ⟨hbB, hpo⟩
          rcases hpo with ⟨h0, _⟩ | ⟨_, rfl⟩
          · exact absurd h0 HE0.out
          · rw [← HET.out]
            have HBB := Lib.hid (HBA.out.trans (hbB.mono hsA))
            have hAB := (hbB.block gA hgl).trans HA.out
            have hglB : gA < wB.heap.size := Nat.lt_of_lt_of_le hgl hbB.size
            have hsB : W0.heap.size ≤ wB.heap.size := HBB.out.size
            skip
            have gAc0 := cell_of_row wB gA 0 _ _ _ (hAB)
            have gAc1 := cell_of_row wB gA 1 _ _ _ (hAB)
            have gAc2 := cell_of_row wB gA 2 _ _ _ (hAB)
            have gAc3 := cell_of_row wB gA 3 _ _ _ (hAB)
            clear hbB HBA HROWA HA hAB hgl
            go_wp2_with fail
            have hbC : Below wB.heap.size wB (wB.alloc (.cells #[.bool false, .int .u16 0, .int .u16 0, .slice none 0 0] 62)) := (Below.refl _ _).alloc (Nat.le_refl _) _
            go_at_call 44
            refine (same09 false false 0 0 0 0 0 0 0 0 wB.heap.size wB.heap.size none none [] [] _ rfl rfl (by simp) (by simp) (Rd.none_ _ _ _) (Rd.none_ _ _ _) (fun b hb => by cases hb) (fun b hb => by cases hb) true (by simp)).mono ?_
            rintro e wD ⟨rfl, hbD⟩
            have hbBD := hbC.trans (hbD.mono (by simp))
            have HBD := Lib.hid (HBB.out.trans (hbBD.mono hsB))
            clear gAc0 gAc1 gAc2 gAc3 hbC hbD hbBD HBB hcL
            go_wp2
            go_roundw
            case rel => exact ⟨k + 1, by omega, by go_num, HBD.out⟩
            case measure => simp [intOf]; omega
      · obtain rfl : k = 4 := by omega
        have HBr := Lib.hid hB
        clear hB
        go_wp2
        go_ret
        exact ⟨rfl, HB0.out.trans (HBr.out.mono hsW)⟩
  · have hpr : pkRight a c m = 0 := HER.out.symm.trans h0
    have hal : a < 2048 ∧ c < 16384 ∧ m ≤ 200 := by
      have h := hpr
      unfold pkRight at h
      split at h
      · omega
      · split at h
        · omega
        · omega
    obtain ⟨hal, hcl, hml⟩ := hal
    subst h0
    obtain ⟨K, hK⟩ : ∃ K, K = mkPkt (if k then 1 else 0) a c d := ⟨_, rfl⟩
    obtain ⟨M, hM⟩ : ∃ M, M = m + 8 := ⟨_, rfl⟩
    have hKl : K.length = M := by rw [hK, mkPkt_len, HDL.out, hM]
    have hKb : bytes K := by rw [hK]; exact mkPkt_bytes (by split <;> omega) hal hcl (by rw [HDL.out]; omega) hdb
    rw [← hK, ← hM] at hown
    obtain ⟨ba, bc, rfl⟩ := own_form hown
    have hM8 : 8 ≤ M := by omega
    have hM9 : M ≤ 208 := by omega
    have HK := Lib.hid hK
    have HM := Lib.hid hM
    have HKL := Lib.hid hKl
    have HPR := Lib.hid hpr
    have HK5 := Lib.hid (rd_of_own (f := bv K) hown (fun i hi => bl_at K (by rw [HKL.out]; exact hi)))
    clear hK hM hKl hown hpr HER her5
    go_wp2_with (refine wpList_load_row rfl 56 _ rfl g rfl _ _ _ _ (H55.out) Try.underlying56 rfl size_pk ?_; (try go_simp))
    go_at_call 37
    refine (own09 k a c m q y _).mono ?_
    rintro e v1 ⟨rfl, hv1⟩
    go_wp2_with fail
    go_at_call 36
    refine (rRight09 k a c m q y _ (by omega) (by omega)).mono ?_
    rintro e v2 ⟨rfl, hv2⟩
    rw [HPR.out]
    have hb52 := hv1.trans (hv2.mono hv1.size)
    have h52 := (hb52.block g hz5).trans H55.out
    have hgv2 := (Array.getElem?_eq_some_iff.1 h52).1
    have HV2 := Lib.hid hb52
    skip
    have gc0 := cell_of_row v2 g 0 _ _ _ (h52)
    have gc1 := cell_of_row v2 g 1 _ _ _ (h52)
    have gc2 := cell_of_row v2 g 2 _ _ _ (h52)
    have gc3 := cell_of_row v2 g 3 _ _ _ (h52)
    clear hv1 hv2 hb52 h52
    go_wp2_with fail
    go_at_call 37
    refine (own09 k a c m q y _).mono ?_
    rintro e v3 ⟨rfl, hv3⟩
    have HV3 := Lib.hid (HV2.out.trans (hv3.mono HV2.out.size))
    have HRD3 := Lib.hid (rd_grow HRD5.out HV3.out)
    clear gc0 gc1 gc2 gc3 hv3 HV2 hgv2
    go_wp2_with fail
    go_at_call 39
    refine (rBytes09 k a c y m q _ d _ hal hcl HDL.out (Nat.le_refl _) HRD3.out hdb hml).mono ?_
    rintro e v4 ⟨v, rfl, hownF, hv4⟩
    rw [← HK.out, ← HM.out] at hownF
    obtain ⟨va, vc, rfl⟩ := own_form hownF
    have HV4 := Lib.hid (HV3.out.trans (hv4.mono HV3.out.size))
    have HVR := Lib.hid (rd_of_own (f := bv K) hownF (fun i hi => bl_at K (by rw [HKL.out]; exact hi)))
    have HK4 := Lib.hid (rd_grow HK5.out HV4.out)
    clear hownF hv4 HV3 HRD3
    go_wp2_with fail
    go_at_call 38
    refine (Same_any ba va M M bc vc _ _ K K _ HKL.out HKL.out HK4.out HVR.out hKb hKb).mono ?_
    rintro e w7 ⟨rfl, j7, hw7⟩
    simp only [decide_true]
    have hb47 : Below v4.heap.size v4 w7 := by rw [hw7]; exact below_drews _ _ _
    have hb57 := HV4.out.trans (hb47.mono HV4.out.size)
    have HR7 := Lib.hid (rd_grow HR5.out hb57)
    have HK7 := Lib.hid (rd_grow HK5.out hb57)
    have HB7 := Lib.hid (HB5.out.trans (hb57.mono hws5))
    have hws7 : w.heap.size ≤ w7.heap.size := HB7.out.size
    clear hw7 hb47 hb57 HV4 HVR HK4 HK5 HR5 HB5 HRD5 H55
    go_wp2_with fail
    skip
    go_at_call 40
    have hal : Below w7.heap.size w7 (w7.alloc (.cells #[.slice ra r rc] 54)) := (Below.refl _ _).alloc (Nat.le_refl _) _
    refine (Join1 HRR.out (heap_alloc_new _ _) (HR7.out.below hal) (by simp) (by rw [HRR.out]; omega)).mono ?_
    rintro e w8 ⟨v8, rfl, hown8, hb8⟩
    obtain ⟨na, nc, rfl⟩ := own_form hown8
    rw [HRR.out] at hown8 ⊢
    have hb78 := hal.trans (hb8.mono (by simp))
    have HN8 := Lib.hid (rd_of_own (f := bv R) hown8 (fun i hi => bl_at R (by rw [HRR.out]; exact hi)))
    have HR8 := Lib.hid (rd_grow HR7.out hb78)
    have HB8 := Lib.hid (HB7.out.trans (hb78.mono hws7))
    have hws8 : w.heap.size ≤ w8.heap.size := HB8.out.size
    clear hal hown8 hb8
    have HK8 := Lib.hid (rd_grow HK7.out hb78)
    clear hb78 HN8 HR7 HK7 HB7
    go_wp2_with fail
    go_at_call 40
    have hal8 : Below w8.heap.size w8 (w8.alloc (.cells #[.slice ba M bc] 54)) := (Below.refl _ _).alloc (Nat.le_refl _) _
    refine (Join1 HKL.out (heap_alloc_new _ _) (HK8.out.below hal8) (by simp) (by rw [HKL.out]; omega)).mono ?_
    rintro e x9 ⟨v9, rfl, hown, hb9⟩
    obtain ⟨g9, gc, rfl, hg9, hg9l⟩ := own_some hown (by rw [HKL.out]; omega)
    rw [HKL.out] at hown
    have hb89 := hal8.trans (hb9.mono (by simp))
    obtain ⟨u, hu⟩ : ∃ u, u = at_ % M := ⟨_, rfl⟩
    have huM : u < M := by rw [hu]; exact Nat.mod_lt _ (by omega)
    have hmod : Int.tmod (at_ : Int) (M : Int) = (u : Int) := by rw [Int.tmod_eq_emod_of_nonneg (by omega), hu]; simp
    have hmod2 : (at_ : Int) % (M : Int) = (u : Int) := by rw [hu]; simp
    have hc9 := hown.cellAt u (by omega)
    have hf9 := hown.frozenAt u
    rw [bl_at _ (by rw [HKL.out]; exact huM)] at hc9
    unfold bv at hc9
    have hy := hKb.at u
    have hset := set_bl K u (K.getD u 0 ^^^ tn)
    have hxl : K.getD u 0 ^^^ tn < 256 := Nat.xor_lt_two_pow (n := 8) hy (by omega)
    obtain ⟨yy, hy'⟩ : ∃ yy, yy = K.getD u 0 := ⟨_, rfl⟩
    rw [← hy'] at hc9 hy hset hxl
    have hxor := xor8 yy tn hy (by omega)
    have hDl : (K.set u (yy ^^^ tn)).length = M := by rw [List.length_set]; exact HKL.out
    have hDb : bytes (K.set u (yy ^^^ tn)) := set_bytes hKb u hxl
    obtain ⟨D, hD⟩ : ∃ D, D = K.set u (yy ^^^ tn) := ⟨_, rfl⟩
    rw [← hD] at hset hDl hDb
    have hmne : ((M : Int) == 0) = false := by rw [beq_eq_false_iff_ne]; omega
    have hgs : w8.heap.size ≤ g9 := by simp at hg9; omega
    have HO := Lib.hid hown
    have HSET := Lib.hid hset
    have HDLD := Lib.hid hDl
    have HB89 := Lib.hid hb89
    rw [HKL.out]
    clear hown hset hDl hb89 hb9 hal8 hu hy' hD hg9
    have hMr := rd_of_own (f := bv K) HO.out (fun i hi => bl_at K (by rw [HKL.out]; exact hi))
    have hMg := hMr.le
    have hMt := hMr.top
    unfold maxLen at hMt
    clear hMr
    cases mend
    · go_wp2_with fail
      obtain ⟨hown10, _⟩ := HO.out.stored u (.int .u8 ((yy ^^^ tn : Nat) : Int))
      rw [HSET.out] at hown10
      have hb810 := HB89.out.setCell (p := ⟨g9, u, none⟩) hgs (.int .u8 ((yy ^^^ tn : Nat) : Int))
      have hz10 : (x9.setCell ⟨g9, u, none⟩ (.int .u8 ((yy ^^^ tn : Nat) : Int))).heap.size = x9.heap.size := by simp
      have HK8' := Lib.hid (rd_grow HK8.out hb810)
      have HR8' := Lib.hid (rd_grow HR8.out hb810)
      have HB8' := Lib.hid (HB8.out.trans (hb810.mono hws8))
      obtain ⟨w10, hw10⟩ : ∃ w10, w10 = x9.setCell ⟨g9, u, none⟩ (.int .u8 ((yy ^^^ tn : Nat) : Int)) := ⟨_, rfl⟩
      rw [← hw10] at hown10 hb810 hz10 HK8' HR8' HB8' ⊢
      rw [← hz10]
      clear HK8 HR8 HB8 hc9 hf9 hw10 HO HSET HB89 hgs hz10 hmod hmod2 hxor hb810 hmne hg9l hws8
      have HN8 := Lib.hid (rd_of_own (f := bv D) hown10 (fun i hi => bl_at D (by rw [HDLD.out]; exact hi)))
      have HK8 := HK8'
      have HR8 := HR8'
      have HB8 := HB8'
      have hws8 : w.heap.size ≤ w10.heap.size := HB8.out.size
      have HNL := HDLD
      have hNb := hDb
      clear hown10 HK8' HR8' HB8'
      obtain ⟨w8, hw8⟩ : ∃ w8, w8 = w10 := ⟨_, rfl⟩
      subst hw8
      skip
      have hal : Below w8.heap.size w8 (w8.alloc (.cells #[.slice ba M bc, .slice ra r rc] 54)) := (Below.refl _ _).alloc (Nat.le_refl _) _
      have hll : (K ++ R).length = M + r := by rw [List.length_append, HKL.out, HRR.out]
      go_at_call 40
      refine (Join2 (n := w8.heap.size) (n' := w8.heap.size) HKL.out HRR.out (heap_alloc_new _ _) (HK8.out.below hal) (HR8.out.below hal) (by simp) (by simp) (by omega)).mono ?_
      rintro e w9 ⟨v9, rfl, hown9, hb9⟩
      obtain ⟨ja, jc, rfl⟩ := own_form hown9
      rw [hll] at hown9 ⊢
      obtain ⟨J, hJ⟩ : ∃ J, J = M + r := ⟨_, rfl⟩
      rw [← hJ] at hll hown9 ⊢
      have hJ2 : J ≤ 300 := by omega
      have hEb : bytes (K ++ R) := hKb.append hRb
      obtain ⟨E, hE⟩ : ∃ E, E = K ++ R := ⟨_, rfl⟩
      rw [← hE] at hll hown9 hEb
      have HEL := Lib.hid hll
      have hb89 := hal.trans (hb9.mono (by simp))
      have HE9 := Lib.hid (rd_of_own (f := bv E) hown9 (fun i hi => bl_at E (by rw [HEL.out]; exact hi)))
      have HK9 := Lib.hid (rd_grow HK8.out hb89)
      have HN9 := Lib.hid (rd_grow HN8.out hb89)
      have HR9 := Lib.hid (rd_grow HR8.out hb89)
      have HB9 := Lib.hid (HB8.out.trans (hb89.mono hws8))
      have hws9 : w.heap.size ≤ w9.heap.size := HB9.out.size
      clear hal hll hown9 hb9 hb89 hE hJ HK8 HN8 HR8 HB8
      go_wp2
      have hbx := heap_alloc_new w9 (.cells #[.slice ba M bc, .slice (some ⟨g9, 0, none⟩) M gc, .slice ra r rc, .slice ja J jc] 54)
      have hal : Below w9.heap.size w9 (w9.alloc (.cells #[.slice ba M bc, .slice (some ⟨g9, 0, none⟩) M gc, .slice ra r rc, .slice ja J jc] 54)) := (Below.refl _ _).alloc (Nat.le_refl _) _
      have hr4 := (rd_four hbx (lt_of_heap hbx)).same (g := fun i => .slice (sel4 ba (some ⟨g9, 0, none⟩) ra ja i) (sel4 K D R E i).length (sel4 bc gc rc jc i)) (fun i hi => sel4_rd HKL.out HNL.out HRR.out HEL.out i)
      obtain ⟨W0, hW0⟩ : ∃ W0, W0 = w9.alloc (.cells #[.slice ba M bc, .slice (some ⟨g9, 0, none⟩) M gc, .slice ra r rc, .slice ja J jc] 54) := ⟨_, rfl⟩
      obtain ⟨gL, hgL⟩ : ∃ gL, gL = w9.heap.size := ⟨_, rfl⟩
      rw [← hW0, ← hgL] at hr4
      rw [← hW0] at hal
      rw [← hW0, ← hgL]
      have HB0 := Lib.hid (HB9.out.trans (hal.mono hws9))
      have hrows : ∀ i, i < 4 → Rd W0.heap.size W0 (sel4 ba (some ⟨g9, 0, none⟩) ra ja i) (sel4 K D R E i).length (sel4 bc gc rc jc i) (bv (sel4 K D R E i)) := by
        intro i hi
        have : i = 0 ∨ i = 1 ∨ i = 2 ∨ i = 3 := by omega
        rcases this with rfl | rfl | rfl | rfl
        · show Rd _ _ ba (K).length bc (bv K); rw [HKL.out]; exact rd_grow HK9.out hal
        · show Rd _ _ (some ⟨g9, 0, none⟩) (D).length gc (bv D); rw [HNL.out]; exact rd_grow HN9.out hal
        · show Rd _ _ ra R.length rc (bv R); rw [HRR.out]; exact rd_grow HR9.out hal
        · show Rd _ _ ja E.length jc (bv E); rw [HEL.out]; exact rd_grow HE9.out hal
      have hbys : ∀ i, bytes (sel4 K D R E i) ∧ (sel4 K D R E i).length ≤ 1000 := sel4_every (p := fun l => bytes l ∧ l.length ≤ 1000) ⟨hKb, by rw [HKL.out]; omega⟩ ⟨hNb, by rw [HNL.out]; omega⟩ ⟨hRb, by rw [HRR.out]; omega⟩ ⟨hEb, by rw [HEL.out]; omega⟩
      obtain ⟨ls, hls⟩ : ∃ ls, ls = sel4 K D R E := ⟨_, rfl⟩
      obtain ⟨qa, hqa⟩ : ∃ qa, qa = sel4 ba (some ⟨g9, 0, none⟩) ra ja := ⟨_, rfl⟩
      obtain ⟨qc, hqc⟩ : ∃ qc, qc = sel4 bc gc rc jc := ⟨_, rfl⟩
      rw [← hls, ← hqa, ← hqc] at hr4 hrows
      rw [← hls] at hbys
      have HR4 := Lib.hid hr4
      have HROWS := Lib.hid hrows
      have HBY := Lib.hid hbys
      have hsW : w.heap.size ≤ W0.heap.size := HB0.out.size
      clear hW0 hgL hbx hal hr4 hrows hbys hls hqa hqc HK9 HN9 HR9 HE9 HB9 hws9 hws8
      go_loopw [92] (fun i wr => ∃ k : Nat, k ≤ 4 ∧ i = .int .i64 k ∧ Below W0.heap.size W0 wr) (fun i _ => 4 - (intOf i).toNat)
      case atStart => exact ⟨0, by omega, rfl, Below.refl _ _⟩
      case round =>
        obtain ⟨k, hk, rfl, hB⟩ := hrel
        have hsr : W0.heap.size ≤ wr.heap.size := hB.size
        by_cases hlt : k < 4
        · obtain ⟨bL, oL, he, hbL, hcL⟩ := (HR4.out.below hB).at hlt
          injection he with he
          injection he with he1 he2
          subst he1 he2
          rw [Nat.zero_add] at hcL
          have hrow := (HROWS.out k hlt).below hB
          obtain ⟨hlb, hll⟩ := HBY.out k
          obtain ⟨l, hl⟩ : ∃ l, l = ls k := ⟨_, rfl⟩
          obtain ⟨n, hn⟩ : ∃ n, n = (ls k).length := ⟨_, rfl⟩
          obtain ⟨xa, hxa⟩ : ∃ xa, xa = qa k := ⟨_, rfl⟩
          obtain ⟨xc, hxc⟩ : ∃ xc, xc = qc k := ⟨_, rfl⟩
          rw [← hn, ← hxa, ← hxc] at hcL
          rw [← hn, ← hxa, ← hxc, ← hl] at hrow
          rw [← hl] at hlb
          rw [← hn] at hll
          have hln : l.length = n := by rw [hl, hn]
          have HLN := Lib.hid hln
          have HROW := Lib.hid hrow
          have HB := Lib.hid hB
          clear hl hn hxa hxc hln hrow hB
          go_wp2_with fail
          go_at_call 42
          refine (pParse_any xa n xc W0.heap.size l _ HLN.out hsr HROW.out hlb (by omega)).mono ?_
          rintro e w1 ⟨hb1, hpo⟩
          have HB1 := Lib.hid (HB.out.trans (hb1.mono hsr))
          have HROW1 := Lib.hid (HROW.out.below' hb1 hsr)
          have hs1 : W0.heap.size ≤ w1.heap.size := HB1.out.size
          rcases hpo with ⟨he, x3, c3, rfl, hr3⟩ | ⟨he, rfl⟩
          · obtain ⟨h9, h208, _, _, _⟩ := pkErr_ok he
            have hmk := mkPkt_of hlb he
            have hpb := pdat_bytes hlb
            have hpl := pdat_len (l := l) (by omega)
            have hal := pkA_lt l
            have hcl := pkC_lt l
            have HE0 := Lib.hid he
            rw [HLN.out] at hpl h9 h208
            obtain ⟨D, hD⟩ : ∃ D, D = pdat l := ⟨_, rfl⟩
            obtain ⟨dl, hdl⟩ : ∃ dl, dl = (pdat l).length := ⟨_, rfl⟩
            obtain ⟨kk, hkk⟩ : ∃ kk, kk = pkK l := ⟨_, rfl⟩
            obtain ⟨ka, hka⟩ : ∃ ka, ka = pkA l := ⟨_, rfl⟩
            obtain ⟨kc, hkc⟩ : ∃ kc, kc = pkC l := ⟨_, rfl⟩
            have hDl : D.length = dl := by rw [hD, hdl]
            rw [← hdl, ← hD] at hr3
            rw [← hdl] at hpl
            rw [← hD] at hpb
            rw [← hkk, ← hka, ← hkc, ← hD] at hmk
            rw [← hka] at hal
            rw [← hkc] at hcl
            have hdn : dl + 8 = n := by omega
            have hd2 : dl ≤ 200 := by omega
            have HMK := Lib.hid hmk
            have HDL' := Lib.hid hDl
            have HDN := Lib.hid hdn
            have HR3 := Lib.hid hr3
            rw [← hkk, ← hka, ← hkc, ← hdl]
            have HD := Lib.hid hD
            have HDLE := Lib.hid hdl
            have HKK := Lib.hid hkk
            have HKA := Lib.hid hka
            have HKC := Lib.hid hkc
            clear hD hdl hkk hka hkc hDl hr3 hmk hdn hpl he hb1 h9 h208
            go_wp2_with fail
            have hA := heap_alloc_new w1 (.cells #[.bool kk, .int .u16 (ka : Nat), .int .u16 (kc : Nat), .slice x3 dl c3] 56)
            have hbA : Below w1.heap.size w1 (w1.alloc (.cells #[.bool kk, .int .u16 (ka : Nat), .int .u16 (kc : Nat), .slice x3 dl c3] 56)) := (Below.refl _ _).alloc (Nat.le_refl _) _
            obtain ⟨wA, hwA⟩ : ∃ wA, wA = w1.alloc (.cells #[.bool kk, .int .u16 (ka : Nat), .int .u16 (kc : Nat), .slice x3 dl c3] 56) := ⟨_, rfl⟩
            obtain ⟨gA, hgA⟩ : ∃ gA, gA = w1.heap.size := ⟨_, rfl⟩
            rw [← hwA] at hA hbA ⊢
            rw [← hgA] at hA ⊢
            have HBA := Lib.hid (HB1.out.trans (hbA.mono hs1))
            have HROWA := Lib.hid (HROW1.out.below' hbA hs1)
            have HR3A := Lib.hid (rd_grow HR3.out hbA)
            have HA := Lib.hid hA
            have hgl := (Array.getElem?_eq_some_iff.1 hA).1
            have hsA : W0.heap.size ≤ wA.heap.size := HBA.out.size
            clear hwA hgA hA hbA HB1 HROW1 HR3
            go_at_call 43
            refine (rParse09 xa n xc W0.heap.size l _ HLN.out hsA HROWA.out hlb (by omega)).mono ?_
            rintro e wB ⟨hbB, hpo⟩
            rcases hpo with ⟨_, x4, c4, rfl, hr4⟩ | ⟨hne, _⟩
            · rw [← HD.out, HDL'.out] at hr4
              rw [← HKK.out, ← HKA.out, ← HKC.out, ← HDLE.out]
              have HBB := Lib.hid (HBA.out.trans (hbB.mono hsA))
              have HROWB := Lib.hid (HROWA.out.below' hbB hsA)
              have HR3B := Lib.hid (rd_grow HR3A.out hbB)
              have HR4B := Lib.hid hr4
              have hAB := (hbB.block gA hgl).trans HA.out
              have hglB : gA < wB.heap.size := Nat.lt_of_lt_of_le hgl hbB.size
              have hsB : W0.heap.size ≤ wB.heap.size := HBB.out.size
              skip
              have gAc0 := cell_of_row wB gA 0 _ _ _ (hAB)
              have gAc1 := cell_of_row wB gA 1 _ _ _ (hAB)
              have gAc2 := cell_of_row wB gA 2 _ _ _ (hAB)
              have gAc3 := cell_of_row wB gA 3 _ _ _ (hAB)
              have HAB := Lib.hid hAB
              clear hr4 hbB HBA HROWA HR3A HA hAB hgl
              go_wp2_with fail
              have hbC : Below wB.heap.size wB (wB.alloc (.cells #[.bool kk, .int .u16 (ka : Nat), .int .u16 (kc : Nat), .slice x4 dl c4] 62)) := (Below.refl _ _).alloc (Nat.le_refl _) _
              go_at_call 44
              refine (same09 kk kk ka kc ka kc dl c3 dl c4 wB.heap.size wB.heap.size x3 x4 D D _ HDL'.out HDL'.out (by simp) (by simp) (HR3B.out.below hbC) (HR4B.out.below hbC) hpb hpb true (by simp)).mono ?_
              rintro e wD ⟨rfl, hbD⟩
              have hbBD := hbC.trans (hbD.mono (by simp))
              have HBD := Lib.hid (HBB.out.trans (hbBD.mono hsB))
              have HROWD := Lib.hid (HROWB.out.below' hbBD hsB)
              have HR3D := Lib.hid (rd_grow HR3B.out hbBD)
              have hAD := (hbBD.block gA hglB).trans HAB.out
              have hsD : W0.heap.size ≤ wD.heap.size := HBD.out.size
              clear gAc0 gAc1 gAc2 gAc3 hbC hbD hbBD HBB HROWB HR3B HR4B HAB hglB hsB
              skip
              have gAc0 := cell_of_row wD gA 0 _ _ _ (hAD)
              have gAc1 := cell_of_row wD gA 1 _ _ _ (hAD)
              have gAc2 := cell_of_row wD gA 2 _ _ _ (hAD)
              have gAc3 := cell_of_row wD gA 3 _ _ _ (hAD)
              clear hAD
              go_wp2_with fail
              go_at_call 37
              refine (own09 kk ka kc dl c3 x3 _).mono ?_
              rintro e wE ⟨rfl, hbE⟩
              have HBE := Lib.hid (HBD.out.trans (hbE.mono hsD))
              have HROWE := Lib.hid (HROWD.out.below' hbE hsD)
              have HR3E := Lib.hid (rd_grow HR3D.out hbE)
              have hsE : W0.heap.size ≤ wE.heap.size := HBE.out.size
              clear gAc0 gAc1 gAc2 gAc3 hbE HBD HROWD HR3D hsD
              go_wp2_with fail
              go_at_call 39
              refine (rBytes09 kk ka kc x3 dl c3 wE.heap.size D _ hal hcl HDL'.out (Nat.le_refl _) HR3E.out hpb hd2).mono ?_
              rintro e wF ⟨v, rfl, hownF, hbF⟩
              rw [HMK.out, HDN.out] at hownF
              obtain ⟨va, vc, rfl⟩ := own_form hownF
              have HRF := Lib.hid (rd_of_own (f := bv l) hownF (fun i hi => bl_at l (by rw [HLN.out]; exact hi)))
              have HROWF := Lib.hid (HROWE.out.below' hbF hsE)
              have HBF := Lib.hid (HBE.out.trans (hbF.mono hsE))
              clear hownF hbF HBE HROWE HR3E
              go_wp2_with fail
              go_at_call 38
              refine (Same_any va xa n n vc xc _ _ l l _ HLN.out HLN.out HRF.out HROWF.out hlb hlb).mono ?_
              rintro e wG ⟨rfl, jG, rfl⟩
              simp only [decide_true]
              have HBG := Lib.hid (HBF.out.trans (below_drews _ wF jG))
              clear HBF HRF HROWF hcL
              go_wp2
              go_roundw
              case rel => exact ⟨k + 1, by omega, by go_num, HBG.out⟩
              case measure => simp [intOf]; omega
            · exact absurd HE0.out hne
          · have HE0 := Lib.hid he
            have hpl := pkErr_lt l
            obtain ⟨et, het⟩ : ∃ et, et = pkErr l := ⟨_, rfl⟩
            rw [← het] at he hpl
            have HET := Lib.hid het
            have hne0 : ((et : Int) == 0) = false := by rw [beq_eq_false_iff_ne]; omega
            rw [← het]
            clear het hb1
            go_wp2_with fail
            have hA := heap_alloc_new w1 (.cells #[.bool false, .int .u16 0, .int .u16 0, .slice none 0 0] 56)
            have hbA : Below w1.heap.size w1 (w1.alloc (.cells #[.bool false, .int .u16 0, .int .u16 0, .slice none 0 0] 56)) := (Below.refl _ _).alloc (Nat.le_refl _) _
            obtain ⟨wA, hwA⟩ : ∃ wA, wA = w1.alloc (.cells #[.bool false, .int .u16 0, .int .u16 0, .slice none 0 0] 56) := ⟨_, rfl⟩
            obtain ⟨gA, hgA⟩ : ∃ gA, gA = w1.heap.size := ⟨_, rfl⟩
            rw [← hwA] at hA hbA ⊢
            rw [← hgA] at hA ⊢
            have HBA := Lib.hid (HB1.out.trans (hbA.mono hs1))
            have HROWA := Lib.hid (HROW1.out.below' hbA hs1)
            have HA := Lib.hid hA
            have hgl := (Array.getElem?_eq_some_iff.1 hA).1
            have hsA : W0.heap.size ≤ wA.heap.size := HBA.out.size
            clear hwA hgA hA hbA HB1 HROW1
            go_at_call 43
            refine (rParse09 xa n xc W0.heap.size l _ HLN.out hsA HROWA.out hlb (by omega)).mono ?_
            rintro e wB ⟨hbB, hpo⟩
            rcases hpo with ⟨h0, _⟩ | ⟨_, rfl⟩
            · exact absurd h0 HE0.out
            · rw [← HET.out]
              have HBB := Lib.hid (HBA.out.trans (hbB.mono hsA))
              have hAB := (hbB.block gA hgl).trans HA.out
              have hglB : gA < wB.heap.size := Nat.lt_of_lt_of_le hgl hbB.size
              have hsB : W0.heap.size ≤ wB.heap.size := HBB.out.size
              skip
              have gAc0 := cell_of_row wB gA 0 _ _ _ (hAB)
              have gAc1 := cell_of_row wB gA 1 _ _ _ (hAB)
              have gAc2 := cell_of_row wB gA 2 _ _ _ (hAB)
              have gAc3 := cell_of_row wB gA 3 _ _ _ (hAB)
              clear hbB HBA HROWA HA hAB hgl
              go_wp2_with fail
              have hbC : Below wB.heap.size wB (wB.alloc (.cells #[.bool false, .int .u16 0, .int .u16 0, .slice none 0 0] 62)) := (Below.refl _ _).alloc (Nat.le_refl _) _
              go_at_call 44
              refine (same09 false false 0 0 0 0 0 0 0 0 wB.heap.size wB.heap.size none none [] [] _ rfl rfl (by simp) (by simp) (Rd.none_ _ _ _) (Rd.none_ _ _ _) (fun b hb => by cases hb) (fun b hb => by cases hb) true (by simp)).mono ?_
              rintro e wD ⟨rfl, hbD⟩
              have hbBD := hbC.trans (hbD.mono (by simp))
              have HBD := Lib.hid (HBB.out.trans (hbBD.mono hsB))
              clear gAc0 gAc1 gAc2 gAc3 hbC hbD hbBD HBB hcL
              go_wp2
              go_roundw
              case rel => exact ⟨k + 1, by omega, by go_num, HBD.out⟩
              case measure => simp [intOf]; omega
        · obtain rfl : k = 4 := by omega
          have HBr := Lib.hid hB
          clear hB
          go_wp2
          go_ret
          exact ⟨rfl, HB0.out.trans (HBr.out.mono hsW)⟩
    · go_wp2_with fail
      obtain ⟨hown10, _⟩ := HO.out.stored u (.int .u8 ((yy ^^^ tn : Nat) : Int))
      rw [HSET.out] at hown10
      have hb810 := HB89.out.setCell (p := ⟨g9, u, none⟩) hgs (.int .u8 ((yy ^^^ tn : Nat) : Int))
      have HK8' := Lib.hid (rd_grow HK8.out hb810)
      have HR8' := Lib.hid (rd_grow HR8.out hb810)
      have HB8' := Lib.hid (HB8.out.trans (hb810.mono hws8))
      obtain ⟨w10, hw10⟩ : ∃ w10, w10 = x9.setCell ⟨g9, u, none⟩ (.int .u8 ((yy ^^^ tn : Nat) : Int)) := ⟨_, rfl⟩
      rw [← hw10] at hown10 hb810 HK8' HR8' HB8' ⊢
      clear HK8 HR8 HB8 hc9 hf9 hw10 HO HSET HB89 hgs hmod hmod2 hxor hb810 hmne hg9l hws8
      have hN10 := rd_of_own (f := bv D) hown10 (fun i hi => bl_at D (by rw [HDLD.out]; exact hi))
      obtain ⟨M2, hM2⟩ : ∃ M2, M2 = M - 2 := ⟨_, rfl⟩
      have hNt : Rd w10.heap.size w10 (some ⟨g9, 0, none⟩) M2 gc (bv (D.take M2)) := (hN10.first (by omega)).same (fun i hi => by unfold bv; simp [List.getD, List.getElem?_take, hi])
      have hDt : (D.take M2).length = M2 := by rw [List.length_take, HDLD.out]; omega
      have hDtb := hDb.take M2
      obtain ⟨Dt, hDt'⟩ : ∃ Dt, Dt = D.take M2 := ⟨_, rfl⟩
      rw [← hDt'] at hNt hDt hDtb
      have hwl := whole_len Dt
      rw [hDt, show M2 + 2 = M by omega] at hwl
      have HNT := Lib.hid hNt
      have HDT := Lib.hid hDt
      have HWL := Lib.hid hwl
      rw [← hM2]
      clear hN10 hown10 hNt hDt hwl hDt' HDLD hDb
      go_at_call 41
      refine (rAppend_any (some ⟨g9, 0, none⟩) M2 gc _ Dt _ HDT.out (Nat.le_refl _) HNT.out hDtb (by omega)).mono ?_
      rintro e w11 ⟨v, rfl, hown11, hb11⟩
      rw [show M2 + 2 = M by omega] at hown11
      obtain ⟨ta', tc, rfl⟩ := own_form hown11
      have hNb : bytes (whole Dt) := whole_bytes hDtb
      obtain ⟨N, hN⟩ : ∃ N, N = whole Dt := ⟨_, rfl⟩
      rw [← hN] at hown11 hNb HWL
      have HN8 := Lib.hid (rd_of_own (f := bv N) hown11 (fun i hi => bl_at N (by rw [HWL.out]; exact hi)))
      have HK8 := Lib.hid (rd_grow HK8'.out hb11)
      have HR8 := Lib.hid (rd_grow HR8'.out hb11)
      have HB8 := Lib.hid (HB8'.out.trans (hb11.mono HB8'.out.size))
      have hws8 : w.heap.size ≤ w11.heap.size := HB8.out.size
      have HNL := HWL
      clear hown11 hb11 HK8' HR8' HB8' hN HNT HDT hDtb hM2
      go_wp2_with fail
      obtain ⟨w8, hw8⟩ : ∃ w8, w8 = w11 := ⟨_, rfl⟩
      subst hw8
      skip
      have hal : Below w8.heap.size w8 (w8.alloc (.cells #[.slice ba M bc, .slice ra r rc] 54)) := (Below.refl _ _).alloc (Nat.le_refl _) _
      have hll : (K ++ R).length = M + r := by rw [List.length_append, HKL.out, HRR.out]
      go_at_call 40
      refine (Join2 (n := w8.heap.size) (n' := w8.heap.size) HKL.out HRR.out (heap_alloc_new _ _) (HK8.out.below hal) (HR8.out.below hal) (by simp) (by simp) (by omega)).mono ?_
      rintro e w9 ⟨v9, rfl, hown9, hb9⟩
      obtain ⟨ja, jc, rfl⟩ := own_form hown9
      rw [hll] at hown9 ⊢
      obtain ⟨J, hJ⟩ : ∃ J, J = M + r := ⟨_, rfl⟩
      rw [← hJ] at hll hown9 ⊢
      have hJ2 : J ≤ 300 := by omega
      have hEb : bytes (K ++ R) := hKb.append hRb
      obtain ⟨E, hE⟩ : ∃ E, E = K ++ R := ⟨_, rfl⟩
      rw [← hE] at hll hown9 hEb
      have HEL := Lib.hid hll
      have hb89 := hal.trans (hb9.mono (by simp))
      have HE9 := Lib.hid (rd_of_own (f := bv E) hown9 (fun i hi => bl_at E (by rw [HEL.out]; exact hi)))
      have HK9 := Lib.hid (rd_grow HK8.out hb89)
      have HN9 := Lib.hid (rd_grow HN8.out hb89)
      have HR9 := Lib.hid (rd_grow HR8.out hb89)
      have HB9 := Lib.hid (HB8.out.trans (hb89.mono hws8))
      have hws9 : w.heap.size ≤ w9.heap.size := HB9.out.size
      clear hal hll hown9 hb9 hb89 hE hJ HK8 HN8 HR8 HB8
      go_wp2
      have hbx := heap_alloc_new w9 (.cells #[.slice ba M bc, .slice ta' M tc, .slice ra r rc, .slice ja J jc] 54)
      have hal : Below w9.heap.size w9 (w9.alloc (.cells #[.slice ba M bc, .slice ta' M tc, .slice ra r rc, .slice ja J jc] 54)) := (Below.refl _ _).alloc (Nat.le_refl _) _
      have hr4 := (rd_four hbx (lt_of_heap hbx)).same (g := fun i => .slice (sel4 ba ta' ra ja i) (sel4 K N R E i).length (sel4 bc tc rc jc i)) (fun i hi => sel4_rd HKL.out HNL.out HRR.out HEL.out i)
      obtain ⟨W0, hW0⟩ : ∃ W0, W0 = w9.alloc (.cells #[.slice ba M bc, .slice ta' M tc, .slice ra r rc, .slice ja J jc] 54) := ⟨_, rfl⟩
      obtain ⟨gL, hgL⟩ : ∃ gL, gL = w9.heap.size := ⟨_, rfl⟩
      rw [← hW0, ← hgL] at hr4
      rw [← hW0] at hal
      rw [← hW0, ← hgL]
      have HB0 := Lib.hid (HB9.out.trans (hal.mono hws9))
      have hrows : ∀ i, i < 4 → Rd W0.heap.size W0 (sel4 ba ta' ra ja i) (sel4 K N R E i).length (sel4 bc tc rc jc i) (bv (sel4 K N R E i)) := by
        intro i hi
        have : i = 0 ∨ i = 1 ∨ i = 2 ∨ i = 3 := by omega
        rcases this with rfl | rfl | rfl | rfl
        · show Rd _ _ ba (K).length bc (bv K); rw [HKL.out]; exact rd_grow HK9.out hal
        · show Rd _ _ ta' (N).length tc (bv N); rw [HNL.out]; exact rd_grow HN9.out hal
        · show Rd _ _ ra R.length rc (bv R); rw [HRR.out]; exact rd_grow HR9.out hal
        · show Rd _ _ ja E.length jc (bv E); rw [HEL.out]; exact rd_grow HE9.out hal
      have hbys : ∀ i, bytes (sel4 K N R E i) ∧ (sel4 K N R E i).length ≤ 1000 := sel4_every (p := fun l => bytes l ∧ l.length ≤ 1000) ⟨hKb, by rw [HKL.out]; omega⟩ ⟨hNb, by rw [HNL.out]; omega⟩ ⟨hRb, by rw [HRR.out]; omega⟩ ⟨hEb, by rw [HEL.out]; omega⟩
      obtain ⟨ls, hls⟩ : ∃ ls, ls = sel4 K N R E := ⟨_, rfl⟩
      obtain ⟨qa, hqa⟩ : ∃ qa, qa = sel4 ba ta' ra ja := ⟨_, rfl⟩
      obtain ⟨qc, hqc⟩ : ∃ qc, qc = sel4 bc tc rc jc := ⟨_, rfl⟩
      rw [← hls, ← hqa, ← hqc] at hr4 hrows
      rw [← hls] at hbys
      have HR4 := Lib.hid hr4
      have HROWS := Lib.hid hrows
      have HBY := Lib.hid hbys
      have hsW : w.heap.size ≤ W0.heap.size := HB0.out.size
      clear hW0 hgL hbx hal hr4 hrows hbys hls hqa hqc HK9 HN9 HR9 HE9 HB9 hws9 hws8
      go_loopw [92] (fun i wr => ∃ k : Nat, k ≤ 4 ∧ i = .int .i64 k ∧ Below W0.heap.size W0 wr) (fun i _ => 4 - (intOf i).toNat)
      case atStart => exact ⟨0, by omega, rfl, Below.refl _ _⟩
      case round =>
        obtain ⟨k, hk, rfl, hB⟩ := hrel
        have hsr : W0.heap.size ≤ wr.heap.size := hB.size
        by_cases hlt : k < 4
        · obtain ⟨bL, oL, he, hbL, hcL⟩ := (HR4.out.below hB).at hlt
          injection he with he
          injection he with he1 he2
          subst he1 he2
          rw [Nat.zero_add] at hcL
          have hrow := (HROWS.out k hlt).below hB
          obtain ⟨hlb, hll⟩ := HBY.out k
          obtain ⟨l, hl⟩ : ∃ l, l = ls k := ⟨_, rfl⟩
          obtain ⟨n, hn⟩ : ∃ n, n = (ls k).length := ⟨_, rfl⟩
          obtain ⟨xa, hxa⟩ : ∃ xa, xa = qa k := ⟨_, rfl⟩
          obtain ⟨xc, hxc⟩ : ∃ xc, xc = qc k := ⟨_, rfl⟩
          rw [← hn, ← hxa, ← hxc] at hcL
          rw [← hn, ← hxa, ← hxc, ← hl] at hrow
          rw [← hl] at hlb
          rw [← hn] at hll
          have hln : l.length = n := by rw [hl, hn]
          have HLN := Lib.hid hln
          have HROW := Lib.hid hrow
          have HB := Lib.hid hB
          clear hl hn hxa hxc hln hrow hB
          go_wp2_with fail
          go_at_call 42
          refine (pParse_any xa n xc W0.heap.size l _ HLN.out hsr HROW.out hlb (by omega)).mono ?_
          rintro e w1 ⟨hb1, hpo⟩
          have HB1 := Lib.hid (HB.out.trans (hb1.mono hsr))
          have HROW1 := Lib.hid (HROW.out.below' hb1 hsr)
          have hs1 : W0.heap.size ≤ w1.heap.size := HB1.out.size
          rcases hpo with ⟨he, x3, c3, rfl, hr3⟩ | ⟨he, rfl⟩
          · obtain ⟨h9, h208, _, _, _⟩ := pkErr_ok he
            have hmk := mkPkt_of hlb he
            have hpb := pdat_bytes hlb
            have hpl := pdat_len (l := l) (by omega)
            have hal := pkA_lt l
            have hcl := pkC_lt l
            have HE0 := Lib.hid he
            rw [HLN.out] at hpl h9 h208
            obtain ⟨D, hD⟩ : ∃ D, D = pdat l := ⟨_, rfl⟩
            obtain ⟨dl, hdl⟩ : ∃ dl, dl = (pdat l).length := ⟨_, rfl⟩
            obtain ⟨kk, hkk⟩ : ∃ kk, kk = pkK l := ⟨_, rfl⟩
            obtain ⟨ka, hka⟩ : ∃ ka, ka = pkA l := ⟨_, rfl⟩
            obtain ⟨kc, hkc⟩ : ∃ kc, kc = pkC l := ⟨_, rfl⟩
            have hDl : D.length = dl := by rw [hD, hdl]
            rw [← hdl, ← hD] at hr3
            rw [← hdl] at hpl
            rw [← hD] at hpb
            rw [← hkk, ← hka, ← hkc, ← hD] at hmk
            rw [← hka] at hal
            rw [← hkc] at hcl
            have hdn : dl + 8 = n := by omega
            have hd2 : dl ≤ 200 := by omega
            have HMK := Lib.hid hmk
            have HDL' := Lib.hid hDl
            have HDN := Lib.hid hdn
            have HR3 := Lib.hid hr3
            rw [← hkk, ← hka, ← hkc, ← hdl]
            have HD := Lib.hid hD
            have HDLE := Lib.hid hdl
            have HKK := Lib.hid hkk
            have HKA := Lib.hid hka
            have HKC := Lib.hid hkc
            clear hD hdl hkk hka hkc hDl hr3 hmk hdn hpl he hb1 h9 h208
            go_wp2_with fail
            have hA := heap_alloc_new w1 (.cells #[.bool kk, .int .u16 (ka : Nat), .int .u16 (kc : Nat), .slice x3 dl c3] 56)
            have hbA : Below w1.heap.size w1 (w1.alloc (.cells #[.bool kk, .int .u16 (ka : Nat), .int .u16 (kc : Nat), .slice x3 dl c3] 56)) := (Below.refl _ _).alloc (Nat.le_refl _) _
            obtain ⟨wA, hwA⟩ : ∃ wA, wA = w1.alloc (.cells #[.bool kk, .int .u16 (ka : Nat), .int .u16 (kc : Nat), .slice x3 dl c3] 56) := ⟨_, rfl⟩
            obtain ⟨gA, hgA⟩ : ∃ gA, gA = w1.heap.size := ⟨_, rfl⟩
            rw [← hwA] at hA hbA ⊢
            rw [← hgA] at hA ⊢
            have HBA := Lib.hid (HB1.out.trans (hbA.mono hs1))
            have HROWA := Lib.hid (HROW1.out.below' hbA hs1)
            have HR3A := Lib.hid (rd_grow HR3.out hbA)
            have HA := Lib.hid hA
            have hgl := (Array.getElem?_eq_some_iff.1 hA).1
            have hsA : W0.heap.size ≤ wA.heap.size := HBA.out.size
            clear hwA hgA hA hbA HB1 HROW1 HR3
            go_at_call 43
            refine (rParse09 xa n xc W0.heap.size l _ HLN.out hsA HROWA.out hlb (by omega)).mono ?_
            rintro e wB ⟨hbB, hpo⟩
            rcases hpo with ⟨_, x4, c4, rfl, hr4⟩ | ⟨hne, _⟩
            · rw [← HD.out, HDL'.out] at hr4
              rw [← HKK.out, ← HKA.out, ← HKC.out, ← HDLE.out]
              have HBB := Lib.hid (HBA.out.trans (hbB.mono hsA))
              have HROWB := Lib.hid (HROWA.out.below' hbB hsA)
              have HR3B := Lib.hid (rd_grow HR3A.out hbB)
              have HR4B := Lib.hid hr4
              have hAB := (hbB.block gA hgl).trans HA.out
              have hglB : gA < wB.heap.size := Nat.lt_of_lt_of_le hgl hbB.size
              have hsB : W0.heap.size ≤ wB.heap.size := HBB.out.size
              skip
              have gAc0 := cell_of_row wB gA 0 _ _ _ (hAB)
              have gAc1 := cell_of_row wB gA 1 _ _ _ (hAB)
              have gAc2 := cell_of_row wB gA 2 _ _ _ (hAB)
              have gAc3 := cell_of_row wB gA 3 _ _ _ (hAB)
              have HAB := Lib.hid hAB
              clear hr4 hbB HBA HROWA HR3A HA hAB hgl
              go_wp2_with fail
              have hbC : Below wB.heap.size wB (wB.alloc (.cells #[.bool kk, .int .u16 (ka : Nat), .int .u16 (kc : Nat), .slice x4 dl c4] 62)) := (Below.refl _ _).alloc (Nat.le_refl _) _
              go_at_call 44
              refine (same09 kk kk ka kc ka kc dl c3 dl c4 wB.heap.size wB.heap.size x3 x4 D D _ HDL'.out HDL'.out (by simp) (by simp) (HR3B.out.below hbC) (HR4B.out.below hbC) hpb hpb true (by simp)).mono ?_
              rintro e wD ⟨rfl, hbD⟩
              have hbBD := hbC.trans (hbD.mono (by simp))
              have HBD := Lib.hid (HBB.out.trans (hbBD.mono hsB))
              have HROWD := Lib.hid (HROWB.out.below' hbBD hsB)
              have HR3D := Lib.hid (rd_grow HR3B.out hbBD)
              have hAD := (hbBD.block gA hglB).trans HAB.out
              have hsD : W0.heap.size ≤ wD.heap.size := HBD.out.size
              clear gAc0 gAc1 gAc2 gAc3 hbC hbD hbBD HBB HROWB HR3B HR4B HAB hglB hsB
              skip
              have gAc0 := cell_of_row wD gA 0 _ _ _ (hAD)
              have gAc1 := cell_of_row wD gA 1 _ _ _ (hAD)
              have gAc2 := cell_of_row wD gA 2 _ _ _ (hAD)
              have gAc3 := cell_of_row wD gA 3 _ _ _ (hAD)
              clear hAD
              go_wp2_with fail
              go_at_call 37
              refine (own09 kk ka kc dl c3 x3 _).mono ?_
              rintro e wE ⟨rfl, hbE⟩
              have HBE := Lib.hid (HBD.out.trans (hbE.mono hsD))
              have HROWE := Lib.hid (HROWD.out.below' hbE hsD)
              have HR3E := Lib.hid (rd_grow HR3D.out hbE)
              have hsE : W0.heap.size ≤ wE.heap.size := HBE.out.size
              clear gAc0 gAc1 gAc2 gAc3 hbE HBD HROWD HR3D hsD
              go_wp2_with fail
              go_at_call 39
              refine (rBytes09 kk ka kc x3 dl c3 wE.heap.size D _ hal hcl HDL'.out (Nat.le_refl _) HR3E.out hpb hd2).mono ?_
              rintro e wF ⟨v, rfl, hownF, hbF⟩
              rw [HMK.out, HDN.out] at hownF
              obtain ⟨va, vc, rfl⟩ := own_form hownF
              have HRF := Lib.hid (rd_of_own (f := bv l) hownF (fun i hi => bl_at l (by rw [HLN.out]; exact hi)))
              have HROWF := Lib.hid (HROWE.out.below' hbF hsE)
              have HBF := Lib.hid (HBE.out.trans (hbF.mono hsE))
              clear hownF hbF HBE HROWE HR3E
              go_wp2_with fail
              go_at_call 38
              refine (Same_any va xa n n vc xc _ _ l l _ HLN.out HLN.out HRF.out HROWF.out hlb hlb).mono ?_
              rintro e wG ⟨rfl, jG, rfl⟩
              simp only [decide_true]
              have HBG := Lib.hid (HBF.out.trans (below_drews _ wF jG))
              clear HBF HRF HROWF hcL
              go_wp2
              go_roundw
              case rel => exact ⟨k + 1, by omega, by go_num, HBG.out⟩
              case measure => simp [intOf]; omega
            · exact absurd HE0.out hne
          · have HE0 := Lib.hid he
            have hpl := pkErr_lt l
            obtain ⟨et, het⟩ : ∃ et, et = pkErr l := ⟨_, rfl⟩
            rw [← het] at he hpl
            have HET := Lib.hid het
            have hne0 : ((et : Int) == 0) = false := by rw [beq_eq_false_iff_ne]; omega
            rw [← het]
            clear het hb1
            go_wp2_with fail
            have hA := heap_alloc_new w1 (.cells #[.bool false, .int .u16 0, .int .u16 0, .slice none 0 0] 56)
            have hbA : Below w1.heap.size w1 (w1.alloc (.cells #[.bool false, .int .u16 0, .int .u16 0, .slice none 0 0] 56)) := (Below.refl _ _).alloc (Nat.le_refl _) _
            obtain ⟨wA, hwA⟩ : ∃ wA, wA = w1.alloc (.cells #[.bool false, .int .u16 0, .int .u16 0, .slice none 0 0] 56) := ⟨_, rfl⟩
            obtain ⟨gA, hgA⟩ : ∃ gA, gA = w1.heap.size := ⟨_, rfl⟩
            rw [← hwA] at hA hbA ⊢
            rw [← hgA] at hA ⊢
            have HBA := Lib.hid (HB1.out.trans (hbA.mono hs1))
            have HROWA := Lib.hid (HROW1.out.below' hbA hs1)
            have HA := Lib.hid hA
            have hgl := (Array.getElem?_eq_some_iff.1 hA).1
            have hsA : W0.heap.size ≤ wA.heap.size := HBA.out.size
            clear hwA hgA hA hbA HB1 HROW1
            go_at_call 43
            refine (rParse09 xa n xc W0.heap.size l _ HLN.out hsA HROWA.out hlb (by omega)).mono ?_
            rintro e wB ⟨hbB, hpo⟩
            rcases hpo with ⟨h0, _⟩ | ⟨_, rfl⟩
            · exact absurd h0 HE0.out
            · rw [← HET.out]
              have HBB := Lib.hid (HBA.out.trans (hbB.mono hsA))
              have hAB := (hbB.block gA hgl).trans HA.out
              have hglB : gA < wB.heap.size := Nat.lt_of_lt_of_le hgl hbB.size
              have hsB : W0.heap.size ≤ wB.heap.size := HBB.out.size
              skip
              have gAc0 := cell_of_row wB gA 0 _ _ _ (hAB)
              have gAc1 := cell_of_row wB gA 1 _ _ _ (hAB)
              have gAc2 := cell_of_row wB gA 2 _ _ _ (hAB)
              have gAc3 := cell_of_row wB gA 3 _ _ _ (hAB)
              clear hbB HBA HROWA HA hAB hgl
              go_wp2_with fail
              have hbC : Below wB.heap.size wB (wB.alloc (.cells #[.bool false, .int .u16 0, .int .u16 0, .slice none 0 0] 62)) := (Below.refl _ _).alloc (Nat.le_refl _) _
              go_at_call 44
              refine (same09 false false 0 0 0 0 0 0 0 0 wB.heap.size wB.heap.size none none [] [] _ rfl rfl (by simp) (by simp) (Rd.none_ _ _ _) (Rd.none_ _ _ _) (fun b hb => by cases hb) (fun b hb => by cases hb) true (by simp)).mono ?_
              rintro e wD ⟨rfl, hbD⟩
              have hbBD := hbC.trans (hbD.mono (by simp))
              have HBD := Lib.hid (HBB.out.trans (hbBD.mono hsB))
              clear gAc0 gAc1 gAc2 gAc3 hbC hbD hbBD HBB hcL
              go_wp2
              go_roundw
              case rel => exact ⟨k + 1, by omega, by go_num, HBD.out⟩
              case measure => simp [intOf]; omega
        · obtain rfl : k = 4 := by omega
          have HBr := Lib.hid hB
          clear hB
          go_wp2
          go_ret
          exact ⟨rfl, HB0.out.trans (HBr.out.mono hsW)⟩
end Go.Proofs.Ytdaknifdhhmlkaa
