/- CellForms: what is made is read again. -/
import Derived.Test.YtifjnpmkcgbniaaLaw06n
namespace Go.Proofs.Ytifjnpmkcgbniaa
open Go.RowKit Go.Own
set_option linter.unusedVariables false
set_option linter.unusedSimpArgs false

theorem take6 (l : List Nat) (h : 6 ≤ l.length) : l.take 6 = [l.getD 0 0, l.getD 1 0, l.getD 2 0, l.getD 3 0, l.getD 4 0, l.getD 5 0] := by
  match l with
  | a :: b :: c :: d :: e :: f :: r => rfl
theorem mkHead_of {l : List Nat} (h : bytes l) : mkHead (pseq l) (psize l) = [l.getD 0 0, l.getD 1 0, l.getD 2 0, l.getD 3 0, l.getD 4 0, l.getD 5 0] := by
  have a := h.at 0
  have b := h.at 1
  have c := h.at 2
  have d := h.at 3
  have e := h.at 4
  have f := h.at 5
  rw [mkHead_eq]
  unfold pseq psize
  simp only [List.cons.injEq, and_true]
  refine ⟨?_, ?_, ?_, ?_, ?_, ?_⟩ <;> omega
/-- A cell is just what is made of its parts. -/
theorem mkCell_of {l : List Nat} (h : bytes l) (he : perr l = 0) : mkCell (pseq l) (pdat l) = l := by
  have h1 : 8 ≤ l.length ∧ psize l + 8 = l.length := by
    unfold perr at he
    split at he
    · omega
    · rename_i h; omega
  have h2 : rightB l = true := by
    unfold perr at he
    split at he
    · omega
    · split at he
      · assumption
      · omega
  have hd : (pdat l).length = psize l := by rw [pdat_len h1.1]; omega
  have hbody : mkHead (pseq l) (pdat l).length ++ pdat l = l.take (l.length - 2) := by
    rw [hd, mkHead_of h, ← take6 l (by omega)]
    unfold pdat
    apply List.ext_getElem?
    intro i
    rw [List.getElem?_append]
    rw [show (l.take 6).length = 6 by rw [List.length_take]; omega]
    simp only [List.getElem?_take, List.getElem?_drop]
    by_cases h6 : i < 6
    · rw [if_pos h6, if_pos h6, if_pos (by omega)]
    · rw [if_neg h6]
      by_cases h8 : i < l.length - 2
      · rw [if_pos (by omega), if_pos h8, show 6 + (i - 6) = i by omega]
      · rw [if_neg (by omega), if_neg h8]
  unfold mkCell whole
  rw [hbody]
  have hx := h.at (l.length - 2)
  have hy := h.at (l.length - 1)
  unfold rightB at h2
  have h3 := of_decide_eq_true h2
  rw [h3.2]
  have e : l = l.take (l.length - 2) ++ [l.getD (l.length - 2) 0, l.getD (l.length - 1) 0] := by
    have := seg_two l (l.length - 2) (by omega)
    rw [show l.length - 2 + 1 = l.length - 1 by omega] at this
    rw [← this]
    have h3 : (l.drop (l.length - 2)).take 2 = l.drop (l.length - 2) := List.take_of_length_le (by rw [List.length_drop]; omega)
    rw [h3, List.take_append_drop]
  have e1 : (l.getD (l.length - 2) 0 * 256 + l.getD (l.length - 1) 0) / 256 = l.getD (l.length - 2) 0 := by omega
  have e2 : (l.getD (l.length - 2) 0 * 256 + l.getD (l.length - 1) 0) % 256 = l.getD (l.length - 1) 0 := by omega
  rw [e1, e2]
  exact e.symm

theorem sel4_lit {a b d e : Option Addr} {la lb ld le ca cb cd ce : Nat} {l m k o : List Nat} (hl : l.length = la) (hm : m.length = lb) (hk : k.length = ld) (ho : o.length = le) (i : Nat) :
    sel4 (Value.slice a la ca) (.slice b lb cb) (.slice d ld cd) (.slice e le ce) i = .slice (sel4 a b d e i) (sel4 l m k o i).length (sel4 ca cb cd ce i) := by
  subst hl hm hk ho
  unfold sel4
  split
  · rfl
  · split
    · rfl
    · split <;> rfl
theorem sel4_all {α : Type} {p : α → Prop} {a b c d : α} (ha : p a) (hb : p b) (hc : p c) (hd : p d) (i : Nat) : p (sel4 a b c d i) := by
  unfold sel4
  split
  · exact ha
  · split
    · exact hb
    · split
      · exact hc
      · exact hd

set_option maxRecDepth 100000 in
set_option maxHeartbeats 4000000 in
theorem walk_CellForms (s : Int) (a0 : Option Addr) (len0 cap0 : Nat) (z0 : List Int) (a1 : Option Addr) (len1 cap1 : Nat) (z1 : List Int) (at_ tn : Int) (w : World) (ws : (Lit.int .u32 s).wf = true) (w0 : IsRow .u8 w a0 len0 cap0 z0) (w1' : IsRow .u8 w a1 len1 cap1 z1) (wa : (Lit.int .u16 at_).wf = true) (wt : (Lit.int .u8 tn).wf = true) :
    Calls Try.prog 3 #[.int .u32 s, .slice a0 len0 cap0, .slice a1 len1 cap1, .int .u16 at_, .int .u8 tn] w fun e w' => e = .returned (.bool true) ∧ Below w.heap.size w w' := by
  obtain ⟨l0, hl0, hb0, hr0⟩ := isRow_rd w0
  obtain ⟨l1, hl1, hb1', hr1⟩ := isRow_rd w1'
  obtain ⟨s0, s1⟩ := bounds_u32 ws
  obtain ⟨aa, ab⟩ := bounds_u16 wa
  obtain ⟨ta, tb⟩ := bounds_u8 wt
  obtain ⟨s, rfl⟩ := Int.eq_ofNat_of_zero_le s0
  obtain ⟨at_, rfl⟩ := Int.eq_ofNat_of_zero_le aa
  obtain ⟨tn, rfl⟩ := Int.eq_ofNat_of_zero_le ta
  have HR0 := Lib.hid hr0
  have HL0 := Lib.hid hl0
  have HR1 := Lib.hid hr1
  have HL1 := Lib.hid hl1
  have h1 := hr0.le
  have h2 := hr0.top
  have h3 := hr1.le
  have h4 := hr1.top
  unfold maxLen at h2 h4
  clear ws wa wt w0 w1' hr0 hl0 hr1 hl1
  go_enter Try.func3, Try.ntmps3
  go_wp2_with (go_at_call 14; refine (awake06 _).mono ?_; rintro e w1 ⟨rfl, hb1⟩)
  go_at_call 15
  refine (Cut_any a0 len0 cap0 l0 260 _ HL0.out ((HR0.out.below hb1).mono hb1.size) (by omega)).mono ?_
  rintro e w2 ⟨v, rfl, hown, hb2⟩
  obtain ⟨P, hP⟩ : ∃ P, P = l0.take 260 := ⟨_, rfl⟩
  have hPb : bytes P := by rw [hP]; exact hb0.take 260
  obtain ⟨m, hm⟩ : ∃ m, m = min 260 len0 := ⟨_, rfl⟩
  have hPm : P.length = m := by rw [hP, hm]; exact bytes_take HL0.out
  have hm2 : m ≤ 260 := by omega
  rw [← hP, ← hm] at hown
  obtain ⟨pa, pc, rfl⟩ := own_form hown
  have hr := rd_of_own hown (fun i hi => bl_at P (by omega))
  have HB2 := Lib.hid (hb1.trans (hb2.mono hb1.size))
  have HPM := Lib.hid hPm
  have HP2 := Lib.hid hr
  have hs2 : w.heap.size ≤ w2.heap.size := HB2.out.size
  clear hP hm hown hr hPm hb1 hb2 HR0 HL0 hb0 h1 h2
  go_wp2_with fail
  go_at_call 15
  refine (Cut_any a1 len1 cap1 l1 30 _ HL1.out ((HR1.out.below HB2.out).mono hs2) (by omega)).mono ?_
  rintro e w3 ⟨v, rfl, hown, hb3⟩
  obtain ⟨R, hR⟩ : ∃ R, R = l1.take 30 := ⟨_, rfl⟩
  have hRb : bytes R := by rw [hR]; exact hb1'.take 30
  obtain ⟨r, hr'⟩ : ∃ r, r = min 30 len1 := ⟨_, rfl⟩
  have hRr : R.length = r := by rw [hR, hr']; exact bytes_take HL1.out
  have hr2 : r ≤ 30 := by omega
  rw [← hR, ← hr'] at hown
  obtain ⟨ra, rc, rfl⟩ := own_form hown
  have HRR := Lib.hid hRr
  have HR3 := Lib.hid (rd_of_own hown (fun i hi => bl_at R (by omega)))
  have HP3 := Lib.hid (rd_grow HP2.out hb3)
  have HB3 := Lib.hid (HB2.out.trans (hb3.mono hs2))
  have hs3 : w.heap.size ≤ w3.heap.size := HB3.out.size
  clear hR hr' hown hRr hb3 HR1 HL1 hb1' h3 h4 HP2 HB2 hs2
  go_wp2_with fail
  go_at_call 16
  refine (cMake_any s pa m pc w3.heap.size P _ (by omega) HPM.out (Nat.le_refl _) HP3.out hPb).mono ?_
  rintro e w4 ⟨hb4, ⟨h, rfl⟩ | ⟨h, v, rfl, hown⟩⟩
  · go_wp2
    go_ret
    exact ⟨rfl, HB3.out.trans (hb4.mono hs3)⟩
  · obtain ⟨C, hC⟩ : ∃ C, C = mkCell s P := ⟨_, rfl⟩
    obtain ⟨M, hM⟩ : ∃ M, M = m + 8 := ⟨_, rfl⟩
    have hCl : C.length = M := by rw [hC, mkCell_len, HPM.out, hM]
    have hCb : bytes C := by rw [hC]; exact mkCell_bytes hPb
    rw [← hC, ← hM] at hown
    obtain ⟨ca, cc, rfl⟩ := own_form hown
    have hM8 : 8 ≤ M := by omega
    have hM9 : M ≤ 208 := by omega
    have HC := Lib.hid hC
    have HCL := Lib.hid hCl
    have HC4 := Lib.hid (rd_of_own (f := bv C) hown (fun i hi => bl_at C (by omega)))
    have HP4 := Lib.hid (rd_grow HP3.out hb4)
    have HR4 := Lib.hid (rd_grow HR3.out hb4)
    have HB4 := Lib.hid (HB3.out.trans (hb4.mono hs3))
    have hs4 : w.heap.size ≤ w4.heap.size := HB4.out.size
    clear hC hM hCl hown hb4 HP3 HR3 HB3 hs3
    go_wp2_with fail
    go_at_call 17
    have hal : Below w4.heap.size w4 (w4.alloc (.cells #[.slice ca M cc] 23)) := (Below.refl _ _).alloc (Nat.le_refl _) _
    refine (Join1 HCL.out (heap_alloc_new _ _) (HC4.out.below hal) (by simp) (by rw [HCL.out]; omega)).mono ?_
    rintro e w5 ⟨v5, rfl, hown, hb5⟩
    obtain ⟨g, gc, rfl, hg, hgl⟩ := own_some hown (by rw [HCL.out]; omega)
    rw [HCL.out] at hown
    have hb45 := hal.trans (hb5.mono (by simp))
    obtain ⟨q, hq⟩ : ∃ q, q = at_ % M := ⟨_, rfl⟩
    have hqM : q < M := by rw [hq]; exact Nat.mod_lt _ (by omega)
    have hmod : (at_ : Int) % (M : Int) = (q : Int) := by rw [hq]; simp
    have hc5 := hown.cellAt q (by omega)
    have hf5 := hown.frozenAt q
    rw [bl_at _ (by rw [HCL.out]; exact hqM)] at hc5
    unfold bv at hc5
    have hy := hCb.at q
    have hset := set_bl C q (C.getD q 0 ^^^ tn)
    have hxl : C.getD q 0 ^^^ tn < 256 := Nat.xor_lt_two_pow (n := 8) hy (by omega)
    obtain ⟨y, hy'⟩ : ∃ y, y = C.getD q 0 := ⟨_, rfl⟩
    rw [← hy'] at hc5 hy hset hxl
    have hxor := xor8 y tn hy (by omega)
    have hDl : (C.set q (y ^^^ tn)).length = M := by rw [List.length_set]; exact HCL.out
    have hDb : bytes (C.set q (y ^^^ tn)) := set_bytes hCb q hxl
    obtain ⟨D, hD⟩ : ∃ D, D = C.set q (y ^^^ tn) := ⟨_, rfl⟩
    rw [← hD] at hset hDl hDb
    have hmne : ((M : Int) == 0) = false := by rw [beq_eq_false_iff_ne]; omega
    have hgs : w4.heap.size ≤ g := by simp at hg; omega
    have HO := Lib.hid hown
    have HSET := Lib.hid hset
    have HDL := Lib.hid hDl
    have HB5 := Lib.hid hb45
    rw [HCL.out]
    clear hown hset hDl hb45 hb5 hal hq hy' hD hg
    go_wp2_with fail
    obtain ⟨hown6, _⟩ := HO.out.stored q (.int .u8 ((y ^^^ tn : Nat) : Int))
    rw [HSET.out] at hown6
    have hb56 : Below w4.heap.size w5 (w5.setCell ⟨g, q, none⟩ (.int .u8 ((y ^^^ tn : Nat) : Int))) := (Below.refl _ _).setCell (p := ⟨g, q, none⟩) hgs _
    obtain ⟨w6, hw6⟩ : ∃ w6, w6 = w5.setCell ⟨g, q, none⟩ (.int .u8 ((y ^^^ tn : Nat) : Int)) := ⟨_, rfl⟩
    rw [← hw6] at hown6 hb56
    rw [← hw6]
    have hb46 := HB5.out.trans hb56
    have hz : w6.heap.size = w5.heap.size := by rw [hw6]; simp
    have HZ := Lib.hid hz
    clear hz
    have HD6 := Lib.hid (rd_of_own (f := bv D) hown6 (fun i hi => bl_at D (by rw [HDL.out]; exact hi)))
    have HC6 := Lib.hid (rd_grow HC4.out hb46)
    have HP6 := Lib.hid (rd_grow HP4.out hb46)
    have HR6 := Lib.hid (rd_grow HR4.out hb46)
    have HB6 := Lib.hid (HB4.out.trans (hb46.mono hs4))
    have hs6 : w.heap.size ≤ w6.heap.size := HB6.out.size
    clear hw6 hown6 hb56 hb46 hc5 hf5 HO HSET HB5 HC4 HP4 HR4 HB4 hs4 hgs hgl hxor hmod
    go_at_call 17
    have hhj : (w6.alloc (.cells #[.slice ca M cc, .slice ra r rc] 23)).heap[w5.heap.size]? = some (.cells #[.slice ca M cc, .slice ra r rc] 23 (0, 0)) := by rw [← HZ.out]; exact heap_alloc_new _ _
    have hal : Below w6.heap.size w6 (w6.alloc (.cells #[.slice ca M cc, .slice ra r rc] 23)) := (Below.refl _ _).alloc (Nat.le_refl _) _
    have hll : (C ++ R).length = M + r := by rw [List.length_append, HCL.out, HRR.out]
    refine (Join2 (n := w6.heap.size) (n' := w6.heap.size) HCL.out HRR.out hhj (HC6.out.below hal) (HR6.out.below hal) (by simp) (by simp) (by omega)).mono ?_
    rintro e w7 ⟨v7, rfl, hown7, hb7⟩
    obtain ⟨ja, jc, rfl⟩ := own_form hown7
    rw [hll] at hown7 ⊢
    obtain ⟨J, hJ⟩ : ∃ J, J = M + r := ⟨_, rfl⟩
    rw [← hJ] at hll hown7 ⊢
    have hJ2 : J ≤ 300 := by omega
    have hEb : bytes (C ++ R) := hCb.append hRb
    obtain ⟨E, hE⟩ : ∃ E, E = C ++ R := ⟨_, rfl⟩
    rw [← hE] at hll hown7 hEb
    have HEL := Lib.hid hll
    have hb67 := hal.trans (hb7.mono (by simp))
    have HE7 := Lib.hid (rd_of_own (f := bv E) hown7 (fun i hi => bl_at E (by rw [HEL.out]; exact hi)))
    have HD7 := Lib.hid (rd_grow HD6.out hb67)
    have HC7 := Lib.hid (rd_grow HC6.out hb67)
    have HP7 := Lib.hid (rd_grow HP6.out hb67)
    have HR7 := Lib.hid (rd_grow HR6.out hb67)
    have HB7 := Lib.hid (HB6.out.trans (hb67.mono hs6))
    have hs7 : w.heap.size ≤ w7.heap.size := HB7.out.size
    clear hal hll hown7 hb7 hb67 hE hJ HD6 HC6 HP6 HR6 HB6 hs6
    go_wp2
    have hbx := heap_alloc_new w7 (.cells #[.slice ca M cc, .slice (some ⟨g, 0, none⟩) M gc, .slice ra r rc, .slice ja J jc] 23)
    have hal : Below w7.heap.size w7 (w7.alloc (.cells #[.slice ca M cc, .slice (some ⟨g, 0, none⟩) M gc, .slice ra r rc, .slice ja J jc] 23)) := (Below.refl _ _).alloc (Nat.le_refl _) _
    have hr4 := (rd_four hbx (lt_of_heap hbx)).same (g := fun i => .slice (sel4 ca (some ⟨g, 0, none⟩) ra ja i) (sel4 C D R E i).length (sel4 cc gc rc jc i)) (fun i hi => sel4_lit HCL.out HDL.out HRR.out HEL.out i)
    obtain ⟨W0, hW0⟩ : ∃ W0, W0 = w7.alloc (.cells #[.slice ca M cc, .slice (some ⟨g, 0, none⟩) M gc, .slice ra r rc, .slice ja J jc] 23) := ⟨_, rfl⟩
    obtain ⟨gL, hgL⟩ : ∃ gL, gL = w7.heap.size := ⟨_, rfl⟩
    rw [← hW0, ← hgL] at hr4
    rw [← hW0] at hal
    rw [← hW0, ← hgL]
    have HC8 := Lib.hid (rd_grow HC7.out hal)
    have HD8 := Lib.hid (rd_grow HD7.out hal)
    have HR8 := Lib.hid (rd_grow HR7.out hal)
    have HE8 := Lib.hid (rd_grow HE7.out hal)
    have HP8 := Lib.hid (rd_grow HP7.out hal)
    have HB8 := Lib.hid (HB7.out.trans (hal.mono hs7))
    have hrows : ∀ i, i < 4 → Rd W0.heap.size W0 (sel4 ca (some ⟨g, 0, none⟩) ra ja i) (sel4 C D R E i).length (sel4 cc gc rc jc i) (bv (sel4 C D R E i)) := by
      intro i hi
      have : i = 0 ∨ i = 1 ∨ i = 2 ∨ i = 3 := by omega
      rcases this with rfl | rfl | rfl | rfl
      · show Rd _ _ ca C.length cc (bv C); rw [HCL.out]; exact HC8.out
      · show Rd _ _ (some ⟨g, 0, none⟩) D.length gc (bv D); rw [HDL.out]; exact HD8.out
      · show Rd _ _ ra R.length rc (bv R); rw [HRR.out]; exact HR8.out
      · show Rd _ _ ja E.length jc (bv E); rw [HEL.out]; exact HE8.out
    have hbys : ∀ i, bytes (sel4 C D R E i) ∧ (sel4 C D R E i).length ≤ 1000 := sel4_all (p := fun l => bytes l ∧ l.length ≤ 1000) ⟨hCb, by rw [HCL.out]; omega⟩ ⟨hDb, by rw [HDL.out]; omega⟩ ⟨hRb, by rw [HRR.out]; omega⟩ ⟨hEb, by rw [HEL.out]; omega⟩
    obtain ⟨ls, hls⟩ : ∃ ls, ls = sel4 C D R E := ⟨_, rfl⟩
    obtain ⟨qa, hqa⟩ : ∃ qa, qa = sel4 ca (some ⟨g, 0, none⟩) ra ja := ⟨_, rfl⟩
    obtain ⟨qc, hqc⟩ : ∃ qc, qc = sel4 cc gc rc jc := ⟨_, rfl⟩
    rw [← hls, ← hqa, ← hqc] at hr4 hrows
    rw [← hls] at hbys
    have HR4 := Lib.hid hr4
    have HROWS := Lib.hid hrows
    have HBY := Lib.hid hbys
    have hsW : w.heap.size ≤ W0.heap.size := HB8.out.size
    clear hW0 hgL hbx hal hr4 hrows hbys hls hqa hqc HC7 HD7 HR7 HE7 HP7 HB7 hs7 HD8 HR8 HE8
    go_loopw [79] (fun i wr => ∃ k : Nat, k ≤ 4 ∧ i = .int .i64 k ∧ Below W0.heap.size W0 wr) (fun i _ => 4 - (intOf i).toNat)
    case atStart => exact ⟨0, by omega, rfl, Below.refl _ _⟩
    case round =>
      obtain ⟨k, hk, rfl, hB⟩ := hrel
      have hsr : W0.heap.size ≤ wr.heap.size := hB.size
      by_cases hlt : k < 4
      · obtain ⟨bL, oL, he, hbL, hcL⟩ := (HR4.out.below hB).at hlt
        injection he with he
        injection he with he1 he2
        subst he1 he2
        rw [Nat.zero_add] at hcL
        have hrow := (HROWS.out k hlt).below hB
        obtain ⟨hlb, hll⟩ := HBY.out k
        obtain ⟨l, hl⟩ : ∃ l, l = ls k := ⟨_, rfl⟩
        obtain ⟨n, hn⟩ : ∃ n, n = (ls k).length := ⟨_, rfl⟩
        obtain ⟨xa, hxa⟩ : ∃ xa, xa = qa k := ⟨_, rfl⟩
        obtain ⟨xc, hxc⟩ : ∃ xc, xc = qc k := ⟨_, rfl⟩
        rw [← hn, ← hxa, ← hxc] at hcL
        rw [← hn, ← hxa, ← hxc, ← hl] at hrow
        rw [← hl] at hlb
        rw [← hn] at hll
        have hln : l.length = n := by rw [hl, hn]
        have HLN := Lib.hid hln
        have HROW := Lib.hid hrow
        have HB := Lib.hid hB
        clear hl hn hxa hxc hln hrow hB
        go_wp2_with fail
        go_at_call 18
        refine (cParse_any xa n xc W0.heap.size l _ HLN.out hsr HROW.out hlb (by omega)).mono ?_
        rintro e w9 ⟨hb9, hpo⟩
        have HB9 := Lib.hid (HB.out.trans (hb9.mono hsr))
        have HROW9 := Lib.hid (HROW.out.below' hb9 hsr)
        have hs9 : W0.heap.size ≤ w9.heap.size := HB9.out.size
        rcases hpo with ⟨he, x3, c3, rfl, hr3⟩ | ⟨he, rfl⟩
        · have HE0 := Lib.hid he
          have hpd := pdat_len (l := l) (by
            have h := he
            unfold perr at h
            split at h
            · omega
            · rename_i h'; omega)
          have hpb := pdat_bytes hlb
          have hpq := pseq_lt hlb
          have hmk := mkCell_of hlb he
          obtain ⟨d, hd⟩ : ∃ d, d = pdat l := ⟨_, rfl⟩
          obtain ⟨dl, hdl⟩ : ∃ dl, dl = (pdat l).length := ⟨_, rfl⟩
          obtain ⟨sq, hsq⟩ : ∃ sq, sq = pseq l := ⟨_, rfl⟩
          rw [← hdl, ← hd] at hr3
          rw [← hdl] at hpd
          rw [← hd] at hpb
          rw [← hsq] at hpq
          rw [← hsq, ← hd] at hmk
          rw [← hdl, ← hsq]
          have hdd : d.length = dl := by rw [hd, hdl]
          have HDD := Lib.hid hdd
          have HMK := Lib.hid hmk
          have hdl2 : dl ≤ 1000 := by rw [hpd, HLN.out]; omega
          have hdn : dl + 8 = n := by
            have h := HE0.out
            have := HLN.out
            unfold perr at h
            split at h
            · omega
            · rename_i h'; omega
          have HDN := Lib.hid hdn
          have HDX := Lib.hid hd
          have HDLX := Lib.hid hdl
          have HSQX := Lib.hid hsq
          have HR3 := Lib.hid hr3
          clear hd hdl hsq hdd hmk hr3 hb9 he hpd hdn
          go_wp2_with fail
          go_at_call 19
          refine (rParse_any xa n xc W0.heap.size l _ HLN.out hs9 HROW9.out hlb).mono ?_
          rintro e wa ⟨hba, hpo⟩
          rcases hpo with ⟨_, x4, c4, rfl, hr4⟩ | ⟨hne, _⟩
          · have HBa := Lib.hid (HB9.out.trans (hba.mono hs9))
            have HROWa := Lib.hid (HROW9.out.below' hba hs9)
            have hsa : W0.heap.size ≤ wa.heap.size := HBa.out.size
            rw [← HDX.out, HDD.out] at hr4
            have HR4a := Lib.hid hr4
            have HR3a := Lib.hid (rd_grow HR3.out hba)
            rw [← HSQX.out, ← HDLX.out]
            clear hr4 hba HR3 HB9 HROW9
            go_wp2_with fail
            go_at_call 20
            refine (Same_any x3 x4 dl dl c3 c4 _ _ d d _ HDD.out HDD.out HR3a.out HR4a.out hpb hpb).mono ?_
            rintro e wb ⟨rfl, jb, rfl⟩
            simp only [decide_true]
            have hbb : Below wa.heap.size wa (wa.drewN jb) := below_drews _ _ _
            have HR3b := Lib.hid (rd_grow HR3a.out hbb)
            have HBb := Lib.hid (HBa.out.trans (below_drews _ wa jb))
            have HROWb := Lib.hid (HROWa.out.below (below_drews _ wa jb))
            have hsb : W0.heap.size ≤ (wa.drewN jb).heap.size := HBb.out.size
            obtain ⟨Wb, hWb⟩ : ∃ Wb, Wb = wa.drewN jb := ⟨_, rfl⟩
            rw [← hWb] at HR3b HBb HROWb hsb
            rw [← hWb]
            clear hWb hbb HR3a HR4a HBa HROWa hsa
            go_wp2_with fail
            go_at_call 21
            refine (rMake_any sq x3 dl c3 Wb.heap.size d _ hpq HDD.out (Nat.le_refl _) HR3b.out hpb (by omega)).mono ?_
            rintro e wc ⟨vc, rfl, hownc, hbc⟩
            rw [HMK.out] at hownc
            obtain ⟨va, vc', rfl⟩ := own_form hownc
            rw [HDN.out] at hownc
            have HRc := Lib.hid (rd_of_own (f := bv l) hownc (fun i hi => bl_at l (by rw [HLN.out]; exact hi)))
            have HROWc := Lib.hid (HROWb.out.below' hbc hsb)
            have HBc := Lib.hid (HBb.out.trans (hbc.mono hsb))
            rw [HDN.out]
            clear hownc hbc HR3b HBb HROWb
            go_wp2_with fail
            go_at_call 20
            refine (Same_any va xa n n vc' xc _ _ l l _ HLN.out HLN.out HRc.out HROWc.out hlb hlb).mono ?_
            rintro e wd ⟨rfl, jd, rfl⟩
            simp only [decide_true]
            have HBd := Lib.hid (HBc.out.trans (below_drews _ wc jd))
            clear HBc HRc HROWc hcL
            go_wp2
            go_roundw
            case rel => exact ⟨k + 1, by omega, by go_num, HBd.out⟩
            case measure => simp [intOf]; omega
          · exact absurd HE0.out hne
        · have HE0 := Lib.hid he
          have hpl := perr_lt l
          clear hb9
          go_wp2_with fail
          go_at_call 19
          refine (rParse_any xa n xc W0.heap.size l _ HLN.out hs9 HROW9.out hlb).mono ?_
          rintro e wa ⟨hba, hpo⟩
          rcases hpo with ⟨h0, _⟩ | ⟨_, rfl⟩
          · exact absurd h0 HE0.out
          · have HBa := Lib.hid (HB9.out.trans (hba.mono hs9))
            obtain ⟨er, her⟩ : ∃ er, er = perr l := ⟨_, rfl⟩
            rw [← her] at he hpl
            rw [← her]
            have hne0 : ((er : Int) == 0) = false := by rw [beq_eq_false_iff_ne]; omega
            clear her hba HB9 HROW9
            go_wp2_with fail
            go_at_call 20
            refine (Same_any none none 0 0 0 0 0 0 [] [] _ rfl rfl (Rd.none_ _ _ _) (Rd.none_ _ _ _) (fun b hb => by cases hb) (fun b hb => by cases hb)).mono ?_
            rintro e wb ⟨rfl, jb, rfl⟩
            simp only [decide_true]
            have HBb := Lib.hid (HBa.out.trans (below_drews _ wa jb))
            clear HBa hcL
            go_wp2
            go_roundw
            case rel => exact ⟨k + 1, by omega, by go_num, HBb.out⟩
            case measure => simp [intOf]; omega
      · obtain rfl : k = 4 := by omega
        have HBr := Lib.hid hB
        have HPr := Lib.hid (HP8.out.below hB)
        have HCr := Lib.hid (HC8.out.below hB)
        clear hB
        go_wp2_with fail
        go_at_call 21
        refine (rMake_any s pa m pc W0.heap.size P _ (by omega) HPM.out hsr HPr.out hPb (by omega)).mono ?_
        rintro e wx ⟨vx, rfl, hownx, hbx⟩
        rw [← HC.out] at hownx
        obtain ⟨xa, xc, rfl⟩ := own_form hownx
        obtain ⟨N, hN⟩ : ∃ N, N = m + 8 := ⟨_, rfl⟩
        have hNl : C.length = N := by rw [HC.out, mkCell_len, HPM.out, hN]
        rw [← hN] at hownx
        rw [← hN]
        have HRx := Lib.hid (rd_of_own (f := bv C) hownx (fun i hi => bl_at C (by rw [hNl]; exact hi)))
        have HCx := Lib.hid (HCr.out.below' hbx hsr)
        have HBx := Lib.hid (HBr.out.trans (hbx.mono hsr))
        have HNL := Lib.hid hNl
        clear hownx hbx hN hNl
        go_wp2_with fail
        go_at_call 20
        refine (Same_any ca xa M N cc xc _ _ C C _ HCL.out HNL.out HCx.out HRx.out hCb hCb).mono ?_
        rintro e wy ⟨rfl, jy, rfl⟩
        simp only [decide_true]
        go_wp2
        go_ret
        exact ⟨rfl, HB8.out.trans ((HBx.out.trans (below_drews _ wx jy)).mono hsW)⟩
end Go.Proofs.Ytifjnpmkcgbniaa
