/- ContextForms: each context that may be has the document's bytes, of which it is read again. -/
import Derived.Test.YtpgophkegjeheaaCxS
import Derived.Test.YtpgophkegjeheaaCxQ
import Derived.Test.YtpgophkegjeheaaCxP
namespace Go.Proofs.Ytpgophkegjeheaa
open Go.RowKit Go.Own
set_option linter.unusedVariables false
set_option linter.unusedSimpArgs false
theorem wpList_load_row_v {P : Program} {ops : Array Oper} {rest : List Oper} {o : Oper} {a : Act} {w : World} {Q : Exit → Act → World → Prop} (hwt : Region.wanted o (yielded ops a.tmps) = true) (ty : TypeId) (x : Operand) (ho : o.op = .load ty x)
    (g : Nat) (hx : a.eval x = .pointer (some ⟨g, 0, none⟩)) (t : TypeId) (cs : Array Value) (fr : Nat × Nat) (d : TypeDesc) (hg : w.heap[g]? = some (.cells cs t fr))
    (hu : P.underlying ty = some d) (hd : (match d with | .struct _ | .array _ _ => true | _ => false) = true) (hi : (P.info? ty).map (·.size) = some cs.size)
    (h : wpList P ops Q rest (a.put o.dst (.agg cs)) w) : wpList P ops Q (o :: rest) a w := by
  unfold wpList
  rw [if_pos hwt]
  exact .inl (wp_load_row ty x ho g hx t cs fr d hg hu hd hi h)
theorem wanted_un {ops : Array Oper} {o : Oper} {g d : Nat} {b : Bool} {tmps : Array Value} (h : o.guard = some (g, b)) (h2 : (ops[g]?).bind (·.dst) = some d) (h3 : tmps[d]? = some undef) : Region.wanted o (yielded ops tmps) = false := by
  have e : yielded ops tmps g = none := by
    unfold yielded
    rw [h2]
    simp only [Option.bind_some, h3]
    rfl
  unfold Region.wanted
  rw [h]
  simp only [e]
  cases b <;> rfl
theorem nat_of' {z : Int} (h : 0 ≤ z) : z = ((z.toNat : Nat) : Int) := (Int.toNat_of_nonneg h).symm
theorem Bytes_of' (c : Cx) (w : World) (hok : c.Ok) (hr : c.right = true) : Calls Try.prog 17 #[.agg #[.int .u16 c.f, .int .u16 c.i, .int .u8 c.r0, .int .u8 c.r1, .int .u8 c.r2, .int .u8 c.r3, .int .u8 c.r4, .int .u8 c.r5, .int .i8 c.c0, .int .i8 c.c1, .int .i8 c.c2, .int .i8 c.c3, .int .i8 c.c4, .int .i8 c.c5, .int .u8 c.m, .int .u16 c.n, .bool c.x, .int .u8 c.h]] w fun e w' => ∃ v, e = .returned v ∧ w'.ownsRow w.heap.size 5 1 v 21 (bl (bytesOf c)) ∧ Below w.heap.size w w' := by
  have h1 := hok.f
  have h2 := hok.i
  have h3 := hok.n
  exact Bytes_yes c w hok hr c.f.toNat c.i.toNat c.n.toNat (nat_of' h1.1) (nat_of' h2.1) (nat_of' h3.1) (by omega) (by omega) (by omega)
theorem own_setRd {w : World} {base g m c j : Nat} {l : List Nat} (h : w.ownsRow base 5 1 (.slice (some ⟨g, 0, none⟩) m c) m (bl l)) (hl : l.length = m) (hj : j < m) (z : Nat) :
    g < w.heap.size ∧ w.cell? ⟨g, j, none⟩ = some (.int .u8 (l.getD j 0 : Nat)) ∧ w.frozen? ⟨g, j, none⟩ = false ∧ Rd (w.setCell ⟨g, j, none⟩ (.int .u8 (z : Nat))).heap.size (w.setCell ⟨g, j, none⟩ (.int .u8 (z : Nat))) (some ⟨g, 0, none⟩) m c (bv (l.set j z)) := by
  have hrd := rd_of_own (f := bv l) h (fun i hi => bl_at l (by rw [hl]; exact hi))
  have hcell : ∀ i, i < m → w.cell? ⟨g, i, none⟩ = some (bv l i) := fun i hi => by
    have := rd_cell (k := i) hrd hi
    rw [Nat.zero_add] at this
    exact this
  rcases h.2 with ⟨hv, hx⟩ | ⟨g', cap, cur, hv, hb', hg, _⟩
  · simp at hv
  · simp only [Value.slice.injEq, Option.some.injEq, Addr.mk.injEq, and_true, true_and] at hv
    obtain ⟨rfl, rfl⟩ := hv
    refine ⟨box_lt hg, hcell j hj, frozen_of_row _ g j _ _ hg, hrd.le, hrd.top, hrd.nil_, fun _ => ⟨g, 0, rfl, by simpa using box_lt hg, fun i hi => ?_⟩⟩
    rw [Nat.zero_add]
    by_cases e : i = j
    · subst e
      rw [World.cell?_setCell_same _ _ _ (hcell i hi)]
      simp [bv, List.getD, hl, hi]
    · rw [World.cell?_setCell_other _ _ _ _ (by simp [Ne.symm e]), hcell i hi]
      unfold bv
      simp only [List.getD, List.getElem?_set, Ne.symm e, if_false]
theorem cParse_all (a : Option Addr) (len cap n : Nat) (l : List Nat) (w : World) (hl : l.length = len) (hn : n ≤ w.heap.size) (hr : Rd n w a len cap (bv l)) (hb : bytes l) (hm : len ≤ 1000000) :
    Calls Try.prog 24 #[.slice a len cap] w (CxParse w l) := by
  by_cases h : len = 21
  · exact cxParse_any a len cap n l w hl hn hr hb h
  · exact cxParse_no a len cap l w hl h hm
set_option maxRecDepth 100000 in
set_option maxHeartbeats 8000000 in
theorem walk_ContextForms (c d : Cx) (a2 : Option Addr) (len2 cap2 : Nat) (z2 : List Int) (a3 a4 : Int) (w : World) (hok : c.Ok) (hokd : d.Ok) (w2 : IsRow .u8 w a2 len2 cap2 z2) (w3 : (Lit.int .u8 a3).wf = true) (w4 : (Lit.int .u8 a4).wf = true) :
    Calls Try.prog 3 #[.agg #[.int .u16 c.f, .int .u16 c.i, .int .u8 c.r0, .int .u8 c.r1, .int .u8 c.r2, .int .u8 c.r3, .int .u8 c.r4, .int .u8 c.r5, .int .i8 c.c0, .int .i8 c.c1, .int .i8 c.c2, .int .i8 c.c3, .int .i8 c.c4, .int .i8 c.c5, .int .u8 c.m, .int .u16 c.n, .bool c.x, .int .u8 c.h], .agg #[.int .u16 d.f, .int .u16 d.i, .int .u8 d.r0, .int .u8 d.r1, .int .u8 d.r2, .int .u8 d.r3, .int .u8 d.r4, .int .u8 d.r5, .int .i8 d.c0, .int .i8 d.c1, .int .i8 d.c2, .int .i8 d.c3, .int .i8 d.c4, .int .i8 d.c5, .int .u8 d.m, .int .u16 d.n, .bool d.x, .int .u8 d.h], .slice a2 len2 cap2, .int .u8 a3, .int .u8 a4] w fun e w' => e = .returned (.bool true) ∧ Below w.heap.size w w' := by
  obtain ⟨l2, hl2, hb2, hr2⟩ := isRow_rd w2
  obtain ⟨p0, p1⟩ := bounds_u8 w3
  obtain ⟨q0, q1⟩ := bounds_u8 w4
  obtain ⟨a3, rfl⟩ := Int.eq_ofNat_of_zero_le p0
  obtain ⟨a4, rfl⟩ := Int.eq_ofNat_of_zero_le q0
  obtain ⟨j, hj⟩ : ∃ j, j = a3 % 21 := ⟨_, rfl⟩
  have hjI : (a3 : Int) % 21 = (j : Int) := by omega
  have hj21 : j < 21 := by omega
  have HOK := Lib.hid hok
  have HL2 := Lib.hid hl2
  have HB2 := Lib.hid hb2
  have hal0 : Below w.heap.size w (w.alloc (.cells #[.int .u16 c.f, .int .u16 c.i, .int .u8 c.r0, .int .u8 c.r1, .int .u8 c.r2, .int .u8 c.r3, .int .u8 c.r4, .int .u8 c.r5, .int .i8 c.c0, .int .i8 c.c1, .int .i8 c.c2, .int .i8 c.c3, .int .i8 c.c4, .int .i8 c.c5, .int .u8 c.m, .int .u16 c.n, .bool c.x, .int .u8 c.h] 28)) := (Below.refl _ _).alloc (Nat.le_refl _) _
  have hal : Below w.heap.size w ((w.alloc (.cells #[.int .u16 c.f, .int .u16 c.i, .int .u8 c.r0, .int .u8 c.r1, .int .u8 c.r2, .int .u8 c.r3, .int .u8 c.r4, .int .u8 c.r5, .int .i8 c.c0, .int .i8 c.c1, .int .i8 c.c2, .int .i8 c.c3, .int .i8 c.c4, .int .i8 c.c5, .int .u8 c.m, .int .u16 c.n, .bool c.x, .int .u8 c.h] 28)).alloc (.cells #[.int .u16 d.f, .int .u16 d.i, .int .u8 d.r0, .int .u8 d.r1, .int .u8 d.r2, .int .u8 d.r3, .int .u8 d.r4, .int .u8 d.r5, .int .i8 d.c0, .int .i8 d.c1, .int .i8 d.c2, .int .i8 d.c3, .int .i8 d.c4, .int .i8 d.c5, .int .u8 d.m, .int .u16 d.n, .bool d.x, .int .u8 d.h] 28)) := hal0.alloc hal0.size _
  have hx := heap_alloc2_old w (.cells #[.int .u16 c.f, .int .u16 c.i, .int .u8 c.r0, .int .u8 c.r1, .int .u8 c.r2, .int .u8 c.r3, .int .u8 c.r4, .int .u8 c.r5, .int .i8 c.c0, .int .i8 c.c1, .int .i8 c.c2, .int .i8 c.c3, .int .i8 c.c4, .int .i8 c.c5, .int .u8 c.m, .int .u16 c.n, .bool c.x, .int .u8 c.h] 28) (.cells #[.int .u16 d.f, .int .u16 d.i, .int .u8 d.r0, .int .u8 d.r1, .int .u8 d.r2, .int .u8 d.r3, .int .u8 d.r4, .int .u8 d.r5, .int .i8 d.c0, .int .i8 d.c1, .int .i8 d.c2, .int .i8 d.c3, .int .i8 d.c4, .int .i8 d.c5, .int .u8 d.m, .int .u16 d.n, .bool d.x, .int .u8 d.h] 28)
  have hy := heap_alloc2_new w (.cells #[.int .u16 c.f, .int .u16 c.i, .int .u8 c.r0, .int .u8 c.r1, .int .u8 c.r2, .int .u8 c.r3, .int .u8 c.r4, .int .u8 c.r5, .int .i8 c.c0, .int .i8 c.c1, .int .i8 c.c2, .int .i8 c.c3, .int .i8 c.c4, .int .i8 c.c5, .int .u8 c.m, .int .u16 c.n, .bool c.x, .int .u8 c.h] 28) (.cells #[.int .u16 d.f, .int .u16 d.i, .int .u8 d.r0, .int .u8 d.r1, .int .u8 d.r2, .int .u8 d.r3, .int .u8 d.r4, .int .u8 d.r5, .int .i8 d.c0, .int .i8 d.c1, .int .i8 d.c2, .int .i8 d.c3, .int .i8 d.c4, .int .i8 d.c5, .int .u8 d.m, .int .u16 d.n, .bool d.x, .int .u8 d.h] 28)
  have HR2 := Lib.hid (rd_grow hr2 hal)
  clear w2 w3 w4 hok hokd hl2 hb2 hr2 hj hal0
  go_enter Try.func3, Try.ntmps3
  go_wp2_with fail
  obtain ⟨w0, hw0⟩ : ∃ w0, w0 = (w.alloc (.cells #[.int .u16 c.f, .int .u16 c.i, .int .u8 c.r0, .int .u8 c.r1, .int .u8 c.r2, .int .u8 c.r3, .int .u8 c.r4, .int .u8 c.r5, .int .i8 c.c0, .int .i8 c.c1, .int .i8 c.c2, .int .i8 c.c3, .int .i8 c.c4, .int .i8 c.c5, .int .u8 c.m, .int .u16 c.n, .bool c.x, .int .u8 c.h] 28)).alloc (.cells #[.int .u16 d.f, .int .u16 d.i, .int .u8 d.r0, .int .u8 d.r1, .int .u8 d.r2, .int .u8 d.r3, .int .u8 d.r4, .int .u8 d.r5, .int .i8 d.c0, .int .i8 d.c1, .int .i8 d.c2, .int .i8 d.c3, .int .i8 d.c4, .int .i8 d.c5, .int .u8 d.m, .int .u16 d.n, .bool d.x, .int .u8 d.h] 28) := ⟨_, rfl⟩
  obtain ⟨x0, hx0⟩ : ∃ x0, x0 = w.heap.size := ⟨_, rfl⟩
  have hx0n : w.heap.size ≤ x0 := by omega
  rw [← hw0] at hal hx hy HR2
  rw [← hx0] at hx hy
  rw [← hw0, ← hx0]
  clear hw0 hx0
  go_at_call 15
  refine (awake08 _).mono ?_
  rintro e wa ⟨rfl, hba⟩
  have hxa := box_below hx hba (box_lt hx)
  have hya := box_below hy hba (box_lt hy)
  have HBA := Lib.hid (hal.trans (hba.mono hal.size))
  have HRA := Lib.hid (rd_grow HR2.out hba)
  clear hal hx hy hba HR2
  go_wp2_with fail
  go_at_call 16
  refine (Cut_any a2 len2 cap2 l2 30 _ HL2.out HRA.out (by omega)).mono ?_
  rintro e wb ⟨v, rfl, hown, hbb⟩
  obtain ⟨ar, cr, rfl⟩ := own_form hown
  obtain ⟨mr, hmr⟩ : ∃ m, m = min 30 len2 := ⟨_, rfl⟩
  obtain ⟨lr, hlr⟩ : ∃ l, l = l2.take 30 := ⟨_, rfl⟩
  rw [← hmr, ← hlr] at hown
  rw [← hmr]
  have hmr30 : mr ≤ 30 := by omega
  have hlrl : lr.length = mr := by rw [hlr, List.length_take, HL2.out, hmr]
  have hlrb : bytes lr := by rw [hlr]; exact fun x hx => HB2.out x (List.mem_of_mem_take hx)
  have HRB := Lib.hid (rd_of_own (f := bv lr) hown (fun i hi => bl_at lr (by rw [hlrl]; exact hi)))
  have HLR := Lib.hid hlrl
  have HLB := Lib.hid hlrb
  have hxb := box_below hxa hbb (box_lt hxa)
  have hyb := box_below hya hbb (box_lt hya)
  have HBB := Lib.hid (HBA.out.trans (hbb.mono HBA.out.size))
  clear hown hmr hlr hlrl hlrb hxa hya hbb HBA HRA
  go_wp2_with (first | (refine wpList_load_row rfl 28 _ rfl _ rfl _ _ _ _ hxb Try.underlying28 rfl (by exact size_cx) ?_; (try go_simp)))
  go_at_call 17
  cases hr : c.right with
  | true =>
    have HRT := Lib.hid hr
    clear hr
    refine (Bytes_of' c _ HOK.out HRT.out).mono ?_
    rintro e wc ⟨v, rfl, hown, hbc⟩
    obtain ⟨ap, cp, rfl⟩ := own_form hown
    obtain ⟨P, hP⟩ : ∃ P, P = bytesOf c := ⟨_, rfl⟩
    rw [← hP] at hown
    have hPl : P.length = 21 := by rw [hP]; rfl
    have hPb : bytes P := by rw [hP]; exact bytesOf_bytes HOK.out HRT.out
    have HP := Lib.hid hP
    have HPL := Lib.hid hPl
    have HPB := Lib.hid hPb
    have hxc := box_below hxb hbc (box_lt hxb)
    have hyc := box_below hyb hbc (box_lt hyb)
    have HRC := Lib.hid (rd_grow HRB.out hbc)
    have HPC := Lib.hid (rd_of_own (f := bv P) hown (fun i hi => bl_at P (by rw [hPl]; exact hi)))
    have HBC := Lib.hid (HBB.out.trans (hbc.mono HBB.out.size))
    clear hown hP hPl hPb hxb hyb hbc HRB HBB
    go_wp2_with (first | (refine wpList_load_row rfl 28 _ rfl _ rfl _ _ _ _ hxc Try.underlying28 rfl (by exact size_cx) ?_; (try go_simp)))
    go_at_call 19
    refine (own08 c _).mono ?_
    rintro e wd ⟨rfl, hbd⟩
    have hxd := box_below hxc hbd (box_lt hxc)
    have hyd := box_below hyc hbd (box_lt hyc)
    have HRD := Lib.hid (rd_grow HRC.out hbd)
    have HPD := Lib.hid (rd_grow HPC.out hbd)
    have HBD := Lib.hid (HBC.out.trans (hbd.mono HBC.out.size))
    clear hxc hyc hbd HRC HPC HBC
    go_wp2_with fail
    go_at_call 18
    have hR := xRight_any c wd
    rw [HRT.out] at hR
    refine hR.mono ?_
    rintro e we ⟨rfl, hbe⟩
    have hxe := box_below hxd hbe (box_lt hxd)
    have hye := box_below hyd hbe (box_lt hyd)
    have HRE := Lib.hid (rd_grow HRD.out hbe)
    have HPE := Lib.hid (rd_grow HPD.out hbe)
    have HBE := Lib.hid (HBD.out.trans (hbe.mono HBD.out.size))
    clear hR hxd hyd hbe HRD HPD HBD
    go_wp2_with (first | (refine wpList_load_row rfl 28 _ rfl _ rfl _ _ _ _ hxe Try.underlying28 rfl (by exact size_cx) ?_; (try go_simp)))
    go_at_call 20
    have hR := Right_any c we
    rw [HRT.out] at hR
    refine hR.mono ?_
    rintro e wf ⟨rfl, hbf⟩
    have hxf := box_below hxe hbf (box_lt hxe)
    have hyf := box_below hye hbf (box_lt hye)
    have HRF := Lib.hid (rd_grow HRE.out hbf)
    have HPF := Lib.hid (rd_grow HPE.out hbf)
    have HBF := Lib.hid (HBE.out.trans (hbf.mono HBE.out.size))
    clear hR hxe hye hbf HRE HPE HBE
    go_wp2_with (first | (refine wpList_load_row_v (by (first | exact Go.Mix.wanted_none rfl | exact Go.Mix.wanted_tt rfl rfl rfl | exact Go.Mix.wanted_ff rfl rfl rfl)) 28 _ rfl _ rfl _ _ _ _ hxf Try.underlying28 rfl (by exact size_cx) ?_; (try go_simp)))
    go_at_call 19
    refine (own08 c _).mono ?_
    rintro e wg ⟨rfl, hbg⟩
    have hxg := box_below hxf hbg (box_lt hxf)
    have hyg := box_below hyf hbg (box_lt hyf)
    have HRG := Lib.hid (rd_grow HRF.out hbg)
    have HPG := Lib.hid (rd_grow HPF.out hbg)
    have HBG := Lib.hid (HBF.out.trans (hbg.mono HBF.out.size))
    clear hxf hyf hbg HRF HPF HBF
    go_wp2_with fail
    go_at_call 22
    refine (rBytes_any c _ HOK.out HRT.out).mono ?_
    rintro e wh ⟨v, rfl, hown, hbh⟩
    obtain ⟨aq, cq, rfl⟩ := own_form hown
    rw [← HP.out] at hown
    have hsm := Same_any ap aq 21 21 cp cq wh.heap.size wh.heap.size P P wh HPL.out HPL.out (rd_grow HPG.out hbh) (rd_of_own (f := bv P) hown (fun i hi => bl_at P (by rw [HPL.out]; exact hi))) HPB.out HPB.out
    rw [decide_eq_true (rfl : P = P)] at hsm
    have HSM := Lib.hid hsm
    have hxh := box_below hxg hbh (box_lt hxg)
    have hyh := box_below hyg hbh (box_lt hyg)
    have HRH := Lib.hid (rd_grow HRG.out hbh)
    have HPH := Lib.hid (rd_grow HPG.out hbh)
    have HBH := Lib.hid (HBG.out.trans (hbh.mono HBG.out.size))
    clear hown hsm hxg hyg hbh HRG HPG HBG
    go_wp2_with fail
    go_at_call 21
    refine HSM.out.mono ?_
    rintro e wi ⟨rfl, qi, hwi⟩
    have hbi : Below wh.heap.size wh wi := by rw [hwi]; exact below_drews _ _ _
    have hxi := box_below hxh hbi (box_lt hxh)
    have hyi := box_below hyh hbi (box_lt hyh)
    have HRI := Lib.hid (rd_grow HRH.out hbi)
    have HPI := Lib.hid (rd_grow HPH.out hbi)
    have HBI := Lib.hid (HBH.out.trans (hbi.mono HBH.out.size))
    clear hwi hxh hyh hbi HRH HPH HBH HSM
    have hal : Below wi.heap.size wi (wi.alloc (.cells #[.slice ap 21 cp] 29)) := (Below.refl _ _).alloc (Nat.le_refl _) _
    have hj1 := Join1 (g := wi.heap.size) (n := wi.heap.size) (t := 29) (w := wi.alloc (.cells #[.slice ap 21 cp] 29)) HPL.out (heap_alloc_new _ _) (HPI.out.below hal) hal.size (by rw [HPL.out]; omega)
    rw [HPL.out] at hj1
    have HJ1 := Lib.hid hj1
    have hxj := box_below hxi hal (box_lt hxi)
    have hyj := box_below hyi hal (box_lt hyi)
    have HRJ := Lib.hid (rd_grow HRI.out hal)
    have HPJ := Lib.hid (rd_grow HPI.out hal)
    have HBJ := Lib.hid (HBI.out.trans (hal.mono HBI.out.size))
    clear hj1 hal hxi hyi HRI HPI HBI
    go_wp2_with fail
    go_at_call 23
    refine HJ1.out.mono ?_
    rintro e wk ⟨v, rfl, hown, hbk⟩
    obtain ⟨gb, cb, rfl, hgb, hgbw⟩ := own_some hown (by omega)
    obtain ⟨y, hy⟩ : ∃ y, y = P.getD j 0 := ⟨_, rfl⟩
    have hyb : y < 256 := by rw [hy]; exact HPB.out.at j
    have hxor := xor8 y a4 hyb (by omega)
    obtain ⟨z, hz⟩ : ∃ z, z = y ^^^ a4 := ⟨_, rfl⟩
    have hzb : z < 256 := by rw [hz]; exact Nat.xor_lt_two_pow (n := 8) hyb (by omega)
    rw [← hz] at hxor
    obtain ⟨hgl, hcl, hfz, hrdb⟩ := own_setRd hown HPL.out hj21 z
    rw [← hy] at hcl
    have hbs : Below (wi.alloc (.cells #[.slice ap 21 cp] 29)).heap.size (wi.alloc (.cells #[.slice ap 21 cp] 29)) (wk.setCell ⟨gb, j, none⟩ (.int .u8 (z : Nat))) := hbk.setCell (p := ⟨gb, j, none⟩) hgb _
    have HXK := Lib.hid (box_below hxj hbs (box_lt hxj))
    have HYK := Lib.hid (box_below hyj hbs (box_lt hyj))
    have HRK := Lib.hid (rd_grow HRJ.out hbs)
    have HPK := Lib.hid (rd_grow HPJ.out hbs)
    have HBK := Lib.hid (HBJ.out.trans (hbs.mono HBJ.out.size))
    obtain ⟨Bt, hBt⟩ : ∃ Bt, Bt = P.set j z := ⟨_, rfl⟩
    rw [← hBt] at hrdb
    have HTK := Lib.hid hrdb
    have HTL := Lib.hid (show Bt.length = 21 by rw [hBt, List.length_set, HPL.out])
    have HTB := Lib.hid (show bytes Bt by rw [hBt]; exact set_bytes HPB.out _ hzb)
    have hjn : ¬ ((21 : Int) ≤ (j : Int)) := by omega
    obtain ⟨w2, hw2⟩ : ∃ w2, w2 = wk.setCell ⟨gb, j, none⟩ (.int .u8 (z : Nat)) := ⟨_, rfl⟩
    rw [← hw2] at HXK HYK HRK HPK HBK HTK
    have HW2 := Lib.hid hw2
    have HSZ := Lib.hid (show w2.heap.size = wk.heap.size by rw [hw2]; simp)
    clear hown hbk hxj hyj hbs hrdb HRJ HPJ HBJ HJ1 hy hz hBt hgbw hgb hw2
    skip
    go_wp2
    rw [← HW2.out]; clear hjI hxor hcl hfz hgl
    have hal : Below w2.heap.size w2 (w2.alloc (.cells #[.slice (ap) 21 cp, .slice (some ⟨gb, 0, none⟩) 21 cb, .slice ar mr cr] 29)) := (Below.refl _ _).alloc (Nat.le_refl _) _
    have hbox := heap_alloc_new w2 (.cells #[.slice (ap) 21 cp, .slice (some ⟨gb, 0, none⟩) 21 cb, .slice ar mr cr] 29)
    obtain ⟨wL, hwL⟩ : ∃ wL, wL = w2.alloc (.cells #[.slice (ap) 21 cp, .slice (some ⟨gb, 0, none⟩) 21 cb, .slice ar mr cr] 29) := ⟨_, rfl⟩
    obtain ⟨gq, hgq⟩ : ∃ gq, gq = wk.heap.size := ⟨_, rfl⟩
    rw [← hwL] at hal hbox
    rw [HSZ.out, ← hgq] at hbox
    rw [← hwL, ← hgq]
    obtain ⟨A, M, C, LL, hrow⟩ : ∃ (A : Nat → Option Addr) (M C : Nat → Nat) (LL : Nat → List Nat), ∀ k, k < 3 → wL.cell? ⟨gq, k, none⟩ = some (.slice (A k) (M k) (C k)) ∧ (LL k).length = M k ∧ bytes (LL k) ∧ M k ≤ 1000000 ∧ Rd wL.heap.size wL (A k) (M k) (C k) (bv (LL k)) :=
      ⟨at3 (ap) (some ⟨gb, 0, none⟩) ar, at3 21 21 mr, at3 cp cb cr, at3 P Bt lr, all3
        ⟨cell_of_row wL gq 0 _ _ _ hbox, HPL.out, HPB.out, by show 21 ≤ 1000000; omega, rd_grow HPK.out hal⟩
        ⟨cell_of_row wL gq 1 _ _ _ hbox, HTL.out, HTB.out, by show 21 ≤ 1000000; omega, rd_grow HTK.out hal⟩
        ⟨cell_of_row wL gq 2 _ _ _ hbox, HLR.out, HLB.out, by show mr ≤ 1000000; omega, rd_grow HRK.out hal⟩⟩
    have HROW := Lib.hid hrow
    have HXL := Lib.hid (box_below HXK.out hal (box_lt HXK.out))
    have HYL := Lib.hid (box_below HYK.out hal (box_lt HYK.out))
    have HBL := Lib.hid (HBK.out.trans (hal.mono HBK.out.size))
    have hgqw := box_lt hbox
    have hsL := HBL.out.size
    clear hwL hgq hal hbox hrow HXK HYK HBK HRK
    go_loopw [70] (fun i wr => ∃ k : Nat, k ≤ 3 ∧ i = .int .i64 (k : Nat) ∧ Below wL.heap.size wL wr) (fun i _ => 3 - (intOf i).toNat)
    case atStart => exact ⟨0, by omega, rfl, Below.refl _ _⟩
    case round =>
      obtain ⟨k, hk, rfl, hB⟩ := hrel
      by_cases hlt : k < 3
      · obtain ⟨hc, hl, hb, hm, hr⟩ := HROW.out k hlt
        have hc2 := (hB.cell (p := ⟨gq, k, none⟩) hgqw).trans hc
        obtain ⟨pa, hpa⟩ : ∃ x, x = A k := ⟨_, rfl⟩
        obtain ⟨pm, hpm⟩ : ∃ x, x = M k := ⟨_, rfl⟩
        obtain ⟨pc, hpc⟩ : ∃ x, x = C k := ⟨_, rfl⟩
        obtain ⟨pl, hpl⟩ : ∃ x, x = LL k := ⟨_, rfl⟩
        rw [← hpa, ← hpm, ← hpc] at hc2
        rw [← hpm, ← hpl] at hl
        rw [← hpl] at hb
        rw [← hpm] at hm
        rw [← hpa, ← hpm, ← hpc, ← hpl] at hr
        have HR := Lib.hid (rd_grow hr hB)
        have HL := Lib.hid hl
        have HB := Lib.hid hb
        have HBR := Lib.hid hB
        have hsr := hB.size
        clear hc hl hb hr hB hpa hpm hpc hpl
        go_wp2_with fail
        go_at_call 24
        refine (cParse_all pa pm pc _ pl _ HL.out (Nat.le_refl _) HR.out HB.out hm).mono ?_
        rintro e w3 ⟨hb3, ⟨hg, rfl⟩ | ⟨hg, rfl⟩⟩
        · obtain ⟨cc, hcc⟩ : ∃ cc, cc = cxOf pl := ⟨_, rfl⟩
          rw [← hcc]
          have hal4 : Below w3.heap.size w3 (w3.alloc (.cells #[.int .u16 cc.f, .int .u16 cc.i, .int .u8 cc.r0, .int .u8 cc.r1, .int .u8 cc.r2, .int .u8 cc.r3, .int .u8 cc.r4, .int .u8 cc.r5, .int .i8 cc.c0, .int .i8 cc.c1, .int .i8 cc.c2, .int .i8 cc.c3, .int .i8 cc.c4, .int .i8 cc.c5, .int .u8 cc.m, .int .u16 cc.n, .bool cc.x, .int .u8 cc.h] 28)) := (Below.refl _ _).alloc (Nat.le_refl _) _
          obtain ⟨w4, hw4, hb4, hx4⟩ : ∃ w4, w4 = w3.alloc (.cells #[.int .u16 cc.f, .int .u16 cc.i, .int .u8 cc.r0, .int .u8 cc.r1, .int .u8 cc.r2, .int .u8 cc.r3, .int .u8 cc.r4, .int .u8 cc.r5, .int .i8 cc.c0, .int .i8 cc.c1, .int .i8 cc.c2, .int .i8 cc.c3, .int .i8 cc.c4, .int .i8 cc.c5, .int .u8 cc.m, .int .u16 cc.n, .bool cc.x, .int .u8 cc.h] 28) ∧ Below wr.heap.size wr w4 ∧ w4.heap[w3.heap.size]? = some (.cells #[.int .u16 cc.f, .int .u16 cc.i, .int .u8 cc.r0, .int .u8 cc.r1, .int .u8 cc.r2, .int .u8 cc.r3, .int .u8 cc.r4, .int .u8 cc.r5, .int .i8 cc.c0, .int .i8 cc.c1, .int .i8 cc.c2, .int .i8 cc.c3, .int .i8 cc.c4, .int .i8 cc.c5, .int .u8 cc.m, .int .u16 cc.n, .bool cc.x, .int .u8 cc.h] 28 (0, 0)) := ⟨_, rfl, hb3.trans (hal4.mono hb3.size), heap_alloc_new _ _⟩
          have HW4 := Lib.hid hw4
          have HX4 := Lib.hid hx4
          have HB4 := Lib.hid hb4
          have HCC := Lib.hid hcc
          have HG := Lib.hid hg
          have HR4 := Lib.hid (rd_grow HR.out hb4)
          clear hb3 hal4 hw4 hx4 hb4 hcc hg
          go_wp2_with (first | (refine wpList_store_row rfl 28 _ _ rfl _ _ rfl rfl _ _ (heap_alloc_new _ _) (by exact size_cx) (by rfl) (by simp [Value.oneCell']) ?_; rw [World.setRow_alloc_new]; rw [← HW4.out]))
          go_at_call 25
          refine (xParse_any pa pm pc _ pl _ HL.out (Nat.le_refl _) HR4.out HB.out).mono ?_
          rintro e w5 ⟨hb5, ⟨_, rfl⟩ | ⟨hg, _⟩⟩
          rotate_left
          · exact absurd HG.out hg
          rw [← HCC.out]
          have hal6 : Below w5.heap.size w5 (w5.alloc (.cells #[.int .u16 cc.f, .int .u16 cc.i, .int .u8 cc.r0, .int .u8 cc.r1, .int .u8 cc.r2, .int .u8 cc.r3, .int .u8 cc.r4, .int .u8 cc.r5, .int .i8 cc.c0, .int .i8 cc.c1, .int .i8 cc.c2, .int .i8 cc.c3, .int .i8 cc.c4, .int .i8 cc.c5, .int .u8 cc.m, .int .u16 cc.n, .bool cc.x, .int .u8 cc.h] 35)) := (Below.refl _ _).alloc (Nat.le_refl _) _
          obtain ⟨w6, hw6, hb6, hx6⟩ : ∃ w6, w6 = w5.alloc (.cells #[.int .u16 cc.f, .int .u16 cc.i, .int .u8 cc.r0, .int .u8 cc.r1, .int .u8 cc.r2, .int .u8 cc.r3, .int .u8 cc.r4, .int .u8 cc.r5, .int .i8 cc.c0, .int .i8 cc.c1, .int .i8 cc.c2, .int .i8 cc.c3, .int .i8 cc.c4, .int .i8 cc.c5, .int .u8 cc.m, .int .u16 cc.n, .bool cc.x, .int .u8 cc.h] 35) ∧ Below w4.heap.size w4 w6 ∧ w6.heap[w5.heap.size]? = some (.cells #[.int .u16 cc.f, .int .u16 cc.i, .int .u8 cc.r0, .int .u8 cc.r1, .int .u8 cc.r2, .int .u8 cc.r3, .int .u8 cc.r4, .int .u8 cc.r5, .int .i8 cc.c0, .int .i8 cc.c1, .int .i8 cc.c2, .int .i8 cc.c3, .int .i8 cc.c4, .int .i8 cc.c5, .int .u8 cc.m, .int .u16 cc.n, .bool cc.x, .int .u8 cc.h] 35 (0, 0)) := ⟨_, rfl, hb5.trans (hal6.mono hb5.size), heap_alloc_new _ _⟩
          have HW6 := Lib.hid hw6
          have hy6 := box_below HX4.out hb6 (box_lt HX4.out)
          have HB6 := Lib.hid (HBR.out.trans ((HB4.out.trans (hb6.mono HB4.out.size)).mono hsr))
          obtain ⟨x6, hx66⟩ : ∃ x, x = w5.heap.size := ⟨_, rfl⟩
          obtain ⟨y6, hy66⟩ : ∃ x, x = w3.heap.size := ⟨_, rfl⟩
          rw [← hx66] at hx6
          rw [← hy66] at hy6
          have HXX := Lib.hid hx66
          have HYY := Lib.hid hy66
          have HX6 := Lib.hid hx6
          have HY6 := Lib.hid hy6
          clear hb5 hal6 hw6 hb6 hx6 hy6 hx66 hy66 HB4 HX4 HR4 HR
          go_wp2_with (first | (refine wpList_store_row rfl 35 _ _ rfl _ _ rfl rfl _ _ (heap_alloc_new _ _) (by exact size_rc) (by rfl) (by simp [Value.oneCell']) ?_; rw [World.setRow_alloc_new]; rw [← HW6.out]))
          rw [← HXX.out, ← HYY.out]
          have hxl := box_lt HX6.out
          have hyl := box_lt HY6.out
          have he := fun w => neqRx cc cc w
          rw [decide_eq_true (rfl : cc = cc)] at he
          have HE := Lib.hid he
          clear he
          obtain ⟨I, W, hne, hWI, hIW⟩ := Go.Mix.family (fun v => Below w6.heap.size w6 v) (Below.refl _ _)
          have HJ := Lib.hid hIW
          have HW := Lib.hid hWI
          clear hWI hIW
          refine Go.Flo.wp_region (fun w' => ∃ i, w' = W i) 26 [Go.Flo.Spec.is (.agg #[.int .u16 cc.f, .int .u16 cc.i, .int .u8 cc.r0, .int .u8 cc.r1, .int .u8 cc.r2, .int .u8 cc.r3, .int .u8 cc.r4, .int .u8 cc.r5, .int .i8 cc.c0, .int .i8 cc.c1, .int .i8 cc.c2, .int .i8 cc.c3, .int .i8 cc.c4, .int .i8 cc.c5, .int .u8 cc.m, .int .u16 cc.n, .bool cc.x, .int .u8 cc.h])] (by kernel_rfl) (by kernel_rfl) (by decide) (by rintro _ w' ⟨i, rfl⟩ hb; exact HJ.out _ ((HW.out i).trans (hb.mono (HW.out i).size))) (HJ.out _ (Below.refl _ _).drew) ?_
          simp only [Go.Flo.pair, Go.Mix.calm, List.take, List.drop, if_true, Bool.false_eq_true, if_false, Nat.reduceAdd, Nat.reduceSub]
          (repeat (first | (refine Go.Flo.fw_calm rfl ?_ (fun K hK => ?_); (first | exact Go.Mix.wanted_none rfl | exact Go.Mix.wanted_tt rfl rfl rfl | exact Go.Mix.wanted_ff rfl rfl rfl); go_big_quiet_op; refine hK _ ?_; clear hK K) | (refine Go.Flo.fw_skip ?_ (fun K hK => ?_); (first | exact Go.Mix.wanted_tf rfl rfl rfl | exact Go.Mix.wanted_ft rfl rfl rfl); go_simp; refine hK _ ?_; clear hK K) | (refine Go.Flo.fw_any rfl ?_ (fun K hK => ?_); (first | exact Go.Mix.wanted_none rfl | exact Go.Mix.wanted_tt rfl rfl rfl | exact Go.Mix.wanted_ff rfl rfl rfl); go_simp; (try (go_ints; try go_simp)); refine hK _ ?_; clear hK K)))
          (refine Go.Flo.fw_calm rfl ?_ (fun K hK => ?_); (first | exact Go.Mix.wanted_none rfl | exact Go.Mix.wanted_tt rfl rfl rfl | exact Go.Mix.wanted_ff rfl rfl rfl); refine Go.Flo.quiet_load_row 28 _ rfl y6 rfl _ #[.int .u16 cc.f, .int .u16 cc.i, .int .u8 cc.r0, .int .u8 cc.r1, .int .u8 cc.r2, .int .u8 cc.r3, .int .u8 cc.r4, .int .u8 cc.r5, .int .i8 cc.c0, .int .i8 cc.c1, .int .i8 cc.c2, .int .i8 cc.c3, .int .i8 cc.c4, .int .i8 cc.c5, .int .u8 cc.m, .int .u16 cc.n, .bool cc.x, .int .u8 cc.h] _ (by rintro _ ⟨i, rfl⟩; exact ((HW.out i).block y6 hyl).trans HY6.out) Try.underlying28 rfl size_cx ?_; go_simp; refine hK _ ?_; clear hK K)
          refine Go.Flo.fw_loud rfl ?_ rfl (by simp) (fun wv hwv hav K hK => ?_) (fun v hv K hK => ?_)
          · (first | exact Go.Mix.wanted_none rfl | exact Go.Mix.wanted_tt rfl rfl rfl | exact Go.Mix.wanted_ff rfl rfl rfl)
          · obtain ⟨iv, rfl⟩ := hwv
            have hbv := HW.out iv
            (first | go_big_op | go_simp)
            go_at_call 19
            refine (own08 cc _).mono ?_
            rintro e w' ⟨rfl, hbb⟩
            exact hK _ _ (Go.Flo.owes_is _ rfl hbb)
          obtain rfl := hv.is
          go_simp
          refine hK _ ?_
          clear hK K hv
          (repeat (first | (refine Go.Flo.fw_calm rfl ?_ (fun K hK => ?_); (first | exact Go.Mix.wanted_none rfl | exact Go.Mix.wanted_tt rfl rfl rfl | exact Go.Mix.wanted_ff rfl rfl rfl); go_big_quiet_op; refine hK _ ?_; clear hK K) | (refine Go.Flo.fw_skip ?_ (fun K hK => ?_); (first | exact Go.Mix.wanted_tf rfl rfl rfl | exact Go.Mix.wanted_ft rfl rfl rfl); go_simp; refine hK _ ?_; clear hK K) | (refine Go.Flo.fw_any rfl ?_ (fun K hK => ?_); (first | exact Go.Mix.wanted_none rfl | exact Go.Mix.wanted_tt rfl rfl rfl | exact Go.Mix.wanted_ff rfl rfl rfl); go_simp; (try (go_ints; try go_simp)); refine hK _ ?_; clear hK K)))
          (refine Go.Flo.fw_calm rfl ?_ (fun K hK => ?_); (first | exact Go.Mix.wanted_none rfl | exact Go.Mix.wanted_tt rfl rfl rfl | exact Go.Mix.wanted_ff rfl rfl rfl); refine Go.Flo.quiet_load_row 35 _ rfl x6 rfl _ #[.int .u16 cc.f, .int .u16 cc.i, .int .u8 cc.r0, .int .u8 cc.r1, .int .u8 cc.r2, .int .u8 cc.r3, .int .u8 cc.r4, .int .u8 cc.r5, .int .i8 cc.c0, .int .i8 cc.c1, .int .i8 cc.c2, .int .i8 cc.c3, .int .i8 cc.c4, .int .i8 cc.c5, .int .u8 cc.m, .int .u16 cc.n, .bool cc.x, .int .u8 cc.h] _ (by rintro _ ⟨i, rfl⟩; exact ((HW.out i).block x6 hxl).trans HX6.out) Try.underlying35 rfl size_rc ?_; go_simp; refine hK _ ?_; clear hK K)
          have he := HE.out
          (repeat (first | (refine Go.Flo.fw_calm rfl ?_ (fun K hK => ?_); (first | exact Go.Mix.wanted_none rfl | exact Go.Mix.wanted_tt rfl rfl rfl | exact Go.Mix.wanted_ff rfl rfl rfl); go_big_quiet_op; refine hK _ ?_; clear hK K) | (refine Go.Flo.fw_skip ?_ (fun K hK => ?_); (first | exact Go.Mix.wanted_tf rfl rfl rfl | exact Go.Mix.wanted_ft rfl rfl rfl); go_simp; refine hK _ ?_; clear hK K) | (refine Go.Flo.fw_any rfl ?_ (fun K hK => ?_); (first | exact Go.Mix.wanted_none rfl | exact Go.Mix.wanted_tt rfl rfl rfl | exact Go.Mix.wanted_ff rfl rfl rfl); go_simp; (try (go_ints; try go_simp)); refine hK _ ?_; clear hK K)))
          (refine Go.Flo.fw_skip (wanted_un rfl rfl rfl) (fun K hK => ?_); go_simp; refine hK _ ?_; clear hK K)
          (refine Go.Flo.fw_skip (wanted_un rfl rfl rfl) (fun K hK => ?_); go_simp; refine hK _ ?_; clear hK K)
          (refine Go.Flo.fw_skip (wanted_un rfl rfl rfl) (fun K hK => ?_); go_simp; refine hK _ ?_; clear hK K)
          (repeat (first | (refine Go.Flo.fw_calm rfl ?_ (fun K hK => ?_); (first | exact Go.Mix.wanted_none rfl | exact Go.Mix.wanted_tt rfl rfl rfl | exact Go.Mix.wanted_ff rfl rfl rfl); go_big_quiet_op; refine hK _ ?_; clear hK K) | (refine Go.Flo.fw_skip ?_ (fun K hK => ?_); (first | exact Go.Mix.wanted_tf rfl rfl rfl | exact Go.Mix.wanted_ft rfl rfl rfl); go_simp; refine hK _ ?_; clear hK K) | (refine Go.Flo.fw_any rfl ?_ (fun K hK => ?_); (first | exact Go.Mix.wanted_none rfl | exact Go.Mix.wanted_tt rfl rfl rfl | exact Go.Mix.wanted_ff rfl rfl rfl); go_simp; (try (go_ints; try go_simp)); refine hK _ ?_; clear hK K)))
          refine Go.Flo.fw_nil ?_
          intro w7 hww7 hfw7 huw7
          refine Go.Flo.tw_nil ?_
          obtain ⟨iend, hiend⟩ := hww7
          have hbw7 := HW.out iend
          rw [← hiend] at hbw7
          clear hiend iend huw7
          have HB7 := Lib.hid (HB6.out.trans (hbw7.mono HB6.out.size))
          clear hfw7 HJ HW hne he hbw7 hxl hyl
          clear W I
          go_wp2
          go_roundw
          case rel => exact ⟨k + 1, by omega, by go_num, HB7.out⟩
          case measure => simp [intOf]; omega
        · have hal4 : Below w3.heap.size w3 (w3.alloc (.cells #[.int .u16 cxZero.f, .int .u16 cxZero.i, .int .u8 cxZero.r0, .int .u8 cxZero.r1, .int .u8 cxZero.r2, .int .u8 cxZero.r3, .int .u8 cxZero.r4, .int .u8 cxZero.r5, .int .i8 cxZero.c0, .int .i8 cxZero.c1, .int .i8 cxZero.c2, .int .i8 cxZero.c3, .int .i8 cxZero.c4, .int .i8 cxZero.c5, .int .u8 cxZero.m, .int .u16 cxZero.n, .bool cxZero.x, .int .u8 cxZero.h] 28)) := (Below.refl _ _).alloc (Nat.le_refl _) _
          obtain ⟨w4, hw4, hb4, hx4⟩ : ∃ w4, w4 = w3.alloc (.cells #[.int .u16 cxZero.f, .int .u16 cxZero.i, .int .u8 cxZero.r0, .int .u8 cxZero.r1, .int .u8 cxZero.r2, .int .u8 cxZero.r3, .int .u8 cxZero.r4, .int .u8 cxZero.r5, .int .i8 cxZero.c0, .int .i8 cxZero.c1, .int .i8 cxZero.c2, .int .i8 cxZero.c3, .int .i8 cxZero.c4, .int .i8 cxZero.c5, .int .u8 cxZero.m, .int .u16 cxZero.n, .bool cxZero.x, .int .u8 cxZero.h] 28) ∧ Below wr.heap.size wr w4 ∧ w4.heap[w3.heap.size]? = some (.cells #[.int .u16 cxZero.f, .int .u16 cxZero.i, .int .u8 cxZero.r0, .int .u8 cxZero.r1, .int .u8 cxZero.r2, .int .u8 cxZero.r3, .int .u8 cxZero.r4, .int .u8 cxZero.r5, .int .i8 cxZero.c0, .int .i8 cxZero.c1, .int .i8 cxZero.c2, .int .i8 cxZero.c3, .int .i8 cxZero.c4, .int .i8 cxZero.c5, .int .u8 cxZero.m, .int .u16 cxZero.n, .bool cxZero.x, .int .u8 cxZero.h] 28 (0, 0)) := ⟨_, rfl, hb3.trans (hal4.mono hb3.size), heap_alloc_new _ _⟩
          have HW4 := Lib.hid hw4
          have HX4 := Lib.hid hx4
          have HB4 := Lib.hid hb4
          have HG := Lib.hid hg
          have HR4 := Lib.hid (rd_grow HR.out hb4)
          clear hb3 hal4 hw4 hx4 hb4 hg
          go_wp2_with (first | (refine wpList_store_row rfl 28 _ _ rfl _ _ rfl rfl _ _ (heap_alloc_new _ _) (by exact size_cx) (by rfl) (by simp [Value.oneCell']) ?_; rw [World.setRow_alloc_new]; rw [← HW4.out]))
          go_at_call 25
          refine (xParse_any pa pm pc _ pl _ HL.out (Nat.le_refl _) HR4.out HB.out).mono ?_
          rintro e w5 ⟨hb5, ⟨hg, _⟩ | ⟨_, rfl⟩⟩
          · exact absurd hg HG.out
          have hal6 : Below w5.heap.size w5 (w5.alloc (.cells #[.int .u16 cxZero.f, .int .u16 cxZero.i, .int .u8 cxZero.r0, .int .u8 cxZero.r1, .int .u8 cxZero.r2, .int .u8 cxZero.r3, .int .u8 cxZero.r4, .int .u8 cxZero.r5, .int .i8 cxZero.c0, .int .i8 cxZero.c1, .int .i8 cxZero.c2, .int .i8 cxZero.c3, .int .i8 cxZero.c4, .int .i8 cxZero.c5, .int .u8 cxZero.m, .int .u16 cxZero.n, .bool cxZero.x, .int .u8 cxZero.h] 35)) := (Below.refl _ _).alloc (Nat.le_refl _) _
          obtain ⟨w6, hw6, hb6⟩ : ∃ w6, w6 = w5.alloc (.cells #[.int .u16 cxZero.f, .int .u16 cxZero.i, .int .u8 cxZero.r0, .int .u8 cxZero.r1, .int .u8 cxZero.r2, .int .u8 cxZero.r3, .int .u8 cxZero.r4, .int .u8 cxZero.r5, .int .i8 cxZero.c0, .int .i8 cxZero.c1, .int .i8 cxZero.c2, .int .i8 cxZero.c3, .int .i8 cxZero.c4, .int .i8 cxZero.c5, .int .u8 cxZero.m, .int .u16 cxZero.n, .bool cxZero.x, .int .u8 cxZero.h] 35) ∧ Below w4.heap.size w4 w6 := ⟨_, rfl, hb5.trans (hal6.mono hb5.size)⟩
          have HW6 := Lib.hid hw6
          have hy6 := box_below HX4.out hb6 (box_lt HX4.out)
          have HB6 := Lib.hid (HBR.out.trans ((HB4.out.trans (hb6.mono HB4.out.size)).mono hsr))
          obtain ⟨y6, hy66⟩ : ∃ x, x = w3.heap.size := ⟨_, rfl⟩
          rw [← hy66] at hy6
          have HYY := Lib.hid hy66
          have HY6 := Lib.hid hy6
          clear hb5 hal6 hw6 hb6 hy6 hy66 HB4 HX4 HR4 HR
          go_wp2_with (first | (refine wpList_store_row rfl 35 _ _ rfl _ _ rfl rfl _ _ (heap_alloc_new _ _) (by exact size_rc) (by rfl) (by simp [Value.oneCell']) ?_; rw [World.setRow_alloc_new]; rw [← HW6.out]))
          rw [← HYY.out]
          have hyl := box_lt HY6.out
          have hzc := zero_cx
          have he := fun w => neqCx cxZero cxZero w
          rw [decide_eq_true (rfl : cxZero = cxZero)] at he
          have HE := Lib.hid he
          clear he
          obtain ⟨I, W, hne, hWI, hIW⟩ := Go.Mix.family (fun v => Below w6.heap.size w6 v) (Below.refl _ _)
          have HJ := Lib.hid hIW
          have HW := Lib.hid hWI
          clear hWI hIW
          refine Go.Flo.wp_region (fun w' => ∃ i, w' = W i) 26 [Go.Flo.dflt] (by kernel_rfl) (by kernel_rfl) (by decide) (by rintro _ w' ⟨i, rfl⟩ hb; exact HJ.out _ ((HW.out i).trans (hb.mono (HW.out i).size))) (HJ.out _ (Below.refl _ _).drew) ?_
          simp only [Go.Flo.pair, Go.Mix.calm, List.take, List.drop, if_true, Bool.false_eq_true, if_false, Nat.reduceAdd, Nat.reduceSub]
          (repeat (first | (refine Go.Flo.fw_calm rfl ?_ (fun K hK => ?_); (first | exact Go.Mix.wanted_none rfl | exact Go.Mix.wanted_tt rfl rfl rfl | exact Go.Mix.wanted_ff rfl rfl rfl); go_big_quiet_op; refine hK _ ?_; clear hK K) | (refine Go.Flo.fw_skip ?_ (fun K hK => ?_); (first | exact Go.Mix.wanted_tf rfl rfl rfl | exact Go.Mix.wanted_ft rfl rfl rfl); go_simp; refine hK _ ?_; clear hK K) | (refine Go.Flo.fw_any rfl ?_ (fun K hK => ?_); (first | exact Go.Mix.wanted_none rfl | exact Go.Mix.wanted_tt rfl rfl rfl | exact Go.Mix.wanted_ff rfl rfl rfl); go_simp; (try (go_ints; try go_simp)); refine hK _ ?_; clear hK K)))
          (refine Go.Flo.fw_calm rfl ?_ (fun K hK => ?_); (first | exact Go.Mix.wanted_none rfl | exact Go.Mix.wanted_tt rfl rfl rfl | exact Go.Mix.wanted_ff rfl rfl rfl); refine Go.Flo.quiet_load_row 28 _ rfl y6 rfl _ #[.int .u16 cxZero.f, .int .u16 cxZero.i, .int .u8 cxZero.r0, .int .u8 cxZero.r1, .int .u8 cxZero.r2, .int .u8 cxZero.r3, .int .u8 cxZero.r4, .int .u8 cxZero.r5, .int .i8 cxZero.c0, .int .i8 cxZero.c1, .int .i8 cxZero.c2, .int .i8 cxZero.c3, .int .i8 cxZero.c4, .int .i8 cxZero.c5, .int .u8 cxZero.m, .int .u16 cxZero.n, .bool cxZero.x, .int .u8 cxZero.h] _ (by rintro _ ⟨i, rfl⟩; exact ((HW.out i).block y6 hyl).trans HY6.out) Try.underlying28 rfl size_cx ?_; go_simp; refine hK _ ?_; clear hK K)
          have he := HE.out
          (repeat (first | (refine Go.Flo.fw_calm rfl ?_ (fun K hK => ?_); (first | exact Go.Mix.wanted_none rfl | exact Go.Mix.wanted_tt rfl rfl rfl | exact Go.Mix.wanted_ff rfl rfl rfl); go_big_quiet_op; refine hK _ ?_; clear hK K) | (refine Go.Flo.fw_skip ?_ (fun K hK => ?_); (first | exact Go.Mix.wanted_tf rfl rfl rfl | exact Go.Mix.wanted_ft rfl rfl rfl); go_simp; refine hK _ ?_; clear hK K) | (refine Go.Flo.fw_any rfl ?_ (fun K hK => ?_); (first | exact Go.Mix.wanted_none rfl | exact Go.Mix.wanted_tt rfl rfl rfl | exact Go.Mix.wanted_ff rfl rfl rfl); go_simp; (try (go_ints; try go_simp)); refine hK _ ?_; clear hK K)))
          refine Go.Flo.fw_nil ?_
          intro w7 hww7 hfw7 huw7
          refine Go.Flo.tw_nil ?_
          obtain ⟨iend, hiend⟩ := hww7
          have hbw7 := HW.out iend
          rw [← hiend] at hbw7
          clear hiend iend huw7
          have HB7 := Lib.hid (HB6.out.trans (hbw7.mono HB6.out.size))
          clear hfw7 HJ HW hne he hbw7 hyl hzc
          clear W I
          go_wp2
          go_roundw
          case rel => exact ⟨k + 1, by omega, by go_num, HB7.out⟩
          case measure => simp [intOf]; omega
      · have HB := Lib.hid (HBL.out.trans (hB.mono hsL))
        have HX := Lib.hid (box_below HXL.out hB (box_lt HXL.out))
        have HY := Lib.hid (box_below HYL.out hB (box_lt HYL.out))
        have hswr := HB.out.size
        obtain ⟨t, ht⟩ : ∃ t, t = decide (c = d) := ⟨_, rfl⟩
        have he := fun w => eqlCx c d w
        rw [← ht] at he
        have HE := Lib.hid he
        have HT := Lib.hid ht
        have hxl := box_lt HX.out
        have hyl := box_lt HY.out
        clear he ht hB HXL HYL HBL
        go_wp2_with fail
        obtain ⟨I, W, hne, hWI, hIW⟩ := Go.Mix.family (fun v => Below wr.heap.size wr v) (Below.refl _ _)
        have HJ := Lib.hid hIW
        have HW := Lib.hid hWI
        clear hWI hIW
        refine Go.Flo.wp_region (fun w' => ∃ i, w' = W i) 13 [Go.Flo.Spec.is (.bool t), Go.Flo.Spec.is (.bool true)] (by kernel_rfl) (by kernel_rfl) (by decide) (by rintro _ w' ⟨i, rfl⟩ hb; exact HJ.out _ ((HW.out i).trans (hb.mono (HW.out i).size))) (HJ.out _ (Below.refl _ _).drew) ?_
        simp only [Go.Flo.pair, Go.Mix.calm, List.take, List.drop, if_true, Bool.false_eq_true, if_false, Nat.reduceAdd, Nat.reduceSub]
        (refine Go.Flo.fw_calm rfl ?_ (fun K hK => ?_); (first | exact Go.Mix.wanted_none rfl | exact Go.Mix.wanted_tt rfl rfl rfl | exact Go.Mix.wanted_ff rfl rfl rfl); refine Go.Flo.quiet_load_row 28 _ rfl x0 rfl _ #[.int .u16 c.f, .int .u16 c.i, .int .u8 c.r0, .int .u8 c.r1, .int .u8 c.r2, .int .u8 c.r3, .int .u8 c.r4, .int .u8 c.r5, .int .i8 c.c0, .int .i8 c.c1, .int .i8 c.c2, .int .i8 c.c3, .int .i8 c.c4, .int .i8 c.c5, .int .u8 c.m, .int .u16 c.n, .bool c.x, .int .u8 c.h] _ (by rintro _ ⟨i, rfl⟩; exact ((HW.out i).block x0 hxl).trans HX.out) Try.underlying28 rfl size_cx ?_; go_simp; refine hK _ ?_; clear hK K)
        (refine Go.Flo.fw_calm rfl ?_ (fun K hK => ?_); (first | exact Go.Mix.wanted_none rfl | exact Go.Mix.wanted_tt rfl rfl rfl | exact Go.Mix.wanted_ff rfl rfl rfl); refine Go.Flo.quiet_load_row 28 _ rfl (x0 + 1) rfl _ #[.int .u16 d.f, .int .u16 d.i, .int .u8 d.r0, .int .u8 d.r1, .int .u8 d.r2, .int .u8 d.r3, .int .u8 d.r4, .int .u8 d.r5, .int .i8 d.c0, .int .i8 d.c1, .int .i8 d.c2, .int .i8 d.c3, .int .i8 d.c4, .int .i8 d.c5, .int .u8 d.m, .int .u16 d.n, .bool d.x, .int .u8 d.h] _ (by rintro _ ⟨i, rfl⟩; exact ((HW.out i).block (x0 + 1) hyl).trans HY.out) Try.underlying28 rfl size_cx ?_; go_simp; refine hK _ ?_; clear hK K)
        refine Go.Flo.fw_loud rfl ?_ rfl (by simp) (fun wv hwv hav K hK => ?_) (fun v hv K hK => ?_)
        · (first | exact Go.Mix.wanted_none rfl | exact Go.Mix.wanted_tt rfl rfl rfl | exact Go.Mix.wanted_ff rfl rfl rfl)
        · obtain ⟨iv, rfl⟩ := hwv
          have hbv := HW.out iv
          (first | go_big_op | go_simp)
          go_at_call 26
          refine (cSame_any c d _).mono ?_
          rintro e w' ⟨rfl, hbb⟩
          rw [← HT.out]
          exact hK _ _ (Go.Flo.owes_is _ rfl hbb)
        obtain rfl := hv.is
        go_simp
        refine hK _ ?_
        clear hK K hv
        (refine Go.Flo.fw_calm rfl ?_ (fun K hK => ?_); (first | exact Go.Mix.wanted_none rfl | exact Go.Mix.wanted_tt rfl rfl rfl | exact Go.Mix.wanted_ff rfl rfl rfl); refine Go.Flo.quiet_load_row 28 _ rfl x0 rfl _ #[.int .u16 c.f, .int .u16 c.i, .int .u8 c.r0, .int .u8 c.r1, .int .u8 c.r2, .int .u8 c.r3, .int .u8 c.r4, .int .u8 c.r5, .int .i8 c.c0, .int .i8 c.c1, .int .i8 c.c2, .int .i8 c.c3, .int .i8 c.c4, .int .i8 c.c5, .int .u8 c.m, .int .u16 c.n, .bool c.x, .int .u8 c.h] _ (by rintro _ ⟨i, rfl⟩; exact ((HW.out i).block x0 hxl).trans HX.out) Try.underlying28 rfl size_cx ?_; go_simp; refine hK _ ?_; clear hK K)
        (refine Go.Flo.fw_calm rfl ?_ (fun K hK => ?_); (first | exact Go.Mix.wanted_none rfl | exact Go.Mix.wanted_tt rfl rfl rfl | exact Go.Mix.wanted_ff rfl rfl rfl); refine Go.Flo.quiet_load_row 28 _ rfl (x0 + 1) rfl _ #[.int .u16 d.f, .int .u16 d.i, .int .u8 d.r0, .int .u8 d.r1, .int .u8 d.r2, .int .u8 d.r3, .int .u8 d.r4, .int .u8 d.r5, .int .i8 d.c0, .int .i8 d.c1, .int .i8 d.c2, .int .i8 d.c3, .int .i8 d.c4, .int .i8 d.c5, .int .u8 d.m, .int .u16 d.n, .bool d.x, .int .u8 d.h] _ (by rintro _ ⟨i, rfl⟩; exact ((HW.out i).block (x0 + 1) hyl).trans HY.out) Try.underlying28 rfl size_cx ?_; go_simp; refine hK _ ?_; clear hK K)
        have he := HE.out
        (repeat (first | (refine Go.Flo.fw_calm rfl ?_ (fun K hK => ?_); (first | exact Go.Mix.wanted_none rfl | exact Go.Mix.wanted_tt rfl rfl rfl | exact Go.Mix.wanted_ff rfl rfl rfl); go_big_quiet_op; refine hK _ ?_; clear hK K) | (refine Go.Flo.fw_skip ?_ (fun K hK => ?_); (first | exact Go.Mix.wanted_tf rfl rfl rfl | exact Go.Mix.wanted_ft rfl rfl rfl); go_simp; refine hK _ ?_; clear hK K) | (refine Go.Flo.fw_any rfl ?_ (fun K hK => ?_); (first | exact Go.Mix.wanted_none rfl | exact Go.Mix.wanted_tt rfl rfl rfl | exact Go.Mix.wanted_ff rfl rfl rfl); go_simp; (try (go_ints; try go_simp)); refine hK _ ?_; clear hK K)))
        clear he
        (refine Go.Flo.fw_calm rfl ?_ (fun K hK => ?_); (first | exact Go.Mix.wanted_none rfl | exact Go.Mix.wanted_tt rfl rfl rfl | exact Go.Mix.wanted_ff rfl rfl rfl); refine Go.Flo.quiet_load_row 28 _ rfl x0 rfl _ #[.int .u16 c.f, .int .u16 c.i, .int .u8 c.r0, .int .u8 c.r1, .int .u8 c.r2, .int .u8 c.r3, .int .u8 c.r4, .int .u8 c.r5, .int .i8 c.c0, .int .i8 c.c1, .int .i8 c.c2, .int .i8 c.c3, .int .i8 c.c4, .int .i8 c.c5, .int .u8 c.m, .int .u16 c.n, .bool c.x, .int .u8 c.h] _ (by rintro _ ⟨i, rfl⟩; exact ((HW.out i).block x0 hxl).trans HX.out) Try.underlying28 rfl size_cx ?_; go_simp; refine hK _ ?_; clear hK K)
        (refine Go.Flo.fw_calm rfl ?_ (fun K hK => ?_); (first | exact Go.Mix.wanted_none rfl | exact Go.Mix.wanted_tt rfl rfl rfl | exact Go.Mix.wanted_ff rfl rfl rfl); refine Go.Flo.quiet_load_row 28 _ rfl x0 rfl _ #[.int .u16 c.f, .int .u16 c.i, .int .u8 c.r0, .int .u8 c.r1, .int .u8 c.r2, .int .u8 c.r3, .int .u8 c.r4, .int .u8 c.r5, .int .i8 c.c0, .int .i8 c.c1, .int .i8 c.c2, .int .i8 c.c3, .int .i8 c.c4, .int .i8 c.c5, .int .u8 c.m, .int .u16 c.n, .bool c.x, .int .u8 c.h] _ (by rintro _ ⟨i, rfl⟩; exact ((HW.out i).block x0 hxl).trans HX.out) Try.underlying28 rfl size_cx ?_; go_simp; refine hK _ ?_; clear hK K)
        refine Go.Flo.fw_loud rfl ?_ rfl (by simp) (fun wv hwv hav K hK => ?_) (fun v hv K hK => ?_)
        · (first | exact Go.Mix.wanted_none rfl | exact Go.Mix.wanted_tt rfl rfl rfl | exact Go.Mix.wanted_ff rfl rfl rfl)
        · obtain ⟨iv, rfl⟩ := hwv
          have hbv := HW.out iv
          (first | go_big_op | go_simp)
          go_at_call 26
          refine (cSame_any c c _).mono ?_
          rintro e w' ⟨rfl, hbb⟩
          rw [decide_eq_true (rfl : c = c)]
          exact hK _ _ (Go.Flo.owes_is _ rfl hbb)
        obtain rfl := hv.is
        go_simp
        refine hK _ ?_
        clear hK K hv
        (repeat (first | (refine Go.Flo.fw_calm rfl ?_ (fun K hK => ?_); (first | exact Go.Mix.wanted_none rfl | exact Go.Mix.wanted_tt rfl rfl rfl | exact Go.Mix.wanted_ff rfl rfl rfl); go_big_quiet_op; refine hK _ ?_; clear hK K) | (refine Go.Flo.fw_skip ?_ (fun K hK => ?_); (first | exact Go.Mix.wanted_tf rfl rfl rfl | exact Go.Mix.wanted_ft rfl rfl rfl); go_simp; refine hK _ ?_; clear hK K) | (refine Go.Flo.fw_any rfl ?_ (fun K hK => ?_); (first | exact Go.Mix.wanted_none rfl | exact Go.Mix.wanted_tt rfl rfl rfl | exact Go.Mix.wanted_ff rfl rfl rfl); go_simp; (try (go_ints; try go_simp)); refine hK _ ?_; clear hK K)))
        refine Go.Flo.fw_nil ?_
        intro w7 hww7 hfw7 huw7
        refine Go.Flo.tw_nil ?_
        obtain ⟨iend, hiend⟩ := hww7
        have hbw7 := HW.out iend
        rw [← hiend] at hbw7
        clear hiend iend huw7
        have HB7 := Lib.hid (HB.out.trans (hbw7.mono hswr))
        clear hfw7 HJ HW hne hbw7 hxl hyl
        clear W I
        go_wp2
        go_ret
        exact ⟨rfl, HB7.out⟩
  | false =>
    have HRT := Lib.hid hr
    clear hr
    refine (Bytes_no c _ HRT.out).mono ?_
    rintro e wc ⟨rfl, hbc⟩
    have hxc := box_below hxb hbc (box_lt hxb)
    have hyc := box_below hyb hbc (box_lt hyb)
    have HRC := Lib.hid (rd_grow HRB.out hbc)
    have HBC := Lib.hid (HBB.out.trans (hbc.mono HBB.out.size))
    clear hxb hyb hbc HRB HBB
    go_wp2_with (first | (refine wpList_load_row rfl 28 _ rfl _ rfl _ _ _ _ hxc Try.underlying28 rfl (by exact size_cx) ?_; (try go_simp)))
    go_at_call 19
    refine (own08 c _).mono ?_
    rintro e wd ⟨rfl, hbd⟩
    have hxd := box_below hxc hbd (box_lt hxc)
    have hyd := box_below hyc hbd (box_lt hyc)
    have HRD := Lib.hid (rd_grow HRC.out hbd)
    have HBD := Lib.hid (HBC.out.trans (hbd.mono HBC.out.size))
    clear hxc hyc hbd HRC HBC
    go_wp2_with fail
    go_at_call 18
    have hR := xRight_any c wd
    rw [HRT.out] at hR
    refine hR.mono ?_
    rintro e we ⟨rfl, hbe⟩
    have hxe := box_below hxd hbe (box_lt hxd)
    have hye := box_below hyd hbe (box_lt hyd)
    have HRE := Lib.hid (rd_grow HRD.out hbe)
    have HBE := Lib.hid (HBD.out.trans (hbe.mono HBD.out.size))
    clear hR hxd hyd hbe HRD HBD
    go_wp2_with (first | (refine wpList_load_row rfl 28 _ rfl _ rfl _ _ _ _ hxe Try.underlying28 rfl (by exact size_cx) ?_; (try go_simp)))
    go_at_call 20
    have hR := Right_any c we
    rw [HRT.out] at hR
    refine hR.mono ?_
    rintro e wi ⟨rfl, hbf⟩
    have hxi := box_below hxe hbf (box_lt hxe)
    have hyi := box_below hye hbf (box_lt hye)
    have HRI := Lib.hid (rd_grow HRE.out hbf)
    have HBI := Lib.hid (HBE.out.trans (hbf.mono HBE.out.size))
    clear hR hxe hye hbf HRE HBE
    have hal : Below wi.heap.size wi (wi.alloc (.cells #[.slice none 0 0] 29)) := (Below.refl _ _).alloc (Nat.le_refl _) _
    have hj1 := Join1 (l := []) (g := wi.heap.size) (n := wi.heap.size) (a := none) (m := 0) (c := 0) (t := 29) (w := wi.alloc (.cells #[.slice none 0 0] 29)) rfl (heap_alloc_new _ _) (Rd.none_ _ _ _) hal.size (by simp)
    have HJ1 := Lib.hid hj1
    have hxj := box_below hxi hal (box_lt hxi)
    have hyj := box_below hyi hal (box_lt hyi)
    have HRJ := Lib.hid (rd_grow HRI.out hal)
    have HBJ := Lib.hid (HBI.out.trans (hal.mono HBI.out.size))
    clear hj1 hal hxi hyi HRI HBI
    go_wp2_with fail
    go_at_call 23
    refine HJ1.out.mono ?_
    rintro e wk ⟨v, rfl, hown, hbk⟩
    obtain ⟨ab, cb, rfl⟩ := own_form hown
    have hrdb := rd_of_own (f := bv []) hown (fun i hi => absurd hi (by simp))
    have HXK := Lib.hid (box_below hxj hbk (box_lt hxj))
    have HYK := Lib.hid (box_below hyj hbk (box_lt hyj))
    have HRK := Lib.hid (rd_grow HRJ.out hbk)
    have HBK := Lib.hid (HBJ.out.trans (hbk.mono HBJ.out.size))
    obtain ⟨w2, hw2⟩ : ∃ w2, w2 = wk := ⟨_, rfl⟩
    rw [← hw2] at HXK HYK HRK HBK hrdb
    rw [← hw2]
    obtain ⟨P, hP⟩ : ∃ P : List Nat, P = [] := ⟨_, rfl⟩
    have HPL := Lib.hid (show P.length = 0 by rw [hP]; rfl)
    have HPB := Lib.hid (show bytes P by rw [hP]; intro x hx; simp at hx)
    have HPK := Lib.hid (show Rd w2.heap.size w2 none 0 0 (bv P) from Rd.none_ _ _ _)
    have HTK := Lib.hid (show Rd w2.heap.size w2 ab 0 cb (bv P) by rw [hP]; exact hrdb)
    clear hown hbk hxj hyj hrdb HRJ HBJ HJ1 hP hw2 wk
    obtain ⟨wk, hwk⟩ : ∃ wk, wk = w2 := ⟨_, rfl⟩
    have HSZ := Lib.hid (show w2.heap.size = wk.heap.size by rw [hwk])
    have HWK := Lib.hid hwk
    clear hwk
    skip
    go_wp2
    clear hjI
    have hal : Below w2.heap.size w2 (w2.alloc (.cells #[.slice (none) 0 0, .slice (ab) 0 cb, .slice ar mr cr] 29)) := (Below.refl _ _).alloc (Nat.le_refl _) _
    have hbox := heap_alloc_new w2 (.cells #[.slice (none) 0 0, .slice (ab) 0 cb, .slice ar mr cr] 29)
    obtain ⟨wL, hwL⟩ : ∃ wL, wL = w2.alloc (.cells #[.slice (none) 0 0, .slice (ab) 0 cb, .slice ar mr cr] 29) := ⟨_, rfl⟩
    obtain ⟨gq, hgq⟩ : ∃ gq, gq = wk.heap.size := ⟨_, rfl⟩
    rw [← hwL] at hal hbox
    rw [HSZ.out, ← hgq] at hbox
    rw [← hwL]; rw [HSZ.out, ← hgq]
    obtain ⟨A, M, C, LL, hrow⟩ : ∃ (A : Nat → Option Addr) (M C : Nat → Nat) (LL : Nat → List Nat), ∀ k, k < 3 → wL.cell? ⟨gq, k, none⟩ = some (.slice (A k) (M k) (C k)) ∧ (LL k).length = M k ∧ bytes (LL k) ∧ M k ≤ 1000000 ∧ Rd wL.heap.size wL (A k) (M k) (C k) (bv (LL k)) :=
      ⟨at3 (none) (ab) ar, at3 0 0 mr, at3 0 cb cr, at3 P P lr, all3
        ⟨cell_of_row wL gq 0 _ _ _ hbox, HPL.out, HPB.out, by show 0 ≤ 1000000; omega, rd_grow HPK.out hal⟩
        ⟨cell_of_row wL gq 1 _ _ _ hbox, HPL.out, HPB.out, by show 0 ≤ 1000000; omega, rd_grow HTK.out hal⟩
        ⟨cell_of_row wL gq 2 _ _ _ hbox, HLR.out, HLB.out, by show mr ≤ 1000000; omega, rd_grow HRK.out hal⟩⟩
    have HROW := Lib.hid hrow
    have HXL := Lib.hid (box_below HXK.out hal (box_lt HXK.out))
    have HYL := Lib.hid (box_below HYK.out hal (box_lt HYK.out))
    have HBL := Lib.hid (HBK.out.trans (hal.mono HBK.out.size))
    have hgqw := box_lt hbox
    have hsL := HBL.out.size
    clear hwL hgq hal hbox hrow HXK HYK HBK HRK
    go_loopw [70] (fun i wr => ∃ k : Nat, k ≤ 3 ∧ i = .int .i64 (k : Nat) ∧ Below wL.heap.size wL wr) (fun i _ => 3 - (intOf i).toNat)
    case atStart => exact ⟨0, by omega, rfl, Below.refl _ _⟩
    case round =>
      obtain ⟨k, hk, rfl, hB⟩ := hrel
      by_cases hlt : k < 3
      · obtain ⟨hc, hl, hb, hm, hr⟩ := HROW.out k hlt
        have hc2 := (hB.cell (p := ⟨gq, k, none⟩) hgqw).trans hc
        obtain ⟨pa, hpa⟩ : ∃ x, x = A k := ⟨_, rfl⟩
        obtain ⟨pm, hpm⟩ : ∃ x, x = M k := ⟨_, rfl⟩
        obtain ⟨pc, hpc⟩ : ∃ x, x = C k := ⟨_, rfl⟩
        obtain ⟨pl, hpl⟩ : ∃ x, x = LL k := ⟨_, rfl⟩
        rw [← hpa, ← hpm, ← hpc] at hc2
        rw [← hpm, ← hpl] at hl
        rw [← hpl] at hb
        rw [← hpm] at hm
        rw [← hpa, ← hpm, ← hpc, ← hpl] at hr
        have HR := Lib.hid (rd_grow hr hB)
        have HL := Lib.hid hl
        have HB := Lib.hid hb
        have HBR := Lib.hid hB
        have hsr := hB.size
        clear hc hl hb hr hB hpa hpm hpc hpl
        go_wp2_with fail
        go_at_call 24
        refine (cParse_all pa pm pc _ pl _ HL.out (Nat.le_refl _) HR.out HB.out hm).mono ?_
        rintro e w3 ⟨hb3, ⟨hg, rfl⟩ | ⟨hg, rfl⟩⟩
        · obtain ⟨cc, hcc⟩ : ∃ cc, cc = cxOf pl := ⟨_, rfl⟩
          rw [← hcc]
          have hal4 : Below w3.heap.size w3 (w3.alloc (.cells #[.int .u16 cc.f, .int .u16 cc.i, .int .u8 cc.r0, .int .u8 cc.r1, .int .u8 cc.r2, .int .u8 cc.r3, .int .u8 cc.r4, .int .u8 cc.r5, .int .i8 cc.c0, .int .i8 cc.c1, .int .i8 cc.c2, .int .i8 cc.c3, .int .i8 cc.c4, .int .i8 cc.c5, .int .u8 cc.m, .int .u16 cc.n, .bool cc.x, .int .u8 cc.h] 28)) := (Below.refl _ _).alloc (Nat.le_refl _) _
          obtain ⟨w4, hw4, hb4, hx4⟩ : ∃ w4, w4 = w3.alloc (.cells #[.int .u16 cc.f, .int .u16 cc.i, .int .u8 cc.r0, .int .u8 cc.r1, .int .u8 cc.r2, .int .u8 cc.r3, .int .u8 cc.r4, .int .u8 cc.r5, .int .i8 cc.c0, .int .i8 cc.c1, .int .i8 cc.c2, .int .i8 cc.c3, .int .i8 cc.c4, .int .i8 cc.c5, .int .u8 cc.m, .int .u16 cc.n, .bool cc.x, .int .u8 cc.h] 28) ∧ Below wr.heap.size wr w4 ∧ w4.heap[w3.heap.size]? = some (.cells #[.int .u16 cc.f, .int .u16 cc.i, .int .u8 cc.r0, .int .u8 cc.r1, .int .u8 cc.r2, .int .u8 cc.r3, .int .u8 cc.r4, .int .u8 cc.r5, .int .i8 cc.c0, .int .i8 cc.c1, .int .i8 cc.c2, .int .i8 cc.c3, .int .i8 cc.c4, .int .i8 cc.c5, .int .u8 cc.m, .int .u16 cc.n, .bool cc.x, .int .u8 cc.h] 28 (0, 0)) := ⟨_, rfl, hb3.trans (hal4.mono hb3.size), heap_alloc_new _ _⟩
          have HW4 := Lib.hid hw4
          have HX4 := Lib.hid hx4
          have HB4 := Lib.hid hb4
          have HCC := Lib.hid hcc
          have HG := Lib.hid hg
          have HR4 := Lib.hid (rd_grow HR.out hb4)
          clear hb3 hal4 hw4 hx4 hb4 hcc hg
          go_wp2_with (first | (refine wpList_store_row rfl 28 _ _ rfl _ _ rfl rfl _ _ (heap_alloc_new _ _) (by exact size_cx) (by rfl) (by simp [Value.oneCell']) ?_; rw [World.setRow_alloc_new]; rw [← HW4.out]))
          go_at_call 25
          refine (xParse_any pa pm pc _ pl _ HL.out (Nat.le_refl _) HR4.out HB.out).mono ?_
          rintro e w5 ⟨hb5, ⟨_, rfl⟩ | ⟨hg, _⟩⟩
          rotate_left
          · exact absurd HG.out hg
          rw [← HCC.out]
          have hal6 : Below w5.heap.size w5 (w5.alloc (.cells #[.int .u16 cc.f, .int .u16 cc.i, .int .u8 cc.r0, .int .u8 cc.r1, .int .u8 cc.r2, .int .u8 cc.r3, .int .u8 cc.r4, .int .u8 cc.r5, .int .i8 cc.c0, .int .i8 cc.c1, .int .i8 cc.c2, .int .i8 cc.c3, .int .i8 cc.c4, .int .i8 cc.c5, .int .u8 cc.m, .int .u16 cc.n, .bool cc.x, .int .u8 cc.h] 35)) := (Below.refl _ _).alloc (Nat.le_refl _) _
          obtain ⟨w6, hw6, hb6, hx6⟩ : ∃ w6, w6 = w5.alloc (.cells #[.int .u16 cc.f, .int .u16 cc.i, .int .u8 cc.r0, .int .u8 cc.r1, .int .u8 cc.r2, .int .u8 cc.r3, .int .u8 cc.r4, .int .u8 cc.r5, .int .i8 cc.c0, .int .i8 cc.c1, .int .i8 cc.c2, .int .i8 cc.c3, .int .i8 cc.c4, .int .i8 cc.c5, .int .u8 cc.m, .int .u16 cc.n, .bool cc.x, .int .u8 cc.h] 35) ∧ Below w4.heap.size w4 w6 ∧ w6.heap[w5.heap.size]? = some (.cells #[.int .u16 cc.f, .int .u16 cc.i, .int .u8 cc.r0, .int .u8 cc.r1, .int .u8 cc.r2, .int .u8 cc.r3, .int .u8 cc.r4, .int .u8 cc.r5, .int .i8 cc.c0, .int .i8 cc.c1, .int .i8 cc.c2, .int .i8 cc.c3, .int .i8 cc.c4, .int .i8 cc.c5, .int .u8 cc.m, .int .u16 cc.n, .bool cc.x, .int .u8 cc.h] 35 (0, 0)) := ⟨_, rfl, hb5.trans (hal6.mono hb5.size), heap_alloc_new _ _⟩
          have HW6 := Lib.hid hw6
          have hy6 := box_below HX4.out hb6 (box_lt HX4.out)
          have HB6 := Lib.hid (HBR.out.trans ((HB4.out.trans (hb6.mono HB4.out.size)).mono hsr))
          obtain ⟨x6, hx66⟩ : ∃ x, x = w5.heap.size := ⟨_, rfl⟩
          obtain ⟨y6, hy66⟩ : ∃ x, x = w3.heap.size := ⟨_, rfl⟩
          rw [← hx66] at hx6
          rw [← hy66] at hy6
          have HXX := Lib.hid hx66
          have HYY := Lib.hid hy66
          have HX6 := Lib.hid hx6
          have HY6 := Lib.hid hy6
          clear hb5 hal6 hw6 hb6 hx6 hy6 hx66 hy66 HB4 HX4 HR4 HR
          go_wp2_with (first | (refine wpList_store_row rfl 35 _ _ rfl _ _ rfl rfl _ _ (heap_alloc_new _ _) (by exact size_rc) (by rfl) (by simp [Value.oneCell']) ?_; rw [World.setRow_alloc_new]; rw [← HW6.out]))
          rw [← HXX.out, ← HYY.out]
          have hxl := box_lt HX6.out
          have hyl := box_lt HY6.out
          have he := fun w => neqRx cc cc w
          rw [decide_eq_true (rfl : cc = cc)] at he
          have HE := Lib.hid he
          clear he
          obtain ⟨I, W, hne, hWI, hIW⟩ := Go.Mix.family (fun v => Below w6.heap.size w6 v) (Below.refl _ _)
          have HJ := Lib.hid hIW
          have HW := Lib.hid hWI
          clear hWI hIW
          refine Go.Flo.wp_region (fun w' => ∃ i, w' = W i) 26 [Go.Flo.Spec.is (.agg #[.int .u16 cc.f, .int .u16 cc.i, .int .u8 cc.r0, .int .u8 cc.r1, .int .u8 cc.r2, .int .u8 cc.r3, .int .u8 cc.r4, .int .u8 cc.r5, .int .i8 cc.c0, .int .i8 cc.c1, .int .i8 cc.c2, .int .i8 cc.c3, .int .i8 cc.c4, .int .i8 cc.c5, .int .u8 cc.m, .int .u16 cc.n, .bool cc.x, .int .u8 cc.h])] (by kernel_rfl) (by kernel_rfl) (by decide) (by rintro _ w' ⟨i, rfl⟩ hb; exact HJ.out _ ((HW.out i).trans (hb.mono (HW.out i).size))) (HJ.out _ (Below.refl _ _).drew) ?_
          simp only [Go.Flo.pair, Go.Mix.calm, List.take, List.drop, if_true, Bool.false_eq_true, if_false, Nat.reduceAdd, Nat.reduceSub]
          (repeat (first | (refine Go.Flo.fw_calm rfl ?_ (fun K hK => ?_); (first | exact Go.Mix.wanted_none rfl | exact Go.Mix.wanted_tt rfl rfl rfl | exact Go.Mix.wanted_ff rfl rfl rfl); go_big_quiet_op; refine hK _ ?_; clear hK K) | (refine Go.Flo.fw_skip ?_ (fun K hK => ?_); (first | exact Go.Mix.wanted_tf rfl rfl rfl | exact Go.Mix.wanted_ft rfl rfl rfl); go_simp; refine hK _ ?_; clear hK K) | (refine Go.Flo.fw_any rfl ?_ (fun K hK => ?_); (first | exact Go.Mix.wanted_none rfl | exact Go.Mix.wanted_tt rfl rfl rfl | exact Go.Mix.wanted_ff rfl rfl rfl); go_simp; (try (go_ints; try go_simp)); refine hK _ ?_; clear hK K)))
          (refine Go.Flo.fw_calm rfl ?_ (fun K hK => ?_); (first | exact Go.Mix.wanted_none rfl | exact Go.Mix.wanted_tt rfl rfl rfl | exact Go.Mix.wanted_ff rfl rfl rfl); refine Go.Flo.quiet_load_row 28 _ rfl y6 rfl _ #[.int .u16 cc.f, .int .u16 cc.i, .int .u8 cc.r0, .int .u8 cc.r1, .int .u8 cc.r2, .int .u8 cc.r3, .int .u8 cc.r4, .int .u8 cc.r5, .int .i8 cc.c0, .int .i8 cc.c1, .int .i8 cc.c2, .int .i8 cc.c3, .int .i8 cc.c4, .int .i8 cc.c5, .int .u8 cc.m, .int .u16 cc.n, .bool cc.x, .int .u8 cc.h] _ (by rintro _ ⟨i, rfl⟩; exact ((HW.out i).block y6 hyl).trans HY6.out) Try.underlying28 rfl size_cx ?_; go_simp; refine hK _ ?_; clear hK K)
          refine Go.Flo.fw_loud rfl ?_ rfl (by simp) (fun wv hwv hav K hK => ?_) (fun v hv K hK => ?_)
          · (first | exact Go.Mix.wanted_none rfl | exact Go.Mix.wanted_tt rfl rfl rfl | exact Go.Mix.wanted_ff rfl rfl rfl)
          · obtain ⟨iv, rfl⟩ := hwv
            have hbv := HW.out iv
            (first | go_big_op | go_simp)
            go_at_call 19
            refine (own08 cc _).mono ?_
            rintro e w' ⟨rfl, hbb⟩
            exact hK _ _ (Go.Flo.owes_is _ rfl hbb)
          obtain rfl := hv.is
          go_simp
          refine hK _ ?_
          clear hK K hv
          (repeat (first | (refine Go.Flo.fw_calm rfl ?_ (fun K hK => ?_); (first | exact Go.Mix.wanted_none rfl | exact Go.Mix.wanted_tt rfl rfl rfl | exact Go.Mix.wanted_ff rfl rfl rfl); go_big_quiet_op; refine hK _ ?_; clear hK K) | (refine Go.Flo.fw_skip ?_ (fun K hK => ?_); (first | exact Go.Mix.wanted_tf rfl rfl rfl | exact Go.Mix.wanted_ft rfl rfl rfl); go_simp; refine hK _ ?_; clear hK K) | (refine Go.Flo.fw_any rfl ?_ (fun K hK => ?_); (first | exact Go.Mix.wanted_none rfl | exact Go.Mix.wanted_tt rfl rfl rfl | exact Go.Mix.wanted_ff rfl rfl rfl); go_simp; (try (go_ints; try go_simp)); refine hK _ ?_; clear hK K)))
          (refine Go.Flo.fw_calm rfl ?_ (fun K hK => ?_); (first | exact Go.Mix.wanted_none rfl | exact Go.Mix.wanted_tt rfl rfl rfl | exact Go.Mix.wanted_ff rfl rfl rfl); refine Go.Flo.quiet_load_row 35 _ rfl x6 rfl _ #[.int .u16 cc.f, .int .u16 cc.i, .int .u8 cc.r0, .int .u8 cc.r1, .int .u8 cc.r2, .int .u8 cc.r3, .int .u8 cc.r4, .int .u8 cc.r5, .int .i8 cc.c0, .int .i8 cc.c1, .int .i8 cc.c2, .int .i8 cc.c3, .int .i8 cc.c4, .int .i8 cc.c5, .int .u8 cc.m, .int .u16 cc.n, .bool cc.x, .int .u8 cc.h] _ (by rintro _ ⟨i, rfl⟩; exact ((HW.out i).block x6 hxl).trans HX6.out) Try.underlying35 rfl size_rc ?_; go_simp; refine hK _ ?_; clear hK K)
          have he := HE.out
          (repeat (first | (refine Go.Flo.fw_calm rfl ?_ (fun K hK => ?_); (first | exact Go.Mix.wanted_none rfl | exact Go.Mix.wanted_tt rfl rfl rfl | exact Go.Mix.wanted_ff rfl rfl rfl); go_big_quiet_op; refine hK _ ?_; clear hK K) | (refine Go.Flo.fw_skip ?_ (fun K hK => ?_); (first | exact Go.Mix.wanted_tf rfl rfl rfl | exact Go.Mix.wanted_ft rfl rfl rfl); go_simp; refine hK _ ?_; clear hK K) | (refine Go.Flo.fw_any rfl ?_ (fun K hK => ?_); (first | exact Go.Mix.wanted_none rfl | exact Go.Mix.wanted_tt rfl rfl rfl | exact Go.Mix.wanted_ff rfl rfl rfl); go_simp; (try (go_ints; try go_simp)); refine hK _ ?_; clear hK K)))
          (refine Go.Flo.fw_skip (wanted_un rfl rfl rfl) (fun K hK => ?_); go_simp; refine hK _ ?_; clear hK K)
          (refine Go.Flo.fw_skip (wanted_un rfl rfl rfl) (fun K hK => ?_); go_simp; refine hK _ ?_; clear hK K)
          (refine Go.Flo.fw_skip (wanted_un rfl rfl rfl) (fun K hK => ?_); go_simp; refine hK _ ?_; clear hK K)
          (repeat (first | (refine Go.Flo.fw_calm rfl ?_ (fun K hK => ?_); (first | exact Go.Mix.wanted_none rfl | exact Go.Mix.wanted_tt rfl rfl rfl | exact Go.Mix.wanted_ff rfl rfl rfl); go_big_quiet_op; refine hK _ ?_; clear hK K) | (refine Go.Flo.fw_skip ?_ (fun K hK => ?_); (first | exact Go.Mix.wanted_tf rfl rfl rfl | exact Go.Mix.wanted_ft rfl rfl rfl); go_simp; refine hK _ ?_; clear hK K) | (refine Go.Flo.fw_any rfl ?_ (fun K hK => ?_); (first | exact Go.Mix.wanted_none rfl | exact Go.Mix.wanted_tt rfl rfl rfl | exact Go.Mix.wanted_ff rfl rfl rfl); go_simp; (try (go_ints; try go_simp)); refine hK _ ?_; clear hK K)))
          refine Go.Flo.fw_nil ?_
          intro w7 hww7 hfw7 huw7
          refine Go.Flo.tw_nil ?_
          obtain ⟨iend, hiend⟩ := hww7
          have hbw7 := HW.out iend
          rw [← hiend] at hbw7
          clear hiend iend huw7
          have HB7 := Lib.hid (HB6.out.trans (hbw7.mono HB6.out.size))
          clear hfw7 HJ HW hne he hbw7 hxl hyl
          clear W I
          go_wp2
          go_roundw
          case rel => exact ⟨k + 1, by omega, by go_num, HB7.out⟩
          case measure => simp [intOf]; omega
        · have hal4 : Below w3.heap.size w3 (w3.alloc (.cells #[.int .u16 cxZero.f, .int .u16 cxZero.i, .int .u8 cxZero.r0, .int .u8 cxZero.r1, .int .u8 cxZero.r2, .int .u8 cxZero.r3, .int .u8 cxZero.r4, .int .u8 cxZero.r5, .int .i8 cxZero.c0, .int .i8 cxZero.c1, .int .i8 cxZero.c2, .int .i8 cxZero.c3, .int .i8 cxZero.c4, .int .i8 cxZero.c5, .int .u8 cxZero.m, .int .u16 cxZero.n, .bool cxZero.x, .int .u8 cxZero.h] 28)) := (Below.refl _ _).alloc (Nat.le_refl _) _
          obtain ⟨w4, hw4, hb4, hx4⟩ : ∃ w4, w4 = w3.alloc (.cells #[.int .u16 cxZero.f, .int .u16 cxZero.i, .int .u8 cxZero.r0, .int .u8 cxZero.r1, .int .u8 cxZero.r2, .int .u8 cxZero.r3, .int .u8 cxZero.r4, .int .u8 cxZero.r5, .int .i8 cxZero.c0, .int .i8 cxZero.c1, .int .i8 cxZero.c2, .int .i8 cxZero.c3, .int .i8 cxZero.c4, .int .i8 cxZero.c5, .int .u8 cxZero.m, .int .u16 cxZero.n, .bool cxZero.x, .int .u8 cxZero.h] 28) ∧ Below wr.heap.size wr w4 ∧ w4.heap[w3.heap.size]? = some (.cells #[.int .u16 cxZero.f, .int .u16 cxZero.i, .int .u8 cxZero.r0, .int .u8 cxZero.r1, .int .u8 cxZero.r2, .int .u8 cxZero.r3, .int .u8 cxZero.r4, .int .u8 cxZero.r5, .int .i8 cxZero.c0, .int .i8 cxZero.c1, .int .i8 cxZero.c2, .int .i8 cxZero.c3, .int .i8 cxZero.c4, .int .i8 cxZero.c5, .int .u8 cxZero.m, .int .u16 cxZero.n, .bool cxZero.x, .int .u8 cxZero.h] 28 (0, 0)) := ⟨_, rfl, hb3.trans (hal4.mono hb3.size), heap_alloc_new _ _⟩
          have HW4 := Lib.hid hw4
          have HX4 := Lib.hid hx4
          have HB4 := Lib.hid hb4
          have HG := Lib.hid hg
          have HR4 := Lib.hid (rd_grow HR.out hb4)
          clear hb3 hal4 hw4 hx4 hb4 hg
          go_wp2_with (first | (refine wpList_store_row rfl 28 _ _ rfl _ _ rfl rfl _ _ (heap_alloc_new _ _) (by exact size_cx) (by rfl) (by simp [Value.oneCell']) ?_; rw [World.setRow_alloc_new]; rw [← HW4.out]))
          go_at_call 25
          refine (xParse_any pa pm pc _ pl _ HL.out (Nat.le_refl _) HR4.out HB.out).mono ?_
          rintro e w5 ⟨hb5, ⟨hg, _⟩ | ⟨_, rfl⟩⟩
          · exact absurd hg HG.out
          have hal6 : Below w5.heap.size w5 (w5.alloc (.cells #[.int .u16 cxZero.f, .int .u16 cxZero.i, .int .u8 cxZero.r0, .int .u8 cxZero.r1, .int .u8 cxZero.r2, .int .u8 cxZero.r3, .int .u8 cxZero.r4, .int .u8 cxZero.r5, .int .i8 cxZero.c0, .int .i8 cxZero.c1, .int .i8 cxZero.c2, .int .i8 cxZero.c3, .int .i8 cxZero.c4, .int .i8 cxZero.c5, .int .u8 cxZero.m, .int .u16 cxZero.n, .bool cxZero.x, .int .u8 cxZero.h] 35)) := (Below.refl _ _).alloc (Nat.le_refl _) _
          obtain ⟨w6, hw6, hb6⟩ : ∃ w6, w6 = w5.alloc (.cells #[.int .u16 cxZero.f, .int .u16 cxZero.i, .int .u8 cxZero.r0, .int .u8 cxZero.r1, .int .u8 cxZero.r2, .int .u8 cxZero.r3, .int .u8 cxZero.r4, .int .u8 cxZero.r5, .int .i8 cxZero.c0, .int .i8 cxZero.c1, .int .i8 cxZero.c2, .int .i8 cxZero.c3, .int .i8 cxZero.c4, .int .i8 cxZero.c5, .int .u8 cxZero.m, .int .u16 cxZero.n, .bool cxZero.x, .int .u8 cxZero.h] 35) ∧ Below w4.heap.size w4 w6 := ⟨_, rfl, hb5.trans (hal6.mono hb5.size)⟩
          have HW6 := Lib.hid hw6
          have hy6 := box_below HX4.out hb6 (box_lt HX4.out)
          have HB6 := Lib.hid (HBR.out.trans ((HB4.out.trans (hb6.mono HB4.out.size)).mono hsr))
          obtain ⟨y6, hy66⟩ : ∃ x, x = w3.heap.size := ⟨_, rfl⟩
          rw [← hy66] at hy6
          have HYY := Lib.hid hy66
          have HY6 := Lib.hid hy6
          clear hb5 hal6 hw6 hb6 hy6 hy66 HB4 HX4 HR4 HR
          go_wp2_with (first | (refine wpList_store_row rfl 35 _ _ rfl _ _ rfl rfl _ _ (heap_alloc_new _ _) (by exact size_rc) (by rfl) (by simp [Value.oneCell']) ?_; rw [World.setRow_alloc_new]; rw [← HW6.out]))
          rw [← HYY.out]
          have hyl := box_lt HY6.out
          have hzc := zero_cx
          have he := fun w => neqCx cxZero cxZero w
          rw [decide_eq_true (rfl : cxZero = cxZero)] at he
          have HE := Lib.hid he
          clear he
          obtain ⟨I, W, hne, hWI, hIW⟩ := Go.Mix.family (fun v => Below w6.heap.size w6 v) (Below.refl _ _)
          have HJ := Lib.hid hIW
          have HW := Lib.hid hWI
          clear hWI hIW
          refine Go.Flo.wp_region (fun w' => ∃ i, w' = W i) 26 [Go.Flo.dflt] (by kernel_rfl) (by kernel_rfl) (by decide) (by rintro _ w' ⟨i, rfl⟩ hb; exact HJ.out _ ((HW.out i).trans (hb.mono (HW.out i).size))) (HJ.out _ (Below.refl _ _).drew) ?_
          simp only [Go.Flo.pair, Go.Mix.calm, List.take, List.drop, if_true, Bool.false_eq_true, if_false, Nat.reduceAdd, Nat.reduceSub]
          (repeat (first | (refine Go.Flo.fw_calm rfl ?_ (fun K hK => ?_); (first | exact Go.Mix.wanted_none rfl | exact Go.Mix.wanted_tt rfl rfl rfl | exact Go.Mix.wanted_ff rfl rfl rfl); go_big_quiet_op; refine hK _ ?_; clear hK K) | (refine Go.Flo.fw_skip ?_ (fun K hK => ?_); (first | exact Go.Mix.wanted_tf rfl rfl rfl | exact Go.Mix.wanted_ft rfl rfl rfl); go_simp; refine hK _ ?_; clear hK K) | (refine Go.Flo.fw_any rfl ?_ (fun K hK => ?_); (first | exact Go.Mix.wanted_none rfl | exact Go.Mix.wanted_tt rfl rfl rfl | exact Go.Mix.wanted_ff rfl rfl rfl); go_simp; (try (go_ints; try go_simp)); refine hK _ ?_; clear hK K)))
          (refine Go.Flo.fw_calm rfl ?_ (fun K hK => ?_); (first | exact Go.Mix.wanted_none rfl | exact Go.Mix.wanted_tt rfl rfl rfl | exact Go.Mix.wanted_ff rfl rfl rfl); refine Go.Flo.quiet_load_row 28 _ rfl y6 rfl _ #[.int .u16 cxZero.f, .int .u16 cxZero.i, .int .u8 cxZero.r0, .int .u8 cxZero.r1, .int .u8 cxZero.r2, .int .u8 cxZero.r3, .int .u8 cxZero.r4, .int .u8 cxZero.r5, .int .i8 cxZero.c0, .int .i8 cxZero.c1, .int .i8 cxZero.c2, .int .i8 cxZero.c3, .int .i8 cxZero.c4, .int .i8 cxZero.c5, .int .u8 cxZero.m, .int .u16 cxZero.n, .bool cxZero.x, .int .u8 cxZero.h] _ (by rintro _ ⟨i, rfl⟩; exact ((HW.out i).block y6 hyl).trans HY6.out) Try.underlying28 rfl size_cx ?_; go_simp; refine hK _ ?_; clear hK K)
          have he := HE.out
          (repeat (first | (refine Go.Flo.fw_calm rfl ?_ (fun K hK => ?_); (first | exact Go.Mix.wanted_none rfl | exact Go.Mix.wanted_tt rfl rfl rfl | exact Go.Mix.wanted_ff rfl rfl rfl); go_big_quiet_op; refine hK _ ?_; clear hK K) | (refine Go.Flo.fw_skip ?_ (fun K hK => ?_); (first | exact Go.Mix.wanted_tf rfl rfl rfl | exact Go.Mix.wanted_ft rfl rfl rfl); go_simp; refine hK _ ?_; clear hK K) | (refine Go.Flo.fw_any rfl ?_ (fun K hK => ?_); (first | exact Go.Mix.wanted_none rfl | exact Go.Mix.wanted_tt rfl rfl rfl | exact Go.Mix.wanted_ff rfl rfl rfl); go_simp; (try (go_ints; try go_simp)); refine hK _ ?_; clear hK K)))
          refine Go.Flo.fw_nil ?_
          intro w7 hww7 hfw7 huw7
          refine Go.Flo.tw_nil ?_
          obtain ⟨iend, hiend⟩ := hww7
          have hbw7 := HW.out iend
          rw [← hiend] at hbw7
          clear hiend iend huw7
          have HB7 := Lib.hid (HB6.out.trans (hbw7.mono HB6.out.size))
          clear hfw7 HJ HW hne he hbw7 hyl hzc
          clear W I
          go_wp2
          go_roundw
          case rel => exact ⟨k + 1, by omega, by go_num, HB7.out⟩
          case measure => simp [intOf]; omega
      · have HB := Lib.hid (HBL.out.trans (hB.mono hsL))
        have HX := Lib.hid (box_below HXL.out hB (box_lt HXL.out))
        have HY := Lib.hid (box_below HYL.out hB (box_lt HYL.out))
        have hswr := HB.out.size
        obtain ⟨t, ht⟩ : ∃ t, t = decide (c = d) := ⟨_, rfl⟩
        have he := fun w => eqlCx c d w
        rw [← ht] at he
        have HE := Lib.hid he
        have HT := Lib.hid ht
        have hxl := box_lt HX.out
        have hyl := box_lt HY.out
        clear he ht hB HXL HYL HBL
        go_wp2_with fail
        obtain ⟨I, W, hne, hWI, hIW⟩ := Go.Mix.family (fun v => Below wr.heap.size wr v) (Below.refl _ _)
        have HJ := Lib.hid hIW
        have HW := Lib.hid hWI
        clear hWI hIW
        refine Go.Flo.wp_region (fun w' => ∃ i, w' = W i) 13 [Go.Flo.Spec.is (.bool t), Go.Flo.Spec.is (.bool true)] (by kernel_rfl) (by kernel_rfl) (by decide) (by rintro _ w' ⟨i, rfl⟩ hb; exact HJ.out _ ((HW.out i).trans (hb.mono (HW.out i).size))) (HJ.out _ (Below.refl _ _).drew) ?_
        simp only [Go.Flo.pair, Go.Mix.calm, List.take, List.drop, if_true, Bool.false_eq_true, if_false, Nat.reduceAdd, Nat.reduceSub]
        (refine Go.Flo.fw_calm rfl ?_ (fun K hK => ?_); (first | exact Go.Mix.wanted_none rfl | exact Go.Mix.wanted_tt rfl rfl rfl | exact Go.Mix.wanted_ff rfl rfl rfl); refine Go.Flo.quiet_load_row 28 _ rfl x0 rfl _ #[.int .u16 c.f, .int .u16 c.i, .int .u8 c.r0, .int .u8 c.r1, .int .u8 c.r2, .int .u8 c.r3, .int .u8 c.r4, .int .u8 c.r5, .int .i8 c.c0, .int .i8 c.c1, .int .i8 c.c2, .int .i8 c.c3, .int .i8 c.c4, .int .i8 c.c5, .int .u8 c.m, .int .u16 c.n, .bool c.x, .int .u8 c.h] _ (by rintro _ ⟨i, rfl⟩; exact ((HW.out i).block x0 hxl).trans HX.out) Try.underlying28 rfl size_cx ?_; go_simp; refine hK _ ?_; clear hK K)
        (refine Go.Flo.fw_calm rfl ?_ (fun K hK => ?_); (first | exact Go.Mix.wanted_none rfl | exact Go.Mix.wanted_tt rfl rfl rfl | exact Go.Mix.wanted_ff rfl rfl rfl); refine Go.Flo.quiet_load_row 28 _ rfl (x0 + 1) rfl _ #[.int .u16 d.f, .int .u16 d.i, .int .u8 d.r0, .int .u8 d.r1, .int .u8 d.r2, .int .u8 d.r3, .int .u8 d.r4, .int .u8 d.r5, .int .i8 d.c0, .int .i8 d.c1, .int .i8 d.c2, .int .i8 d.c3, .int .i8 d.c4, .int .i8 d.c5, .int .u8 d.m, .int .u16 d.n, .bool d.x, .int .u8 d.h] _ (by rintro _ ⟨i, rfl⟩; exact ((HW.out i).block (x0 + 1) hyl).trans HY.out) Try.underlying28 rfl size_cx ?_; go_simp; refine hK _ ?_; clear hK K)
        refine Go.Flo.fw_loud rfl ?_ rfl (by simp) (fun wv hwv hav K hK => ?_) (fun v hv K hK => ?_)
        · (first | exact Go.Mix.wanted_none rfl | exact Go.Mix.wanted_tt rfl rfl rfl | exact Go.Mix.wanted_ff rfl rfl rfl)
        · obtain ⟨iv, rfl⟩ := hwv
          have hbv := HW.out iv
          (first | go_big_op | go_simp)
          go_at_call 26
          refine (cSame_any c d _).mono ?_
          rintro e w' ⟨rfl, hbb⟩
          rw [← HT.out]
          exact hK _ _ (Go.Flo.owes_is _ rfl hbb)
        obtain rfl := hv.is
        go_simp
        refine hK _ ?_
        clear hK K hv
        (refine Go.Flo.fw_calm rfl ?_ (fun K hK => ?_); (first | exact Go.Mix.wanted_none rfl | exact Go.Mix.wanted_tt rfl rfl rfl | exact Go.Mix.wanted_ff rfl rfl rfl); refine Go.Flo.quiet_load_row 28 _ rfl x0 rfl _ #[.int .u16 c.f, .int .u16 c.i, .int .u8 c.r0, .int .u8 c.r1, .int .u8 c.r2, .int .u8 c.r3, .int .u8 c.r4, .int .u8 c.r5, .int .i8 c.c0, .int .i8 c.c1, .int .i8 c.c2, .int .i8 c.c3, .int .i8 c.c4, .int .i8 c.c5, .int .u8 c.m, .int .u16 c.n, .bool c.x, .int .u8 c.h] _ (by rintro _ ⟨i, rfl⟩; exact ((HW.out i).block x0 hxl).trans HX.out) Try.underlying28 rfl size_cx ?_; go_simp; refine hK _ ?_; clear hK K)
        (refine Go.Flo.fw_calm rfl ?_ (fun K hK => ?_); (first | exact Go.Mix.wanted_none rfl | exact Go.Mix.wanted_tt rfl rfl rfl | exact Go.Mix.wanted_ff rfl rfl rfl); refine Go.Flo.quiet_load_row 28 _ rfl (x0 + 1) rfl _ #[.int .u16 d.f, .int .u16 d.i, .int .u8 d.r0, .int .u8 d.r1, .int .u8 d.r2, .int .u8 d.r3, .int .u8 d.r4, .int .u8 d.r5, .int .i8 d.c0, .int .i8 d.c1, .int .i8 d.c2, .int .i8 d.c3, .int .i8 d.c4, .int .i8 d.c5, .int .u8 d.m, .int .u16 d.n, .bool d.x, .int .u8 d.h] _ (by rintro _ ⟨i, rfl⟩; exact ((HW.out i).block (x0 + 1) hyl).trans HY.out) Try.underlying28 rfl size_cx ?_; go_simp; refine hK _ ?_; clear hK K)
        have he := HE.out
        (repeat (first | (refine Go.Flo.fw_calm rfl ?_ (fun K hK => ?_); (first | exact Go.Mix.wanted_none rfl | exact Go.Mix.wanted_tt rfl rfl rfl | exact Go.Mix.wanted_ff rfl rfl rfl); go_big_quiet_op; refine hK _ ?_; clear hK K) | (refine Go.Flo.fw_skip ?_ (fun K hK => ?_); (first | exact Go.Mix.wanted_tf rfl rfl rfl | exact Go.Mix.wanted_ft rfl rfl rfl); go_simp; refine hK _ ?_; clear hK K) | (refine Go.Flo.fw_any rfl ?_ (fun K hK => ?_); (first | exact Go.Mix.wanted_none rfl | exact Go.Mix.wanted_tt rfl rfl rfl | exact Go.Mix.wanted_ff rfl rfl rfl); go_simp; (try (go_ints; try go_simp)); refine hK _ ?_; clear hK K)))
        clear he
        (refine Go.Flo.fw_calm rfl ?_ (fun K hK => ?_); (first | exact Go.Mix.wanted_none rfl | exact Go.Mix.wanted_tt rfl rfl rfl | exact Go.Mix.wanted_ff rfl rfl rfl); refine Go.Flo.quiet_load_row 28 _ rfl x0 rfl _ #[.int .u16 c.f, .int .u16 c.i, .int .u8 c.r0, .int .u8 c.r1, .int .u8 c.r2, .int .u8 c.r3, .int .u8 c.r4, .int .u8 c.r5, .int .i8 c.c0, .int .i8 c.c1, .int .i8 c.c2, .int .i8 c.c3, .int .i8 c.c4, .int .i8 c.c5, .int .u8 c.m, .int .u16 c.n, .bool c.x, .int .u8 c.h] _ (by rintro _ ⟨i, rfl⟩; exact ((HW.out i).block x0 hxl).trans HX.out) Try.underlying28 rfl size_cx ?_; go_simp; refine hK _ ?_; clear hK K)
        (refine Go.Flo.fw_calm rfl ?_ (fun K hK => ?_); (first | exact Go.Mix.wanted_none rfl | exact Go.Mix.wanted_tt rfl rfl rfl | exact Go.Mix.wanted_ff rfl rfl rfl); refine Go.Flo.quiet_load_row 28 _ rfl x0 rfl _ #[.int .u16 c.f, .int .u16 c.i, .int .u8 c.r0, .int .u8 c.r1, .int .u8 c.r2, .int .u8 c.r3, .int .u8 c.r4, .int .u8 c.r5, .int .i8 c.c0, .int .i8 c.c1, .int .i8 c.c2, .int .i8 c.c3, .int .i8 c.c4, .int .i8 c.c5, .int .u8 c.m, .int .u16 c.n, .bool c.x, .int .u8 c.h] _ (by rintro _ ⟨i, rfl⟩; exact ((HW.out i).block x0 hxl).trans HX.out) Try.underlying28 rfl size_cx ?_; go_simp; refine hK _ ?_; clear hK K)
        refine Go.Flo.fw_loud rfl ?_ rfl (by simp) (fun wv hwv hav K hK => ?_) (fun v hv K hK => ?_)
        · (first | exact Go.Mix.wanted_none rfl | exact Go.Mix.wanted_tt rfl rfl rfl | exact Go.Mix.wanted_ff rfl rfl rfl)
        · obtain ⟨iv, rfl⟩ := hwv
          have hbv := HW.out iv
          (first | go_big_op | go_simp)
          go_at_call 26
          refine (cSame_any c c _).mono ?_
          rintro e w' ⟨rfl, hbb⟩
          rw [decide_eq_true (rfl : c = c)]
          exact hK _ _ (Go.Flo.owes_is _ rfl hbb)
        obtain rfl := hv.is
        go_simp
        refine hK _ ?_
        clear hK K hv
        (repeat (first | (refine Go.Flo.fw_calm rfl ?_ (fun K hK => ?_); (first | exact Go.Mix.wanted_none rfl | exact Go.Mix.wanted_tt rfl rfl rfl | exact Go.Mix.wanted_ff rfl rfl rfl); go_big_quiet_op; refine hK _ ?_; clear hK K) | (refine Go.Flo.fw_skip ?_ (fun K hK => ?_); (first | exact Go.Mix.wanted_tf rfl rfl rfl | exact Go.Mix.wanted_ft rfl rfl rfl); go_simp; refine hK _ ?_; clear hK K) | (refine Go.Flo.fw_any rfl ?_ (fun K hK => ?_); (first | exact Go.Mix.wanted_none rfl | exact Go.Mix.wanted_tt rfl rfl rfl | exact Go.Mix.wanted_ff rfl rfl rfl); go_simp; (try (go_ints; try go_simp)); refine hK _ ?_; clear hK K)))
        refine Go.Flo.fw_nil ?_
        intro w7 hww7 hfw7 huw7
        refine Go.Flo.tw_nil ?_
        obtain ⟨iend, hiend⟩ := hww7
        have hbw7 := HW.out iend
        rw [← hiend] at hbw7
        clear hiend iend huw7
        have HB7 := Lib.hid (HB.out.trans (hbw7.mono hswr))
        clear hfw7 HJ HW hne hbw7 hxl hyl
        clear W I
        go_wp2
        go_ret
        exact ⟨rfl, HB7.out⟩
end Go.Proofs.Ytpgophkegjeheaa
