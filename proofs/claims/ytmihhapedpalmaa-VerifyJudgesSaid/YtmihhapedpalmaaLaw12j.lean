/- VerifyJudges, walked (under way). -/
import Derived.Test.YtmihhapedpalmaaVfA
import Derived.Test.YtmihhapedpalmaaLaw05
import Derived.Test.YtmihhapedpalmaaVr5
namespace Go.Proofs.Ytmihhapedpalmaa
open Go.RowKit Go.Own Go.Maps
set_option linter.unusedVariables false
set_option linter.unusedSimpArgs false
/-- What VerifyJudges holds: the command's box, the bytes that come in, the table, its rows. -/
structure VjS (w wr : World) (g : Nat) (C : Array Value) (ya : Option Addr) (my cy : Nat) (Y : List Nat) : Prop where
  hp : wr.heap[g]? = some (.cells C 56 (0, 0))
  rd : Rd wr.heap.size wr ya my cy (bv Y)
  bel : Below w.heap.size w wr
theorem VjS.below {w wr w' : World} {g : Nat} {C : Array Value} {ya : Option Addr} {my cy : Nat} {Y : List Nat} (h : VjS w wr g C ya my cy Y) (hb : Below wr.heap.size wr w') : VjS w w' g C ya my cy Y :=
  ⟨(hb.block g (box_lt h.hp)).trans h.hp, (h.rd.below hb).mono hb.size, h.bel.trans (hb.mono h.bel.size)⟩
theorem own_setV2 {w : World} {B m b i : Nat} {v x : Value} {xs : List Value} (h : w.ownsRow B 5 1 v m xs) (hg : b < B) : (w.setCell ⟨b, i, none⟩ x).ownsRow B 5 1 v m xs :=
  h.kept (grown_set w ⟨b, i, none⟩ x) (.inr (fun e => by have := (h.lt b e).1; omega))
theorem sd_ack {ap ct a m : Nat} (h : sdErr ap ct a m = 0) : a < 16 := by
  unfold sdErr cmBad at h
  by_cases e : 15 < a
  · rw [if_pos e] at h; simp at h
  · omega
theorem vdC_lt (T : Nat → Nat → Option (Int × Int)) (l : List Nat) (ap : Nat) : vdC T l ap < 7 := by
  unfold vdC
  split
  · exact upC_lt l
  · split
    · omega
    · split
      · omega
      · exact jdT_lt _ _ _ _
theorem below_drewsV (B : Nat) (w : World) (n : Nat) : Below B w (w.drewN n) := ⟨rfl, rfl, rfl, Nat.le_refl _, fun _ _ => rfl⟩
theorem id_val (l : List Nat) : val ((l ++ [0, 0, 0, 0]).take 4) = idN l := by
  match l with
  | [] => simp [val, idN]
  | [a] => simp [val, idN]; omega
  | [a, b] => simp [val, idN]; omega
  | [a, b, c] => simp [val, idN]; omega
  | a :: b :: c :: d :: r => simp [val, idN]; omega
def at2v {α : Type} (a b : α) : Nat → α := fun i => if i = 0 then a else b
theorem all2v {p : Nat → Prop} (h0 : p 0) (h1 : p 1) : ∀ i, i < 2 → p i := fun i hi => by
  have : i = 0 ∨ i = 1 := by omega
  rcases this with rfl | rfl
  · exact h0
  · exact h1
theorem Sent.uni {w w' : World} {er m : Nat} {K : List Nat} {e : Ending} (h : Sent w er m K e w') (hm : K.length = m) : Below w.heap.size w w' ∧ ∃ (x : Option Addr) (n c : Nat) (G : List Nat) (v : Value), e = .returned (.tuple #[.slice x n c, v]) ∧ w'.ownsRow w.heap.size 5 1 (.slice x n c) n (bl G) ∧ G.length = n ∧ (er ≠ 0 ∧ G = [] ∨ er = 0 ∧ G = K) := by
  obtain ⟨hb, ⟨h0, he⟩ | ⟨h0, v, he, hown⟩⟩ := h
  · exact ⟨hb, none, 0, 0, [], _, he, ⟨rfl, .inl ⟨rfl, rfl⟩⟩, rfl, .inl ⟨h0, rfl⟩⟩
  · obtain ⟨x, c, rfl⟩ := own_formR hown
    exact ⟨hb, x, m, c, K, _, he, hown, hm, .inr ⟨h0, rfl⟩⟩
set_option maxRecDepth 100000 in
set_option maxHeartbeats 8000000 in
theorem walk_VerifyJudges (a s u c : Int) (x : Option Addr) (len cap : Nat) (zx : List Int) (ap ot ct : Int) (rx : Option Addr) (rl rc : Nat) (y : Option Addr) (ly cy : Nat) (zy : List Int) (at' tn : Int) (md : Bool) (kd : Int) (w : World)
    (wa : (Lit.int .u8 a).wf = true) (ws : (Lit.int .u8 s).wf = true) (wu : (Lit.int .u8 u).wf = true) (wc : (Lit.int .u16 c).wf = true) (wx : IsRow .u8 w x len cap zx) (wap : (Lit.int .u16 ap).wf = true) (wot : (Lit.int .u16 ot).wf = true) (wct : (Lit.int .u16 ct).wf = true)
    (wr : IsFlat [.int .u8, .int .u8, .int .i64, .int .i64] w rx rl rc) (wy : IsRow .u8 w y ly cy zy) (wat : (Lit.int .u16 at').wf = true) (wtn : (Lit.int .u8 tn).wf = true) (wkd : (Lit.int .u8 kd).wf = true) :
    Calls Try.prog 5 #[.agg #[.int .u8 a, .int .u8 s, .int .u8 u, .int .u16 c, .slice x len cap], .int .u16 ap, .int .u16 ot, .int .u16 ct, .slice rx rl rc, .slice y ly cy, .int .u16 at', .int .u8 tn, .bool md, .int .u8 kd] w fun e w' => e = .returned (.bool true) ∧ Below w.heap.size w w' := by
  obtain ⟨p0, p1⟩ := bounds_u8 wa
  obtain ⟨q0, q1⟩ := bounds_u8 ws
  obtain ⟨r0, r1⟩ := bounds_u8 wu
  obtain ⟨t0, t1⟩ := bounds_u16 wc
  obtain ⟨v0, v1⟩ := bounds_u16 wap
  obtain ⟨o0, o1⟩ := bounds_u16 wot
  obtain ⟨n0, n1⟩ := bounds_u16 wct
  obtain ⟨e0, e1⟩ := bounds_u16 wat
  obtain ⟨f0, f1⟩ := bounds_u8 wtn
  obtain ⟨z0, z1⟩ := bounds_u8 wkd
  obtain ⟨a, rfl⟩ := Int.eq_ofNat_of_zero_le p0
  obtain ⟨s, rfl⟩ := Int.eq_ofNat_of_zero_le q0
  obtain ⟨u, rfl⟩ := Int.eq_ofNat_of_zero_le r0
  obtain ⟨c, rfl⟩ := Int.eq_ofNat_of_zero_le t0
  obtain ⟨ap, rfl⟩ := Int.eq_ofNat_of_zero_le v0
  obtain ⟨ot, rfl⟩ := Int.eq_ofNat_of_zero_le o0
  obtain ⟨ct, rfl⟩ := Int.eq_ofNat_of_zero_le n0
  obtain ⟨at', rfl⟩ := Int.eq_ofNat_of_zero_le e0
  obtain ⟨tn, rfl⟩ := Int.eq_ofNat_of_zero_le f0
  obtain ⟨kd, rfl⟩ := Int.eq_ofNat_of_zero_le z0
  have ha : a < 256 := by omega
  have hs : s < 256 := by omega
  have hu : u < 256 := by omega
  have hc : c < 65536 := by omega
  have hap : ap < 65536 := by omega
  have hot : ot < 65536 := by omega
  have hct : ct < 65536 := by omega
  have hat : at' < 65536 := by omega
  have htn : tn < 256 := by omega
  have hkd : kd < 256 := by omega
  obtain ⟨d, hl, hdb, hr⟩ := isRow_rd wx
  obtain ⟨y', hly, hyb, hry⟩ := isRow_rd wy
  obtain ⟨m, hm⟩ : ∃ m, m = min rl 12 := ⟨_, rfl⟩
  obtain ⟨L, hL, hok, hR⟩ := rws_flat wr (show m ≤ rl by omega)
  have HX := Lib.hid (show rl ≤ rc ∧ (rx = none → rc = 0) from ⟨wr.1, wr.2.2.1⟩)
  have HM := Lib.hid hm
  have HLL := Lib.hid hL
  have HOK := Lib.hid hok
  have HROW := Lib.hid hR
  have HL := Lib.hid hl
  have HR := Lib.hid hr
  have HLY := Lib.hid hly
  have HRY := Lib.hid hry
  have HDB := Lib.hid hdb
  have HYB := Lib.hid hyb
  clear wa ws wu wc wx wap wot wct wr wy wat wtn wkd p0 p1 q0 q1 r0 r1 t0 t1 v0 v1 o0 o1 n0 n1 e0 e1 f0 f1 z0 z1 hl hr hly hry hL hok hR hm hdb hyb
  have h3 := heap_alloc_new w (.cells #[.int .u8 (a : Nat), .int .u8 (s : Nat), .int .u8 (u : Nat), .int .u16 (c : Nat), .slice x len cap] 56)
  have hB0 : Below w.heap.size w (w.alloc (.cells #[.int .u8 (a : Nat), .int .u8 (s : Nat), .int .u8 (u : Nat), .int .u16 (c : Nat), .slice x len cap] 56)) := (Below.refl _ _).alloc (Nat.le_refl _) _
  go_enter Try.func5, Try.ntmps5
  go_wp2_with fail
  obtain ⟨W0, hW0⟩ : ∃ W0, W0 = w.alloc (.cells #[.int .u8 (a : Nat), .int .u8 (s : Nat), .int .u8 (u : Nat), .int .u16 (c : Nat), .slice x len cap] 56) := ⟨_, rfl⟩
  obtain ⟨g, hg⟩ : ∃ g, g = w.heap.size := ⟨_, rfl⟩
  rw [← hW0] at hB0 h3 ⊢
  rw [← hg] at h3 ⊢
  have hgB : w.heap.size ≤ g := by omega
  clear hW0 hg
  go_at_call 25
  refine (awake12 _).mono ?_
  rintro e w1 ⟨rfl, hb1⟩
  have h3 := (hb1.block g (Array.getElem?_eq_some_iff.1 h3).1).trans h3
  have hB1 := hB0.trans (hb1.mono hB0.size)
  have H3 := Lib.hid h3
  have HB1 := Lib.hid hB1
  have hs1 : w.heap.size ≤ w1.heap.size := hB1.size
  clear hb1 hB0 h3 hB1
  have k4 : w1.cell? ⟨g, 4, none⟩ = some (.slice x len cap) := cell_of_row _ g 4 _ _ _ H3.out
  go_wp2_with fail
  go_at_call 26
  obtain ⟨mx, hmx⟩ : ∃ mx, mx = min 220 len := ⟨_, rfl⟩
  obtain ⟨my, hmy⟩ : ∃ my, my = min 230 ly := ⟨_, rfl⟩
  refine (Cut_any x len cap d 220 w1 HL.out ((HR.out.below HB1.out).mono hs1) (by decide)).mono ?_
  rintro e w2 ⟨v2, rfl, hown2, hb2⟩
  rw [← hmx] at hown2
  obtain ⟨X, hX⟩ : ∃ X, X = d.take 220 := ⟨_, rfl⟩
  have hXl : X.length = mx := by rw [hX, hmx]; exact bytes_take HL.out
  rw [← hX] at hown2
  have HXB := Lib.hid (show bytes X by rw [hX]; exact HDB.out.take 220)
  have HXL := Lib.hid hXl
  have HOWN2 := Lib.hid hown2
  have HB2 := Lib.hid (HB1.out.trans (hb2.mono hs1))
  have HB12 := Lib.hid hb2
  have hs2 : w.heap.size ≤ w2.heap.size := HB2.out.size
  have hmx2 : mx ≤ 220 := by omega
  clear hown2 hb2 hX hXl hmx k4
  go_wp2_with fail
  go_at_call 26
  refine (Cut_any y ly cy y' 230 w2 HLY.out ((HRY.out.below HB2.out).mono hs2) (by decide)).mono ?_
  rintro e w3 ⟨v3, rfl, hown3, hb3⟩
  rw [← hmy] at hown3
  obtain ⟨Y, hY⟩ : ∃ Y, Y = y'.take 230 := ⟨_, rfl⟩
  have hYl : Y.length = my := by rw [hY, hmy]; exact bytes_take HLY.out
  rw [← hY] at hown3
  have HYB2 := Lib.hid (show bytes Y by rw [hY]; exact HYB.out.take 230)
  have HYL := Lib.hid hYl
  have hown2 := own_keep HOWN2.out hb3
  have h33 := ((HB12.out.trans (hb3.mono HB12.out.size)).block g (box_lt H3.out)).trans H3.out
  have hB3 := HB2.out.trans (hb3.mono hs2)
  have hgs1 : g < w1.heap.size := box_lt H3.out
  have hs12 : w1.heap.size ≤ w2.heap.size := HB12.out.size
  obtain ⟨x2, q2, rfl⟩ := own_form hown2
  obtain ⟨y2, q3, rfl⟩ := own_form hown3
  have hmy2 : my ≤ 230 := by omega
  have k4 := cell_of_row w3 g 4 _ _ _ h33
  have f4 := frozen_of_row w3 g 4 _ _ h33
  have h43 : (w3.setCell ⟨g, 4, none⟩ (.slice x2 mx q2)).heap[g]? = some (.cells #[.int .u8 (a : Nat), .int .u8 (s : Nat), .int .u8 (u : Nat), .int .u16 (c : Nat), .slice x2 mx q2] 56 (0, 0)) := heap_setCell_same _ _ _ _ _ _ h33
  have hx4 := own_setV2 (b := g) (i := 4) (x := .slice x2 mx q2) hown2 (by omega)
  have hy4 := own_setV2 (b := g) (i := 4) (x := .slice x2 mx q2) hown3 (by omega)
  have hB4 := hB3.setCell (p := ⟨g, 4, none⟩) hgB (.slice x2 mx q2)
  have HX4 := Lib.hid hx4
  have HY4 := Lib.hid hy4
  have HB4 := Lib.hid hB4
  have H43 := Lib.hid h43
  clear hown2 hown3 hb3 hY hYl hmy h33 hB3 h43 hx4 hy4 hB4 HOWN2 HB12 HB2 H3 hs12 hgs1 hs2
  go_upto_region 4 with fail
  obtain ⟨w4, hw4⟩ : ∃ w4, w4 = w3.setCell ⟨g, 4, none⟩ (.slice x2 mx q2) := ⟨_, rfl⟩
  rw [← hw4] at HX4 HY4 HB4 H43 ⊢
  clear hw4 k4 f4
  go_wp2_with fail
  go_at_call 27
  refine (table_any rx rl rc m L w4 HM.out HX.out.1 HX.out.2 HLL.out HOK.out ((HROW.out.below HB4.out (Nat.le_refl _)).monoV HB4.out.size)).mono ?_
  rintro e w5 ⟨b, nb, D, tx, tc, rfl, ht5, hrt5, hb5⟩
  have HT5 := Lib.hid ht5
  have HRT5 := Lib.hid hrt5
  have hx5 := own_keep HX4.out hb5
  have HRX5 := Lib.hid (rd_of_own (f := bv X) hx5 (fun i hi => bl_at X (by rw [HXL.out]; exact hi)))
  have HY5 := Lib.hid (own_keep HY4.out hb5)
  have H53 := Lib.hid ((hb5.block g (box_lt H43.out)).trans H43.out)
  have HB5 := Lib.hid (HB4.out.trans (hb5.mono HB4.out.size))
  clear ht5 hrt5 hx5 hb5 HX4 HY4 HB4 H43 HROW HX
  obtain ⟨ap', hap'⟩ : ∃ z, z = ap % 2048 := ⟨_, rfl⟩
  obtain ⟨ct', hct'⟩ : ∃ z, z = ct % 16384 := ⟨_, rfl⟩
  have hap2 : ap' < 2048 := by omega
  have hct2 : ct' < 16384 := by omega
  have hapI : Int.tmod (ap : Int) 2048 = (ap' : Int) := by rw [Int.tmod_eq_emod_of_nonneg (by omega)]; omega
  have hctI : Int.tmod (ct : Int) 16384 = (ct' : Int) := by rw [Int.tmod_eq_emod_of_nonneg (by omega)]; omega
  clear hap' hct'
  go_wp2_with (refine wpList_load_row rfl 56 _ rfl _ rfl _ _ _ _ H53.out Try.underlying56 rfl (by exact size_cm) ?_; (try go_simp))
  go_at_call 28
  refine (Send_any ap' ct' a s u c x2 mx q2 _ X w5 (by omega) (by omega) ha hs hu hc HXL.out (Nat.le_refl _) HRX5.out HXB.out).mono ?_
  rintro e w6 hsent
  obtain ⟨hb6, gx, mg, gc, G, gv, rfl, hg6, hGl, hG⟩ := hsent.uni (by rw [mkPkt_len, cmB_len, HXL.out])
  have hGb : bytes G := by
    rcases hG with ⟨_, rfl⟩ | ⟨he0, rfl⟩
    · exact fun x hx => by cases hx
    · exact mkPkt_bytes (by decide) hap2 hct2 (by rw [cmB_len, HXL.out]; omega) (cmB_bytes (sd_ack he0) hs hu HXB.out)
  have hmg : mg ≤ 233 := by
    rcases hG with ⟨_, rfl⟩ | ⟨_, rfl⟩
    · simp at hGl; omega
    · rw [mkPkt_len, cmB_len, HXL.out] at hGl; omega
  have HB6 := Lib.hid (HB5.out.trans (hb6.mono HB5.out.size))
  have HG6 := Lib.hid hg6
  have hrg := rd_of_own (f := bv G) hg6 (fun i hi => bl_at G (by rw [hGl]; exact hi))
  have HT6 := Lib.hid (HT5.out.below hb6)
  have HRT6 := Lib.hid ((HRT5.out.below hb6 (Nat.le_refl _)).monoV hb6.size)
  have HY6 := Lib.hid (own_keep HY5.out hb6)
  have HGL := Lib.hid hGl
  have HGB := Lib.hid hGb
  have HRG := Lib.hid hrg
  clear hG hb6 hg6 hrg hGl hGb HT5 HRT5 HY5 H53 HB5 HRX5 hsent
  go_wp2_with fail
  go_at_call 29
  have hh : (w6.alloc (.cells #[.slice gx mg gc] 54)).heap[w6.heap.size]? = some (.cells #[.slice gx mg gc] 54 (0, 0)) := heap_alloc_new _ _
  have hal : Below w6.heap.size w6 (w6.alloc (.cells #[.slice gx mg gc] 54)) := (Below.refl _ _).alloc (Nat.le_refl _) _
  refine (Join1 (n := w6.heap.size) HGL.out hh (HRG.out.below hal) (by simp) (by rw [HGL.out]; omega)).mono ?_
  rintro e w7 ⟨v7, rfl, hown7, hb7⟩
  rw [HGL.out] at hown7
  have hb67 := hal.trans (hb7.mono hal.size)
  have hbt : bits .xor .u8 0 0 = 0 := by decide +kernel
  have hown7 := own_base hown7 hal.size
  obtain ⟨ba, bc, rfl⟩ := own_form hown7
  have HOWN7 := Lib.hid hown7
  have HB67 := Lib.hid hb67
  clear hh hal hb7 hb67 hown7 hbt
  go_upto_if 58 with fail
  go_cut [25] (fun v wx => ∃ (za : Option Addr) (mz cz : Nat) (Z : List Nat), v = .slice za mz cz ∧ Z.length = mz ∧ mz ≤ 240 ∧ bytes Z ∧ Rd wx.heap.size wx za mz cz (bv Z) ∧ Below w6.heap.size w6 wx)
  case first =>
    by_cases h2 : 2 < mg
    rotate_left
    · have h2I : decide (2 < (mg : Int)) = false := decide_eq_false (by omega)
      go_wp2
      go_meet
      case rel => exact ⟨_, _, _, G, rfl, HGL.out, by omega, HGB.out, rd_of_own (f := bv G) HOWN7.out (fun i hi => bl_at G (by rw [HGL.out]; exact hi)), HB67.out⟩
    · have h2I : decide (2 < (mg : Int)) = true := decide_eq_true (by omega)
      obtain ⟨gb, cb, hba, hgb, hgbs⟩ := own_addr HOWN7.out HGL.out (by omega)
      simp only [Value.slice.injEq, true_and] at hba
      obtain ⟨rfl, rfl⟩ := hba
      obtain ⟨jj, hjj⟩ : ∃ jj, jj = at' % mg := ⟨_, rfl⟩
      have hjl : jj < mg := by rw [hjj]; exact Nat.mod_lt _ (by omega)
      have hjI : Int.tmod (at' : Int) (mg : Int) = (jj : Int) := by rw [Int.tmod_eq_emod_of_nonneg (by omega)]; omega
      obtain ⟨xx, hxx⟩ : ∃ xx, xx = G.getD jj 0 := ⟨_, rfl⟩
      have hx8 : xx < 256 := by rw [hxx]; exact HGB.out.at jj
      have hxb := xor8 xx tn hx8 htn
      obtain ⟨zz, hzz⟩ : ∃ zz, zz = xx ^^^ tn := ⟨_, rfl⟩
      have hz8 : zz < 256 := by rw [hzz]; exact Nat.xor_lt_two_pow (n := 8) hx8 htn
      rw [← hzz] at hxb
      obtain ⟨_, hcj, hfj, hrdj⟩ := own_setV HOWN7.out HGL.out hjl zz
      rw [← hxx] at hcj
      have hbz := HB67.out.setCell (p := ⟨gb, jj, none⟩) hgb (.int .u8 (zz : Nat))
      have hsl : (G.set jj zz).length = mg := by rw [List.length_set, HGL.out]
      have hsb : bytes (G.set jj zz) := fun q hq => by
        rcases List.mem_or_eq_of_mem_set hq with h | h
        · exact HGB.out q h
        · rw [h]; exact hz8
      obtain ⟨Z, hZ⟩ : ∃ Z, Z = G.set jj zz := ⟨_, rfl⟩
      rw [← hZ] at hrdj hsl hsb
      have HRDJ := Lib.hid hrdj
      have HBZ := Lib.hid hbz
      have HZL := Lib.hid hsl
      have HZB := Lib.hid hsb
      clear hjj hxx hzz hrdj hbz hZ hsl hsb
      cases md with
      | false =>
        go_wp2_with fail
        go_meet
        case rel => exact ⟨_, _, _, Z, rfl, HZL.out, by omega, HZB.out, HRDJ.out, HBZ.out⟩
      | true =>
        have hbc := HRDJ.out.le
        have hrz := HRDJ.out
        have hbz := HBZ.out
        have hup : Rd (w7.setCell ⟨gb, jj, none⟩ (.int .u8 (zz : Nat))).heap.size (w7.setCell ⟨gb, jj, none⟩ (.int .u8 (zz : Nat))) (some ⟨gb, 0, none⟩) (mg - 2) bc (bv (Z.take (mg - 2))) := by
          have h := hrz.upto (k := mg - 2) (by omega)
          have e : (if bc = 0 then (some (⟨gb, 0, none⟩ : Addr)) else (some (⟨gb, 0, none⟩ : Addr)).map (·.add 0)) = some ⟨gb, 0, none⟩ := by simp [Addr.add]
          rw [e] at h
          exact h.same (fun i hi => by unfold bv; simp [List.getD, List.getElem?_take, hi])
        have hlt : (Z.take (mg - 2)).length = mg - 2 := by rw [List.length_take, HZL.out]; omega
        have HUP := Lib.hid hup
        have HLT := Lib.hid hlt
        have HZT := Lib.hid (HZB.out.take (mg - 2))
        clear hrz hbz hup hlt HRDJ
        go_wp2_with fail
        go_at_call 30
        refine (rAppend_any (some ⟨gb, 0, none⟩) (mg - 2) bc _ (Z.take (mg - 2)) _ HLT.out (Nat.le_refl _) HUP.out HZT.out (by omega)).mono ?_
        rintro e wy ⟨vy, rfl, howny, hby⟩
        have hz2 : (w7.setCell ⟨gb, jj, none⟩ (.int .u8 (zz : Nat))).heap.size = w7.heap.size := by simp [World.setCell]
        obtain ⟨ga, ca, rfl⟩ := own_form howny
        have hwl : (whole (Z.take (mg - 2))).length = mg - 2 + 2 := by rw [whole_len, HLT.out]
        have hrw := rd_of_own (f := bv (whole (Z.take (mg - 2)))) howny (fun i hi => bl_at _ (by rw [hwl]; exact hi))
        have HF := Lib.hid (show _ ∧ _ ∧ _ ∧ _ from ⟨hwl, whole_bytes HZT.out, hrw, HBZ.out.trans (hby.mono HBZ.out.size)⟩)
        clear howny hby hz2 hwl hrw
        go_wp2_with fail
        go_meet
        case rel => exact ⟨_, _, _, _, rfl, HF.out.1, by omega, HF.out.2.1, HF.out.2.2.1, HF.out.2.2.2⟩
  case rest =>
    obtain ⟨ba2, mz, cz, Z, rfl, hZl, hmz, hZb, hrz, hbz⟩ := hcut
    obtain ⟨w8, hw8⟩ : ∃ w8, w8 = wc := ⟨_, rfl⟩
    rw [← hw8] at hrz hbz ⊢
    have HRG8 := Lib.hid ((HRG.out.below hbz).mono hbz.size)
    have HRZ8 := Lib.hid hrz
    have HZL := Lib.hid hZl
    have HZB := Lib.hid hZb
    have HY8 := Lib.hid (own_keep HY6.out hbz)
    have HT8 := Lib.hid (HT6.out.below hbz)
    have HRT8 := Lib.hid ((HRT6.out.below hbz (Nat.le_refl _)).monoV hbz.size)
    have HB8 := Lib.hid (HB6.out.trans (hbz.mono HB6.out.size))
    clear hw8 hrz hbz hZl hZb HOWN7 HB67 HRG HY6 HT6 HRT6 HB6
    go_upto_if 79 with fail
    go_cut [2] (fun v wx => ∃ o' : Nat, v = .int .u16 (o' : Nat) ∧ o' < 65536 ∧ wx = w8)
    case first =>
      by_cases hk0 : kd % 2 = 0
      · have hkI : ((kd : Int) % 2 == 0) = true := by rw [beq_iff_eq]; omega
        go_wp2
        go_meet
        case rel => exact ⟨_, rfl, hap, rfl⟩
      · have hkI : ((kd : Int) % 2 == 0) = false := by rw [beq_eq_false_iff_ne]; omega
        go_wp2
        go_meet
        case rel => exact ⟨_, rfl, hot, rfl⟩
    case rest =>
      obtain ⟨o', rfl, ho', hwc⟩ := hcut
      rw [hwc]
      clear hwc
      obtain ⟨od, hod⟩ : ∃ z, z = o' % 2048 := ⟨_, rfl⟩
      have hod2 : od < 2048 := by omega
      have hodI : Int.tmod (o' : Int) 2048 = (od : Int) := by rw [Int.tmod_eq_emod_of_nonneg (by omega)]; omega
      clear hod ho'
      go_wp2_with fail
      go_at_call 30
      have hry8 := rd_of_own (f := bv Y) HY8.out (fun i hi => bl_at Y (by rw [HYL.out]; exact hi))
      refine (rAppend_any y2 my q3 _ Y w8 HYL.out (Nat.le_refl _) hry8 HYB2.out (by omega)).mono ?_
      rintro e w9 ⟨v9, rfl, hown9, hb9⟩
      obtain ⟨wa, wq, rfl⟩ := own_form hown9
      have hwl : (whole Y).length = my + 2 := by rw [whole_len, HYL.out]
      have hrw := rd_of_own (f := bv (whole Y)) hown9 (fun i hi => bl_at _ (by rw [hwl]; exact hi))
      obtain ⟨wt, hwt⟩ : ∃ wt, w9.alloc (.cells #[.slice gx mg gc, .slice ba2 mz cz, .slice y2 my q3, .slice wa (my + 2) wq] 54) = wt := ⟨_, rfl⟩
      have hht := heap_alloc_new w9 (.cells #[.slice gx mg gc, .slice ba2 mz cz, .slice y2 my q3, .slice wa (my + 2) wq] 54)
      have hal := (Below.refl w9.heap.size w9).alloc (Nat.le_refl _) (.cells #[.slice gx mg gc, .slice ba2 mz cz, .slice y2 my q3, .slice wa (my + 2) wq] 54)
      rw [hwt] at hht hal
      have hb8t := hb9.trans (hal.mono hb9.size)
      have HTC := Lib.hid (show ∀ k, k < 4 → ∃ (ta : Option Addr) (tl cq : Nat) (K : List Nat), wt.cell? ⟨w9.heap.size, k, none⟩ = some (.slice ta tl cq) ∧ K.length = tl ∧ tl ≤ 240 ∧ bytes K ∧ Rd wt.heap.size wt ta tl cq (bv K) from by
        intro k hk
        obtain rfl | rfl | rfl | rfl : k = 0 ∨ k = 1 ∨ k = 2 ∨ k = 3 := by omega
        · exact ⟨gx, mg, gc, G, cell_of_row _ _ 0 _ _ _ hht, HGL.out, by omega, HGB.out, (HRG8.out.below hb8t).mono hb8t.size⟩
        · exact ⟨ba2, mz, cz, Z, cell_of_row _ _ 1 _ _ _ hht, HZL.out, by omega, HZB.out, (HRZ8.out.below hb8t).mono hb8t.size⟩
        · exact ⟨y2, my, q3, Y, cell_of_row _ _ 2 _ _ _ hht, HYL.out, by omega, HYB2.out, (hry8.below hb8t).mono hb8t.size⟩
        · exact ⟨wa, my + 2, wq, whole Y, cell_of_row _ _ 3 _ _ _ hht, hwl, by omega, whole_bytes HYB2.out, (hrw.below hal).mono hal.size⟩)
      have HTt := Lib.hid (HT8.out.below hb8t)
      have HRTt := Lib.hid ((HRT8.out.below hb8t (Nat.le_refl _)).monoV hb8t.size)
      have HBt := Lib.hid (HB8.out.trans (hb8t.mono HB8.out.size))
      have HGQ := Lib.hid (box_lt hht)
      clear hry8 hown9 hb9 hwl hrw hht hal hb8t HRG8 HRZ8 HY8 HT8 HRT8 HB8
      go_upto_region 14 with fail
      obtain ⟨gq, hgq⟩ : ∃ gq, gq = w9.heap.size := ⟨_, rfl⟩
      rw [← hgq] at HTC HGQ ⊢
      (try rw [hwt])
      clear hgq hwt
      go_loopw [88] (fun s88 wr => ∃ k : Nat, k ≤ 4 ∧ s88 = .int .i64 (k : Nat) ∧ Below wt.heap.size wt wr) (fun v _ => 4 - (intOf v).toNat)
      case atStart => exact ⟨0, Nat.zero_le _, rfl, Below.refl _ _⟩
      case round =>
        obtain ⟨k, hk, rfl, hBr⟩ := hrel
        have HBR := Lib.hid hBr
        clear hBr
        by_cases hk4 : k < 4
        rotate_left
        · obtain rfl : k = 4 := by omega
          have HBF := Lib.hid (HBt.out.trans (HBR.out.mono HBt.out.size))
          go_wp2_with fail
          go_ret
          exact ⟨by simp, HBF.out⟩
        have hk1 : k + 1 ≤ 4 := hk4
        obtain ⟨ta, tl, cq, K, hcell, hKl, htl, hKb, hKr⟩ := HTC.out k hk4
        have hcell := (HBR.out.cell (p := ⟨gq, k, none⟩) HGQ.out).trans hcell
        have HKL := Lib.hid hKl
        have HKB := Lib.hid hKb
        have HKR := Lib.hid ((hKr.below HBR.out).mono HBR.out.size)
        have HTR := Lib.hid (HTt.out.below HBR.out)
        have HRR := Lib.hid ((HRTt.out.below HBR.out (Nat.le_refl _)).monoV HBR.out.size)
        clear hKl hKb hKr
        go_wp2_with fail
        go_at_call 31
        refine (vJudge ta tl cq _ od (.map (some b)) (tabL L) K wr HKL.out (Nat.le_refl _) HKR.out HKB.out (jdOk_tab HTR.out)).mono ?_
        rintro e wj ⟨hbj, a1, s1, u1, c1, x1, m1, cp1, rfl, hok1, hno1⟩
        obtain ⟨vd, hvd⟩ : ∃ vd, vd = vdC (tabL L) K od := ⟨_, rfl⟩
        obtain ⟨ii, hii⟩ : ∃ ii, ii = idN K := ⟨_, rfl⟩
        rw [← hvd] at hok1 hno1 ⊢
        rw [← hii]
        have hvd7 : vd < 7 := by rw [hvd]; exact vdC_lt _ _ _
        have hii2 : ii < 4294967296 := by rw [hii]; exact idN_lt HKB.out
        have HVD := Lib.hid hvd
        have HII := Lib.hid hii
        have HOK1 := Lib.hid hok1
        have HNO1 := Lib.hid hno1
        have HBJ := Lib.hid hbj
        obtain ⟨wk, hwk⟩ : ∃ wk, wj.alloc (.cells #[.int .u8 (vd : Nat), .int .u32 (ii : Nat), .int .u8 (a1 : Nat), .int .u8 (s1 : Nat), .int .u8 (u1 : Nat), .int .u16 (c1 : Nat), .slice x1 m1 cp1] 70) = wk := ⟨_, rfl⟩
        have h28 := heap_alloc_new wj (.cells #[.int .u8 (vd : Nat), .int .u32 (ii : Nat), .int .u8 (a1 : Nat), .int .u8 (s1 : Nat), .int .u8 (u1 : Nat), .int .u16 (c1 : Nat), .slice x1 m1 cp1] 70)
        have hal := (Below.refl wj.heap.size wj).alloc (Nat.le_refl _) (.cells #[.int .u8 (vd : Nat), .int .u32 (ii : Nat), .int .u8 (a1 : Nat), .int .u8 (s1 : Nat), .int .u8 (u1 : Nat), .int .u16 (c1 : Nat), .slice x1 m1 cp1] 70)
        rw [hwk] at h28 hal
        have hrk := hbj.trans (hal.mono hbj.size)
        have HRK := Lib.hid hrk
        have H28 := Lib.hid h28
        have HALK := Lib.hid hal
        clear hvd hii hok1 hno1 hbj h28 hal hrk hcell
        go_upto_region 17 with ((with_reducible show wpList _ _ _ (_ :: _) _ _); refine wpList_store_row rfl 70 _ _ rfl _ _ rfl rfl _ _ (heap_alloc_new _ _) (by exact size_vd) (by rfl) (by simp [Value.oneCell']) ?_; rw [World.setRow_alloc_new, hwk])
        obtain ⟨g28, hg28⟩ : ∃ gg, gg = wj.heap.size := ⟨_, rfl⟩
        have h28 := H28.out
        have hsk := HALK.out.size
        rw [← hg28] at h28 ⊢
        have H28b := Lib.hid h28
        have hjk : wr.heap.size ≤ wk.heap.size := HRK.out.size
        have hKk := (HKR.out.below HRK.out).mono hjk
        have HKK := Lib.hid hKk
        have HRRk := Lib.hid ((HRR.out.below HRK.out (Nat.le_refl _)).monoV hjk)
        have HTRk := Lib.hid HRK.out
        clear hg28 h28 H28 hwk hKk
        go_wp2_with fail
        go_at_call 32
        refine (rJudge12 ta tl cq _ od m K L tx tc wk HKL.out (Nat.le_refl _) HKK.out HKB.out (by omega) HLL.out (by have := HM.out; omega) HOK.out HRRk.out).mono ?_
        rintro e wl ⟨hbl, a2, s2, u2, c2, x3, m2, cp2, rfl, hok2, hno2⟩
        rw [← HVD.out] at hok2 hno2 ⊢
        have heq : a1 = a2 ∧ s1 = s2 ∧ u1 = u2 ∧ c1 = c2 ∧ m1 = m2 ∧ ∃ DD : List Nat, DD.length = m1 ∧ bytes DD ∧ Rd wj.heap.size wj x1 m1 cp1 (bv DD) ∧ Rd wl.heap.size wl x3 m2 cp2 (bv DD) := by
          by_cases h0 : vd = 0
          · obtain ⟨y1, y2, y3, y4, y5, y6⟩ := HOK1.out h0
            obtain ⟨y7, y8, y9, z1, z2, z3⟩ := hok2 h0
            refine ⟨by rw [y1, y7], by rw [y2, y8], by rw [y3, y9], by rw [y4, z1], by rw [y5, z2], (pdat K).drop 5, by rw [List.length_drop, y5], ?_, y6, z3⟩
            unfold pdat
            exact bytes.drop (bytes.take (HKB.out.drop 6) _) 5
          · obtain ⟨rfl, rfl, rfl, rfl, rfl, rfl, rfl⟩ := HNO1.out h0
            obtain ⟨rfl, rfl, rfl, rfl, rfl, rfl, rfl⟩ := hno2 h0
            exact ⟨rfl, rfl, rfl, rfl, rfl, [], rfl, (fun x hx => by cases hx), Rd.none_ _ _ _, Rd.none_ _ _ _⟩
        obtain ⟨rfl, rfl, rfl, rfl, rfl, DD, hDl, hDb, hr1, hr2⟩ := heq
        obtain ⟨wm, hwm⟩ : ∃ wm, wl.alloc (.cells #[.int .u8 (a1 : Nat), .int .u8 (s1 : Nat), .int .u8 (u1 : Nat), .int .u16 (c1 : Nat), .slice x3 m1 cp2] 72) = wm := ⟨_, rfl⟩
        have h30 := heap_alloc_new wl (.cells #[.int .u8 (a1 : Nat), .int .u8 (s1 : Nat), .int .u8 (u1 : Nat), .int .u16 (c1 : Nat), .slice x3 m1 cp2] 72)
        have hal := (Below.refl wl.heap.size wl).alloc (Nat.le_refl _) (.cells #[.int .u8 (a1 : Nat), .int .u8 (s1 : Nat), .int .u8 (u1 : Nat), .int .u16 (c1 : Nat), .slice x3 m1 cp2] 72)
        rw [hwm] at h30 hal
        have hkm := hbl.trans (hal.mono hbl.size)
        have HD1 := Lib.hid ((hr1.below (HALK.out.trans (hkm.mono HALK.out.size))).mono (Nat.le_trans hsk hkm.size))
        have HD2 := Lib.hid ((hr2.below hal).mono hal.size)
        have HDL := Lib.hid hDl
        have HDB2 := Lib.hid hDb
        have h28m := (hkm.block g28 (box_lt H28b.out)).trans H28b.out
        have HRM := Lib.hid (HTRk.out.trans (hkm.mono HTRk.out.size))
        have H28m := Lib.hid h28m
        have H30 := Lib.hid h30
        clear hbl hok2 hno2 hDl hDb hr1 hr2 h30 hal hkm h28m
        go_upto_region 18 with ((with_reducible show wpList _ _ _ (_ :: _) _ _); refine wpList_store_row rfl 72 _ _ rfl _ _ rfl rfl _ _ (heap_alloc_new _ _) (by exact size_rc) (by rfl) (by simp [Value.oneCell']) ?_; rw [World.setRow_alloc_new, hwm])
        obtain ⟨g30, hg30⟩ : ∃ gg, gg = wl.heap.size := ⟨_, rfl⟩
        have h30 := H30.out
        rw [← hg30] at h30 ⊢
        clear hg30 H30 hwm
        have q0 := cell_of_row wm g28 0 _ _ _ H28m.out
        have q2 := cell_of_row wm g28 2 _ _ _ H28m.out
        have q3 := cell_of_row wm g28 3 _ _ _ H28m.out
        have q4 := cell_of_row wm g28 4 _ _ _ H28m.out
        have q5 := cell_of_row wm g28 5 _ _ _ H28m.out
        have q6 := cell_of_row wm g28 6 _ _ _ H28m.out
        have p0 := cell_of_row wm g30 0 _ _ _ h30
        have p1 := cell_of_row wm g30 1 _ _ _ h30
        have p2 := cell_of_row wm g30 2 _ _ _ h30
        have p3 := cell_of_row wm g30 3 _ _ _ h30
        have p4 := cell_of_row wm g30 4 _ _ _ h30
        simp at q0 q2 q3 q4 q5 q6 p0 p1 p2 p3 p4
        clear h30
        go_wp2_with fail
        go_at_call 33
        refine (Same_any x1 x3 m1 m1 cp1 cp2 _ _ DD DD wm HDL.out HDL.out HD1.out HD2.out HDB2.out HDB2.out).mono ?_
        rintro e wn ⟨rfl, js, hwn⟩
        have hbn : Below wm.heap.size wm wn := by rw [hwn]; exact below_drewsV _ _ _
        rw [decide_eq_true (rfl : DD = DD)]
        have H28n := Lib.hid ((hbn.block g28 (box_lt H28m.out)).trans H28m.out)
        have hrn := HRM.out.trans (hbn.mono HRM.out.size)
        have HRN := Lib.hid hrn
        have HKN := Lib.hid ((HKR.out.below hrn).mono hrn.size)
        clear q0 q2 q3 q4 q5 q6 p0 p1 p2 p3 p4 hwn hbn hrn HD1 HD2 HDL HDB2 H28m HRM HKK HRRk HTRk H28b HALK HRK HBJ HOK1 HNO1
        go_upto_region 20 with fail
        obtain ⟨Q, hQ⟩ : ∃ Q, Q = K ++ [0, 0, 0, 0] := ⟨_, rfl⟩
        have HQL := Lib.hid (show Q.length = tl + 4 by rw [hQ, List.length_append, HKL.out]; rfl)
        have HQF := Lib.hid (show ([K, [0, 0, 0, 0]] : List (List Nat)).flatten = Q by rw [hQ]; simp)
        obtain ⟨T4, hT4⟩ : ∃ T4, T4 = Q.take 4 := ⟨_, rfl⟩
        have HT4 := Lib.hid hT4
        have HT4L := Lib.hid (show T4.length = 4 by rw [hT4, List.length_take, HQL.out]; omega)
        have HVAL := Lib.hid (show val T4 = ii by rw [hT4, hQ, id_val, HII.out])
        have HT4B := Lib.hid (show bytes T4 by rw [hT4, hQ]; exact bytes.take (bytes.append HKB.out (fun x hx => by simp at hx; omega)) 4)
        clear hQ hT4
        have l28 := box_lt H28n.out
        obtain ⟨I, W, hne, hWI, hIW⟩ := Go.Mix.family (fun v => Below wn.heap.size wn v) (Below.refl _ _)
        have HJ := Lib.hid hIW
        have HW := Lib.hid hWI
        clear hWI hIW
        refine Go.Flo.wp_region (fun w' => ∃ i, w' = W i) 10 [SpB [0, 0, 0, 0], SpRows 0 [K, [0, 0, 0, 0]] 54, SpO wn.heap.size Q, SpO wn.heap.size T4, Go.Flo.Spec.is (.int .u64 (ii : Nat))] (by kernel_rfl) (by kernel_rfl) (by decide) (by rintro _ w' ⟨i, rfl⟩ hb; exact HJ.out _ ((HW.out i).trans (hb.mono (HW.out i).size))) (HJ.out _ (Below.refl _ _).drew) ?_
        simp only [Go.Flo.pair, Go.Mix.calm, List.take, List.drop, if_true, Bool.false_eq_true, if_false, Nat.reduceAdd, Nat.reduceSub]
        have e1 : ∀ i, (W i).cell? ⟨g28, 1, none⟩ = some (.int .u32 (ii : Nat)) := fun i => cell_of_row _ g28 1 _ _ _ (((HW.out i).block g28 l28).trans H28n.out)
        (repeat (first | (refine Go.Flo.fw_calm rfl ?_ (fun K hK => ?_); (first | exact Go.Mix.wanted_none rfl | exact Go.Mix.wanted_tt rfl rfl rfl | exact Go.Mix.wanted_ff rfl rfl rfl); go_big_quiet_op; refine hK _ ?_; clear hK K) | (refine Go.Flo.fw_skip ?_ (fun K hK => ?_); (first | exact Go.Mix.wanted_tf rfl rfl rfl | exact Go.Mix.wanted_ft rfl rfl rfl); go_simp; refine hK _ ?_; clear hK K) | (refine Go.Flo.fw_any rfl ?_ (fun K hK => ?_); (first | exact Go.Mix.wanted_none rfl | exact Go.Mix.wanted_tt rfl rfl rfl | exact Go.Mix.wanted_ff rfl rfl rfl); go_simp; (try (go_ints; try go_simp)); refine hK _ ?_; clear hK K)))
        refine Go.Flo.fw_loud rfl ?_ rfl (by simp) (fun wv hwv hav K hK => ?_) (fun v hv K hK => ?_)
        · (first | exact Go.Mix.wanted_none rfl | exact Go.Mix.wanted_tt rfl rfl rfl | exact Go.Mix.wanted_ff rfl rfl rfl)
        · obtain ⟨iv, rfl⟩ := hwv
          have hbv := HW.out iv
          (first | go_big_op | go_simp)
          refine hK _ _ (owes_lit rfl (by decide) (by kernel_rfl))
        obtain ⟨b1, q1, rfl⟩ := ex_B hv
        go_simp
        refine hK _ ?_
        clear hK K hv
        (repeat (first | (refine Go.Flo.fw_calm rfl ?_ (fun K hK => ?_); (first | exact Go.Mix.wanted_none rfl | exact Go.Mix.wanted_tt rfl rfl rfl | exact Go.Mix.wanted_ff rfl rfl rfl); go_big_quiet_op; refine hK _ ?_; clear hK K) | (refine Go.Flo.fw_skip ?_ (fun K hK => ?_); (first | exact Go.Mix.wanted_tf rfl rfl rfl | exact Go.Mix.wanted_ft rfl rfl rfl); go_simp; refine hK _ ?_; clear hK K) | (refine Go.Flo.fw_any rfl ?_ (fun K hK => ?_); (first | exact Go.Mix.wanted_none rfl | exact Go.Mix.wanted_tt rfl rfl rfl | exact Go.Mix.wanted_ff rfl rfl rfl); go_simp; (try (go_ints; try go_simp)); refine hK _ ?_; clear hK K)))
        refine Go.Flo.fw_loud rfl ?_ rfl (by simp) (fun wv hwv hav K hK => ?_) (fun v hv K hK => ?_)
        · (first | exact Go.Mix.wanted_none rfl | exact Go.Mix.wanted_tt rfl rfl rfl | exact Go.Mix.wanted_ff rfl rfl rfl)
        · obtain ⟨iv, rfl⟩ := hwv
          have hbv := HW.out iv
          (first | go_big_op | go_simp)
          have f1 := hav 155 (by decide +kernel)
          have s1 := says_B (f1.2 rfl).1
          have s0 := (HKN.out.below hbv).mono hbv.size
          rw [← HKL.out] at s0
          refine hK _ _ (owes_rows (at2v ta b1) (at2v cq q1) (Nat.zero_le _) rfl ?_ (all2v s0 s1))
          simp [rowsC, at2v, List.range_succ, HKL.out]
        obtain ⟨g6, rfl⟩ := ex_rows hv
        go_simp
        refine hK _ ?_
        clear hK K hv
        (repeat (first | (refine Go.Flo.fw_calm rfl ?_ (fun K hK => ?_); (first | exact Go.Mix.wanted_none rfl | exact Go.Mix.wanted_tt rfl rfl rfl | exact Go.Mix.wanted_ff rfl rfl rfl); go_big_quiet_op; refine hK _ ?_; clear hK K) | (refine Go.Flo.fw_skip ?_ (fun K hK => ?_); (first | exact Go.Mix.wanted_tf rfl rfl rfl | exact Go.Mix.wanted_ft rfl rfl rfl); go_simp; refine hK _ ?_; clear hK K) | (refine Go.Flo.fw_any rfl ?_ (fun K hK => ?_); (first | exact Go.Mix.wanted_none rfl | exact Go.Mix.wanted_tt rfl rfl rfl | exact Go.Mix.wanted_ff rfl rfl rfl); go_simp; (try (go_ints; try go_simp)); refine hK _ ?_; clear hK K)))
        refine Go.Flo.fw_loud rfl ?_ rfl (by simp) (fun wv hwv hav K hK => ?_) (fun v hv K hK => ?_)
        · (first | exact Go.Mix.wanted_none rfl | exact Go.Mix.wanted_tt rfl rfl rfl | exact Go.Mix.wanted_ff rfl rfl rfl)
        · obtain ⟨iv, rfl⟩ := hwv
          have hbv := HW.out iv
          (first | go_big_op | go_simp)
          have s4 := ((hav 156 (by decide +kernel)).2 rfl).1
          go_at_call 29
          refine (JoinRows s4 (by simp) (by rw [HQF.out, HQL.out]; omega)).mono ?_
          rintro e w' ⟨v, rfl, hown, hbb⟩
          rw [HQF.out] at hown
          exact hK _ _ (owes_O rfl rfl hbb hown hbv.size)
        obtain ⟨a8, c8, rfl⟩ := ex_O hv
        rw [HQL.out]
        go_simp
        refine hK _ ?_
        clear hK K hv
        (repeat (first | (refine Go.Flo.fw_calm rfl ?_ (fun K hK => ?_); (first | exact Go.Mix.wanted_none rfl | exact Go.Mix.wanted_tt rfl rfl rfl | exact Go.Mix.wanted_ff rfl rfl rfl); go_big_quiet_op; refine hK _ ?_; clear hK K) | (refine Go.Flo.fw_skip ?_ (fun K hK => ?_); (first | exact Go.Mix.wanted_tf rfl rfl rfl | exact Go.Mix.wanted_ft rfl rfl rfl); go_simp; refine hK _ ?_; clear hK K) | (refine Go.Flo.fw_any rfl ?_ (fun K hK => ?_); (first | exact Go.Mix.wanted_none rfl | exact Go.Mix.wanted_tt rfl rfl rfl | exact Go.Mix.wanted_ff rfl rfl rfl); go_simp; (try (go_ints; try go_simp)); refine hK _ ?_; clear hK K)))
        refine Go.Flo.fw_loud rfl ?_ rfl (by simp) (fun wv hwv hav K hK => ?_) (fun v hv K hK => ?_)
        · (first | exact Go.Mix.wanted_none rfl | exact Go.Mix.wanted_tt rfl rfl rfl | exact Go.Mix.wanted_ff rfl rfl rfl)
        · obtain ⟨iv, rfl⟩ := hwv
          have hbv := HW.out iv
          (first | go_big_op | go_simp)
          have own6 := ((hav 157 (by decide +kernel)).2 rfl).1
          have own6 : (W iv).ownsRow wn.heap.size 5 1 (.slice a8 Q.length c8) Q.length (bl Q) := own6
          rw [HQL.out] at own6
          have rd6 := rd_of_own (f := bv Q) own6 (fun i hi => bl_at Q (by rw [HQL.out]; exact hi))
          go_at_call 26
          refine (Cut_any a8 (tl + 4) c8 Q 4 (W iv) HQL.out rd6 (by decide)).mono ?_
          rintro e w' ⟨v, rfl, hown, hbb⟩
          rw [show min 4 (tl + 4) = 4 by omega, ← HT4.out] at hown
          exact hK _ _ (owes_O HT4L.out rfl hbb hown hbv.size)
        obtain ⟨a9, c9, rfl⟩ := ex_O hv
        rw [HT4L.out]
        go_simp
        refine hK _ ?_
        clear hK K hv
        (repeat (first | (refine Go.Flo.fw_calm rfl ?_ (fun K hK => ?_); (first | exact Go.Mix.wanted_none rfl | exact Go.Mix.wanted_tt rfl rfl rfl | exact Go.Mix.wanted_ff rfl rfl rfl); go_big_quiet_op; refine hK _ ?_; clear hK K) | (refine Go.Flo.fw_skip ?_ (fun K hK => ?_); (first | exact Go.Mix.wanted_tf rfl rfl rfl | exact Go.Mix.wanted_ft rfl rfl rfl); go_simp; refine hK _ ?_; clear hK K) | (refine Go.Flo.fw_any rfl ?_ (fun K hK => ?_); (first | exact Go.Mix.wanted_none rfl | exact Go.Mix.wanted_tt rfl rfl rfl | exact Go.Mix.wanted_ff rfl rfl rfl); go_simp; (try (go_ints; try go_simp)); refine hK _ ?_; clear hK K)))
        refine Go.Flo.fw_loud rfl ?_ rfl (by simp) (fun wv hwv hav K hK => ?_) (fun v hv K hK => ?_)
        · (first | exact Go.Mix.wanted_none rfl | exact Go.Mix.wanted_tt rfl rfl rfl | exact Go.Mix.wanted_ff rfl rfl rfl)
        · obtain ⟨iv, rfl⟩ := hwv
          have hbv := HW.out iv
          (first | go_big_op | go_simp)
          have own7 := ((hav 158 (by decide +kernel)).2 rfl).1
          have own7 : (W iv).ownsRow wn.heap.size 5 1 (.slice a9 T4.length c9) T4.length (bl T4) := own7
          rw [HT4L.out] at own7
          have rd7 := rd_of_own (f := bv T4) own7 (fun i hi => bl_at T4 (by rw [HT4L.out]; exact hi))
          go_at_call 34
          refine (Value_any a9 4 c9 _ T4 (W iv) HT4L.out rd7 HT4B.out (by decide)).mono ?_
          rintro e w' ⟨rfl, rfl⟩
          rw [HVAL.out]
          exact hK _ _ (Go.Flo.owes_is _ rfl (Below.refl _ _))
        obtain rfl := hv.is
        go_simp
        refine hK _ ?_
        clear hK K hv
        (repeat (first | (refine Go.Flo.fw_calm rfl ?_ (fun K hK => ?_); (first | exact Go.Mix.wanted_none rfl | exact Go.Mix.wanted_tt rfl rfl rfl | exact Go.Mix.wanted_ff rfl rfl rfl); go_big_quiet_op; refine hK _ ?_; clear hK K) | (refine Go.Flo.fw_skip ?_ (fun K hK => ?_); (first | exact Go.Mix.wanted_tf rfl rfl rfl | exact Go.Mix.wanted_ft rfl rfl rfl); go_simp; refine hK _ ?_; clear hK K) | (refine Go.Flo.fw_any rfl ?_ (fun K hK => ?_); (first | exact Go.Mix.wanted_none rfl | exact Go.Mix.wanted_tt rfl rfl rfl | exact Go.Mix.wanted_ff rfl rfl rfl); go_simp; (try (go_ints; try go_simp)); refine hK _ ?_; clear hK K)))
        refine Go.Flo.fw_nil ?_
        intro wo hwwo hfwo huwo
        refine Go.Flo.tw_nil ?_
        obtain ⟨iend, hiend⟩ := hwwo
        have hbwo := HW.out iend
        rw [← hiend] at hbwo
        clear hiend iend huwo
        have HBO := Lib.hid (HBR.out.trans ((HRN.out.trans (hbwo.mono HRN.out.size)).mono HBR.out.size))
        clear hfwo HJ HW hne e1 hbwo
        clear W I
        go_wp2
        go_roundw
        case rel => exact ⟨k + 1, hk1, by go_num, HBO.out⟩
        case measure => simp [intOf]; omega
end Go.Proofs.Ytmihhapedpalmaa
