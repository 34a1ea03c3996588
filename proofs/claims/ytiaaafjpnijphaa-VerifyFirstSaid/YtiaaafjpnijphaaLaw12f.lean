/- VerifyFirst, walked. -/
import Derived.Test.YtiaaafjpnijphaaVfA
import Derived.Test.YtiaaafjpnijphaaLaw05
import Derived.Test.YtiaaafjpnijphaaFlo3
import Derived.Deep.CutBlock
import Derived.Deep.DeepCutAuto
import Derived.RegionTactic
import Derived.ChangeAlike
namespace Go.Proofs.Ytiaaafjpnijphaa
open Go.RowKit Go.Own Go.Maps
set_option linter.unusedVariables false
set_option linter.unusedSimpArgs false
theorem sd_zeroF {ap ct a m : Nat} (ha : a < 16) (hap : ap < 2048) (hct : ct < 16384) (hm : m ≤ 150) : sdErr ap ct a m = 0 := by
  have h : cmBad a m = 0 := by unfold cmBad; rw [if_neg (by omega), if_neg (by omega)]
  unfold sdErr
  rw [h, if_neg (by simp)]
  unfold pkRight
  rw [if_neg (by omega), if_neg (by omega)]
theorem own_setF {w : World} {B m b i : Nat} {v x : Value} {xs : List Value} (h : w.ownsRow B 5 1 v m xs) (hg : b < B) : (w.setCell ⟨b, i, none⟩ x).ownsRow B 5 1 v m xs :=
  h.kept (grown_set w ⟨b, i, none⟩ x) (.inr (fun e => by have := (h.lt b e).1; omega))
theorem xor1 : ∀ x, x < 256 → bits .xor .u8 ((x : Nat) : Int) 1 = ((x ^^^ 1 : Nat) : Int) ∧ x ^^^ 1 < 256 ∧ x ^^^ 1 ≠ x := by decide +kernel
theorem psize_set {l : List Nat} {k v : Nat} (hk : 6 ≤ k) : psize (l.set k v) = psize l := by
  unfold psize
  simp [List.getD, List.getElem?_set, show ¬ k = 4 by omega, show ¬ k = 5 by omega]
/-- The last byte changed. -/
theorem upC_set {l : List Nat} {v : Nat} (h0 : upC l = 0) (hv : v ≠ l.getD (l.length - 1) 0) : upC (l.set (l.length - 1) v) = 3 := by
  obtain ⟨hp, h208⟩ := upC_ok h0
  obtain ⟨h9, _, hs, hr, _⟩ := pkErr_ok hp
  have hn : rightB (l.set (l.length - 1) v) = false := by
    unfold rightB at hr ⊢
    rw [decide_eq_true_eq] at hr
    rw [decide_eq_false_iff_not]
    rintro ⟨_, h2⟩
    rw [List.length_set, List.take_set_of_le (by omega)] at h2
    have e1 : (l.set (l.length - 1) v).getD (l.length - 2) 0 = l.getD (l.length - 2) 0 := by
      simp only [List.getD, List.getElem?_set]
      rw [if_neg (by omega)]
    have e2 : (l.set (l.length - 1) v).getD (l.length - 1) 0 = v := by
      simp only [List.getD, List.getElem?_set]
      rw [if_pos trivial, if_pos (by omega)]
      rfl
    rw [e1, e2, hr.2] at h2
    omega
  have he : pkErr (l.set (l.length - 1) v) = 5 := by
    unfold pkErr
    rw [List.length_set, psize_set (by omega), if_neg (by omega), hn]
    rfl
  unfold upC
  rw [List.length_set, he, if_neg (by omega), if_neg (by omega), if_pos rfl]
/-- A byte more. -/
theorem upC_app {l : List Nat} {x : Nat} (h6 : 6 ≤ l.length) (hs : psize l + 7 = l.length) : upC (l ++ [x]) = 2 := by
  have he : pkErr (l ++ [x]) = 2 := by
    have hp : psize (l ++ [x]) = psize l := by
      unfold psize
      simp [List.getD, List.getElem?_append, show 4 < l.length by omega, show 5 < l.length by omega]
    unfold pkErr
    rw [if_pos (.inr (by rw [hp, List.length_append, hs]; simp))]
  unfold upC
  rw [he]
  split <;> simp
theorem vdC_up {T : Nat → Nat → Option (Int × Int)} {l : List Nat} {ap : Nat} (h : upC l ≠ 0) : vdC T l ap = upC l := by unfold vdC; rw [if_pos h]
theorem kn_upd (T : Nat → Nat → Option (Int × Int)) {s u : Nat} (x : Int × Int) (hu : u < 256) : knB (updT T s u x) s = true := (knB_iff _ _).2 ⟨u, hu, by simp [updT]⟩
theorem jd_upd (T : Nat → Nat → Option (Int × Int)) {s u m : Nat} (p q : Int) (hu : u < 256) : jdT (updT T s u (p, q)) s u m = if (m : Int) < p ∨ q < (m : Int) then 6 else 0 := jdT_some (kn_upd T _ hu) (by simp [updT])
theorem jd_five {s u u' m : Nat} (x : Int × Int) (hu' : u' < 256) (h : u' ≠ u) : jdT (updT (fun _ _ => none) s u' x) s u m = 5 := jdT_none (kn_upd _ _ hu') (by simp [updT]; omega)
theorem jd_four {s s' u u' m : Nat} (x : Int × Int) (h : s' ≠ s) : jdT (updT (fun _ _ => none) s' u' x) s u m = 4 := jdT_no (by unfold knB updT; simp; omega)
theorem vdC_mk2 {A C a s u c mn : Nat} {d : List Nat} (T : Nat → Nat → Option (Int × Int)) (hA : A < 2048) (hC : C < 16384) (hd : d.length ≤ 195) (hm : mn ≠ A) : vdC T (mkPkt 1 A C (cmB a s u c d)) mn = 1 := by
  have hl := cmB_len a s u c d
  unfold vdC
  rw [upC_mk hA hC (by omega) (by omega), if_neg (by simp), mkPkt_a 1 A C _ (by omega) hA, if_pos (.inr (by omega))]
theorem fbox {w w2 : World} {g B a s u c A m q len cap : Nat} {x y : Option Addr} {D : List Nat} (h3 : w2.heap[g]? = some (.cells #[.int .u8 (a : Nat), .int .u8 (s : Nat), .int .u8 (u : Nat), .int .u16 (c : Nat), .slice x len cap] 71 (0, 0))) (hown : w2.ownsRow B 5 1 (.slice y m q) m (bl D)) (hD : D.length = m) (hg : g < B) (hB : Below w.heap.size w w2) (hgB : w.heap.size ≤ g) :
    ∃ (y' : Option Addr) (q' : Nat), ((w2.setCell ⟨g, 4, none⟩ (.slice y m q)).setCell ⟨g, 0, none⟩ (.int .u8 (A : Nat))).heap[g]? = some (.cells #[.int .u8 (A : Nat), .int .u8 (s : Nat), .int .u8 (u : Nat), .int .u16 (c : Nat), .slice y' m q'] 71 (0, 0)) ∧ Rd ((w2.setCell ⟨g, 4, none⟩ (.slice y m q)).setCell ⟨g, 0, none⟩ (.int .u8 (A : Nat))).heap.size ((w2.setCell ⟨g, 4, none⟩ (.slice y m q)).setCell ⟨g, 0, none⟩ (.int .u8 (A : Nat))) y' m q' (bv D) ∧ Below w.heap.size w ((w2.setCell ⟨g, 4, none⟩ (.slice y m q)).setCell ⟨g, 0, none⟩ (.int .u8 (A : Nat))) := by
  have ha : (w2.setCell ⟨g, 4, none⟩ (.slice y m q)).heap[g]? = some (.cells #[.int .u8 (a : Nat), .int .u8 (s : Nat), .int .u8 (u : Nat), .int .u16 (c : Nat), .slice y m q] 71 (0, 0)) := heap_setCell_same _ _ _ _ _ _ h3
  have hy3 := own_setF (b := g) (i := 0) (x := .int .u8 (A : Nat)) (own_setF (b := g) (i := 4) (x := .slice y m q) hown hg) hg
  exact ⟨y, q, heap_setCell_same _ _ _ _ _ _ ha, rd_of_own (f := bv D) hy3 (fun i hi => bl_at D (by rw [hD]; exact hi)), (hB.setCell (p := ⟨g, 4, none⟩) hgB _).setCell (p := ⟨g, 0, none⟩) hgB _⟩
theorem wrap_natF {k : Nat} (h : k < 256) : wrap64 (k : Int) = (k : Int) := by unfold wrap64; omega
theorem vdC_lt (T : Nat → Nat → Option (Int × Int)) (l : List Nat) (ap : Nat) : vdC T l ap < 256 := by
  have h1 : upC l < 256 := Nat.lt_trans (upC_lt l) (by decide)
  have h2 : ∀ s u m, jdT T s u m < 256 := by
    intro s u m
    unfold jdT
    split
    · omega
    · split
      · omega
      · split <;> omega
  unfold vdC
  split
  · exact h1
  split
  · omega
  split
  · omega
  · exact h2 _ _ _
/-- A packet, in a row of the call's own. -/
structure FfSt (w0 wr : World) (v : Value) (len : Nat) (L : List Nat) : Prop where
  be : Below w0.heap.size w0 wr
  own : wr.ownsRow w0.heap.size 5 1 v len (bl L)
  ll : L.length = len
  by_ : bytes L
theorem own_frozenF {w : World} {base g m c i : Nat} {xs : List Value} (h : w.ownsRow base 5 1 (.slice (some ⟨g, 0, none⟩) m c) m xs) : w.frozen? ⟨g, i, none⟩ = false := by
  rcases h.2 with ⟨h1, _⟩ | ⟨g', cap, cur, h1, _, hg, _⟩
  · cases h1
  · injection h1 with h1 _ _
    injection h1 with h1
    injection h1 with h1 _ _
    subst h1
    exact frozen_of_row _ _ i _ _ hg
theorem bl_setF (l : List Nat) (i x : Nat) : (bl l).set i (.int .u8 ((x : Nat) : Int)) = bl (l.set i x) := by simp [bl, List.map_set]
theorem bytes_setF {l : List Nat} {i x : Nat} (h : bytes l) (hx : x < 256) : bytes (l.set i x) := by
  intro b hb
  rcases List.mem_or_eq_of_mem_set hb with hb | rfl
  · exact h b hb
  · exact hx
theorem FfSt.row {w0 wr : World} {a : Option Addr} {len cap : Nat} {L : List Nat} (h : FfSt w0 wr (.slice a len cap) len L) : Rd wr.heap.size wr a len cap (bv L) :=
  rd_of_own (f := bv L) h.own (fun i hi => bl_at L (by rw [h.ll]; exact hi))
theorem u8_newF (w : World) (x : Int) : ∀ (i : Nat) (u : Value), [Value.int .u8 x][i]? = some u → (w.alloc (.cells #[.int .u8 x] 5)).cell? ((⟨w.heap.size, 0, none⟩ : Addr).add i) = some u := cell_one_new _ _ _
theorem info_u8F : (Try.prog.info? 5).map (fun i => (i.zero, i.size, i.bytes)) = some (some (.int .u8 0), 1, 1) := by kernel_rfl
set_option maxRecDepth 100000 in
set_option maxHeartbeats 8000000 in
theorem walk_VerifyFirst (a s u c : Int) (x : Option Addr) (len cap : Nat) (z : List Int) (ap f : Int) (w : World)
    (wa : (Lit.int .u8 a).wf = true) (ws : (Lit.int .u8 s).wf = true) (wu : (Lit.int .u8 u).wf = true) (wc : (Lit.int .u16 c).wf = true) (wx : IsRow .u8 w x len cap z) (wap : (Lit.int .u16 ap).wf = true) (wf : (Lit.int .u8 f).wf = true) :
    Calls Try.prog 5 #[.agg #[.int .u8 a, .int .u8 s, .int .u8 u, .int .u16 c, .slice x len cap], .int .u16 ap, .int .u8 f] w fun e w' => e = .returned (.bool true) ∧ Below w.heap.size w w' := by
  have hzf := form_zero
  have hmm := @run_makeMap Try.prog
  obtain ⟨p0, p1⟩ := bounds_u8 wa
  obtain ⟨q0, q1⟩ := bounds_u8 ws
  obtain ⟨r0, r1⟩ := bounds_u8 wu
  obtain ⟨t0, t1⟩ := bounds_u16 wc
  obtain ⟨v0, v1⟩ := bounds_u16 wap
  obtain ⟨y0, y1⟩ := bounds_u8 wf
  obtain ⟨a, rfl⟩ := Int.eq_ofNat_of_zero_le p0
  obtain ⟨s, rfl⟩ := Int.eq_ofNat_of_zero_le q0
  obtain ⟨u, rfl⟩ := Int.eq_ofNat_of_zero_le r0
  obtain ⟨c, rfl⟩ := Int.eq_ofNat_of_zero_le t0
  obtain ⟨ap, rfl⟩ := Int.eq_ofNat_of_zero_le v0
  obtain ⟨f, rfl⟩ := Int.eq_ofNat_of_zero_le y0
  have hs : s < 256 := by omega
  have hu : u < 256 := by omega
  have hc : c < 65536 := by omega
  have hf : f < 256 := by omega
  obtain ⟨d, hl, hdb, hr⟩ := isRow_rd wx
  obtain ⟨A, hA⟩ : ∃ A, A = a % 16 := ⟨_, rfl⟩
  have hA16 : A < 16 := by omega
  have hAI : Int.tmod (a : Int) 16 = (A : Int) := by rw [Int.tmod_eq_emod_of_nonneg (by omega)]; omega
  obtain ⟨ap', hap'⟩ : ∃ ap', ap' = ap % 1000 := ⟨_, rfl⟩
  have hap2 : ap' < 1000 := by omega
  have hapI : Int.tmod (ap : Int) 1000 = (ap' : Int) := by rw [Int.tmod_eq_emod_of_nonneg (by omega)]; omega
  have HL := Lib.hid hl
  have HR := Lib.hid hr
  clear wa ws wu wc wx wap wf q0 q1 r0 r1 t0 t1 y0 y1 hl hr hA hap'
  have h3 := heap_alloc_new w (.cells #[.int .u8 (a : Nat), .int .u8 (s : Nat), .int .u8 (u : Nat), .int .u16 (c : Nat), .slice x len cap] 71)
  have hB0 : Below w.heap.size w (w.alloc (.cells #[.int .u8 (a : Nat), .int .u8 (s : Nat), .int .u8 (u : Nat), .int .u16 (c : Nat), .slice x len cap] 71)) := (Below.refl _ _).alloc (Nat.le_refl _) _
  go_enter Try.func5, Try.ntmps5
  go_wp2_with fail
  obtain ⟨W0, hW0⟩ : ∃ W0, W0 = w.alloc (.cells #[.int .u8 (a : Nat), .int .u8 (s : Nat), .int .u8 (u : Nat), .int .u16 (c : Nat), .slice x len cap] 71) := ⟨_, rfl⟩
  obtain ⟨g, hg⟩ : ∃ g, g = w.heap.size := ⟨_, rfl⟩
  rw [← hW0] at hB0 h3 ⊢
  rw [← hg] at h3 ⊢
  have hgB : w.heap.size ≤ g := by omega
  clear hW0 hg
  go_at_call 38
  refine (awake12 _).mono ?_
  rintro e w1 ⟨rfl, hb1⟩
  have h3 := (hb1.block g (Array.getElem?_eq_some_iff.1 h3).1).trans h3
  have hz1 := (Array.getElem?_eq_some_iff.1 h3).1
  have hB1 := hB0.trans (hb1.mono hB0.size)
  have H3 := Lib.hid h3
  have HB1 := Lib.hid hB1
  have hs1 : w.heap.size ≤ w1.heap.size := hB1.size
  clear hb1 hB0 h3 hB1
  go_wp2_with fail
  obtain ⟨m, hm⟩ : ∃ m, m = min 20 len := ⟨_, rfl⟩
  obtain ⟨D, hD⟩ : ∃ D, D = d.take 20 := ⟨_, rfl⟩
  have hDb : bytes D := by rw [hD]; exact hdb.take 20
  have hDl : D.length = m := by rw [hD, hm]; exact bytes_take HL.out
  have hm2 : m ≤ 20 := by omega
  have HM := Lib.hid hm
  have HD := Lib.hid hD
  have HDL := Lib.hid hDl
  have HR1 := Lib.hid ((HR.out.below HB1.out).mono hs1)
  clear hm hD hDl hdb HR
  have hbase := HB1.out
  go_cut [] (fun wx => ∃ (y : Option Addr) (q : Nat), wx.heap[g]? = some (.cells #[.int .u8 (A : Nat), .int .u8 (s : Nat), .int .u8 (u : Nat), .int .u16 (c : Nat), .slice y m q] 71 (0, 0)) ∧ Rd wx.heap.size wx y m q (bv D) ∧ Below w.heap.size w wx)
  case first =>
    have k0 : w1.cell? ⟨g, 0, none⟩ = some (.int .u8 (a : Nat)) := cell_of_row _ g 0 _ _ _ H3.out
    have k4 : w1.cell? ⟨g, 4, none⟩ = some (.slice x len cap) := cell_of_row _ g 4 _ _ _ H3.out
    go_region_with (go_at_call 28; refine (Cut_any x len cap d 20 _ HL.out ((HR1.out.below (by repeat' (first | (with_reducible exact Below.refl _ _) | (with_reducible assumption) | (with_reducible refine Below.setCell ?_ ?_ _) | (with_reducible refine Below.alloc ?_ ?_ _) | (with_reducible refine Below.drew ?_) | (with_reducible refine Below.drawsN ?_ _) | go_size))).mono (by simp)) (by decide)).mono ?_; rintro e w2 ⟨v, rfl, hown, hb2⟩; obtain ⟨y, q, rfl⟩ := own_form hown; rw [← HM.out, ← HD.out] at hown; rw [← HM.out]; have h3 := (hb2.block g (by simp; omega)).trans H3.out; have c0 := cell_of_row w2 g 0 _ _ _ h3; have f0 := frozen_of_row w2 g 0 _ _ h3; have c4 := cell_of_row w2 g 4 _ _ _ h3; have f4 := frozen_of_row w2 g 4 _ _ h3)
    all_goals
      have hB2 : Below w.heap.size w w2 := HB1.out.trans (Below.mono (Below.trans (by repeat' (first | (with_reducible exact Below.refl _ _) | (with_reducible assumption) | (with_reducible refine Below.setCell ?_ ?_ _) | (with_reducible refine Below.alloc ?_ ?_ _) | (with_reducible refine Below.drew ?_) | (with_reducible refine Below.drawsN ?_ _) | go_size)) (hb2.mono (by simp))) hs1)
      have HF := Lib.hid (fbox (A := A) h3 hown HDL.out (by simp; omega) hB2 hgB)
      clear hB2 hown hb2 c0 f0 c4 f4 h3
      go_wp2
      go_meet
      case rel => exact HF.out
  case rest =>
    obtain ⟨y, q, hp, hrd, hB⟩ := hcut
    obtain ⟨wb, rfl⟩ : ∃ wb, wb = wc := ⟨_, rfl⟩
    have hgz := box_lt hp
    have ka1 := cell_of_row wb g 1 _ _ _ hp
    have ka2 := cell_of_row wb g 2 _ _ _ hp
    have ka4 := cell_of_row wb g 4 _ _ _ hp
    simp at ka1 ka2 ka4
    have HP := Lib.hid hp
    have HRD := Lib.hid hrd
    have HB := Lib.hid hB
    have ht0 := Lib.hid (tab_made wb)
    have hkey := kl_of hs hu
    clear hp hrd hB H3 HB1 HR1 HM HD hbase
    go_upto_if 42 with (refine wpList_insert_own _ rfl _ _ _ 77 rfl _ _ kind_keyed Try.underlying77 formR wb.heap.size 0 _ rfl ht0.out.own (by decide) _ _ _ rfl rfl hkey (formD m m) [] (formR_mk m m) ?_; intro w4 hown4 hgr4)
    have htab : Tab w4 wb.heap.size 1 (updT (fun _ _ => none) s u (m, m)) _ := Tab.put (n' := 1) ht0.out hs hu (m, m) hown4
    have hb4 : Below wb.heap.size wb w4 := ((Below.refl _ _).alloc (Nat.le_refl _) _).grown hgr4 (by simp) (fun j hj => by cases hj; exact Nat.le_refl _)
    have HTB := Lib.hid htab
    have HB4 := Lib.hid hb4
    clear hown4 hgr4 ht0 htab hb4 ka1 ka2 ka4
    go_cut [8, 9] (fun s8 s9 wx => ∃ (b n k : Nat) (T : Nat → Nat → Option (Int × Int)) (E : DataW Nat), s8 = .map (some b) ∧ s9 = .int .i64 (k : Nat) ∧ k < 7 ∧ jdT T s u m = k ∧ Tab wx b n T E ∧ wb.heap.size ≤ b ∧ Below wb.heap.size wb wx)
    case first =>
      have hp4 := (HB4.out.block g hgz).trans HP.out
      have ka1 := cell_of_row w4 g 1 _ _ _ hp4
      have ka2 := cell_of_row w4 g 2 _ _ _ hp4
      simp at ka1 ka2
      clear hp4
      by_cases h5 : (f : Int) / 32 % 2 = 1
      · have h5I : ((f : Int) / 32 % 2 == 1) = true := by simp [h5]
        go_wp2_with (at_mapUpdate; refine wpList_mapUpdate_own _ rfl _ _ _ 77 rfl _ _ kind_keyed Try.underlying77 formR wb.heap.size 1 _ rfl HTB.out.own (by decide) _ _ _ rfl rfl hkey (formD ((m : Int) + 1) ((m : Int) + 2)) [] (formR_mk _ _) ?_; intro w5 hown5 hgr5)
        have ht5 := HTB.out.put (n' := 2) hs hu ((m : Int) + 1, (m : Int) + 2) hown5
        have hb5 := HB4.out.grown hgr5 HB4.out.size (fun j hj => by cases hj; exact Nat.le_refl _)
        go_meet
        case rel => exact ⟨_, 2, 6, _, _, rfl, rfl, by omega, by rw [jd_upd _ _ _ hu, if_pos (.inl (by omega))], ht5, Nat.le_refl _, hb5⟩
      · have h5I : ((f : Int) / 32 % 2 == 1) = false := by simp [h5]
        go_wp2
        go_meet
        case rel => exact ⟨_, 1, 0, _, _, rfl, rfl, by omega, by rw [jd_upd _ _ _ hu, if_neg (by omega)], HTB.out, Nat.le_refl _, HB4.out⟩
    case rest =>
      clear HTB HB4
      obtain ⟨b, n, k, T, E, rfl, rfl, hk7, hjd, htab, hbb, hb4⟩ := hcut
      obtain ⟨wt1, rfl⟩ : ∃ wt, wt = wc := ⟨_, rfl⟩
      have HTB := Lib.hid htab
      have HB4 := Lib.hid hb4
      have HJ := Lib.hid hjd
      clear htab hb4 hjd
      go_upto_if 57 with fail
      go_cut [8, 9] (fun s8 s9 wx => ∃ (b n k : Nat) (T : Nat → Nat → Option (Int × Int)) (E : DataW Nat), s8 = .map (some b) ∧ s9 = .int .i64 (k : Nat) ∧ k < 7 ∧ jdT T s u m = k ∧ Tab wx b n T E ∧ wb.heap.size ≤ b ∧ Below wb.heap.size wb wx)
      case first =>
        by_cases h5 : (f : Int) / 16 % 2 = 1
        · have h5I : ((f : Int) / 16 % 2 == 1) = true := by simp [h5]
          have hp4 := (HB4.out.block g hgz).trans HP.out
          have hgz2 : g < wt1.heap.size := box_lt hp4
          have ka1 := cell_of_row wt1 g 1 _ _ _ hp4
          have ka2 := cell_of_row wt1 g 2 _ _ _ hp4
          simp at ka1 ka2
          clear hp4
          have ht0 := Lib.hid (tab_made wt1)
          have hu2 : (u + 1) % 256 < 256 := Nat.mod_lt _ (by decide)
          have hune : (u + 1) % 256 ≠ u := by omega
          have hw2 : IntKind.wrap .u8 ((u : Int) + 1) = (((u + 1) % 256 : Nat) : Int) := by rw [IntKind.wrap_u8]; omega
          obtain ⟨u2, hu2'⟩ : ∃ u2, u2 = (u + 1) % 256 := ⟨_, rfl⟩
          rw [← hu2'] at hu2 hune hw2
          clear hu2'
          have hkey2 := kl_of hs hu2
          go_wp2_with (refine wpList_insert_own _ rfl _ _ _ 77 rfl _ _ kind_keyed Try.underlying77 formR wt1.heap.size 0 _ rfl ht0.out.own (by decide) _ _ _ rfl rfl hkey2 (formD 0 0) [] (formR_mk _ _) ?_; intro w5 hown5 hgr5)
          have ht5 := ht0.out.put (n' := 1) hs hu2 (0, 0) hown5
          have hb5 := (HB4.out.alloc HB4.out.size (.map #[] 0)).grown hgr5 (by have := HB4.out.size; simp; omega) (fun j hj => by cases hj; exact HB4.out.size)
          go_meet
          case rel => exact ⟨_, 1, 5, _, _, rfl, rfl, by omega, jd_five _ hu2 hune, ht5, HB4.out.size, hb5⟩
        · have h5I : ((f : Int) / 16 % 2 == 1) = false := by simp [h5]
          go_wp2
          go_meet
          case rel => exact ⟨_, n, k, _, _, rfl, rfl, hk7, HJ.out, HTB.out, hbb, HB4.out⟩
      case rest =>
        obtain ⟨b, n, k, T, E, rfl, rfl, hk7, hjd, htab, hbb, hb4⟩ := hcut
        obtain ⟨wt2, rfl⟩ : ∃ wt, wt = wc := ⟨_, rfl⟩
        have HTB := Lib.hid htab
        have HB4 := Lib.hid hb4
        have HJ := Lib.hid hjd
        clear htab hb4 hjd
        go_upto_if 70 with fail
        go_cut [8, 9] (fun s8 s9 wx => ∃ (b n k : Nat) (T : Nat → Nat → Option (Int × Int)) (E : DataW Nat), s8 = .map (some b) ∧ s9 = .int .i64 (k : Nat) ∧ k < 7 ∧ jdT T s u m = k ∧ Tab wx b n T E ∧ wb.heap.size ≤ b ∧ Below wb.heap.size wb wx)
        case first =>
          by_cases h5 : (f : Int) / 8 % 2 = 1
          · have h5I : ((f : Int) / 8 % 2 == 1) = true := by simp [h5]
            have hp4 := (HB4.out.block g hgz).trans HP.out
            have hgz2 : g < wt2.heap.size := box_lt hp4
            have ka1 := cell_of_row wt2 g 1 _ _ _ hp4
            have ka2 := cell_of_row wt2 g 2 _ _ _ hp4
            simp at ka1 ka2
            clear hp4
            have ht0 := Lib.hid (tab_made wt2)
            have hs2 : (s + 1) % 256 < 256 := Nat.mod_lt _ (by decide)
            have hsne : (s + 1) % 256 ≠ s := by omega
            have hw2 : IntKind.wrap .u8 ((s : Int) + 1) = (((s + 1) % 256 : Nat) : Int) := by rw [IntKind.wrap_u8]; omega
            obtain ⟨s2, hs2'⟩ : ∃ s2, s2 = (s + 1) % 256 := ⟨_, rfl⟩
            rw [← hs2'] at hs2 hsne hw2
            clear hs2'
            have hkey2 := kl_of hs2 hu
            go_wp2_with (refine wpList_insert_own _ rfl _ _ _ 77 rfl _ _ kind_keyed Try.underlying77 formR wt2.heap.size 0 _ rfl ht0.out.own (by decide) _ _ _ rfl rfl hkey2 (formD 0 0) [] (formR_mk _ _) ?_; intro w5 hown5 hgr5)
            have ht5 := ht0.out.put (n' := 1) hs2 hu (0, 0) hown5
            have hb5 := (HB4.out.alloc HB4.out.size (.map #[] 0)).grown hgr5 (by have := HB4.out.size; simp; omega) (fun j hj => by cases hj; exact HB4.out.size)
            go_meet
            case rel => exact ⟨_, 1, 4, _, _, rfl, rfl, by omega, jd_four _ hsne, ht5, HB4.out.size, hb5⟩
          · have h5I : ((f : Int) / 8 % 2 == 1) = false := by simp [h5]
            go_wp2
            go_meet
            case rel => exact ⟨_, n, k, _, _, rfl, rfl, hk7, HJ.out, HTB.out, hbb, HB4.out⟩
        case rest =>
          obtain ⟨b, n, k, T, E, rfl, rfl, hk7, hjd, htab, hbb, hb4⟩ := hcut
          obtain ⟨wt3, rfl⟩ : ∃ wt, wt = wc := ⟨_, rfl⟩
          have HTB := Lib.hid htab
          have HB4 := Lib.hid hb4
          have HJ := Lib.hid hjd
          clear htab hb4 hjd
          have hp4 := (HB4.out.block g hgz).trans HP.out
          have hrd4 := (HRD.out.below HB4.out).mono HB4.out.size
          have hbw := HB.out.trans (HB4.out.mono HB.out.size)
          obtain ⟨K, hK⟩ : ∃ K, K = mkPkt 1 ap' 0 (cmB A s u c D) := ⟨_, rfl⟩
          have hKl : K.length = m + 13 := by rw [hK, mkPkt_len, cmB_len, HDL.out]
          have hKb : bytes K := by rw [hK]; exact mkPkt_bytes (by decide) (by omega) (by omega) (by rw [cmB_len, HDL.out]; omega) (cmB_bytes hA16 hs hu hDb)
          have hKs : psize K + 7 = K.length := by rw [hKl, hK, mkPkt_size, cmB_len, HDL.out]
          have hK0 : upC K = 0 := by rw [hK]; exact upC_mk (by omega) (by omega) (by rw [cmB_len]; omega) (by rw [cmB_len, HDL.out]; omega)
          have hKv : vdC T K ap' = k := by rw [hK, vdC_mk T (by omega) (by omega) hA16 (by rw [HDL.out]; omega), HDL.out]; exact HJ.out
          have hKw : vdC T K (ap' + 1) = 1 := by rw [hK]; exact vdC_mk2 T (by omega) (by omega) (by rw [HDL.out]; omega) (by omega)
          have HK := Lib.hid hK
          have HKL := Lib.hid hKl
          have HKS := Lib.hid hKs
          have HK0 := Lib.hid hK0
          have HKV := Lib.hid hKv
          have HKW := Lib.hid hKw
          have HP4 := Lib.hid hp4
          have HR4 := Lib.hid hrd4
          have HBW := Lib.hid hbw
          clear hK hKl hKs hK0 hKv hKw hp4 hrd4 hbw HP HRD HB
          go_upto_if 84 with fail
          go_cut [9, 10] (fun s9 s10 wx => ∃ mn kc : Nat, s10 = .int .u16 (mn : Nat) ∧ s9 = .int .i64 (kc : Nat) ∧ kc = vdC T K mn ∧ wx = wt3)
          case first =>
            by_cases h5 : (f : Int) / 4 % 2 = 1
            · have h5I : ((f : Int) / 4 % 2 == 1) = true := by simp [h5]
              have hw2 : IntKind.wrap .u16 ((ap' : Int) + 1) = (((ap' + 1 : Nat)) : Int) := by rw [IntKind.wrap_u16]; omega
              go_wp2
              go_meet
              case rel => exact ⟨ap' + 1, 1, by simp, rfl, HKW.out.symm, rfl⟩
            · have h5I : ((f : Int) / 4 % 2 == 1) = false := by simp [h5]
              go_wp2
              go_meet
              case rel => exact ⟨ap', k, rfl, rfl, HKV.out.symm, rfl⟩
          case rest =>
            obtain ⟨mn, kc, rfl, rfl, hkc, rfl⟩ := hcut
            have HKC := Lib.hid hkc
            clear hkc
            obtain ⟨wv, rfl⟩ : ∃ wv, wv = wc := ⟨_, rfl⟩
            have ka0 := cell_of_row wv g 0 _ _ _ HP4.out
            have ka1 := cell_of_row wv g 1 _ _ _ HP4.out
            have ka2 := cell_of_row wv g 2 _ _ _ HP4.out
            have ka3 := cell_of_row wv g 3 _ _ _ HP4.out
            have ka4 := cell_of_row wv g 4 _ _ _ HP4.out
            go_wp2_with fail
            go_at_call 39
            refine (Send_any ap' 0 A s u c y m q _ D _ (by omega) (by omega) (by omega) hs hu hc HDL.out (Nat.le_refl _) HR4.out hDb).mono ?_
            rintro e w5 ⟨hb5, ⟨hne, _⟩ | ⟨_, v, rfl, hown⟩⟩
            · exact absurd (sd_zeroF hA16 (by omega) (by omega) (by omega)) hne
            · rw [← HK.out] at hown
              obtain ⟨M, hM⟩ : ∃ M, M = m + 12 := ⟨_, rfl⟩
              have hKl := HKL.out
              rw [show m + 13 = M + 1 by omega] at hown hKl
              have hF : FfSt wv w5 v (M + 1) K := ⟨hb5, hown, hKl, hKb⟩
              obtain ⟨gr, qa, rfl, hgr, hgz'⟩ := own_some hown (by omega)
              have hM6 : 6 ≤ M := by omega
              have hM32 : M ≤ 32 := by omega
              have HF := Lib.hid hF
              clear hb5 hown hF hM ka0 ka1 ka2 ka3 ka4 hKl
              go_upto_if 96 with fail
              go_cut [9] (fun s9 wx => ∃ (k1 : Nat) (K1 : List Nat), s9 = .int .i64 (k1 : Nat) ∧ k1 = vdC T K1 mn ∧ (K1 = K ∨ vdC T K1 mn ≠ 0) ∧ psize K1 + 7 = K1.length ∧ FfSt wv wx (.slice (some ⟨gr, 0, none⟩) (M + 1) qa) (M + 1) K1)
              case first =>
                by_cases h5 : (f : Int) / 2 % 2 = 1
                · have h5I : ((f : Int) / 2 % 2 == 1) = true := by simp [h5]
                  obtain ⟨bb, off, ee, _, hcx⟩ := HF.out.row.at (k := M) (by omega)
                  cases ee
                  unfold bv at hcx
                  obtain ⟨x, hx⟩ : ∃ x, x = K.getD M 0 := ⟨_, rfl⟩
                  have hx2 : x < 256 := by rw [hx]; exact hKb.at M
                  rw [← hx, Nat.zero_add] at hcx
                  obtain ⟨e1, e2, e3⟩ := xor1 x hx2
                  have hzz : w5.frozen? ⟨gr, M, none⟩ = false := own_frozenF HF.out.own
                  obtain ⟨x2, hx2'⟩ : ∃ x2, x2 = x ^^^ 1 := ⟨_, rfl⟩
                  rw [← hx2'] at e1 e2 e3
                  have hst := (HF.out.own.stored M (.int .u8 ((x2 : Nat) : Int))).1
                  rw [bl_setF] at hst
                  have hF2 : FfSt wv (w5.setCell ⟨gr, M, none⟩ (.int .u8 ((x2 : Nat) : Int))) (.slice (some ⟨gr, 0, none⟩) (M + 1) qa) (M + 1) (K.set M x2) := ⟨HF.out.be.setCell (p := ⟨gr, M, none⟩) hgr _, hst, by rw [List.length_set]; exact HF.out.ll, bytes_setF hKb e2⟩
                  have hv3 : vdC T (K.set M x2) mn = 3 := by
                    have hM' : M = K.length - 1 := by rw [HF.out.ll]; rfl
                    have := upC_set (l := K) (v := x2) HK0.out (by rw [← hM', ← hx]; exact e3)
                    rw [← hM'] at this
                    rw [vdC_up (by rw [this]; decide), this]
                  have hps : psize (K.set M x2) + 7 = (K.set M x2).length := by rw [psize_set hM6, List.length_set]; exact HKS.out
                  have HF2 := Lib.hid hF2
                  have HV3 := Lib.hid hv3
                  have HPS := Lib.hid hps
                  clear hF2 hv3 hps hst hx hx2' e2 e3
                  go_wp2
                  go_meet
                  case rel => exact ⟨3, K.set M x2, rfl, HV3.out.symm, .inr (by rw [HV3.out]; decide), HPS.out, HF2.out⟩
                · have h5I : ((f : Int) / 2 % 2 == 1) = false := by simp [h5]
                  go_wp2
                  go_meet
                  case rel => exact ⟨kc, K, rfl, HKC.out, .inl rfl, HKS.out, HF.out⟩
              case rest =>
                clear HF HKC
                obtain ⟨k1, K1, rfl, hk1, hor, hps, hF⟩ := hcut
                obtain ⟨w6, rfl⟩ : ∃ w6, w6 = wc := ⟨_, rfl⟩
                have HF1 := Lib.hid hF
                have HK1 := Lib.hid hk1
                have HOR := Lib.hid hor
                have HPS := Lib.hid hps
                clear hF hk1 hor hps
                go_upto_if 107 with fail
                go_cut [9, 11] (fun s9 s11 wx => ∃ (k2 : Nat) (K2 : List Nat) (ga : Option Addr) (l2 q2 : Nat), s9 = .int .i64 (k2 : Nat) ∧ s11 = .slice ga l2 q2 ∧ k2 = vdC T K2 mn ∧ (K2 = K ∨ vdC T K2 mn ≠ 0) ∧ FfSt wv wx (.slice ga l2 q2) l2 K2)
                case first =>
                  by_cases h5 : (f : Int) % 2 = 1
                  · have h5I : ((f : Int) % 2 == 1) = true := by simp [h5]
                    obtain ⟨i0, hi, hz0, hz1, hz2⟩ := info_parts info_u8F
                    have hs6 := HF1.out.be.size
                    have hv2 : vdC T (K1 ++ [0]) mn = 2 := by
                      have := upC_app (x := 0) (by rw [HF1.out.ll]; omega) HPS.out
                      rw [vdC_up (by rw [this]; decide), this]
                    have HV2 := Lib.hid hv2
                    clear hv2
                    go_wp2_with (at_builtin; refine wpList_append_own _ rfl _ _ 54 rfl wv.heap.size 5 i0 (.int .u8 0) 1 1 Try.underlying54 hi hz0 hz1 hz2 rfl (by decide) _ _ _ rfl (HF1.out.own.alloc _) ⟨w6.heap.size, 0, none⟩ 1 1 [.int .u8 0] rfl rfl (u8_newF _ _) (by simp [Value.oneCell']) (by unfold maxLen; omega) (by omega) (by simp; omega) ?_; intro v4 w7 hown7 hgr7 _; obtain ⟨ga, q2, rfl⟩ := own_form hown7)
                    have hF2 : FfSt wv w7 (.slice ga (M + 1 + 1) q2) (M + 1 + 1) (K1 ++ [0]) := ⟨(HF1.out.be.alloc hs6 _).grown hgr7 (by simp; omega) (fun j hj => (HF1.out.own.lt j hj).1), by rw [show bl (K1 ++ [0]) = bl K1 ++ [.int .u8 0] by simp [bl]]; exact hown7, by rw [List.length_append, HF1.out.ll]; rfl, HF1.out.by_.append (fun b hb => by simp at hb; omega)⟩
                    have HF2 := Lib.hid hF2
                    clear hF2 hown7 hgr7
                    go_meet
                    case rel => exact ⟨2, K1 ++ [0], ga, _, q2, rfl, rfl, HV2.out.symm, .inr (by rw [HV2.out]; decide), HF2.out⟩
                  · have h5I : ((f : Int) % 2 == 1) = false := by simp [h5]
                    go_wp2
                    go_meet
                    case rel => exact ⟨k1, K1, _, _, _, rfl, rfl, HK1.out, HOR.out, HF1.out⟩
                case rest =>
                  clear HF1 HK1 HOR HPS
                  obtain ⟨k2, K2, ga, l2, q2, rfl, rfl, hk2, hor, hF⟩ := hcut
                  obtain ⟨w7, rfl⟩ : ∃ w7, w7 = wc := ⟨_, rfl⟩
                  have HF := Lib.hid hF
                  have HK2 := Lib.hid hk2
                  have HOR := Lib.hid hor
                  clear hF hk2 hor
                  go_wp2_with fail
                  go_at_call 40
                  refine (vJudge ga l2 q2 w7.heap.size mn (.map (some b)) T K2 w7 HF.out.ll (Nat.le_refl _) HF.out.row HF.out.by_ (jdOk_tab (HTB.out.below HF.out.be))).mono ?_
                  rintro e w8 ⟨hbj, aj, sj, uj, cj, xj, mj, cpj, rfl, hok, hno⟩
                  rw [← HK2.out] at hok hno ⊢
                  have hbb := hbj.alloc hbj.size (.cells #[.int .u8 (k2 : Nat), .int .u32 (idN K2 : Nat), .int .u8 (aj : Nat), .int .u8 (sj : Nat), .int .u8 (uj : Nat), .int .u16 (cj : Nat), .slice xj mj cpj] 81)
                  have hhb := heap_alloc_new w8 (.cells #[.int .u8 (k2 : Nat), .int .u32 (idN K2 : Nat), .int .u8 (aj : Nat), .int .u8 (sj : Nat), .int .u8 (uj : Nat), .int .u16 (cj : Nat), .slice xj mj cpj] 81)
                  have HOK := Lib.hid hok
                  have HNO := Lib.hid hno
                  have HBJ := Lib.hid hbj
                  clear hok hno hbj
                  go_upto_region 29 with fail
                  obtain ⟨gb, hgb⟩ : ∃ gb, gb = w8.heap.size := ⟨_, rfl⟩
                  obtain ⟨w9, hw9⟩ : ∃ w9, w9 = w8.alloc (.cells #[.int .u8 (k2 : Nat), .int .u32 (idN K2 : Nat), .int .u8 (aj : Nat), .int .u8 (sj : Nat), .int .u8 (uj : Nat), .int .u16 (cj : Nat), .slice xj mj cpj] 81) := ⟨_, rfl⟩
                  have hal : Below w8.heap.size w8 w9 := by rw [hw9]; exact (Below.refl _ _).alloc (Nat.le_refl _) _
                  rw [← hw9] at hhb hbb ⊢
                  rw [← hgb] at hhb ⊢
                  have c0 := cell_of_row w9 gb 0 _ _ _ hhb
                  have c5 := cell_of_row w9 gb 5 _ _ _ hhb
                  have c6 := cell_of_row w9 gb 6 _ _ _ hhb
                  simp at c0 c5 c6
                  have hbv := HF.out.be.trans (hbb.mono HF.out.be.size)
                  have HBV := Lib.hid hbv
                  have HBE := Lib.hid (HBW.out.trans (hbv.mono HBW.out.size))
                  have hp9 := (hbv.block g (box_lt HP4.out)).trans HP4.out
                  have d3 := cell_of_row w9 g 3 _ _ _ hp9
                  have d4 := cell_of_row w9 g 4 _ _ _ hp9
                  simp at d3 d4
                  have HAL := Lib.hid hal
                  clear hw9 hgb hhb hbb hbv hp9 hal
                  by_cases hz : k2 = 0
                  · have hK2 : K2 = K := HOR.out.resolve_right (by rw [← HK2.out]; simp [hz])
                    obtain ⟨_, _, _, hcj, hmj, hrj⟩ := HOK.out hz
                    have hpd : pdat K2 = cmB A s u c D := by rw [hK2, HK.out, mkPkt_dat]
                    rw [hpd] at hcj hmj hrj
                    rw [cmB_at2 hc] at hcj
                    rw [cmB_len, Nat.add_sub_cancel, HDL.out] at hmj
                    rw [show (cmB A s u c D).drop 5 = D by rw [cmB_cons]; rfl] at hrj
                    subst hz hcj hmj
                    have HRJ := Lib.hid ((hrj.below HAL.out).mono HAL.out.size)
                    have HRY := Lib.hid ((HR4.out.below HBV.out).mono HBV.out.size)
                    clear hrj hpd hK2 HOK HNO
                    go_wp2_with fail
                    go_at_call 41
                    refine (Same_any xj y _ _ cpj q _ _ D D _ HDL.out HDL.out HRJ.out HRY.out hDb hDb).mono ?_
                    rintro e w10 ⟨rfl, j, hj⟩
                    simp only [decide_true]
                    have HBX := Lib.hid (show Below w9.heap.size w9 w10 by rw [hj]; exact below_drews _ _ _)
                    have c5 := (HBX.out.cell (p := ⟨gb, 5, none⟩) (World.block_lt_of_cell? _ _ c5)).trans c5
                    have d3 := (HBX.out.cell (p := ⟨g, 3, none⟩) (World.block_lt_of_cell? _ _ d3)).trans d3
                    clear hj
                    go_wp2_with fail
                    go_ret
                    exact ⟨rfl, HBE.out.trans (HBX.out.mono HBE.out.size)⟩
                  · obtain ⟨_, _, _, _, rfl, rfl, rfl⟩ := HNO.out hz
                    have hz1 : ((k2 : Int) == 0) = false := by rw [beq_eq_false_iff_ne]; omega
                    have hz2 : ((k2 : Int) == (k2 : Int)) = true := by simp
                    have hz3 : k2 < 256 := by rw [HK2.out]; exact vdC_lt _ _ _
                    clear hz HOK HNO
                    go_wp2_with fail
                    go_ret
                    exact ⟨rfl, HBE.out⟩
end Go.Proofs.Ytiaaafjpnijphaa
