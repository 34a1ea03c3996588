/- Layer 17: an entry is read from its report. -/
import Derived.Test.YtkgeeohgfbacaaaJrB
import Derived.Test.YtkgeeohgfbacaaaPsM
import Derived.Test.YtkgeeohgfbacaaaFlo3
import Derived.Test.YtkgeeohgfbacaaaRes
import Derived.Deep.CutBlock
import Derived.Deep.DeepCutAuto
namespace Go.Proofs.Ytkgeeohgfbacaaa.Je
open Go.RowKit Go.Own Go.Shelf
set_option linter.unusedVariables false
set_option linter.unusedSimpArgs false
/-- The number of j bytes from i on. -/
def fld (q : List Nat) (i j : Nat) : Nat := val ((q.drop i).take j)
theorem fld_lt {q : List Nat} (hb : bytes q) (i j : Nat) (k : Nat) (h : 256 ^ j ≤ k) : fld q i j < k := by
  unfold fld
  have h1 := val_lt _ ((hb.drop i).take j)
  refine Nat.lt_of_lt_of_le h1 (Nat.le_trans (Nat.pow_le_pow_right (by decide) ?_) h)
  simp
  omega
/-- What the bytes tell, with this sub. -/
def jeP (s : Nat) (q : List Nat) : En := ⟨fld q 1 4, fld q 5 4, fld q 0 1, s - 1, fld q 9 4⟩
theorem jeP_ok {s : Nat} {q : List Nat} (h : s ≤ 4) (hb : bytes q) : (jeP s q).ok :=
  ⟨fld_lt hb 1 4 _ (by decide), fld_lt hb 5 4 _ (by decide), fld_lt hb 0 1 _ (by decide), by show s - 1 < 255; omega, fld_lt hb 9 4 _ (by decide)⟩
theorem fld_one (q : List Nat) (i : Nat) (h : i < q.length) : [fld q i 1] = (q.drop i).take 1 := by
  have e : (q.drop i).take 1 = [q.getD i 0] := by
    rw [List.drop_eq_getElem_cons h, List.take_succ_cons, List.take_zero]
    simp [List.getD, h]
  unfold fld
  rw [e]
  simp [val]
theorem fld_numB {q : List Nat} (hb : bytes q) (i j : Nat) (h : i + j ≤ q.length) : numB (fld q i j) j = (q.drop i).take j := by
  have hl : ((q.drop i).take j).length = j := by simp; omega
  have := numB_val _ ((hb.drop i).take j)
  rw [hl] at this
  exact this
/-- What is read of 13 bytes has just these bytes. -/
theorem jeB_jeP {s : Nat} {q : List Nat} (hb : bytes q) (hl : q.length = 13) : jeB (jeP s q) = q := by
  unfold jeB jeP
  simp only []
  rw [fld_one q 0 (by omega), fld_numB hb 1 4 (by omega), fld_numB hb 5 4 (by omega), fld_numB hb 9 4 (by omega)]
  have h13 : q.drop 13 = [] := List.drop_eq_nil_of_le (by omega)
  have e3 : (q.drop 9).take 4 = q.drop 9 := List.take_of_length_le (by simp; omega)
  have e2 : (q.drop 5).take 4 ++ q.drop 9 = q.drop 5 := by
    have := List.take_append_drop 4 (q.drop 5)
    rw [List.drop_drop] at this
    exact this
  have e1 : (q.drop 1).take 4 ++ q.drop 5 = q.drop 1 := by
    have := List.take_append_drop 4 (q.drop 1)
    rw [List.drop_drop] at this
    exact this
  have e0 : (q.drop 0).take 1 ++ q.drop 1 = q := by
    have := List.take_append_drop 1 q
    simpa using this
  rw [e3, List.append_assoc, List.append_assoc, e2, e1, e0]
/-- The bytes of an entry are read again. -/
theorem jeP_jeB {x : En} (h : x.ok) : jeP (x.g + 1) (jeB x) = x := by
  have hb : ∀ a, bytes (numB a 4) := fun a => numB_bytes _ _
  obtain ⟨q, t, e, g, d⟩ := x
  obtain ⟨hq, ht, he, hg, hd⟩ := h
  simp only [] at hq ht he hg hd
  have v4 : ∀ a, a < 4294967296 → val (numB a 4) = a := fun a ha => by rw [val_numB]; exact Nat.mod_eq_of_lt ha
  have f0 : fld (jeB ⟨q, t, e, g, d⟩) 0 1 = e := by simp [fld, jeB, val]
  have f1 : fld (jeB ⟨q, t, e, g, d⟩) 1 4 = q := by refine Eq.trans ?_ (v4 q hq); simp [fld, jeB, numB_four]
  have f2 : fld (jeB ⟨q, t, e, g, d⟩) 5 4 = t := by refine Eq.trans ?_ (v4 t ht); simp [fld, jeB, numB_four]
  have f3 : fld (jeB ⟨q, t, e, g, d⟩) 9 4 = d := by refine Eq.trans ?_ (v4 d hd); simp [fld, jeB, numB_four]
  unfold jeP
  rw [f0, f1, f2, f3]
  simp
def szF : Nat → Int := fun i => ([1, 4, 4, 4] : List Int).getD i 0
theorem szF_all : allSz szF 4 := fun i hi => by
  have : i = 0 ∨ i = 1 ∨ i = 2 ∨ i = 3 := by omega
  rcases this with rfl | rfl | rfl | rfl <;> rfl
theorem nums_je (q : List Nat) : ul (numsOf szF q 4) = [.int .u32 ((fld q 0 1 : Nat) : Int), .int .u32 ((fld q 1 4 : Nat) : Int), .int .u32 ((fld q 5 4 : Nat) : Int), .int .u32 ((fld q 9 4 : Nat) : Int)] := by
  have e : numsOf szF q 4 = [fld q 0 1, fld q 1 4, fld q 5 4, fld q 9 4] := by
    simp [numsOf, List.range_succ, seg, fld, szF, tot]
  rw [e]
  rfl
theorem numErr_je (len : Nat) : numErr szF 4 len = if len = 13 then 0 else 2 := numErr_all szF_all
theorem own_cellE {w : World} {base m c : Nat} {e : TypeId} {size : Nat} {a : Option Addr} {xs : List Value} (h : w.ownsRow base e size (.slice a m c) m xs) (hx : 0 < m) : ∃ g, a = some ⟨g, 0, none⟩ ∧ base ≤ g ∧ g < w.heap.size ∧ ∀ (i : Nat) v, xs[i]? = some v → w.cell? ⟨g, i, none⟩ = some v := by
  obtain ⟨h1, h2 | ⟨g', cap, cur, hv, hb', hr, ho⟩⟩ := h
  · simp only [Value.slice.injEq] at h2
    omega
  · simp only [Value.slice.injEq] at hv
    obtain ⟨rfl, _, _⟩ := hv
    refine ⟨g', rfl, hb', (Array.getElem?_eq_some_iff.1 hr).1, fun i v hi => ?_⟩
    rw [cell_of_row w g' i _ _ _ hr, ← Array.getElem?_toList]
    have hil := (List.getElem?_eq_some_iff.1 hi).1
    rw [← ho.2.2.2, List.getElem?_take] at hi
    split at hi
    · exact hi
    · cases hi
/-- What Parse answers. -/
def jpErr (s len : Nat) : Nat := if s < 1 ∨ 4 < s then 1 else if len = 13 then 0 else 2
def jpOf (s len : Nat) (q : List Nat) : En := if jpErr s len = 0 then jeP s q else en0
set_option maxRecDepth 100000 in
set_option maxHeartbeats 4000000 in
theorem jParse (s : Nat) (a : Option Addr) (len cap n : Nat) (q : List Nat) (w : World) (hs : s < 256) (hl : q.length = len) (hn : n ≤ w.heap.size) (hr : Rd n w a len cap (bv q)) (hb : bytes q) (hm : len ≤ 1000000) :
    Calls Try.prog 70 #[.int .u8 (s : Nat), .slice a len cap] w fun e w' => e = .returned (.tuple #[.agg #[.int .u32 ((jpOf s len q).q : Nat), .int .u32 ((jpOf s len q).t : Nat), .int .u8 ((jpOf s len q).e : Nat), .int .u8 ((jpOf s len q).g : Nat), .int .u32 ((jpOf s len q).d : Nat)], .int .i64 ((jpErr s len : Nat) : Int)]) ∧ Below w.heap.size w w' := by
  have h1 := hr.le
  have h2 := hr.top
  unfold maxLen at h2
  have hz := zero_en
  have hal : Below w.heap.size w (w.alloc (.cells #[.int .u32 (en0.q : Nat), .int .u32 (en0.t : Nat), .int .u8 (en0.e : Nat), .int .u8 (en0.g : Nat), .int .u32 (en0.d : Nat)] 143)) := (Below.refl _ _).alloc (Nat.le_refl _) _
  have hbox := heap_alloc_new w (.cells #[.int .u32 (en0.q : Nat), .int .u32 (en0.t : Nat), .int .u8 (en0.e : Nat), .int .u8 (en0.g : Nat), .int .u32 (en0.d : Nat)] 143)
  by_cases hsb : s < 1 ∨ 4 < s
  · have he : jpErr s len = 1 := by unfold jpErr; rw [if_pos hsb]
    have ho : jpOf s len q = en0 := by unfold jpOf; rw [he]; rfl
    rw [he, ho]
    clear he ho
    rcases hsb with hlt | hgt
    · go_enter Try.func70, Try.ntmps70
      go_wp2_with (refine wpList_store_row rfl 143 _ _ rfl _ _ rfl rfl _ _ (by (first | exact heap_alloc2_new _ _ _ | exact heap_alloc2_old _ _ _ | exact heap_alloc_new _ _ | assumption)) (by exact size_en) (by rfl) (by simp [Value.oneCell']) ?_; (first | rw [setRow_alloc2_new] | rw [setRow_alloc2_old] | rw [World.setRow_alloc_new] | skip); (try go_simp))
      refine bodyPost_ret (res_ct rfl _ _ _ _ _ _ rfl hbox Try.underlying143 rfl size_en) rfl ?_
      exact ⟨rfl, hal⟩
    · go_enter Try.func70, Try.ntmps70
      go_wp2_with (refine wpList_store_row rfl 143 _ _ rfl _ _ rfl rfl _ _ (by (first | exact heap_alloc2_new _ _ _ | exact heap_alloc2_old _ _ _ | exact heap_alloc_new _ _ | assumption)) (by exact size_en) (by rfl) (by simp [Value.oneCell']) ?_; (first | rw [setRow_alloc2_new] | rw [setRow_alloc2_old] | rw [World.setRow_alloc_new] | skip); (try go_simp))
      refine bodyPost_ret (res_ct rfl _ _ _ _ _ _ rfl hbox Try.underlying143 rfl size_en) rfl ?_
      exact ⟨rfl, hal⟩
  have hs1 : 1 ≤ s := by omega
  have hs4 : s ≤ 4 := by omega
  have hs1' : ¬ s < 1 := by omega
  have hs4' : ¬ 4 < s := by omega
  have hpe : jpErr s len = if len = 13 then 0 else 2 := by unfold jpErr; rw [if_neg hsb]
  obtain ⟨E, hE⟩ : ∃ E, E = jpOf s len q := ⟨_, rfl⟩
  obtain ⟨er, her⟩ : ∃ er, er = jpErr s len := ⟨_, rfl⟩
  rw [← hE, ← her]
  rw [← her] at hpe
  have hE2 : E = if er = 0 then jeP s q else en0 := by rw [hE, her]; rfl
  have HPE := Lib.hid hpe
  have HE2 := Lib.hid hE2
  clear hsb hpe hE her hE2
  have hb0 : Below w.heap.size w ((w.alloc (.cells #[.int .u32 (en0.q : Nat), .int .u32 (en0.t : Nat), .int .u8 (en0.e : Nat), .int .u8 (en0.g : Nat), .int .u32 (en0.d : Nat)] 143)).alloc (.cells #[.int .i64 1, .int .i64 4, .int .i64 4, .int .i64 4] 3)) := by repeat' (first | (with_reducible exact Below.refl _ _) | (with_reducible assumption) | (with_reducible refine Below.setCell ?_ ?_ _) | (with_reducible refine Below.alloc ?_ ?_ _) | (with_reducible refine Below.drew ?_) | (with_reducible refine Below.drawsN ?_ _) | go_size)
  have g0 := heap_alloc2_old w (.cells #[.int .u32 (en0.q : Nat), .int .u32 (en0.t : Nat), .int .u8 (en0.e : Nat), .int .u8 (en0.g : Nat), .int .u32 (en0.d : Nat)] 143) (.cells #[.int .i64 1, .int .i64 4, .int .i64 4, .int .i64 4] 3)
  have g1 := heap_alloc2_new w (.cells #[.int .u32 (en0.q : Nat), .int .u32 (en0.t : Nat), .int .u8 (en0.e : Nat), .int .u8 (en0.g : Nat), .int .u32 (en0.d : Nat)] 143) (.cells #[.int .i64 1, .int .i64 4, .int .i64 4, .int .i64 4] 3)
  clear hbox hal
  go_enter Try.func70, Try.ntmps70
  go_wp2_with (go_at_call 122; refine (sizes_at _).mono ?_; rintro e wx ⟨rfl, rfl⟩)
  obtain ⟨f, hf⟩ : ∃ f, f = w.heap.size + 1 := ⟨_, rfl⟩
  obtain ⟨g, hg⟩ : ∃ g, g = w.heap.size := ⟨_, rfl⟩
  obtain ⟨w1, hw1⟩ : ∃ w1, w1 = ((w.alloc (.cells #[.int .u32 (en0.q : Nat), .int .u32 (en0.t : Nat), .int .u8 (en0.e : Nat), .int .u8 (en0.g : Nat), .int .u32 (en0.d : Nat)] 143)).alloc (.cells #[.int .i64 1, .int .i64 4, .int .i64 4, .int .i64 4] 3)) := ⟨_, rfl⟩
  rw [← hw1] at hb0 g0 g1 ⊢
  rw [← hf] at g1 ⊢
  rw [← hg] at g0 ⊢
  have HG := Lib.hid hg
  clear hf hg hw1
  have q1 : Rd w1.heap.size w1 (some ⟨f, 0, none⟩) 4 4 (fun i => .int .i64 (szF i)) := rd_map (n := w1.heap.size) (m := 4) ([1, 4, 4, 4] : List Int) 0 (fun z => Value.int .i64 z) g1 (box_lt g1) rfl (by decide)
  have HRD := Lib.hid (hr.below' hb0 hn)
  have hn1 : n ≤ w1.heap.size := Nat.le_trans hn hb0.size
  have HB0 := Lib.hid hb0
  go_at_call 123
  with_reducible refine (Numbers_any _ _ len cap 4 4 _ _ q szF _ hl HRD.out q1 hn1 (Nat.le_refl _) hb (by decide) hm).mono ?_
  rintro e w2 ⟨hb2, ⟨hne2, rfl⟩ | ⟨h0, v, rfl, hown⟩⟩
  · have hne : len ≠ 13 := fun e => hne2 (by rw [numErr_je, if_pos e])
    have he : ((numErr szF 4 len : Nat) : Int) = 2 := by rw [numErr_je, if_neg hne]; rfl
    have hp := HPE.out
    rw [if_neg hne] at hp
    have ho := HE2.out
    rw [hp, if_neg (by decide)] at ho
    have HO := Lib.hid (And.intro ho hp)
    rw [he]
    have g2 := box_below g0 hb2 (box_lt g0)
    have HB2 := Lib.hid (HB0.out.trans (hb2.mono HB0.out.size))
    clear g0 g1 q1 hb0 hb2 he hne2 HB0 HRD hr hp ho
    go_wp2_with (refine wpList_store_row rfl 143 _ _ rfl _ _ rfl rfl _ _ g2 (by exact size_en) (by rfl) (by simp [Value.oneCell']) ?_; (try go_simp))
    refine bodyPost_ret (res_ct rfl _ _ _ _ _ _ rfl (setRow_heap _ _ _ _ _ _ g2) Try.underlying143 rfl size_en) rfl ?_
    rw [HO.out.1, HO.out.2]
    exact ⟨rfl, bel_row HB2.out (by have := HG.out; omega) _⟩
  · have h13 : len = 13 := Classical.byContradiction fun e => by rw [numErr_je, if_neg e] at h0; cases h0
    have hp := HPE.out
    rw [if_pos h13] at hp
    have ho := HE2.out
    rw [hp, if_pos rfl] at ho
    have HER := Lib.hid hp
    obtain ⟨va, vc, rfl⟩ := own_form hown
    obtain ⟨gv, rfl, hgv, hgl, hcell⟩ := own_cellE hown (by decide)
    rw [nums_je] at hcell
    have hz0 := hcell 0 _ rfl
    have hz1 := hcell 1 _ rfl
    have hz2 := hcell 2 _ rfl
    have hz3 := hcell 3 _ rfl
    have hb0x : fld q 0 1 < 256 := fld_lt hb 0 1 256 (by decide)
    have hje : jeP s q = ⟨fld q 1 4, fld q 5 4, fld q 0 1, s - 1, fld q 9 4⟩ := rfl
    have g2 := box_below g0 hb2 (box_lt g0)
    have HB2 := Lib.hid (HB0.out.trans (hb2.mono HB0.out.size))
    have hgg : w.heap.size ≤ g := by have := HG.out; omega
    obtain ⟨x0, hx0⟩ : ∃ x, x = fld q 0 1 := ⟨_, rfl⟩
    obtain ⟨x1, hx1⟩ : ∃ x, x = fld q 1 4 := ⟨_, rfl⟩
    obtain ⟨x2, hx2⟩ : ∃ x, x = fld q 5 4 := ⟨_, rfl⟩
    obtain ⟨x3, hx3⟩ : ∃ x, x = fld q 9 4 := ⟨_, rfl⟩
    obtain ⟨y, hy⟩ : ∃ y, y = s - 1 := ⟨_, rfl⟩
    rw [← hx0] at hz0 hb0x hje
    rw [← hx1] at hz1 hje
    rw [← hx2] at hz2 hje
    rw [← hx3] at hz3 hje
    rw [← hy] at hje
    rw [← ho] at hje
    have hEy : (s : Int) - 1 = (y : Int) := by omega
    have hEw : IntKind.u8.wrap ((s : Int) - 1) = (y : Int) := by rw [IntKind.wrap_u8]; omega
    have HJE := Lib.hid hje
    clear hx0 hx1 hx2 hx3 hy hje hcell hown hb0 hb2 g1 q1 HRD HB0 hr hp ho h0 h13
    go_wp2_with fail
    obtain ⟨I, W, hne, hWI, hIW⟩ := Go.Mix.family (fun v => Below w2.heap.size w2 v) (Below.refl _ _)
    have HJ := Lib.hid hIW
    have HW := Lib.hid hWI
    clear hWI hIW
    refine Go.Flo3.wp_region (fun w' => ∃ i, w' = W i) 16 [Go.Flo.dflt] (by kernel_rfl) (by kernel_rfl) (by decide) (by rintro _ w' ⟨i, rfl⟩ hb; exact HJ.out _ ((HW.out i).trans (hb.mono (HW.out i).size))) (HJ.out _ (Below.refl _ _).drew) ?_
    simp only [Go.Flo.pair, Go.Mix.calm, List.take, List.drop, if_true, Bool.false_eq_true, if_false, Nat.reduceAdd, Nat.reduceSub]
    have y0 : ∀ i, (W i).cell? ⟨gv, 0, none⟩ = some (.int .u32 (x0 : Int)) := fun i => ((HW.out i).cell (p := ⟨gv, 0, none⟩) hgl).trans hz0
    have y1 : ∀ i, (W i).cell? ⟨gv, 1, none⟩ = some (.int .u32 (x1 : Int)) := fun i => ((HW.out i).cell (p := ⟨gv, 1, none⟩) hgl).trans hz1
    have y2 : ∀ i, (W i).cell? ⟨gv, 2, none⟩ = some (.int .u32 (x2 : Int)) := fun i => ((HW.out i).cell (p := ⟨gv, 2, none⟩) hgl).trans hz2
    have y3 : ∀ i, (W i).cell? ⟨gv, 3, none⟩ = some (.int .u32 (x3 : Int)) := fun i => ((HW.out i).cell (p := ⟨gv, 3, none⟩) hgl).trans hz3
    clear hz0 hz1 hz2 hz3
    (repeat (first | (refine Go.Flo.fw_calm rfl ?_ (fun K hK => ?_); (first | exact Go.Mix.wanted_none rfl | exact Go.Mix.wanted_tt rfl rfl rfl | exact Go.Mix.wanted_ff rfl rfl rfl); go_big_quiet_op; refine hK _ ?_; clear hK K) | (refine Go.Flo.fw_skip ?_ (fun K hK => ?_); (first | exact Go.Mix.wanted_tf rfl rfl rfl | exact Go.Mix.wanted_ft rfl rfl rfl); go_simp; refine hK _ ?_; clear hK K) | (refine Go.Flo.fw_any rfl ?_ (fun K hK => ?_); (first | exact Go.Mix.wanted_none rfl | exact Go.Mix.wanted_tt rfl rfl rfl | exact Go.Mix.wanted_ff rfl rfl rfl); go_simp; (try (go_ints; try go_simp)); refine hK _ ?_; clear hK K)))
    refine Go.Flo.fw_nil ?_
    intro w3 hww3 hfw3 huw3
    obtain ⟨iend, hiend⟩ := hww3
    have hbw3 := HW.out iend
    rw [← hiend] at hbw3
    clear hiend iend huw3
    have g3 := box_below g2 hbw3 (box_lt g2)
    have HB3 := Lib.hid (HB2.out.trans (hbw3.mono HB2.out.size))
    clear hfw3 HJ HW hne y0 y1 y2 y3 hbw3 g2 HB2 g0
    clear W I
    refine ⟨fun _ => True, trivial, ?_⟩

    (refine Go.Mix.walk_loud rfl ?_ (fun K hK => ?_); (first | exact Go.Mix.wanted_none rfl | exact Go.Mix.wanted_tt rfl rfl rfl | exact Go.Mix.wanted_ff rfl rfl rfl); refine wp_store_row 143 _ _ rfl _ #[.int .u32 (x1 : Nat), .int .u32 (x2 : Nat), .int .u8 (x0 : Nat), .int .u8 (y : Nat), .int .u32 (x3 : Nat)] rfl rfl 143 _ g3 size_en rfl (by simp [Value.oneCell']) (hK _ _ trivial ?_); clear hK K)
    (repeat (first | (refine Go.Mix.walk_calm rfl ?_ (fun K hK => ?_); (first | exact Go.Mix.wanted_none rfl | exact Go.Mix.wanted_tt rfl rfl rfl | exact Go.Mix.wanted_ff rfl rfl rfl); go_big_quiet_op; refine hK _ ?_; clear hK K) | (refine Go.Mix.walk_skip ?_ (fun K hK => ?_); (first | exact Go.Mix.wanted_tf rfl rfl rfl | exact Go.Mix.wanted_ft rfl rfl rfl); go_simp; refine hK _ ?_; clear hK K) | (refine Go.Mix.walk_loud rfl ?_ (fun K hK => ?_); (first | exact Go.Mix.wanted_none rfl | exact Go.Mix.wanted_tt rfl rfl rfl | exact Go.Mix.wanted_ff rfl rfl rfl); (first | go_big_op | go_simp); (first | (refine hK _ _ trivial ?_; clear hK K) | (fail; (try dsimp only); refine hK _ _ trivial ?_; clear hK K))) | (refine Go.Mix.walk_step (fun K hK => ?_); go_simp; (try (go_ints; try go_simp)); refine hK _ _ ?_; clear hK K)))
    refine Go.Mix.walk_nil ?_
    go_wp2
    have hfin := setRow_heap w3 g _ #[.int .u32 (x1 : Nat), .int .u32 (x2 : Nat), .int .u8 (x0 : Nat), .int .u8 (y : Nat), .int .u32 (x3 : Nat)] _ _ g3
    refine bodyPost_ret (res_ct rfl _ _ _ _ _ _ rfl hfin Try.underlying143 rfl size_en) rfl ?_
    rw [HJE.out, HER.out]
    exact ⟨rfl, bel_row HB3.out hgg _⟩
end Go.Proofs.Ytkgeeohgfbacaaa.Je
