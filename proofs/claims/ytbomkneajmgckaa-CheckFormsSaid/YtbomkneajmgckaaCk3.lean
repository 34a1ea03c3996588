/- Layer 15: a definition is read from its bytes, by the program and by the document. -/
import Derived.Test.YtbomkneajmgckaaLaw15r
import Derived.Test.YtbomkneajmgckaaPsM
import Derived.Test.YtbomkneajmgckaaFlo3
import Derived.Test.YtbomkneajmgckaaRes
import Derived.Test.YtbomkneajmgckaaSpR
namespace Go.Proofs.Ytbomkneajmgckaa
open Go.RowKit Go.Own
set_option linter.unusedVariables false
set_option linter.unusedSimpArgs false
/-- The number of j bytes from i on. -/
def fld (q : List Nat) (i j : Nat) : Nat := val ((q.drop i).take j)
/-- What the bytes tell. -/
def dfP (q : List Nat) : Df := ⟨(fld q 0 1 : Nat), (fld q 1 1 : Nat), wrap32 (fld q 2 4 : Nat), wrap32 (fld q 6 4 : Nat), fld q 10 4, fld q 14 4⟩
def dfZ : Df := ⟨0, 0, 0, 0, 0, 0⟩
def dfParse (q : List Nat) : Df × Int := if q.length = 18 then (if (dfP q).right = true then (dfP q, 0) else (dfZ, 1)) else (dfZ, 2)
theorem fld_lt {q : List Nat} (hb : bytes q) (i j : Nat) (k : Nat) (h : 256 ^ j ≤ k) : fld q i j < k := by
  unfold fld
  have h1 := val_lt _ ((hb.drop i).take j)
  refine Nat.lt_of_lt_of_le h1 (Nat.le_trans (Nat.pow_le_pow_right (by decide) ?_) h)
  simp
  omega
theorem fld_one (q : List Nat) (i : Nat) (h : i < q.length) : fld q i 1 = q.getD i 0 := by
  have e : (q.drop i).take 1 = [q.getD i 0] := by
    rw [List.drop_eq_getElem_cons h, List.take_succ_cons, List.take_zero]
    simp [List.getD, h]
  unfold fld
  rw [e]
  simp [val]
def szF : Nat → Int := fun i => ([1, 1, 4, 4, 4, 4] : List Int).getD i 0
theorem szF_all : allSz szF 6 := fun i hi => by
  have : i = 0 ∨ i = 1 ∨ i = 2 ∨ i = 3 ∨ i = 4 ∨ i = 5 := by omega
  rcases this with rfl | rfl | rfl | rfl | rfl | rfl <;> rfl
theorem nums_df (q : List Nat) : ul (numsOf szF q 6) = [.int .u32 ((fld q 0 1 : Nat) : Int), .int .u32 ((fld q 1 1 : Nat) : Int), .int .u32 ((fld q 2 4 : Nat) : Int), .int .u32 ((fld q 6 4 : Nat) : Int), .int .u32 ((fld q 10 4 : Nat) : Int), .int .u32 ((fld q 14 4 : Nat) : Int)] := by
  have e : numsOf szF q 6 = [fld q 0 1, fld q 1 1, fld q 2 4, fld q 6 4, fld q 10 4, fld q 14 4] := by
    simp [numsOf, List.range_succ, seg, fld, szF, tot]
  rw [e]
  rfl
theorem numErr_df (len : Nat) : numErr szF 6 len = if len = 18 then 0 else 2 := numErr_all szF_all
theorem own_cellC {w : World} {base m c : Nat} {e : TypeId} {size : Nat} {a : Option Addr} {xs : List Value} (h : w.ownsRow base e size (.slice a m c) m xs) (hx : 0 < m) : ∃ g, a = some ⟨g, 0, none⟩ ∧ base ≤ g ∧ g < w.heap.size ∧ ∀ (i : Nat) v, xs[i]? = some v → w.cell? ⟨g, i, none⟩ = some v := by
  obtain ⟨h1, h2 | ⟨g', cap, cur, hv, hb', hr, ho⟩⟩ := h
  · simp only [Value.slice.injEq] at h2
    omega
  · simp only [Value.slice.injEq] at hv
    obtain ⟨rfl, _, _⟩ := hv
    refine ⟨g', rfl, hb', (Array.getElem?_eq_some_iff.1 hr).1, fun i v hi => ?_⟩
    rw [cell_of_row w g' i _ _ _ hr, ← Array.getElem?_toList]
    have hil := (List.getElem?_eq_some_iff.1 hi).1
    rw [← ho.2.2.2, List.getElem?_take] at hi
    split at hi
    · exact hi
    · cases hi
theorem sizes_at' (w : World) : Calls Try.prog 94 #[] w fun e w' => e = .returned (.slice (some ⟨w.heap.size, 0, none⟩) 6 6) ∧ w' = w.alloc (.cells #[.int .i64 1, .int .i64 1, .int .i64 4, .int .i64 4, .int .i64 4, .int .i64 4] 3) := by
  go_enter Try.func94, Try.ntmps94
  go_wp2
  go_ret
  exact ⟨rfl, rfl⟩
theorem size_df' : (Try.prog.info? 92).map (·.size) = some 6 := by kernel_rfl
set_option maxRecDepth 100000 in
set_option maxHeartbeats 4000000 in
theorem dParse_len (a : Option Addr) (len cap n : Nat) (q : List Nat) (w : World) (hl : q.length = len) (hn : n ≤ w.heap.size) (hr : Rd n w a len cap (bv q)) (hb : bytes q) (hm : len ≤ 1000000) (hne : len ≠ 18) :
    Calls Try.prog 53 #[.slice a len cap] w fun e w' => e = .returned (.tuple #[.agg #[.int .u8 0, .int .i64 0, .int .i32 0, .int .i32 0, .int .u32 0, .int .u32 0], .int .i64 2]) ∧ Below w.heap.size w w' := by
  have h1 := hr.le
  have h2 := hr.top
  unfold maxLen at h2
  skip
  have hb0 : Below w.heap.size w ((w.alloc (.cells #[.int .u8 0, .int .i64 0, .int .i32 0, .int .i32 0, .int .u32 0, .int .u32 0] 92)).alloc (.cells #[.int .i64 1, .int .i64 1, .int .i64 4, .int .i64 4, .int .i64 4, .int .i64 4] 3)) := by repeat' (first | (with_reducible exact Below.refl _ _) | (with_reducible assumption) | (with_reducible refine Below.setCell ?_ ?_ _) | (with_reducible refine Below.alloc ?_ ?_ _) | (with_reducible refine Below.drew ?_) | (with_reducible refine Below.drawsN ?_ _) | go_size)
  have g0 := heap_alloc2_old w (.cells #[.int .u8 0, .int .i64 0, .int .i32 0, .int .i32 0, .int .u32 0, .int .u32 0] 92) (.cells #[.int .i64 1, .int .i64 1, .int .i64 4, .int .i64 4, .int .i64 4, .int .i64 4] 3)
  have g1 := heap_alloc2_new w (.cells #[.int .u8 0, .int .i64 0, .int .i32 0, .int .i32 0, .int .u32 0, .int .u32 0] 92) (.cells #[.int .i64 1, .int .i64 1, .int .i64 4, .int .i64 4, .int .i64 4, .int .i64 4] 3)
  go_enter Try.func53, Try.ntmps53
  go_wp2_with (go_at_call 94; refine (sizes_at' _).mono ?_; rintro e wx ⟨rfl, rfl⟩)
  obtain ⟨f, hf⟩ : ∃ f, f = w.heap.size + 1 := ⟨_, rfl⟩
  obtain ⟨g, hg⟩ : ∃ g, g = w.heap.size := ⟨_, rfl⟩
  obtain ⟨w1, hw1⟩ : ∃ w1, w1 = ((w.alloc (.cells #[.int .u8 0, .int .i64 0, .int .i32 0, .int .i32 0, .int .u32 0, .int .u32 0] 92)).alloc (.cells #[.int .i64 1, .int .i64 1, .int .i64 4, .int .i64 4, .int .i64 4, .int .i64 4] 3)) := ⟨_, rfl⟩
  rw [← hw1] at hb0 g0 g1 ⊢
  rw [← hf] at g1 ⊢
  rw [← hg] at g0 ⊢
  have HG := Lib.hid hg
  clear hf hg hw1
  have q1 : Rd w1.heap.size w1 (some ⟨f, 0, none⟩) 6 6 (fun i => .int .i64 (szF i)) := rd_map (n := w1.heap.size) (m := 6) ([1, 1, 4, 4, 4, 4] : List Int) 0 (fun z => Value.int .i64 z) g1 (box_lt g1) rfl (by decide)
  have HRD := Lib.hid (hr.below' hb0 hn)
  have hn1 : n ≤ w1.heap.size := Nat.le_trans hn hb0.size
  have HB0 := Lib.hid hb0
  go_at_call 97
  with_reducible refine (Numbers_any _ _ len cap 6 6 _ _ q szF _ hl HRD.out q1 hn1 (Nat.le_refl _) hb (by decide) hm).mono ?_
  rintro e w2 ⟨hb2, ⟨hne2, rfl⟩ | ⟨h0, _⟩⟩
  case inr => rw [numErr_df, if_neg hne] at h0; cases h0
  have he : ((numErr szF 6 len : Nat) : Int) = 2 := by rw [numErr_df, if_neg hne]; rfl
  rw [he]
  have g2 := box_below g0 hb2 (box_lt g0)
  have HB2 := Lib.hid (HB0.out.trans (hb2.mono HB0.out.size))
  clear g0 g1 q1 hb0 hb2 he hne2 HB0 HRD hr
  go_wp2_with (refine wpList_store_row rfl 92 _ _ rfl _ _ rfl rfl _ _ g2 (by exact size_df') (by rfl) (by simp [Value.oneCell']) ?_; (try go_simp))
  refine bodyPost_ret (res_ct rfl _ _ _ _ _ _ rfl (setRow_heap _ _ _ _ _ _ g2) Try.underlying92 rfl size_df') rfl ?_
  exact ⟨rfl, bel_row HB2.out (by have := HG.out; omega) _⟩
set_option maxRecDepth 100000 in
set_option maxHeartbeats 4000000 in
theorem dParse_18 (a : Option Addr) (cap n : Nat) (q : List Nat) (w : World) (hl : q.length = 18) (hn : n ≤ w.heap.size) (hr : Rd n w a 18 cap (bv q)) (hb : bytes q) (k p l h er : Int) (m o : Nat) (hp : dfParse q = (Df.mk k p l h m o, er)) :
    Calls Try.prog 53 #[.slice a 18 cap] w fun e w' => e = .returned (.tuple #[.agg #[.int .u8 k, .int .i64 p, .int .i32 l, .int .i32 h, .int .u32 ((m : Nat) : Int), .int .u32 ((o : Nat) : Int)], .int .i64 er]) ∧ Below w.heap.size w w' := by
  have h1 := hr.le
  have h2 := hr.top
  unfold maxLen at h2
  obtain ⟨len, hlen⟩ : ∃ len, len = 18 := ⟨_, rfl⟩
  have hm : (18 : Nat) ≤ 1000000 := by decide
  rw [← hlen] at hl hr h1 hm ⊢
  have HLEN := Lib.hid hlen
  clear hlen
  skip
  have hb0 : Below w.heap.size w ((w.alloc (.cells #[.int .u8 0, .int .i64 0, .int .i32 0, .int .i32 0, .int .u32 0, .int .u32 0] 92)).alloc (.cells #[.int .i64 1, .int .i64 1, .int .i64 4, .int .i64 4, .int .i64 4, .int .i64 4] 3)) := by repeat' (first | (with_reducible exact Below.refl _ _) | (with_reducible assumption) | (with_reducible refine Below.setCell ?_ ?_ _) | (with_reducible refine Below.alloc ?_ ?_ _) | (with_reducible refine Below.drew ?_) | (with_reducible refine Below.drawsN ?_ _) | go_size)
  have g0 := heap_alloc2_old w (.cells #[.int .u8 0, .int .i64 0, .int .i32 0, .int .i32 0, .int .u32 0, .int .u32 0] 92) (.cells #[.int .i64 1, .int .i64 1, .int .i64 4, .int .i64 4, .int .i64 4, .int .i64 4] 3)
  have g1 := heap_alloc2_new w (.cells #[.int .u8 0, .int .i64 0, .int .i32 0, .int .i32 0, .int .u32 0, .int .u32 0] 92) (.cells #[.int .i64 1, .int .i64 1, .int .i64 4, .int .i64 4, .int .i64 4, .int .i64 4] 3)
  go_enter Try.func53, Try.ntmps53
  go_wp2_with (go_at_call 94; refine (sizes_at' _).mono ?_; rintro e wx ⟨rfl, rfl⟩)
  obtain ⟨f, hf⟩ : ∃ f, f = w.heap.size + 1 := ⟨_, rfl⟩
  obtain ⟨g, hg⟩ : ∃ g, g = w.heap.size := ⟨_, rfl⟩
  obtain ⟨w1, hw1⟩ : ∃ w1, w1 = ((w.alloc (.cells #[.int .u8 0, .int .i64 0, .int .i32 0, .int .i32 0, .int .u32 0, .int .u32 0] 92)).alloc (.cells #[.int .i64 1, .int .i64 1, .int .i64 4, .int .i64 4, .int .i64 4, .int .i64 4] 3)) := ⟨_, rfl⟩
  rw [← hw1] at hb0 g0 g1 ⊢
  rw [← hf] at g1 ⊢
  rw [← hg] at g0 ⊢
  have HG := Lib.hid hg
  clear hf hg hw1
  have q1 : Rd w1.heap.size w1 (some ⟨f, 0, none⟩) 6 6 (fun i => .int .i64 (szF i)) := rd_map (n := w1.heap.size) (m := 6) ([1, 1, 4, 4, 4, 4] : List Int) 0 (fun z => Value.int .i64 z) g1 (box_lt g1) rfl (by decide)
  have HRD := Lib.hid (hr.below' hb0 hn)
  have hn1 : n ≤ w1.heap.size := Nat.le_trans hn hb0.size
  have HB0 := Lib.hid hb0
  go_at_call 97
  with_reducible refine (Numbers_any _ _ len cap 6 6 _ _ q szF _ hl HRD.out q1 hn1 (Nat.le_refl _) hb (by decide) hm).mono ?_
  rintro e w2 ⟨hb2, ⟨hne2, rfl⟩ | ⟨h0, v, rfl, hown⟩⟩
  case inl => exact absurd (show numErr szF 6 len = 0 by rw [numErr_df, if_pos HLEN.out]) hne2
  obtain ⟨va, vc, rfl⟩ := own_form hown
  obtain ⟨gv, rfl, hgv, hgl, hcell⟩ := own_cellC hown (by decide)
  rw [nums_df] at hcell
  have hz0 := hcell 0 _ rfl
  have hz1 := hcell 1 _ rfl
  have hz2 := hcell 2 _ rfl
  have hz3 := hcell 3 _ rfl
  have hz4 := hcell 4 _ rfl
  have hz5 := hcell 5 _ rfl
  have hb0x : fld q 0 1 < 256 := fld_lt hb 0 1 256 (by decide)
  have hb1x : fld q 1 1 < 256 := fld_lt hb 1 1 256 (by decide)
  have hb2x : fld q 2 4 < 4294967296 := fld_lt hb 2 4 _ (by decide)
  have hb3x : fld q 6 4 < 4294967296 := fld_lt hb 6 4 _ (by decide)
  have hb4x : fld q 10 4 < 4294967296 := fld_lt hb 10 4 _ (by decide)
  have hb5x : fld q 14 4 < 4294967296 := fld_lt hb 14 4 _ (by decide)
  rw [dfParse, if_pos (hl.trans HLEN.out), dfP] at hp
  have g2 := box_below g0 hb2 (box_lt g0)
  have HB2 := Lib.hid (HB0.out.trans (hb2.mono HB0.out.size))
  have hgg : w.heap.size ≤ g := by have := HG.out; omega
  obtain ⟨x0, hx0⟩ : ∃ x, x = fld q 0 1 := ⟨_, rfl⟩
  obtain ⟨x1, hx1⟩ : ∃ x, x = fld q 1 1 := ⟨_, rfl⟩
  obtain ⟨x2, hx2⟩ : ∃ x, x = fld q 2 4 := ⟨_, rfl⟩
  obtain ⟨x3, hx3⟩ : ∃ x, x = fld q 6 4 := ⟨_, rfl⟩
  obtain ⟨x4, hx4⟩ : ∃ x, x = fld q 10 4 := ⟨_, rfl⟩
  obtain ⟨x5, hx5⟩ : ∃ x, x = fld q 14 4 := ⟨_, rfl⟩
  rw [← hx0] at hz0 hb0x hp
  rw [← hx1] at hz1 hb1x hp
  rw [← hx2] at hz2 hb2x hp
  rw [← hx3] at hz3 hb3x hp
  rw [← hx4] at hz4 hb4x hp
  rw [← hx5] at hz5 hb5x hp
  have HP := Lib.hid hp
  have hgx := Nat.lt_of_lt_of_le (box_lt g0) hb2.size
  clear hx0 hx1 hx2 hx3 hx4 hx5 hcell hown hb0 hb2 g0 g1 q1 HRD HB0 hr hp h0
  go_wp2_with fail
  obtain ⟨I, W, hne, hWI, hIW⟩ := Go.Mix.family (fun v => Below w2.heap.size w2 v) (Below.refl _ _)
  have HJ := Lib.hid hIW
  have HW := Lib.hid hWI
  clear hWI hIW
  refine Go.Flo3.wp_region (fun w' => ∃ i, w' = W i) 24 [Go.Flo.Spec.ptr w2.heap.size #[.int .u8 0, .int .i64 0, .int .i32 0, .int .i32 0, .int .u32 0, .int .u32 0] 92] (by kernel_rfl) (by kernel_rfl) (by decide) (by rintro _ w' ⟨i, rfl⟩ hb; exact HJ.out _ ((HW.out i).trans (hb.mono (HW.out i).size))) (HJ.out _ (Below.refl _ _).drew) ?_
  simp only [Go.Flo.pair, Go.Mix.calm, List.take, List.drop, if_true, Bool.false_eq_true, if_false, Nat.reduceAdd, Nat.reduceSub]
  have y0 : ∀ i, (W i).cell? ⟨gv, 0, none⟩ = some (.int .u32 (x0 : Int)) := fun i => ((HW.out i).cell (p := ⟨gv, 0, none⟩) hgl).trans hz0
  have y1 : ∀ i, (W i).cell? ⟨gv, 1, none⟩ = some (.int .u32 (x1 : Int)) := fun i => ((HW.out i).cell (p := ⟨gv, 1, none⟩) hgl).trans hz1
  have y2 : ∀ i, (W i).cell? ⟨gv, 2, none⟩ = some (.int .u32 (x2 : Int)) := fun i => ((HW.out i).cell (p := ⟨gv, 2, none⟩) hgl).trans hz2
  have y3 : ∀ i, (W i).cell? ⟨gv, 3, none⟩ = some (.int .u32 (x3 : Int)) := fun i => ((HW.out i).cell (p := ⟨gv, 3, none⟩) hgl).trans hz3
  have y4 : ∀ i, (W i).cell? ⟨gv, 4, none⟩ = some (.int .u32 (x4 : Int)) := fun i => ((HW.out i).cell (p := ⟨gv, 4, none⟩) hgl).trans hz4
  have y5 : ∀ i, (W i).cell? ⟨gv, 5, none⟩ = some (.int .u32 (x5 : Int)) := fun i => ((HW.out i).cell (p := ⟨gv, 5, none⟩) hgl).trans hz5
  clear hz0 hz1 hz2 hz3 hz4 hz5
  (repeat (first | (refine Go.Flo.fw_calm rfl ?_ (fun K hK => ?_); (first | exact Go.Mix.wanted_none rfl | exact Go.Mix.wanted_tt rfl rfl rfl | exact Go.Mix.wanted_ff rfl rfl rfl); go_big_quiet_op; refine hK _ ?_; clear hK K) | (refine Go.Flo.fw_skip ?_ (fun K hK => ?_); (first | exact Go.Mix.wanted_tf rfl rfl rfl | exact Go.Mix.wanted_ft rfl rfl rfl); go_simp; refine hK _ ?_; clear hK K) | (refine Go.Flo.fw_any rfl ?_ (fun K hK => ?_); (first | exact Go.Mix.wanted_none rfl | exact Go.Mix.wanted_tt rfl rfl rfl | exact Go.Mix.wanted_ff rfl rfl rfl); go_simp; (try (go_ints; try go_simp)); refine hK _ ?_; clear hK K)))
  refine Go.Flo.fw_loud rfl ?_ rfl (by simp) (fun wv hwv hav K hK => ?_) (fun v hv K hK => ?_)
  · (first | exact Go.Mix.wanted_none rfl | exact Go.Mix.wanted_tt rfl rfl rfl | exact Go.Mix.wanted_ff rfl rfl rfl)
  · obtain ⟨iv, rfl⟩ := hwv
    (first | go_big_op | go_simp)
    refine hK _ _ (Go.Flo.owes_ptr (HW.out iv).size)
  obtain ⟨x6, hx6, rfl, hnx6⟩ := hv.ptr rfl
  go_simp
  refine hK _ ?_
  clear hK K hv
  refine Go.Flo.fw_nil ?_
  intro w3 hww3 hfw3 huw3
  obtain ⟨iend, hiend⟩ := hww3
  have hbw3 := HW.out iend
  rw [← hiend] at hbw3
  clear hiend iend huw3
  have hC2 := Go.Flo.says_ptr ((hfw3 (some 6)).2 rfl).1
  have hC3 := setRow_heap _ _ _ #[.int .u8 (x0:Int), .int .i64 (x1:Int), .int .i32 (wrap32 (x2 : Int)), .int .i32 (wrap32 (x3 : Int)), .int .u32 ((x4 : Nat) : Int), .int .u32 ((x5 : Nat) : Int)] _ _ hC2
  have hB3 := Lib.hid (HB2.out.trans ((bel_row hbw3 hx6 #[.int .u8 (x0:Int), .int .i64 (x1:Int), .int .i32 (wrap32 (x2 : Int)), .int .i32 (wrap32 (x3 : Int)), .int .u32 ((x4 : Nat) : Int), .int .u32 ((x5 : Nat) : Int)]).mono HB2.out.size))
  have hne6 : g ≠ x6 := by have := hx6; omega
  have hC4 := (setRow_other w3 x6 g #[.int .u8 (x0:Int), .int .i64 (x1:Int), .int .i32 (wrap32 (x2 : Int)), .int .i32 (wrap32 (x3 : Int)), .int .u32 ((x4 : Nat) : Int), .int .u32 ((x5 : Nat) : Int)] hne6).trans (box_below g2 hbw3 (box_lt g2))
  clear hfw3 HJ HW hne y0 y1 y2 y3 y4 y5 hbw3 g2 HB2
  clear W I
  refine ⟨fun _ => True, trivial, ?_⟩

  (refine Go.Mix.walk_loud rfl ?_ (fun K hK => ?_); (first | exact Go.Mix.wanted_none rfl | exact Go.Mix.wanted_tt rfl rfl rfl | exact Go.Mix.wanted_ff rfl rfl rfl); refine wp_store_row 92 _ _ rfl _ #[.int .u8 (x0:Int), .int .i64 (x1:Int), .int .i32 (wrap32 (x2 : Int)), .int .i32 (wrap32 (x3 : Int)), .int .u32 ((x4 : Nat) : Int), .int .u32 ((x5 : Nat) : Int)] rfl rfl 92 _ hC2 size_df' rfl (by simp [Value.oneCell']) (hK _ _ trivial ?_); clear hK K)
  (repeat (first | (refine Go.Mix.walk_calm rfl ?_ (fun K hK => ?_); (first | exact Go.Mix.wanted_none rfl | exact Go.Mix.wanted_tt rfl rfl rfl | exact Go.Mix.wanted_ff rfl rfl rfl); go_big_quiet_op; refine hK _ ?_; clear hK K) | (refine Go.Mix.walk_skip ?_ (fun K hK => ?_); (first | exact Go.Mix.wanted_tf rfl rfl rfl | exact Go.Mix.wanted_ft rfl rfl rfl); go_simp; refine hK _ ?_; clear hK K) | (refine Go.Mix.walk_loud rfl ?_ (fun K hK => ?_); (first | exact Go.Mix.wanted_none rfl | exact Go.Mix.wanted_tt rfl rfl rfl | exact Go.Mix.wanted_ff rfl rfl rfl); (first | go_big_op | go_simp); (first | (refine hK _ _ trivial ?_; clear hK K) | (fail; (try dsimp only); refine hK _ _ trivial ?_; clear hK K))) | (refine Go.Mix.walk_step (fun K hK => ?_); go_simp; (try (go_ints; try go_simp)); refine hK _ _ ?_; clear hK K)))
  refine Go.Mix.walk_nil ?_
  obtain ⟨w4, hw4⟩ : ∃ w4, w4 = w3.setRow x6 #[.int .u8 (x0:Int), .int .i64 (x1:Int), .int .i32 (wrap32 (x2 : Int)), .int .i32 (wrap32 (x3 : Int)), .int .u32 ((x4 : Nat) : Int), .int .u32 ((x5 : Nat) : Int)] := ⟨_, rfl⟩
  rw [← hw4] at hC3 hB3 hC4 ⊢
  clear hw4 hC2 hx6 hnx6 hgx hgl hgv
  have a0 := cell_of_row _ _ 0 _ _ _ hC3
  have a1 := cell_of_row _ _ 1 _ _ _ hC3
  have a2 := cell_of_row _ _ 2 _ _ _ hC3
  have a3 := cell_of_row _ _ 3 _ _ _ hC3
  have a4 := cell_of_row _ _ 4 _ _ _ hC3
  have a5 := cell_of_row _ _ 5 _ _ _ hC3
  cases hrt : (Df.mk x0 x1 (wrap32 x2) (wrap32 x3) x4 x5).right
  · go_wp2_with fail
    go_at_call 44
    refine (Right_at x0 x1 (wrap32 x2) (wrap32 x3) x4 x5 false _ hrt).mono ?_
    rintro e w5 ⟨rfl, hb5⟩
    have g5 := box_below hC4 hb5 (box_lt hC4)
    have HB5 := Lib.hid (hB3.out.trans (hb5.mono hB3.out.size))
    have hp := HP.out
    rw [hrt, if_neg (by decide)] at hp
    obtain ⟨h6, h7⟩ := Prod.mk.inj hp
    obtain ⟨rfl, rfl, rfl, rfl, rfl, rfl⟩ := Df.mk.inj h6
    subst h7
    clear hC3 hC4 hB3 hb5 a0 a1 a2 a3 a4 a5 hp h6 HP hrt
    go_wp2_with (refine wpList_store_row rfl 92 _ _ rfl _ _ rfl rfl _ _ g5 (by exact size_df') (by rfl) (by simp [Value.oneCell']) ?_; (try go_simp))
    refine bodyPost_ret (res_ct rfl _ _ _ _ _ _ rfl (setRow_heap _ _ _ _ _ _ g5) Try.underlying92 rfl size_df') rfl ?_
    exact ⟨rfl, bel_row HB5.out hgg _⟩
  · go_wp2_with fail
    go_at_call 44
    refine (Right_at x0 x1 (wrap32 x2) (wrap32 x3) x4 x5 true _ hrt).mono ?_
    rintro e w5 ⟨rfl, hb5⟩
    have g5 := box_below hC4 hb5 (box_lt hC4)
    have g6 := box_below hC3 hb5 (box_lt hC3)
    have HB5 := Lib.hid (hB3.out.trans (hb5.mono hB3.out.size))
    have hp := HP.out
    rw [hrt, if_pos rfl] at hp
    obtain ⟨h6, h7⟩ := Prod.mk.inj hp
    obtain ⟨rfl, rfl, rfl, rfl, rfl, rfl⟩ := Df.mk.inj h6
    subst h7
    clear hC3 hC4 hB3 hb5 a0 a1 a2 a3 a4 a5 hp h6 HP hrt
    have a0 := cell_of_row _ _ 0 _ _ _ g6
    have a1 := cell_of_row _ _ 1 _ _ _ g6
    have a2 := cell_of_row _ _ 2 _ _ _ g6
    have a3 := cell_of_row _ _ 3 _ _ _ g6
    have a4 := cell_of_row _ _ 4 _ _ _ g6
    have a5 := cell_of_row _ _ 5 _ _ _ g6
    go_wp2_with (refine wpList_store_row rfl 92 _ _ rfl _ _ rfl rfl _ _ g5 (by exact size_df') (by rfl) (by simp [Value.oneCell']) ?_; (try go_simp))
    refine bodyPost_ret (res_ct rfl _ _ _ _ _ _ rfl (setRow_heap _ _ _ _ _ _ g5) Try.underlying92 rfl size_df') rfl ?_
    exact ⟨rfl, bel_row HB5.out hgg _⟩
end Go.Proofs.Ytbomkneajmgckaa
