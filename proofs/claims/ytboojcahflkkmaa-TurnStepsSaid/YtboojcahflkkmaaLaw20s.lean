/- TurnSteps: of any turn a cycle does just what the document says. -/
import Derived.Test.YtboojcahflkkmaaLaw20n
import Derived.Test.YtboojcahflkkmaaFlat
import Derived.Deep.CutBlock
import Derived.Deep.DeepCutAuto
namespace Go.Proofs.Ytboojcahflkkmaa
open Go.RowKit Go.Own Bs
set_option linter.unusedVariables false
set_option linter.unusedSimpArgs false
theorem fit_cons {w : World} {k : Leaf} {ks : List Leaf} {cs : List Value} (h : Fit w (k :: ks) cs) : ∃ v vs, cs = v :: vs ∧ k.fits w v ∧ Fit w ks vs := by
  cases cs with
  | nil => exact h.elim
  | cons v vs => exact ⟨v, vs, rfl, h.1, h.2⟩
theorem fit_nil {w : World} {cs : List Value} (h : Fit w [] cs) : cs = [] := by
  cases cs with
  | nil => rfl
  | cons v vs => exact h.elim
theorem fit_ch {w : World} {ks : List Leaf} {cs : List Value} (h : Fit w (Leaf.int .i8 :: Leaf.int .i8 :: Leaf.int .i8 :: Leaf.int .i8 :: Leaf.int .i8 :: Leaf.int .i8 :: ks) cs) : ∃ (c : Nat → Int) (vs : List Value), ChOk c ∧ cs = .int .i8 (c 0) :: .int .i8 (c 1) :: .int .i8 (c 2) :: .int .i8 (c 3) :: .int .i8 (c 4) :: .int .i8 (c 5) :: vs ∧ Fit w ks vs := by
  obtain ⟨_, v1, rfl, ⟨a, rfl, ka⟩, h1⟩ := fit_cons h
  obtain ⟨_, v2, rfl, ⟨b, rfl, kb⟩, h2⟩ := fit_cons h1
  obtain ⟨_, v3, rfl, ⟨c, rfl, kc⟩, h3⟩ := fit_cons h2
  obtain ⟨_, v4, rfl, ⟨d, rfl, kd⟩, h4⟩ := fit_cons h3
  obtain ⟨_, v5, rfl, ⟨e, rfl, ke⟩, h5⟩ := fit_cons h4
  obtain ⟨_, v6, rfl, ⟨g, rfl, kg⟩, h6⟩ := fit_cons h5
  have k : ∀ z : Int, (Lit.int .i8 z).wf = true → -128 ≤ z ∧ z < 128 := fun z hz => by have := bounds_i8 hz; omega
  refine ⟨fun i => [a, b, c, d, e, g].getD i 0, v6, fun i hi => ?_, rfl, h6⟩
  have hh : i = 0 ∨ i = 1 ∨ i = 2 ∨ i = 3 ∨ i = 4 ∨ i = 5 := by omega
  rcases hh with rfl | rfl | rfl | rfl | rfl | rfl
  · exact k _ ka
  · exact k _ kb
  · exact k _ kc
  · exact k _ kd
  · exact k _ ke
  · exact k _ kg
theorem tn_fit {w : World} {cs : List Value} (h : Fit w [Leaf.int .u8, Leaf.int .i8, Leaf.int .i8, Leaf.int .i8, Leaf.int .i8, Leaf.int .i8, Leaf.int .i8, Leaf.int .i8, Leaf.int .i8, Leaf.int .i8, Leaf.int .i8, Leaf.int .i8, Leaf.int .i8] cs) : ∃ (p : Int) (f t : Nat → Int), 0 ≤ p ∧ p < 256 ∧ ChOk f ∧ ChOk t ∧ cs.toArray = #[.int .u8 p, .int .i8 (f 0), .int .i8 (f 1), .int .i8 (f 2), .int .i8 (f 3), .int .i8 (f 4), .int .i8 (f 5), .int .i8 (t 0), .int .i8 (t 1), .int .i8 (t 2), .int .i8 (t 3), .int .i8 (t 4), .int .i8 (t 5)] := by
  obtain ⟨_, v1, rfl, ⟨p, rfl, kp⟩, h1⟩ := fit_cons h
  obtain ⟨f, v2, hf, rfl, h2⟩ := fit_ch h1
  obtain ⟨t, v3, ht, rfl, h3⟩ := fit_ch h2
  obtain rfl := fit_nil h3
  have hp := bounds_u8 kp
  exact ⟨p, f, t, hp.1, by omega, hf, ht, rfl⟩
theorem nxtR_ok (p : Int) (f t : Nat → Int) (wk ls : Nat) (hp : 0 ≤ p ∧ p < 256) (hf : ChOk f) (ht : ChOk t) (hls : ls < 65536) : (0 ≤ (nxtR p f t wk ls).p ∧ (nxtR p f t wk ls).p < 256) ∧ ChOk (nxtR p f t wk ls).f ∧ ChOk (nxtR p f t wk ls).t ∧ (nxtR p f t wk ls).o < 65536 ∧ (nxtR p f t wk ls).q < 65536 := by
  unfold nxtR powR
  have h1 : onlyS t f < 65536 := lessS_lt (unitsS_lt t 6)
  have h2 : onlyS f t < 65536 := lessS_lt (unitsS_lt f 6)
  have h3 : unitsS t 6 &&& ls < 65536 := Nat.lt_of_le_of_lt Nat.and_le_left (unitsS_lt t 6)
  split
  · split
    · split
      · exact ⟨⟨by simp, by simp⟩, hf, ht, by simp, by simp⟩
      · exact ⟨⟨by simp, by simp⟩, hf, ht, by simp, by simp⟩
    · exact ⟨⟨by simp, by simp⟩, hf, hf, h1, h3⟩
  · split
    · exact ⟨⟨by simp, by simp⟩, hf, ht, by simp, by simp⟩
    · split
      · exact ⟨⟨by simp, by simp⟩, ht, ht, h2, by simp⟩
      · exact ⟨hp, hf, ht, by simp, by simp⟩
/-- Where the law stands: the turn, the new chain. -/
structure StA (w wr : World) (g5 g9 : Nat) (p : Int) (f t c : Nat → Int) : Prop where
  be : Below w.heap.size w wr
  b5 : wr.heap[g5]? = some (.cells #[.int .u8 p, .int .i8 (f 0), .int .i8 (f 1), .int .i8 (f 2), .int .i8 (f 3), .int .i8 (f 4), .int .i8 (f 5), .int .i8 (t 0), .int .i8 (t 1), .int .i8 (t 2), .int .i8 (t 3), .int .i8 (t 4), .int .i8 (t 5)] 96 (0, 0))
  b9 : wr.heap[g9]? = some (.cells #[.int .i8 (c 0), .int .i8 (c 1), .int .i8 (c 2), .int .i8 (c 3), .int .i8 (c 4), .int .i8 (c 5)] 67 (0, 0))
theorem StA.step {w wr w' : World} {g5 g9 : Nat} {p : Int} {f t c : Nat → Int} (h : StA w wr g5 g9 p f t c) (hb : Below wr.heap.size wr w') : StA w w' g5 g9 p f t c :=
  ⟨h.be.trans (hb.mono h.be.size), box_below h.b5 hb (box_lt h.b5), box_below h.b9 hb (box_lt h.b9)⟩
theorem Start_zero {p : Int} (f t c : Nat → Int) (pw : Nat) (w : World) (hp : p = 0) (hc : ChOk c) (hpw : pw < 65536) : Calls Try.prog 54 #[.agg #[.int .u8 p, .int .i8 (f 0), .int .i8 (f 1), .int .i8 (f 2), .int .i8 (f 3), .int .i8 (f 4), .int .i8 (f 5), .int .i8 (t 0), .int .i8 (t 1), .int .i8 (t 2), .int .i8 (t 3), .int .i8 (t 4), .int .i8 (t 5)], .agg #[.int .i8 (c 0), .int .i8 (c 1), .int .i8 (c 2), .int .i8 (c 3), .int .i8 (c 4), .int .i8 (c 5)], .int .u16 (pw : Nat)] w fun e w' => ∃ v, e = .returned (.tuple #[.agg #[.int .u8 1, .int .i8 (t 0), .int .i8 (t 1), .int .i8 (t 2), .int .i8 (t 3), .int .i8 (t 4), .int .i8 (t 5), .int .i8 (c 0), .int .i8 (c 1), .int .i8 (c 2), .int .i8 (c 3), .int .i8 (c 4), .int .i8 (c 5)], .agg #[v, .slice none 0 0, .bool false, .int .u16 ((0 : Nat) : Int)], .int .i64 0]) ∧ w'.ownsRow w.heap.size 3 1 v (upTo (lessS (unitsS c 6) pw) 16).length (zl (upTo (lessS (unitsS c 6) pw) 16)) ∧ Below w.heap.size w w' := by
  subst hp
  exact Start_idle f t c pw w hc hpw
/-- The results, too. -/
structure StB (w wr : World) (g5 g9 g11 g12 : Nat) (p : Int) (f t c : Nat → Int) (x : Nx) (ya : Option Addr) (yl yc B : Nat) : Prop where
  a : StA w wr g5 g9 p f t c
  b11 : wr.heap[g11]? = some (.cells #[.int .u8 x.p, .int .i8 (x.f 0), .int .i8 (x.f 1), .int .i8 (x.f 2), .int .i8 (x.f 3), .int .i8 (x.f 4), .int .i8 (x.f 5), .int .i8 (x.t 0), .int .i8 (x.t 1), .int .i8 (x.t 2), .int .i8 (x.t 3), .int .i8 (x.t 4), .int .i8 (x.t 5)] 96 (0, 0))
  b12 : wr.heap[g12]? = some (.cells #[.slice none 0 0, .slice ya yl yc, .bool x.d, .int .u16 ((x.q : Nat) : Int)] 98 (0, 0))
  rd : Rd B wr ya yl yc (zv (upTo x.o 16))
  sz : B ≤ wr.heap.size
  lb : w.heap.size ≤ B
  lt : g5 < B ∧ g9 < B ∧ g11 < B ∧ g12 < B
theorem StB.step {w wr w' : World} {g5 g9 g11 g12 : Nat} {p : Int} {f t c : Nat → Int} {x : Nx} {ya : Option Addr} {yl yc B k : Nat} (h : StB w wr g5 g9 g11 g12 p f t c x ya yl yc B) (hb : Below k wr w') (hk : B ≤ k) : StB w w' g5 g9 g11 g12 p f t c x ya yl yc B := by
  obtain ⟨l5, l9, l11, l12⟩ := h.lt
  exact ⟨⟨h.a.be.trans (hb.mono (Nat.le_trans h.lb hk)), box_below h.a.b5 hb (by omega), box_below h.a.b9 hb (by omega)⟩, box_below h.b11 hb (by omega), box_below h.b12 hb (by omega), h.rd.below' hb hk, Nat.le_trans h.sz hb.size, h.lb, h.lt⟩
set_option maxRecDepth 100000 in
set_option maxHeartbeats 8000000 in
theorem walk_TurnSteps (cs0 : List Value) (a1 a2 a3 : Int) (z4 : List Int) (w : World) (w0 : Fit w [.int .u8, .int .i8, .int .i8, .int .i8, .int .i8, .int .i8, .int .i8, .int .i8, .int .i8, .int .i8, .int .i8, .int .i8, .int .i8] cs0) (w1 : (Lit.int .u16 a1).wf = true) (w2 : (Lit.int .u16 a2).wf = true) (w3 : (Lit.int .u16 a3).wf = true) (l4 : z4.length = 6) (w4 : ∀ x ∈ z4, (Lit.int .i8 x).wf = true) :
    Calls Try.prog 9 #[.agg cs0.toArray, .int .u16 a1, .int .u16 a2, .int .u16 a3, .agg (z4.map (Value.int .i8)).toArray] w fun e w' => e = .returned (.bool true) ∧ Below w.heap.size w w' := by
  obtain ⟨p, f, t, p0, p1, hf, ht, e0⟩ := tn_fit w0
  obtain ⟨c, hc, e1⟩ := ch_of l4 w4
  rw [e0, e1]
  obtain ⟨r0, r1⟩ := bounds_u16 w1
  obtain ⟨s0, s1⟩ := bounds_u16 w2
  obtain ⟨v0, v1⟩ := bounds_u16 w3
  obtain ⟨wk, rfl⟩ := Int.eq_ofNat_of_zero_le r0
  obtain ⟨ls, rfl⟩ := Int.eq_ofNat_of_zero_le s0
  obtain ⟨pw, rfl⟩ := Int.eq_ofNat_of_zero_le v0
  have hwk : wk < 65536 := by omega
  have hls : ls < 65536 := by omega
  have hpw : pw < 65536 := by omega
  have HC := Lib.hid (show ChOk f ∧ ChOk t ∧ ChOk c from ⟨hf, ht, hc⟩)
  clear w0 w1 w2 w3 l4 w4 e0 e1 r0 r1 s0 s1 v0 v1 hf ht hc
  have hzt := zero_tn
  have hzs := zero_st
  have hzr := zero_tr
  have hzc := zero_ch
  obtain ⟨h5, h9⟩ := al2T w (.cells #[.int .u8 p, .int .i8 (f 0), .int .i8 (f 1), .int .i8 (f 2), .int .i8 (f 3), .int .i8 (f 4), .int .i8 (f 5), .int .i8 (t 0), .int .i8 (t 1), .int .i8 (t 2), .int .i8 (t 3), .int .i8 (t 4), .int .i8 (t 5)] 96) (.cells #[.int .i8 (c 0), .int .i8 (c 1), .int .i8 (c 2), .int .i8 (c 3), .int .i8 (c 4), .int .i8 (c 5)] 67)
  have hb0 : Below w.heap.size w ((w.alloc (.cells #[.int .u8 p, .int .i8 (f 0), .int .i8 (f 1), .int .i8 (f 2), .int .i8 (f 3), .int .i8 (f 4), .int .i8 (f 5), .int .i8 (t 0), .int .i8 (t 1), .int .i8 (t 2), .int .i8 (t 3), .int .i8 (t 4), .int .i8 (t 5)] 96)).alloc (.cells #[.int .i8 (c 0), .int .i8 (c 1), .int .i8 (c 2), .int .i8 (c 3), .int .i8 (c 4), .int .i8 (c 5)] 67)) := by repeat' (first | (with_reducible exact Below.refl _ _) | (with_reducible assumption) | (with_reducible refine Below.setCell ?_ ?_ _) | (with_reducible refine Below.alloc ?_ ?_ _) | (with_reducible refine Below.drew ?_) | (with_reducible refine Below.drawsN ?_ _) | go_size)
  obtain ⟨p4, hp4⟩ : ∃ p4, p4 = p % 4 := ⟨_, rfl⟩
  have hp40 : 0 ≤ p4 ∧ p4 < 4 := by omega
  go_enter Try.func9, Try.ntmps9
  go_upto_region 1 with fail
  obtain ⟨wa, hwa⟩ : ∃ w1, w1 = (w.alloc (.cells #[.int .u8 p, .int .i8 (f 0), .int .i8 (f 1), .int .i8 (f 2), .int .i8 (f 3), .int .i8 (f 4), .int .i8 (f 5), .int .i8 (t 0), .int .i8 (t 1), .int .i8 (t 2), .int .i8 (t 3), .int .i8 (t 4), .int .i8 (t 5)] 96)).alloc (.cells #[.int .i8 (c 0), .int .i8 (c 1), .int .i8 (c 2), .int .i8 (c 3), .int .i8 (c 4), .int .i8 (c 5)] 67) := ⟨_, rfl⟩
  rw [← hwa] at h5 h9 hb0 ⊢
  obtain ⟨g9, hg9⟩ : ∃ g, g = w.heap.size + 1 := ⟨_, rfl⟩
  rw [← hg9] at h9 ⊢
  obtain ⟨g5, hg5⟩ : ∃ g, g = w.heap.size := ⟨_, rfl⟩
  rw [show (Value.pointer (some ⟨w.heap.size, 0, none⟩)) = .pointer (some ⟨g5, 0, none⟩) by rw [hg5]]
  rw [← hg5] at h5
  have hg5w : w.heap.size ≤ g5 := by omega
  have h59 : g9 ≠ g5 := by omega
  have HS := Lib.hid (show StA w wa g5 g9 p f t c from ⟨hb0, h5, h9⟩)
  have HP4 := Lib.hid hp4
  clear hwa hg5 hg9 hb0 h5 h9 hp4
  go_wp2_with fail
  go_at_call 46
  refine (awake20 _).mono ?_
  rintro e wb ⟨rfl, hb⟩
  have HS1 := Lib.hid (HS.out.step hb)
  clear hb HS
  have c0 := ldTp HS1.out.b5
  have fz := frozen_of_row _ g5 0 _ _ HS1.out.b5
  go_upto_region 4 with fail
  rw [show p % 4 = p4 from HP4.out.symm]
  have hS2 : StA w (wb.setCell ⟨g5, 0, none⟩ (.int .u8 p4)) g5 g9 p4 f t c := ⟨HS1.out.be.setCell (p := ⟨g5, 0, none⟩) hg5w _, heap_setCell_same wb g5 0 _ _ _ HS1.out.b5, (heap_setCell_other wb ⟨g5, 0, none⟩ g9 _ h59).trans HS1.out.b9⟩
  have HS2 := Lib.hid hS2
  clear c0 fz HS1 hS2 h59 hg5w
  obtain ⟨wc, hwc⟩ : ∃ wc, wc = wb.setCell ⟨g5, 0, none⟩ (.int .u8 p4) := ⟨_, rfl⟩
  rw [← hwc] at HS2 ⊢
  clear hwc
  obtain ⟨x, hx⟩ : ∃ x, x = nxtR p4 f t wk ls := ⟨_, rfl⟩
  have hxo := nxtR_ok p4 f t wk ls ⟨hp40.1, by omega⟩ HC.out.1 HC.out.2.1 hls
  rw [← hx] at hxo
  have HX := Lib.hid hx
  have HXO := Lib.hid hxo
  clear hx hxo p0 p1
  have b5 := HS2.out.b5
  go_wp2_with (((with_reducible show wpList _ _ _ (_ :: _) _ _); refine wpList_load_row rfl 96 _ rfl _ rfl _ _ _ _ b5 Try.underlying96 rfl (by exact size_tn) ?_; (try go_simp)))
  go_at_call 47
  refine (Next_det _ HC.out.1 HC.out.2.1 hwk hls HX.out.symm).mono ?_
  rintro e wd ⟨v, rfl, hown, hb⟩
  obtain ⟨ya, yc, rfl⟩ := own_formZ hown
  obtain ⟨yl, hyl⟩ : ∃ yl, yl = (upTo x.o 16).length := ⟨_, rfl⟩
  rw [← hyl] at hown ⊢
  have hrd := rd_of_own (f := zv (upTo x.o 16)) hown (fun i hi => zl_zv (upTo x.o 16) i (by omega))
  skip
  obtain ⟨q1, q2, q3, q4, q5⟩ := pairBox wd #[.int .u8 x.p, .int .i8 (x.f 0), .int .i8 (x.f 1), .int .i8 (x.f 2), .int .i8 (x.f 3), .int .i8 (x.f 4), .int .i8 (x.f 5), .int .i8 (x.t 0), .int .i8 (x.t 1), .int .i8 (x.t 2), .int .i8 (x.t 3), .int .i8 (x.t 4), .int .i8 (x.t 5)] #[.slice none 0 0, .slice ya yl yc, .bool x.d, .int .u16 ((x.q : Nat) : Int)]
  obtain ⟨wA, hwA⟩ : ∃ xW, (wd.alloc (.cells #[.int .u8 0, .int .i8 0, .int .i8 0, .int .i8 0, .int .i8 0, .int .i8 0, .int .i8 0, .int .i8 0, .int .i8 0, .int .i8 0, .int .i8 0, .int .i8 0, .int .i8 0] 96)).alloc (.cells #[.slice none 0 0, .slice none 0 0, .bool false, .int .u16 0] 98) = xW := ⟨_, rfl⟩
  rw [hwA] at q1 q2 q3 q4 q5
  obtain ⟨wB, hwB⟩ : ∃ xW, wA.setRow wd.heap.size #[.int .u8 x.p, .int .i8 (x.f 0), .int .i8 (x.f 1), .int .i8 (x.f 2), .int .i8 (x.f 3), .int .i8 (x.f 4), .int .i8 (x.f 5), .int .i8 (x.t 0), .int .i8 (x.t 1), .int .i8 (x.t 2), .int .i8 (x.t 3), .int .i8 (x.t 4), .int .i8 (x.t 5)] = xW := ⟨_, rfl⟩
  rw [hwB] at q2 q3 q4 q5
  obtain ⟨wC, hwC⟩ : ∃ xW, wB.setRow (wd.heap.size + 1) #[.slice none 0 0, .slice ya yl yc, .bool x.d, .int .u16 ((x.q : Nat) : Int)] = xW := ⟨_, rfl⟩
  rw [hwC] at q3 q4 q5
  have hS3 := (HS2.out.step hb).step q5
  have HB := Lib.hid (show StB w wC g5 g9 wd.heap.size (wd.heap.size + 1) p4 f t c x ya yl yc wC.heap.size from ⟨hS3, q3, q4, (hrd.below q5).mono q5.size, Nat.le_refl _, hS3.be.size, box_lt hS3.b5, box_lt hS3.b9, box_lt q3, box_lt q4⟩)
  clear hS3
  obtain ⟨B, hBE⟩ : ∃ B, B = wC.heap.size := ⟨_, rfl⟩
  rw [← hBE] at HB
  clear hBE
  have HYL := Lib.hid hyl
  clear hown hb hyl hrd HS2 q3 q4 q5 b5
  go_upto_region 5 with (first | ((with_reducible show wpList _ _ _ (_ :: _) _ _); (try rw [hwA]); refine wpList_store_row rfl 96 _ _ rfl _ _ rfl rfl _ _ q1 (by exact size_tn) (by rfl) (by simp [Value.oneCell']) ?_; rw [hwB]) | ((with_reducible show wpList _ _ _ (_ :: _) _ _); refine wpList_store_row rfl 98 _ _ rfl _ _ rfl rfl _ _ q2 (by exact size_st) (by rfl) (by simp [Value.oneCell']) ?_; rw [hwC]))
  clear hwA hwB hwC q1 q2
  obtain ⟨g12, hg12⟩ : ∃ g, g = wd.heap.size + 1 := ⟨_, rfl⟩
  rw [← hg12] at HB ⊢
  obtain ⟨g11, hg11⟩ : ∃ g, g = wd.heap.size := ⟨_, rfl⟩
  rw [← hg11] at HB ⊢
  clear hg11 hg12
  have b5 := HB.out.a.b5
  go_wp2_with (((with_reducible show wpList _ _ _ (_ :: _) _ _); refine wpList_load_row rfl 96 _ rfl _ rfl _ _ _ _ b5 Try.underlying96 rfl (by exact size_tn) ?_; (try go_simp)))
  go_at_call 49
  refine (own_tn p4 f t _).mono ?_
  rintro e we ⟨rfl, hb⟩
  have HB1 := Lib.hid (HB.out.step hb HB.out.sz)
  clear hb HB b5
  have HRN := Lib.hid (fun w => rNext_any p4 f t wk ls w HC.out.1 HC.out.2.1 hwk hls)
  go_wp2_with fail
  go_at_call 48
  refine (HRN.out _).mono ?_
  rintro e wf ⟨rfl, hb⟩
  rw [← HX.out]
  have hB2 := HB1.out.step hb HB1.out.sz
  have hal : Below wf.heap.size wf (wf.alloc (.cells #[.int .u8 x.p, .int .i8 (x.f 0), .int .i8 (x.f 1), .int .i8 (x.f 2), .int .i8 (x.f 3), .int .i8 (x.f 4), .int .i8 (x.f 5), .int .i8 (x.t 0), .int .i8 (x.t 1), .int .i8 (x.t 2), .int .i8 (x.t 3), .int .i8 (x.t 4), .int .i8 (x.t 5)] 102)) := by repeat' (first | (with_reducible exact Below.refl _ _) | (with_reducible assumption) | (with_reducible refine Below.setCell ?_ ?_ _) | (with_reducible refine Below.alloc ?_ ?_ _) | (with_reducible refine Below.drew ?_) | (with_reducible refine Below.drawsN ?_ _) | go_size)
  have h13 := heap_alloc_new wf (.cells #[.int .u8 x.p, .int .i8 (x.f 0), .int .i8 (x.f 1), .int .i8 (x.f 2), .int .i8 (x.f 3), .int .i8 (x.f 4), .int .i8 (x.f 5), .int .i8 (x.t 0), .int .i8 (x.t 1), .int .i8 (x.t 2), .int .i8 (x.t 3), .int .i8 (x.t 4), .int .i8 (x.t 5)] 102)
  obtain ⟨wg, hwg⟩ : ∃ wg, wf.alloc (.cells #[.int .u8 x.p, .int .i8 (x.f 0), .int .i8 (x.f 1), .int .i8 (x.f 2), .int .i8 (x.f 3), .int .i8 (x.f 4), .int .i8 (x.f 5), .int .i8 (x.t 0), .int .i8 (x.t 1), .int .i8 (x.t 2), .int .i8 (x.t 3), .int .i8 (x.t 4), .int .i8 (x.t 5)] 102) = wg := ⟨_, rfl⟩
  rw [hwg] at h13 hal
  have HB3 := Lib.hid (hB2.step hal hB2.sz)
  clear hb HB1 hal hB2 HRN
  go_upto_region 6 with ((with_reducible show wpList _ _ _ (_ :: _) _ _); refine wpList_store_row rfl 102 _ _ rfl _ _ rfl rfl _ _ (heap_alloc_new _ _) (by exact size_tr) (by rfl) (by simp [Value.oneCell']) ?_; rw [World.setRow_alloc_new, hwg])
  clear hwg
  obtain ⟨g13, hg13⟩ : ∃ g, g = wf.heap.size := ⟨_, rfl⟩
  rw [← hg13] at h13 ⊢
  clear hg13
  have b5 := HB3.out.a.b5
  have hal : Below wg.heap.size wg (wg.alloc (.cells #[.int .i8 (t 0), .int .i8 (t 1), .int .i8 (t 2), .int .i8 (t 3), .int .i8 (t 4), .int .i8 (t 5)] 67)) := by repeat' (first | (with_reducible exact Below.refl _ _) | (with_reducible assumption) | (with_reducible refine Below.setCell ?_ ?_ _) | (with_reducible refine Below.alloc ?_ ?_ _) | (with_reducible refine Below.drew ?_) | (with_reducible refine Below.drawsN ?_ _) | go_size)
  have h17 := heap_alloc_new wg (.cells #[.int .i8 (t 0), .int .i8 (t 1), .int .i8 (t 2), .int .i8 (t 3), .int .i8 (t 4), .int .i8 (t 5)] 67)
  obtain ⟨wh, hwh⟩ : ∃ wh, wg.alloc (.cells #[.int .i8 (t 0), .int .i8 (t 1), .int .i8 (t 2), .int .i8 (t 3), .int .i8 (t 4), .int .i8 (t 5)] 67) = wh := ⟨_, rfl⟩
  rw [hwh] at h17 hal
  have HB4 := Lib.hid (HB3.out.step hal HB3.out.sz)
  have hgl : g13 < wg.heap.size ∧ B ≤ wg.heap.size := ⟨box_lt h13, HB3.out.sz⟩
  have H13 := Lib.hid (box_below h13 hal (box_lt h13))
  clear hal HB3 h13
  go_upto_region 7 with (first | ((with_reducible show wpList _ _ _ (_ :: _) _ _); refine wpList_load_mid rfl 67 _ rfl _ 7 rfl [.int .i8 (t 0), .int .i8 (t 1), .int .i8 (t 2), .int .i8 (t 3), .int .i8 (t 4), .int .i8 (t 5)] _ (rgT b5) Try.underlying67 rfl (by exact size_ch) ?_; (try go_simp)) | ((with_reducible show wpList _ _ _ (_ :: _) _ _); refine wpList_store_row rfl 67 _ _ rfl _ _ rfl rfl _ _ (heap_alloc_new _ _) (by exact size_ch) (by rfl) (by simp [Value.oneCell']) ?_; rw [World.setRow_alloc_new, hwh]))
  clear hwh b5
  obtain ⟨g17, hg17⟩ : ∃ g, g = wg.heap.size := ⟨_, rfl⟩
  rw [← hg17] at h17 hgl ⊢
  have HGL := Lib.hid hgl
  clear hg17 hgl
  have H17 := Lib.hid h17
  clear h17
  obtain ⟨ab, hab⟩ : ∃ ab : Bool, ab = decide (p4 = 1 ∨ p4 = 2) := ⟨_, rfl⟩
  have c0 := ldTp HB4.out.a.b5
  simp only [Act.put]
  go_cut [53] (fun v wx => v = .bool ab ∧ wx = wh)
  case first =>
    by_cases p1 : p4 = 1
    · have q1 : (p4 == 1) = true := by simp [p1]
      have e : ab = true := by rw [hab]; simp [p1]
      have HE := Lib.hid e
      clear hab e p1
      go_wp2
      go_meet
      case rel => exact ⟨by rw [HE.out], rfl⟩
    · have q1 : (p4 == 1) = false := by simp [p1]
      have q2 : (p4 == 2) = ab := by rw [hab]; by_cases h2 : p4 = 2 <;> simp [p1, h2]
      clear hab p1
      go_wp2
      go_meet
      case rel => exact ⟨rfl, rfl⟩
  case rest =>
    obtain ⟨rfl, hwq⟩ := hcut
    obtain ⟨wi, hwi⟩ : ∃ wi, wi = wc := ⟨_, rfl⟩
    rw [← hwi] at hwq ⊢
    have HB5 := Lib.hid (show StB w wi g5 g9 g11 g12 p4 f t c x ya yl yc B by rw [hwq]; exact HB4.out)
    have k13 : wi.heap[g13]? = some (.cells #[.int .u8 x.p, .int .i8 (x.f 0), .int .i8 (x.f 1), .int .i8 (x.f 2), .int .i8 (x.f 3), .int .i8 (x.f 4), .int .i8 (x.f 5), .int .i8 (x.t 0), .int .i8 (x.t 1), .int .i8 (x.t 2), .int .i8 (x.t 3), .int .i8 (x.t 4), .int .i8 (x.t 5)] 102 (0, 0)) := by rw [hwq]; exact H13.out
    have k17 : wi.heap[g17]? = some (.cells #[.int .i8 (t 0), .int .i8 (t 1), .int .i8 (t 2), .int .i8 (t 3), .int .i8 (t 4), .int .i8 (t 5)] 67 (0, 0)) := by rw [hwq]; exact H17.out
    clear hwi hwq HB4 H13 H17 c0
    obtain ⟨A, hA⟩ : ∃ A, A = actC p4 f t := ⟨_, rfl⟩
    have HA := Lib.hid hA
    have HAB := Lib.hid hab
    clear hA hab
    go_upto_if 53 with fail
    go_cut [] (fun wx => StB w wx g5 g9 g11 g12 p4 f t c x ya yl yc B ∧ wx.heap[g13]? = some (.cells #[.int .u8 x.p, .int .i8 (x.f 0), .int .i8 (x.f 1), .int .i8 (x.f 2), .int .i8 (x.f 3), .int .i8 (x.f 4), .int .i8 (x.f 5), .int .i8 (x.t 0), .int .i8 (x.t 1), .int .i8 (x.t 2), .int .i8 (x.t 3), .int .i8 (x.t 4), .int .i8 (x.t 5)] 102 (0, 0)) ∧ wx.heap[g17]? = some (.cells #[.int .i8 (A 0), .int .i8 (A 1), .int .i8 (A 2), .int .i8 (A 3), .int .i8 (A 4), .int .i8 (A 5)] 67 (0, 0)))
    case first =>
      cases ab with
      | true =>
        have hAf : A = f := by
          rw [HA.out]
          unfold actC
          rw [if_pos (of_decide_eq_true HAB.out.symm)]
        have b5 := HB5.out.a.b5
        obtain ⟨wj, hwj⟩ : ∃ wj, wi.setRow g17 #[.int .i8 (f 0), .int .i8 (f 1), .int .i8 (f 2), .int .i8 (f 3), .int .i8 (f 4), .int .i8 (f 5)] = wj := ⟨_, rfl⟩
        have hrow : Below B wi (wi.setRow g17 #[.int .i8 (f 0), .int .i8 (f 1), .int .i8 (f 2), .int .i8 (f 3), .int .i8 (f 4), .int .i8 (f 5)]) := ⟨rfl, rfl, rfl, by simp [World.setRow], fun i hi => setRow_other _ g17 i _ (by have := HGL.out.2; omega)⟩
        have j17 := setRow_heap wi g17 _ #[.int .i8 (f 0), .int .i8 (f 1), .int .i8 (f 2), .int .i8 (f 3), .int .i8 (f 4), .int .i8 (f 5)] _ _ k17
        have j13 := (setRow_other wi g17 g13 #[.int .i8 (f 0), .int .i8 (f 1), .int .i8 (f 2), .int .i8 (f 3), .int .i8 (f 4), .int .i8 (f 5)] (Nat.ne_of_lt HGL.out.1)).trans k13
        have j5 := HB5.out.step hrow (Nat.le_refl _)
        rw [hwj] at j17 j13 j5
        have J := Lib.hid (show _ ∧ _ ∧ _ from ⟨j5, j13, j17⟩)
        have HAF := Lib.hid hAf
        clear hrow j17 j13 j5 hAf
        go_wp2_with (first | ((with_reducible show wpList _ _ _ (_ :: _) _ _); refine wpList_load_mid rfl 67 _ rfl _ 1 rfl [.int .i8 (f 0), .int .i8 (f 1), .int .i8 (f 2), .int .i8 (f 3), .int .i8 (f 4), .int .i8 (f 5)] _ (rgF b5) Try.underlying67 rfl (by exact size_ch) ?_; (try go_simp)) | (((with_reducible show wpList _ _ _ (_ :: _) _ _); refine wpList_store_row rfl 67 _ _ rfl _ _ rfl rfl _ _ k17 (by exact size_ch) (by rfl) (by simp [Value.oneCell']) ?_); rw [hwj]))
        go_meet
        case rel => rw [HAF.out]; exact J.out
      | false =>
        have hAt : A = t := by
          rw [HA.out]
          unfold actC
          rw [if_neg (of_decide_eq_false HAB.out.symm)]
        go_wp2
        go_meet
        case rel => rw [hAt]; exact ⟨HB5.out, k13, k17⟩
    case rest =>
      obtain ⟨hB6, h13, h17⟩ := hcut
      obtain ⟨wj, hwj⟩ : ∃ wj, wj = wc := ⟨_, rfl⟩
      rw [← hwj] at hB6 h13 h17 ⊢
      have HB6 := Lib.hid hB6
      clear hB6 hwj HB5 k13 k17
      go_upto_region 9 with fail
      have b5 := HB6.out.a.b5
      have b11 := HB6.out.b11
      have b12 := HB6.out.b12
      have l5 := box_lt b5
      have l11 := box_lt b11
      have l12 := box_lt b12
      have l13 := box_lt h13
      have l17 := box_lt h17
      obtain ⟨bz, hbz⟩ : ∃ bz : Bool, bz = (p4 != 0) := ⟨_, rfl⟩
      have hgt : decide (0 < p4) = bz := by
        rw [hbz]
        by_cases h : p4 = 0
        · simp [h]
        · have : 0 < p4 := by omega
          simp [h, this]
      have hokA : ChOk A := by rw [HA.out]; unfold actC; split; exact HC.out.1; exact HC.out.2.1
      have HBZ := Lib.hid hbz
      have HGT := Lib.hid hgt
      have hsz := HB6.out.sz
      clear hbz hgt
      obtain ⟨I, W, hne, hWI, hIW⟩ := Go.Mix.family (fun v => Below wj.heap.size wj v) (Below.refl _ _)
      have HJ := Lib.hid hIW
      have HW := Lib.hid hWI
      clear hWI hIW
      refine Go.Flo.wp_region (fun w' => ∃ i, w' = W i) 51 [Go.Flo.Spec.is (.agg #[.int .u8 x.p, .int .i8 (x.f 0), .int .i8 (x.f 1), .int .i8 (x.f 2), .int .i8 (x.f 3), .int .i8 (x.f 4), .int .i8 (x.f 5), .int .i8 (x.t 0), .int .i8 (x.t 1), .int .i8 (x.t 2), .int .i8 (x.t 3), .int .i8 (x.t 4), .int .i8 (x.t 5)]), Go.Flo.Spec.is (.bool true), Go.Flo.Spec.is (.agg #[.int .i8 (A 0), .int .i8 (A 1), .int .i8 (A 2), .int .i8 (A 3), .int .i8 (A 4), .int .i8 (A 5)]), Go.Flo.Spec.is (.bool bz), Go.Flo.Spec.is (.agg #[.int .u8 0, .int .i8 (A 0), .int .i8 (A 1), .int .i8 (A 2), .int .i8 (A 3), .int .i8 (A 4), .int .i8 (A 5), .int .i8 (A 0), .int .i8 (A 1), .int .i8 (A 2), .int .i8 (A 3), .int .i8 (A 4), .int .i8 (A 5)])] (by kernel_rfl) (by kernel_rfl) (by decide) (by rintro _ w' ⟨i, rfl⟩ hb; exact HJ.out _ ((HW.out i).trans (hb.mono (HW.out i).size))) (HJ.out _ (Below.refl _ _).drew) ?_
      simp only [Go.Flo.pair, Go.Mix.calm, List.take, List.drop, if_true, Bool.false_eq_true, if_false, Nat.reduceAdd, Nat.reduceSub]
      have he1 : ∀ w, (binOp .neq 102 (.agg #[.int .u8 x.p, .int .i8 (x.f 0), .int .i8 (x.f 1), .int .i8 (x.f 2), .int .i8 (x.f 3), .int .i8 (x.f 4), .int .i8 (x.f 5), .int .i8 (x.t 0), .int .i8 (x.t 1), .int .i8 (x.t 2), .int .i8 (x.t 3), .int .i8 (x.t 4), .int .i8 (x.t 5)]) (.agg #[.int .u8 x.p, .int .i8 (x.f 0), .int .i8 (x.f 1), .int .i8 (x.f 2), .int .i8 (x.f 3), .int .i8 (x.f 4), .int .i8 (x.f 5), .int .i8 (x.t 0), .int .i8 (x.t 1), .int .i8 (x.t 2), .int .i8 (x.t 3), .int .i8 (x.t 4), .int .i8 (x.t 5)])).run Try.prog w = .ok (.bool false) w := fun w => neqTr HXO.out.1 HXO.out.2.1 HXO.out.2.2.1 w
      have he2 : ∀ w, (binOp .neq 67 (.agg #[.int .i8 (A 0), .int .i8 (A 1), .int .i8 (A 2), .int .i8 (A 3), .int .i8 (A 4), .int .i8 (A 5)]) (.agg #[.int .i8 (A 0), .int .i8 (A 1), .int .i8 (A 2), .int .i8 (A 3), .int .i8 (A 4), .int .i8 (A 5)])).run Try.prog w = .ok (.bool false) w := fun w => by rw [neqCh hokA hokA, sameC_refl]; rfl
      have he3 : ∀ w, (binOp .neq 96 (.agg #[.int .u8 0, .int .i8 (A 0), .int .i8 (A 1), .int .i8 (A 2), .int .i8 (A 3), .int .i8 (A 4), .int .i8 (A 5), .int .i8 (A 0), .int .i8 (A 1), .int .i8 (A 2), .int .i8 (A 3), .int .i8 (A 4), .int .i8 (A 5)]) (.agg #[.int .u8 0, .int .i8 (A 0), .int .i8 (A 1), .int .i8 (A 2), .int .i8 (A 3), .int .i8 (A 4), .int .i8 (A 5), .int .i8 (A 0), .int .i8 (A 1), .int .i8 (A 2), .int .i8 (A 3), .int .i8 (A 4), .int .i8 (A 5)])).run Try.prog w = .ok (.bool false) w := fun w => neqTn ⟨by decide, by decide⟩ hokA hokA w
      have y0 : ∀ i, (W i).cell? ⟨g12, 0, none⟩ = some (.slice none 0 0) := fun i => ((HW.out i).cell (p := ⟨g12, 0, none⟩) l12).trans (cell_of_row _ _ 0 _ _ _ b12)
      have y1 : ∀ i, (W i).cell? ⟨g12, 1, none⟩ = some (.slice ya yl yc) := fun i => ((HW.out i).cell (p := ⟨g12, 1, none⟩) l12).trans (cell_of_row _ _ 1 _ _ _ b12)
      have y2 : ∀ i, (W i).cell? ⟨g12, 2, none⟩ = some (.bool x.d) := fun i => ((HW.out i).cell (p := ⟨g12, 2, none⟩) l12).trans (cell_of_row _ _ 2 _ _ _ b12)
      have y3 : ∀ i, (W i).cell? ⟨g12, 3, none⟩ = some (.int .u16 (x.q : Nat)) := fun i => ((HW.out i).cell (p := ⟨g12, 3, none⟩) l12).trans (cell_of_row _ _ 3 _ _ _ b12)
      have y5 : ∀ i, (W i).cell? ⟨g5, 0, none⟩ = some (.int .u8 p4) := fun i => ((HW.out i).cell (p := ⟨g5, 0, none⟩) l5).trans (cell_of_row _ _ 0 _ _ _ b5)
      repeat (first | (refine Go.Flo.fw_calm rfl ?_ (fun K hK => ?_); (first | exact Go.Mix.wanted_none rfl | exact Go.Mix.wanted_tt rfl rfl rfl | exact Go.Mix.wanted_ff rfl rfl rfl); refine Go.Flo.quiet_load_row 96 _ rfl _ rfl _ #[.int .u8 x.p, .int .i8 (x.f 0), .int .i8 (x.f 1), .int .i8 (x.f 2), .int .i8 (x.f 3), .int .i8 (x.f 4), .int .i8 (x.f 5), .int .i8 (x.t 0), .int .i8 (x.t 1), .int .i8 (x.t 2), .int .i8 (x.t 3), .int .i8 (x.t 4), .int .i8 (x.t 5)] _ (by rintro _ ⟨i, rfl⟩; exact ((HW.out i).block _ l11).trans b11) Try.underlying96 rfl size_tn ?_; go_simp; refine hK _ ?_; clear hK K) | (refine Go.Flo.fw_calm rfl ?_ (fun K hK => ?_); (first | exact Go.Mix.wanted_none rfl | exact Go.Mix.wanted_tt rfl rfl rfl | exact Go.Mix.wanted_ff rfl rfl rfl); refine Go.Flo.quiet_load_row 102 _ rfl _ rfl _ #[.int .u8 x.p, .int .i8 (x.f 0), .int .i8 (x.f 1), .int .i8 (x.f 2), .int .i8 (x.f 3), .int .i8 (x.f 4), .int .i8 (x.f 5), .int .i8 (x.t 0), .int .i8 (x.t 1), .int .i8 (x.t 2), .int .i8 (x.t 3), .int .i8 (x.t 4), .int .i8 (x.t 5)] _ (by rintro _ ⟨i, rfl⟩; exact ((HW.out i).block _ l13).trans h13) Try.underlying102 rfl size_tr ?_; go_simp; refine hK _ ?_; clear hK K) | (refine Go.Flo.fw_loud rfl ?_ rfl (by simp) (fun wv hwv hav K hK => ?_) (fun v hv K hK => ?_); (· (first | exact Go.Mix.wanted_none rfl | exact Go.Mix.wanted_tt rfl rfl rfl | exact Go.Mix.wanted_ff rfl rfl rfl)); (· obtain ⟨iv, rfl⟩ := hwv; have hbv := HW.out iv; (first | go_big_op | go_simp); go_at_call 49; refine (own_tn x.p x.f x.t _).mono ?_; rintro e w' ⟨rfl, hb⟩; skip; exact hK _ _ (Go.Flo.owes_is _ rfl hb)); (obtain rfl := hv.is; go_simp; refine hK _ ?_; clear hK K hv)) | (first | (refine Go.Flo.fw_calm rfl ?_ (fun K hK => ?_); (first | exact Go.Mix.wanted_none rfl | exact Go.Mix.wanted_tt rfl rfl rfl | exact Go.Mix.wanted_ff rfl rfl rfl); go_big_quiet_op; refine hK _ ?_; clear hK K) | (refine Go.Flo.fw_skip ?_ (fun K hK => ?_); (first | exact Go.Mix.wanted_tf rfl rfl rfl | exact Go.Mix.wanted_ft rfl rfl rfl); go_simp; refine hK _ ?_; clear hK K) | (refine Go.Flo.fw_any rfl ?_ (fun K hK => ?_); (first | exact Go.Mix.wanted_none rfl | exact Go.Mix.wanted_tt rfl rfl rfl | exact Go.Mix.wanted_ff rfl rfl rfl); go_simp; (try (go_ints; try go_simp)); refine hK _ ?_; clear hK K)))
      refine Go.Flo.fw_loud rfl ?_ rfl (by simp) (fun wv hwv hav K hK => ?_) (fun v hv K hK => ?_)
      · (first | exact Go.Mix.wanted_none rfl | exact Go.Mix.wanted_tt rfl rfl rfl | exact Go.Mix.wanted_ff rfl rfl rfl)
      · obtain ⟨iv, rfl⟩ := hwv
        have hbv := HW.out iv
        (first | go_big_op | go_simp)
        go_at_call 50
        refine (same_tn ya yl yc _ x.o _ HXO.out.2.2.2.1 HYL.out (Nat.le_trans hsz hbv.size) (HB6.out.rd.below' hbv hsz)).mono ?_
        rintro e w' ⟨rfl, hb⟩
        exact hK _ _ (Go.Flo.owes_is _ rfl hb)
      obtain rfl := hv.is
      go_simp
      refine hK _ ?_
      clear hK K hv
      have hgt := HGT.out
      repeat (first | (refine Go.Flo.fw_calm rfl ?_ (fun K hK => ?_); (first | exact Go.Mix.wanted_none rfl | exact Go.Mix.wanted_tt rfl rfl rfl | exact Go.Mix.wanted_ff rfl rfl rfl); refine Go.Flo.quiet_load_row 96 _ rfl _ rfl _ #[.int .u8 p4, .int .i8 (f 0), .int .i8 (f 1), .int .i8 (f 2), .int .i8 (f 3), .int .i8 (f 4), .int .i8 (f 5), .int .i8 (t 0), .int .i8 (t 1), .int .i8 (t 2), .int .i8 (t 3), .int .i8 (t 4), .int .i8 (t 5)] _ (by rintro _ ⟨i, rfl⟩; exact ((HW.out i).block _ l5).trans b5) Try.underlying96 rfl size_tn ?_; go_simp; refine hK _ ?_; clear hK K) | (refine Go.Flo.fw_calm rfl ?_ (fun K hK => ?_); (first | exact Go.Mix.wanted_none rfl | exact Go.Mix.wanted_tt rfl rfl rfl | exact Go.Mix.wanted_ff rfl rfl rfl); refine Go.Flo.quiet_load_row 67 _ rfl _ rfl _ #[.int .i8 (A 0), .int .i8 (A 1), .int .i8 (A 2), .int .i8 (A 3), .int .i8 (A 4), .int .i8 (A 5)] _ (by rintro _ ⟨i, rfl⟩; exact ((HW.out i).block _ l17).trans h17) Try.underlying67 rfl size_ch ?_; go_simp; refine hK _ ?_; clear hK K) | (refine Go.Flo.fw_loud rfl ?_ rfl (by simp) (fun wv hwv hav K hK => ?_) (fun v hv K hK => ?_); (· (first | exact Go.Mix.wanted_none rfl | exact Go.Mix.wanted_tt rfl rfl rfl | exact Go.Mix.wanted_ff rfl rfl rfl)); (· obtain ⟨iv, rfl⟩ := hwv; have hbv := HW.out iv; (first | go_big_op | go_simp); go_at_call 51; refine (Active_any p4 f t _).mono ?_; rintro e w' ⟨rfl, hb⟩; rw [← HA.out]; exact hK _ _ (Go.Flo.owes_is _ rfl hb)); (obtain rfl := hv.is; go_simp; refine hK _ ?_; clear hK K hv)) | (refine Go.Flo.fw_loud rfl ?_ rfl (by simp) (fun wv hwv hav K hK => ?_) (fun v hv K hK => ?_); (· (first | exact Go.Mix.wanted_none rfl | exact Go.Mix.wanted_tt rfl rfl rfl | exact Go.Mix.wanted_ff rfl rfl rfl)); (· obtain ⟨iv, rfl⟩ := hwv; have hbv := HW.out iv; (first | go_big_op | go_simp); go_at_call 52; refine (Busy_any p4 f t _).mono ?_; rintro e w' ⟨rfl, hb⟩; rw [← HBZ.out]; exact hK _ _ (Go.Flo.owes_is _ rfl hb)); (obtain rfl := hv.is; go_simp; refine hK _ ?_; clear hK K hv)) | (refine Go.Flo.fw_loud rfl ?_ rfl (by simp) (fun wv hwv hav K hK => ?_) (fun v hv K hK => ?_); (· (first | exact Go.Mix.wanted_none rfl | exact Go.Mix.wanted_tt rfl rfl rfl | exact Go.Mix.wanted_ff rfl rfl rfl)); (· obtain ⟨iv, rfl⟩ := hwv; have hbv := HW.out iv; (first | go_big_op | go_simp); go_at_call 53; refine (Stop_any p4 f t _).mono ?_; rintro e w' ⟨rfl, hb⟩; rw [← HA.out]; exact hK _ _ (Go.Flo.owes_is _ rfl hb)); (obtain rfl := hv.is; go_simp; refine hK _ ?_; clear hK K hv)) | (first | (refine Go.Flo.fw_calm rfl ?_ (fun K hK => ?_); (first | exact Go.Mix.wanted_none rfl | exact Go.Mix.wanted_tt rfl rfl rfl | exact Go.Mix.wanted_ff rfl rfl rfl); go_big_quiet_op; refine hK _ ?_; clear hK K) | (refine Go.Flo.fw_skip ?_ (fun K hK => ?_); (first | exact Go.Mix.wanted_tf rfl rfl rfl | exact Go.Mix.wanted_ft rfl rfl rfl); go_simp; refine hK _ ?_; clear hK K) | (refine Go.Flo.fw_any rfl ?_ (fun K hK => ?_); (first | exact Go.Mix.wanted_none rfl | exact Go.Mix.wanted_tt rfl rfl rfl | exact Go.Mix.wanted_ff rfl rfl rfl); go_simp; (try (go_ints; try go_simp)); refine hK _ ?_; clear hK K)))
      refine Go.Flo.fw_nil ?_
      intro wk hwwk hfwk huwk
      refine Go.Flo.tw_nil ?_
      obtain ⟨iend, hiend⟩ := hwwk
      have hbwk := HW.out iend
      rw [← hiend] at hbwk
      clear hiend iend huwk
      have HB7 := Lib.hid (HB6.out.step hbwk hsz)
      have h179 := box_below h17 hbwk (box_lt h17)
      clear hfwk HJ HW hne hbwk he1 he2 he3 y0 y1 y2 y3 y5 b5 b11 b12 l5 l11 l12 l13 l17 h13 h17 HB6 hsz hgt HGT
      clear W I
      have b5 := HB7.out.a.b5
      have b9 := HB7.out.a.b9
      go_upto_region 11 with fail
      by_cases hp0 : p4 = 0
      · have HZ := Lib.hid hp0
        have hAt : A = t := by rw [HA.out, hp0]; rfl
        rw [hAt] at h179
        clear hp0
        have HST := Lib.hid (fun w => Start_zero f t c pw w HZ.out HC.out.2.2 hpw)
        go_wp2_with (first | ((with_reducible show wpList _ _ _ (_ :: _) _ _); refine wpList_load_row rfl 96 _ rfl _ rfl _ _ _ _ b5 Try.underlying96 rfl (by exact size_tn) ?_; (try go_simp)) | ((with_reducible show wpList _ _ _ (_ :: _) _ _); refine wpList_load_row rfl 67 _ rfl _ rfl _ _ _ _ b9 Try.underlying67 rfl (by exact size_ch) ?_; (try go_simp)))
        go_at_call 54
        refine (HST.out _).mono ?_
        rintro e wl ⟨v, rfl, hown, hb⟩
        obtain ⟨za, zc, rfl⟩ := own_formZ hown
        obtain ⟨uc, huc⟩ : ∃ uc, uc = unitsS c 6 := ⟨_, rfl⟩
        have huc1 : uc < 65536 := by rw [huc]; exact unitsS_lt c 6
        rw [← huc] at hown ⊢
        obtain ⟨s, hs⟩ : ∃ s, s = lessS uc pw := ⟨_, rfl⟩
        have hs1 : s < 65536 := by rw [hs]; exact lessS_lt huc1
        rw [← hs] at hown ⊢
        obtain ⟨zn, hzl⟩ : ∃ zl, zl = (upTo s 16).length := ⟨_, rfl⟩
        rw [← hzl] at hown ⊢
        have hrd := rd_of_own (f := zv (upTo s 16)) hown (fun i hi => zl_zv (upTo s 16) i (by omega))
        skip
        obtain ⟨q1, q2, q3, q4, q5⟩ := pairBox wl #[.int .u8 1, .int .i8 (t 0), .int .i8 (t 1), .int .i8 (t 2), .int .i8 (t 3), .int .i8 (t 4), .int .i8 (t 5), .int .i8 (c 0), .int .i8 (c 1), .int .i8 (c 2), .int .i8 (c 3), .int .i8 (c 4), .int .i8 (c 5)] #[.slice za zn zc, .slice none 0 0, .bool false, .int .u16 0]
        obtain ⟨wA, hwA⟩ : ∃ xW, (wl.alloc (.cells #[.int .u8 0, .int .i8 0, .int .i8 0, .int .i8 0, .int .i8 0, .int .i8 0, .int .i8 0, .int .i8 0, .int .i8 0, .int .i8 0, .int .i8 0, .int .i8 0, .int .i8 0] 96)).alloc (.cells #[.slice none 0 0, .slice none 0 0, .bool false, .int .u16 0] 98) = xW := ⟨_, rfl⟩
        rw [hwA] at q1 q2 q3 q4 q5
        obtain ⟨wB, hwB⟩ : ∃ xW, wA.setRow wl.heap.size #[.int .u8 1, .int .i8 (t 0), .int .i8 (t 1), .int .i8 (t 2), .int .i8 (t 3), .int .i8 (t 4), .int .i8 (t 5), .int .i8 (c 0), .int .i8 (c 1), .int .i8 (c 2), .int .i8 (c 3), .int .i8 (c 4), .int .i8 (c 5)] = xW := ⟨_, rfl⟩
        rw [hwB] at q2 q3 q4 q5
        obtain ⟨wC, hwC⟩ : ∃ xW, wB.setRow (wl.heap.size + 1) #[.slice za zn zc, .slice none 0 0, .bool false, .int .u16 0] = xW := ⟨_, rfl⟩
        rw [hwC] at q3 q4 q5
        have HB8 := Lib.hid ((HB7.out.step hb HB7.out.sz).step q5 (HB7.out.step hb HB7.out.sz).sz)
        have h17 := box_below (box_below h179 hb (box_lt h179)) q5 (box_lt (box_below h179 hb (box_lt h179)))
        have HRD := Lib.hid ((hrd.below q5).mono q5.size)
        have HZL := Lib.hid (show uc = unitsS c 6 ∧ s = lessS uc pw ∧ zn = (upTo s 16).length from ⟨huc, hs, hzl⟩)
        clear hown hb huc hs hzl hrd HST HB7 h179 b5 b9
        have Q3 := Lib.hid q3
        have Q4 := Lib.hid q4
        clear q3 q4 q5
        go_upto_region 12 with (first | ((with_reducible show wpList _ _ _ (_ :: _) _ _); (try rw [hwA]); refine wpList_store_row rfl 96 _ _ rfl _ _ rfl rfl _ _ q1 (by exact size_tn) (by rfl) (by simp [Value.oneCell']) ?_; rw [hwB]) | ((with_reducible show wpList _ _ _ (_ :: _) _ _); refine wpList_store_row rfl 98 _ _ rfl _ _ rfl rfl _ _ q2 (by exact size_st) (by rfl) (by simp [Value.oneCell']) ?_; rw [hwC]))
        clear hwA hwB hwC q1 q2
        have b5 := HB8.out.a.b5
        have c0 := ldTp b5
        have hgt : decide (0 < p4) = false := by rw [HZ.out]; rfl
        go_upto_region 14 with fail
        clear c0 hgt
        have b9 := HB8.out.a.b9
        have q3 := Q3.out
        have q4 := Q4.out
        have l3 := box_lt q3
        have l4 := box_lt q4
        have l9 := box_lt b9
        have l17 := box_lt h17
        obtain ⟨I, W, hne, hWI, hIW⟩ := Go.Mix.family (fun v => Below wC.heap.size wC v) (Below.refl _ _)
        have HJ := Lib.hid hIW
        have HW := Lib.hid hWI
        clear hWI hIW
        refine Go.Flo.wp_region (fun w' => ∃ i, w' = W i) 25 [Go.Flo.Spec.is (.int .u16 (uc : Nat)), Go.Flo.Spec.is (.int .u16 (s : Nat)), Go.Flo.Spec.is (.bool true)] (by kernel_rfl) (by kernel_rfl) (by decide) (by rintro _ w' ⟨i, rfl⟩ hb; exact HJ.out _ ((HW.out i).trans (hb.mono (HW.out i).size))) (HJ.out _ (Below.refl _ _).drew) ?_
        simp only [Go.Flo.pair, Go.Mix.calm, List.take, List.drop, if_true, Bool.false_eq_true, if_false, Nat.reduceAdd, Nat.reduceSub]
        have he1 : ∀ w, (binOp .eql 96 (.agg #[.int .u8 1, .int .i8 (t 0), .int .i8 (t 1), .int .i8 (t 2), .int .i8 (t 3), .int .i8 (t 4), .int .i8 (t 5), .int .i8 (c 0), .int .i8 (c 1), .int .i8 (c 2), .int .i8 (c 3), .int .i8 (c 4), .int .i8 (c 5)]) (.agg #[.int .u8 1, .int .i8 (t 0), .int .i8 (t 1), .int .i8 (t 2), .int .i8 (t 3), .int .i8 (t 4), .int .i8 (t 5), .int .i8 (c 0), .int .i8 (c 1), .int .i8 (c 2), .int .i8 (c 3), .int .i8 (c 4), .int .i8 (c 5)])).run Try.prog w = .ok (.bool true) w := fun w => eqlTn ⟨by decide, by decide⟩ HC.out.2.1 HC.out.2.2 w
        have y0 : ∀ i, (W i).cell? ⟨wl.heap.size + 1, 0, none⟩ = some (.slice za zn zc) := fun i => ((HW.out i).cell (p := ⟨wl.heap.size + 1, 0, none⟩) l4).trans (cell_of_row _ _ 0 _ _ _ q4)
        have y1 : ∀ i, (W i).cell? ⟨wl.heap.size + 1, 1, none⟩ = some (.slice none 0 0) := fun i => ((HW.out i).cell (p := ⟨wl.heap.size + 1, 1, none⟩) l4).trans (cell_of_row _ _ 1 _ _ _ q4)
        repeat (first | (refine Go.Flo.fw_calm rfl ?_ (fun K hK => ?_); (first | exact Go.Mix.wanted_none rfl | exact Go.Mix.wanted_tt rfl rfl rfl | exact Go.Mix.wanted_ff rfl rfl rfl); refine Go.Flo.quiet_load_row 96 _ rfl _ rfl _ #[.int .u8 1, .int .i8 (t 0), .int .i8 (t 1), .int .i8 (t 2), .int .i8 (t 3), .int .i8 (t 4), .int .i8 (t 5), .int .i8 (c 0), .int .i8 (c 1), .int .i8 (c 2), .int .i8 (c 3), .int .i8 (c 4), .int .i8 (c 5)] _ (by rintro _ ⟨i, rfl⟩; exact ((HW.out i).block _ l3).trans q3) Try.underlying96 rfl size_tn ?_; go_simp; refine hK _ ?_; clear hK K) | (refine Go.Flo.fw_calm rfl ?_ (fun K hK => ?_); (first | exact Go.Mix.wanted_none rfl | exact Go.Mix.wanted_tt rfl rfl rfl | exact Go.Mix.wanted_ff rfl rfl rfl); refine Go.Flo.quiet_load_row 67 _ rfl _ rfl _ #[.int .i8 (t 0), .int .i8 (t 1), .int .i8 (t 2), .int .i8 (t 3), .int .i8 (t 4), .int .i8 (t 5)] _ (by rintro _ ⟨i, rfl⟩; exact ((HW.out i).block _ l17).trans h17) Try.underlying67 rfl size_ch ?_; go_simp; refine hK _ ?_; clear hK K) | (refine Go.Flo.fw_calm rfl ?_ (fun K hK => ?_); (first | exact Go.Mix.wanted_none rfl | exact Go.Mix.wanted_tt rfl rfl rfl | exact Go.Mix.wanted_ff rfl rfl rfl); refine Go.Flo.quiet_load_row 67 _ rfl _ rfl _ #[.int .i8 (c 0), .int .i8 (c 1), .int .i8 (c 2), .int .i8 (c 3), .int .i8 (c 4), .int .i8 (c 5)] _ (by rintro _ ⟨i, rfl⟩; exact ((HW.out i).block _ l9).trans b9) Try.underlying67 rfl size_ch ?_; go_simp; refine hK _ ?_; clear hK K) | (refine Go.Flo.fw_loud rfl ?_ rfl (by simp) (fun wv hwv hav K hK => ?_) (fun v hv K hK => ?_); (· (first | exact Go.Mix.wanted_none rfl | exact Go.Mix.wanted_tt rfl rfl rfl | exact Go.Mix.wanted_ff rfl rfl rfl)); (· obtain ⟨iv, rfl⟩ := hwv; have hbv := HW.out iv; (first | go_big_op | go_simp); go_at_call 56; refine (rUnits_any c _ HC.out.2.2).mono ?_; rintro e w' ⟨rfl, hb⟩; rw [← HZL.out.1]; exact hK _ _ (Go.Flo.owes_is _ rfl hb)); (obtain rfl := hv.is; go_simp; refine hK _ ?_; clear hK K hv)) | (first | (refine Go.Flo.fw_calm rfl ?_ (fun K hK => ?_); (first | exact Go.Mix.wanted_none rfl | exact Go.Mix.wanted_tt rfl rfl rfl | exact Go.Mix.wanted_ff rfl rfl rfl); go_big_quiet_op; refine hK _ ?_; clear hK K) | (refine Go.Flo.fw_skip ?_ (fun K hK => ?_); (first | exact Go.Mix.wanted_tf rfl rfl rfl | exact Go.Mix.wanted_ft rfl rfl rfl); go_simp; refine hK _ ?_; clear hK K) | (refine Go.Flo.fw_any rfl ?_ (fun K hK => ?_); (first | exact Go.Mix.wanted_none rfl | exact Go.Mix.wanted_tt rfl rfl rfl | exact Go.Mix.wanted_ff rfl rfl rfl); go_simp; (try (go_ints; try go_simp)); refine hK _ ?_; clear hK K)))
        refine Go.Flo.fw_loud rfl ?_ rfl (by simp) (fun wv hwv hav K hK => ?_) (fun v hv K hK => ?_)
        · (first | exact Go.Mix.wanted_none rfl | exact Go.Mix.wanted_tt rfl rfl rfl | exact Go.Mix.wanted_ff rfl rfl rfl)
        · obtain ⟨iv, rfl⟩ := hwv
          have hbv := HW.out iv
          (first | go_big_op | go_simp)
          go_at_call 55
          refine (rLess_any uc pw _ huc1 hpw).mono ?_
          rintro e w' ⟨rfl, rfl⟩
          rw [← HZL.out.2.1]
          exact hK _ _ (Go.Flo.owes_is _ rfl (Below.refl _ _))
        obtain rfl := hv.is
        go_simp
        refine hK _ ?_
        clear hK K hv
        refine Go.Flo.fw_loud rfl ?_ rfl (by simp) (fun wv hwv hav K hK => ?_) (fun v hv K hK => ?_)
        · (first | exact Go.Mix.wanted_none rfl | exact Go.Mix.wanted_tt rfl rfl rfl | exact Go.Mix.wanted_ff rfl rfl rfl)
        · obtain ⟨iv, rfl⟩ := hwv
          have hbv := HW.out iv
          (first | go_big_op | go_simp)
          go_at_call 50
          refine (same_tn za zn zc _ s _ hs1 HZL.out.2.2 (Nat.le_refl _) ((HRD.out.below hbv).mono hbv.size)).mono ?_
          rintro e w' ⟨rfl, hb⟩
          exact hK _ _ (Go.Flo.owes_is _ rfl hb)
        obtain rfl := hv.is
        go_simp
        refine hK _ ?_
        clear hK K hv
        (repeat (first | (refine Go.Flo.fw_calm rfl ?_ (fun K hK => ?_); (first | exact Go.Mix.wanted_none rfl | exact Go.Mix.wanted_tt rfl rfl rfl | exact Go.Mix.wanted_ff rfl rfl rfl); go_big_quiet_op; refine hK _ ?_; clear hK K) | (refine Go.Flo.fw_skip ?_ (fun K hK => ?_); (first | exact Go.Mix.wanted_tf rfl rfl rfl | exact Go.Mix.wanted_ft rfl rfl rfl); go_simp; refine hK _ ?_; clear hK K) | (refine Go.Flo.fw_any rfl ?_ (fun K hK => ?_); (first | exact Go.Mix.wanted_none rfl | exact Go.Mix.wanted_tt rfl rfl rfl | exact Go.Mix.wanted_ff rfl rfl rfl); go_simp; (try (go_ints; try go_simp)); refine hK _ ?_; clear hK K)))
        refine Go.Flo.fw_nil ?_
        intro wz hwwz hfwz huwz
        refine Go.Flo.tw_nil ?_
        obtain ⟨iend, hiend⟩ := hwwz
        have hbwz := HW.out iend
        rw [← hiend] at hbwz
        clear hiend iend huwz
        have HBZ9 := Lib.hid (HB8.out.a.be.trans (hbwz.mono HB8.out.a.be.size))
        clear hfwz HJ HW hne hbwz he1 y0 y1 HB8 b5 b9 q3 q4 h17
        go_wp2_with fail
        go_ret
        exact ⟨rfl, HBZ9.out⟩
      · have hgt : decide (0 < p4) = true := by
          have : 0 < p4 := by omega
          simp [this]
        have HST := Lib.hid (fun w => Start_busy p4 f t c pw w hp0)
        have HGT := Lib.hid hgt
        clear hgt
        go_wp2_with (first | ((with_reducible show wpList _ _ _ (_ :: _) _ _); refine wpList_load_row rfl 96 _ rfl _ rfl _ _ _ _ b5 Try.underlying96 rfl (by exact size_tn) ?_; (try go_simp)) | ((with_reducible show wpList _ _ _ (_ :: _) _ _); refine wpList_load_row rfl 67 _ rfl _ rfl _ _ _ _ b9 Try.underlying67 rfl (by exact size_ch) ?_; (try go_simp)))
        go_at_call 54
        refine (HST.out _).mono ?_
        rintro e wl ⟨rfl, hb⟩
        skip
        obtain ⟨q1, q2, q3, q4, q5⟩ := pairBox wl #[.int .u8 p4, .int .i8 (f 0), .int .i8 (f 1), .int .i8 (f 2), .int .i8 (f 3), .int .i8 (f 4), .int .i8 (f 5), .int .i8 (t 0), .int .i8 (t 1), .int .i8 (t 2), .int .i8 (t 3), .int .i8 (t 4), .int .i8 (t 5)] #[.slice none 0 0, .slice none 0 0, .bool false, .int .u16 0]
        obtain ⟨wA, hwA⟩ : ∃ xW, (wl.alloc (.cells #[.int .u8 0, .int .i8 0, .int .i8 0, .int .i8 0, .int .i8 0, .int .i8 0, .int .i8 0, .int .i8 0, .int .i8 0, .int .i8 0, .int .i8 0, .int .i8 0, .int .i8 0] 96)).alloc (.cells #[.slice none 0 0, .slice none 0 0, .bool false, .int .u16 0] 98) = xW := ⟨_, rfl⟩
        rw [hwA] at q1 q2 q3 q4 q5
        obtain ⟨wB, hwB⟩ : ∃ xW, wA.setRow wl.heap.size #[.int .u8 p4, .int .i8 (f 0), .int .i8 (f 1), .int .i8 (f 2), .int .i8 (f 3), .int .i8 (f 4), .int .i8 (f 5), .int .i8 (t 0), .int .i8 (t 1), .int .i8 (t 2), .int .i8 (t 3), .int .i8 (t 4), .int .i8 (t 5)] = xW := ⟨_, rfl⟩
        rw [hwB] at q2 q3 q4 q5
        obtain ⟨wC, hwC⟩ : ∃ xW, wB.setRow (wl.heap.size + 1) #[.slice none 0 0, .slice none 0 0, .bool false, .int .u16 0] = xW := ⟨_, rfl⟩
        rw [hwC] at q3 q4 q5
        have HB8 := Lib.hid ((HB7.out.step hb HB7.out.sz).step q5 (HB7.out.step hb HB7.out.sz).sz)
        clear hb HST HB7 h179 b5 b9
        have Q3 := Lib.hid q3
        have Q4 := Lib.hid q4
        clear q3 q4 q5
        go_upto_region 12 with (first | ((with_reducible show wpList _ _ _ (_ :: _) _ _); (try rw [hwA]); refine wpList_store_row rfl 96 _ _ rfl _ _ rfl rfl _ _ q1 (by exact size_tn) (by rfl) (by simp [Value.oneCell']) ?_; rw [hwB]) | ((with_reducible show wpList _ _ _ (_ :: _) _ _); refine wpList_store_row rfl 98 _ _ rfl _ _ rfl rfl _ _ q2 (by exact size_st) (by rfl) (by simp [Value.oneCell']) ?_; rw [hwC]))
        clear hwA hwB hwC q1 q2
        have b5 := HB8.out.a.b5
        have c0 := ldTp b5
        have hgt := HGT.out
        have q3 := Q3.out
        have d0 := cell_of_row _ _ 0 _ _ _ Q4.out
        have d1 := cell_of_row _ _ 1 _ _ _ Q4.out
        have he : ∀ w, (binOp .eql 96 (.agg #[.int .u8 p4, .int .i8 (f 0), .int .i8 (f 1), .int .i8 (f 2), .int .i8 (f 3), .int .i8 (f 4), .int .i8 (f 5), .int .i8 (t 0), .int .i8 (t 1), .int .i8 (t 2), .int .i8 (t 3), .int .i8 (t 4), .int .i8 (t 5)]) (.agg #[.int .u8 p4, .int .i8 (f 0), .int .i8 (f 1), .int .i8 (f 2), .int .i8 (f 3), .int .i8 (f 4), .int .i8 (f 5), .int .i8 (t 0), .int .i8 (t 1), .int .i8 (t 2), .int .i8 (t 3), .int .i8 (t 4), .int .i8 (t 5)])).run Try.prog w = .ok (.bool true) w := fun w => eqlTn ⟨hp40.1, by omega⟩ HC.out.1 HC.out.2.1 w
        go_wp2_with (first | (refine wpLoadGT (by (first | exact Go.Mix.wanted_none rfl | exact Go.Mix.wanted_tt rfl rfl rfl | exact Go.Mix.wanted_ff rfl rfl rfl)) 96 _ rfl _ rfl _ _ _ _ q3 Try.underlying96 rfl (by exact size_tn) ?_; (try go_simp)) | (refine wpLoadGT (by (first | exact Go.Mix.wanted_none rfl | exact Go.Mix.wanted_tt rfl rfl rfl | exact Go.Mix.wanted_ff rfl rfl rfl)) 96 _ rfl _ rfl _ _ _ _ b5 Try.underlying96 rfl (by exact size_tn) ?_; (try go_simp)))
        go_ret
        exact ⟨rfl, HB8.out.a.be⟩
end Go.Proofs.Ytboojcahflkkmaa
