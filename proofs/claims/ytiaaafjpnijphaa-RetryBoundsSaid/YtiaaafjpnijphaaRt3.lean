/- Layer 19: cleared counters; spent ones; few of a list; in a list; the document's example. -/
import Derived.Test.YtiaaafjpnijphaaRt2
import Derived.Test.YtiaaafjpnijphaaFloB
namespace Go.Proofs.Ytiaaafjpnijphaa
open Go.RowKit Go.Own
set_option linter.unusedVariables false
set_option linter.unusedSimpArgs false
def clearOne (c : Cx) (k : Int) : Cx := if 0 ≤ k ∧ k < 6 then c.setR k 0 else c
def clearR (c : Cx) (l : List Int) : Cx := l.foldl clearOne c
def Cx.calm (c : Cx) : Cx := ⟨c.f, c.i, c.r0, c.r1, c.r2, c.r3, c.r4, c.r5, c.c0, c.c1, c.c2, c.c3, c.c4, c.c5, c.m, c.n, false, c.h⟩
theorem clearR_snoc (c : Cx) (l : List Int) (k : Int) : clearR c (l ++ [k]) = clearOne (clearR c l) k := by simp [clearR]
theorem clearOne_good {c : Cx} (h : c.Ok) (k : Int) : (clearOne c k).Ok := by
  unfold clearOne
  split
  · exact c.setR_good k 0 h (by omega) (by omega)
  · exact h
theorem clearR_good {c : Cx} (h : c.Ok) (l : List Int) : (clearR c l).Ok := by
  unfold clearR
  induction l generalizing c with
  | nil => exact h
  | cons k l ih => exact ih (clearOne_good h k)
theorem calm_good {c : Cx} (h : c.Ok) : c.calm.Ok := by
  obtain ⟨a1, a2, a3, a4, a5, a6, a7, a8, a9, a10, a11, a12, a13, a14, a15, a16, a17⟩ := h
  exact ⟨a1, a2, a3, a4, a5, a6, a7, a8, a9, a10, a11, a12, a13, a14, a15, a16, a17⟩
theorem clearR_r (c : Cx) (l : List Int) (j : Int) (h0 : 0 ≤ j) (h6 : j < 6) : (clearR c l).r j = if j ∈ l then 0 else c.r j := by
  unfold clearR
  induction l generalizing c with
  | nil => simp
  | cons k l ih =>
    rw [List.foldl_cons, ih]
    by_cases hm : j ∈ l
    · simp [hm]
    · rw [if_neg hm]
      unfold clearOne
      by_cases hk : 0 ≤ k ∧ k < 6
      · rw [if_pos hk, c.setR_at _ _ _ h0 h6 hk.1 hk.2]
        by_cases e : j = k
        · simp [e]
        · simp [e, hm]
      · rw [if_neg hk]
        have e : ¬ j = k := by omega
        simp [e, hm]
/-- A role's cell. -/
theorem cx_cell (c : Cx) (k : Nat) (h : k < 6) : (#[.int .u16 c.f, .int .u16 c.i, .int .u8 c.r0, .int .u8 c.r1, .int .u8 c.r2, .int .u8 c.r3, .int .u8 c.r4, .int .u8 c.r5, .int .i8 c.c0, .int .i8 c.c1, .int .i8 c.c2, .int .i8 c.c3, .int .i8 c.c4, .int .i8 c.c5, .int .u8 c.m, .int .u16 c.n, .bool c.x, .int .u8 c.h] : Array Value)[2 + k]? = some (.int .u8 (c.r k)) := by
  have : k = 0 ∨ k = 1 ∨ k = 2 ∨ k = 3 ∨ k = 4 ∨ k = 5 := by omega
  rcases this with rfl | rfl | rfl | rfl | rfl | rfl <;> rfl
theorem cx_put (c : Cx) (k : Nat) (x : Int) (h : k < 6) : (#[.int .u16 c.f, .int .u16 c.i, .int .u8 c.r0, .int .u8 c.r1, .int .u8 c.r2, .int .u8 c.r3, .int .u8 c.r4, .int .u8 c.r5, .int .i8 c.c0, .int .i8 c.c1, .int .i8 c.c2, .int .i8 c.c3, .int .i8 c.c4, .int .i8 c.c5, .int .u8 c.m, .int .u16 c.n, .bool c.x, .int .u8 c.h] : Array Value).setIfInBounds (2 + k) (.int .u8 x) = #[.int .u16 (c.setR k x).f, .int .u16 (c.setR k x).i, .int .u8 (c.setR k x).r0, .int .u8 (c.setR k x).r1, .int .u8 (c.setR k x).r2, .int .u8 (c.setR k x).r3, .int .u8 (c.setR k x).r4, .int .u8 (c.setR k x).r5, .int .i8 (c.setR k x).c0, .int .i8 (c.setR k x).c1, .int .i8 (c.setR k x).c2, .int .i8 (c.setR k x).c3, .int .i8 (c.setR k x).c4, .int .i8 (c.setR k x).c5, .int .u8 (c.setR k x).m, .int .u16 (c.setR k x).n, .bool (c.setR k x).x, .int .u8 (c.setR k x).h] := by
  have : k = 0 ∨ k = 1 ∨ k = 2 ∨ k = 3 ∨ k = 4 ∨ k = 5 := by omega
  rcases this with rfl | rfl | rfl | rfl | rfl | rfl <;> rfl
/-- Where a clearing stands. -/
structure ClSt (w wr : World) (g1 g2 : Nat) (d : Cx) : Prop where
  be : Below w.heap.size w wr
  h1 : w.heap.size ≤ g1
  h2 : w.heap.size ≤ g2
  n1 : g1 ≠ g2
  bc : wr.heap[g1]? = some (.cells #[.int .u16 d.f, .int .u16 d.i, .int .u8 d.r0, .int .u8 d.r1, .int .u8 d.r2, .int .u8 d.r3, .int .u8 d.r4, .int .u8 d.r5, .int .i8 d.c0, .int .i8 d.c1, .int .i8 d.c2, .int .i8 d.c3, .int .i8 d.c4, .int .i8 d.c5, .int .u8 d.m, .int .u16 d.n, .bool d.x, .int .u8 d.h] 131 (0, 0))
  br : wr.heap[g2]? = some (.cells #[.int .u16 cxZero.f, .int .u16 cxZero.i, .int .u8 cxZero.r0, .int .u8 cxZero.r1, .int .u8 cxZero.r2, .int .u8 cxZero.r3, .int .u8 cxZero.r4, .int .u8 cxZero.r5, .int .i8 cxZero.c0, .int .i8 cxZero.c1, .int .i8 cxZero.c2, .int .i8 cxZero.c3, .int .i8 cxZero.c4, .int .i8 cxZero.c5, .int .u8 cxZero.m, .int .u16 cxZero.n, .bool cxZero.x, .int .u8 cxZero.h] 131 (0, 0))
theorem ClSt.put {w wr : World} {g1 g2 : Nat} {d : Cx} (h : ClSt w wr g1 g2 d) {k : Nat} (hk : k < 6) (x : Int) : ClSt w (wr.setCell ⟨g1, 2 + k, none⟩ (.int .u8 x)) g1 g2 (d.setR k x) := by
  have e := heap_setCell_same wr g1 (2 + k) _ _ (.int .u8 x) h.bc
  rw [cx_put d k x hk] at e
  exact ⟨h.be.setCell (p := ⟨g1, 2 + k, none⟩) h.h1 _, h.h1, h.h2, h.n1, e, (heap_setCell_other wr ⟨g1, 2 + k, none⟩ g2 _ (Ne.symm h.n1)).trans h.br⟩
theorem ClSt.res {w wr : World} {g1 g2 : Nat} {d : Cx} (h : ClSt w wr g1 g2 d) (d' : Cx) : (wr.setRow g2 #[.int .u16 d'.f, .int .u16 d'.i, .int .u8 d'.r0, .int .u8 d'.r1, .int .u8 d'.r2, .int .u8 d'.r3, .int .u8 d'.r4, .int .u8 d'.r5, .int .i8 d'.c0, .int .i8 d'.c1, .int .i8 d'.c2, .int .i8 d'.c3, .int .i8 d'.c4, .int .i8 d'.c5, .int .u8 d'.m, .int .u16 d'.n, .bool d'.x, .int .u8 d'.h]).heap[g2]? = some (.cells #[.int .u16 d'.f, .int .u16 d'.i, .int .u8 d'.r0, .int .u8 d'.r1, .int .u8 d'.r2, .int .u8 d'.r3, .int .u8 d'.r4, .int .u8 d'.r5, .int .i8 d'.c0, .int .i8 d'.c1, .int .i8 d'.c2, .int .i8 d'.c3, .int .i8 d'.c4, .int .i8 d'.c5, .int .u8 d'.m, .int .u16 d'.n, .bool d'.x, .int .u8 d'.h] 131 (0, 0)) ∧ Below w.heap.size w (wr.setRow g2 #[.int .u16 d'.f, .int .u16 d'.i, .int .u8 d'.r0, .int .u8 d'.r1, .int .u8 d'.r2, .int .u8 d'.r3, .int .u8 d'.r4, .int .u8 d'.r5, .int .i8 d'.c0, .int .i8 d'.c1, .int .i8 d'.c2, .int .i8 d'.c3, .int .i8 d'.c4, .int .i8 d'.c5, .int .u8 d'.m, .int .u16 d'.n, .bool d'.x, .int .u8 d'.h]) :=
  ⟨setRow_heap _ g2 _ _ _ _ h.br, bel_rowR h.be h.h2 _⟩
set_option maxRecDepth 100000 in
set_option maxHeartbeats 4000000 in
theorem Clear_any {m : Lm} {c : Cx} (a : Option Addr) (len cap n : Nat) (l : List Int) (w : World) (hl : l.length = len) (hn : n ≤ w.heap.size) (hr : Rd n w a len cap (Bs.iv l)) :
    Calls Try.prog 70 #[.agg #[.int .u8 m.l0, .int .u8 m.l1, .int .u8 m.l2, .int .u8 m.l3, .int .u8 m.l4, .int .u8 m.l5], .agg #[.int .u16 c.f, .int .u16 c.i, .int .u8 c.r0, .int .u8 c.r1, .int .u8 c.r2, .int .u8 c.r3, .int .u8 c.r4, .int .u8 c.r5, .int .i8 c.c0, .int .i8 c.c1, .int .i8 c.c2, .int .i8 c.c3, .int .i8 c.c4, .int .i8 c.c5, .int .u8 c.m, .int .u16 c.n, .bool c.x, .int .u8 c.h], .slice a len cap] w fun e w' => e = .returned (.agg #[.int .u16 (clearR c l).calm.f, .int .u16 (clearR c l).calm.i, .int .u8 (clearR c l).calm.r0, .int .u8 (clearR c l).calm.r1, .int .u8 (clearR c l).calm.r2, .int .u8 (clearR c l).calm.r3, .int .u8 (clearR c l).calm.r4, .int .u8 (clearR c l).calm.r5, .int .i8 (clearR c l).calm.c0, .int .i8 (clearR c l).calm.c1, .int .i8 (clearR c l).calm.c2, .int .i8 (clearR c l).calm.c3, .int .i8 (clearR c l).calm.c4, .int .i8 (clearR c l).calm.c5, .int .u8 (clearR c l).calm.m, .int .u16 (clearR c l).calm.n, .bool (clearR c l).calm.x, .int .u8 (clearR c l).calm.h]) ∧ Below w.heap.size w w' := by
  have hzc := zero_cx
  have h1 := hr.le
  have h2 := hr.top
  unfold maxLen at h2
  have HR := Lib.hid hr
  have HN := Lib.hid hn
  clear hr hn
  go_enter Try.func70, Try.ntmps70
  go_upto_region 1 with fail
  obtain ⟨ws, hws, hS⟩ : ∃ ws, ws = (((w.alloc (.cells #[.int .u8 m.l0, .int .u8 m.l1, .int .u8 m.l2, .int .u8 m.l3, .int .u8 m.l4, .int .u8 m.l5] 129)).alloc (.cells #[.int .u16 c.f, .int .u16 c.i, .int .u8 c.r0, .int .u8 c.r1, .int .u8 c.r2, .int .u8 c.r3, .int .u8 c.r4, .int .u8 c.r5, .int .i8 c.c0, .int .i8 c.c1, .int .i8 c.c2, .int .i8 c.c3, .int .i8 c.c4, .int .i8 c.c5, .int .u8 c.m, .int .u16 c.n, .bool c.x, .int .u8 c.h] 131)).alloc (.cells #[.int .u16 cxZero.f, .int .u16 cxZero.i, .int .u8 cxZero.r0, .int .u8 cxZero.r1, .int .u8 cxZero.r2, .int .u8 cxZero.r3, .int .u8 cxZero.r4, .int .u8 cxZero.r5, .int .i8 cxZero.c0, .int .i8 cxZero.c1, .int .i8 cxZero.c2, .int .i8 cxZero.c3, .int .i8 cxZero.c4, .int .i8 cxZero.c5, .int .u8 cxZero.m, .int .u16 cxZero.n, .bool cxZero.x, .int .u8 cxZero.h] 131)) ∧ ClSt w ws (w.heap.size + 1) (w.heap.size + 1 + 1) c := by
    obtain ⟨f0, f1, f2⟩ := al3 w (.cells #[.int .u8 m.l0, .int .u8 m.l1, .int .u8 m.l2, .int .u8 m.l3, .int .u8 m.l4, .int .u8 m.l5] 129) (.cells #[.int .u16 c.f, .int .u16 c.i, .int .u8 c.r0, .int .u8 c.r1, .int .u8 c.r2, .int .u8 c.r3, .int .u8 c.r4, .int .u8 c.r5, .int .i8 c.c0, .int .i8 c.c1, .int .i8 c.c2, .int .i8 c.c3, .int .i8 c.c4, .int .i8 c.c5, .int .u8 c.m, .int .u16 c.n, .bool c.x, .int .u8 c.h] 131) (.cells #[.int .u16 cxZero.f, .int .u16 cxZero.i, .int .u8 cxZero.r0, .int .u8 cxZero.r1, .int .u8 cxZero.r2, .int .u8 cxZero.r3, .int .u8 cxZero.r4, .int .u8 cxZero.r5, .int .i8 cxZero.c0, .int .i8 cxZero.c1, .int .i8 cxZero.c2, .int .i8 cxZero.c3, .int .i8 cxZero.c4, .int .i8 cxZero.c5, .int .u8 cxZero.m, .int .u16 cxZero.n, .bool cxZero.x, .int .u8 cxZero.h] 131)
    exact ⟨_, rfl, by repeat' (first | (with_reducible exact Below.refl _ _) | (with_reducible assumption) | (with_reducible refine Below.setCell ?_ ?_ _) | (with_reducible refine Below.alloc ?_ ?_ _) | (with_reducible refine Below.drew ?_) | (with_reducible refine Below.drawsN ?_ _) | go_size), by omega, by omega, by omega, f1, f2⟩
  rw [← hws]
  obtain ⟨g2, hg2⟩ : ∃ g, g = w.heap.size + 1 + 1 := ⟨_, rfl⟩
  rw [← hg2] at hS ⊢
  obtain ⟨g1, hg1⟩ : ∃ g, g = w.heap.size + 1 := ⟨_, rfl⟩
  rw [← hg1] at hS ⊢
  have HS := Lib.hid hS
  clear hS hws hg2 hg1 hzc
  go_wp2_with fail
  go_loopw [11] (fun i wr => ∃ (j : Nat), j ≤ len ∧ i = .int .i64 j ∧ ClSt w wr g1 g2 (clearR c (l.take j))) (fun i _ => len - (intOf i).toNat)
  case atStart => exact ⟨0, Nat.zero_le _, rfl, HS.out⟩
  case round =>
    obtain ⟨j, hj, rfl, hS⟩ := hrel
    clear HS
    by_cases hlt : j < len
    · obtain ⟨bb, off, rfl, hbb, hc0⟩ := HR.out.at hlt
      have hcx := (hS.be.cell (p := ⟨bb, off + j, none⟩) (show bb < w.heap.size by have := HN.out; omega)).trans hc0
      unfold Bs.iv at hcx
      obtain ⟨x, hx⟩ : ∃ x, x = l.getD j 0 := ⟨_, rfl⟩
      have ht : clearR c (l.take (j + 1)) = clearOne (clearR c (l.take j)) x := by rw [hx, Bs.takeI_succ l (by omega), clearR_snoc]
      rw [← hx] at hcx
      obtain ⟨q, hq⟩ : ∃ q, q = clearR c (l.take j) := ⟨_, rfl⟩
      rw [← hq] at ht hS
      have HS := Lib.hid hS
      have HT := Lib.hid ht
      clear hS ht hx hc0 hq
      by_cases hk : 0 ≤ x ∧ x < 6
      · obtain ⟨k, rfl⟩ := Int.eq_ofNat_of_zero_le hk.1
        have hk6 : k < 6 := by omega
        have hT2 := HT.out
        unfold clearOne at hT2
        rw [if_pos hk] at hT2
        have hd : decide (0 ≤ (k : Int) ∧ (k : Int) < 6) = true := decide_eq_true hk
        have HP := Lib.hid (HS.out.put hk6 0)
        have kc : wr.cell? ⟨g1, 2 + k, none⟩ = some (.int .u8 (q.r k)) := by rw [cell_of_row _ g1 (2 + k) _ _ _ HS.out.bc, cx_cell q k hk6]
        have kz : wr.frozen? ⟨g1, 2 + k, none⟩ = false := frozen_of_row _ g1 (2 + k) _ _ HS.out.bc
        have HT2 := Lib.hid hT2
        have HD := Lib.hid hd
        clear hT2 HT hk HS hd
        go_wp2_with fail
        go_at_call 108
        refine (isRole_any _ _).mono ?_
        rintro e w2 ⟨rfl, rfl⟩
        rw [HD.out]
        go_wp2_with fail
        go_roundw
        case rel => exact ⟨j + 1, by omega, by go_num, by rw [HT2.out]; exact HP.out⟩
        case measure => simp [intOf]; omega
      · have hT2 := HT.out
        unfold clearOne at hT2
        rw [if_neg hk] at hT2
        have hd : decide (0 ≤ x ∧ x < 6) = false := decide_eq_false hk
        have HT2 := Lib.hid hT2
        have HD := Lib.hid hd
        clear hT2 HT hk hd
        go_wp2_with fail
        go_at_call 108
        refine (isRole_any _ _).mono ?_
        rintro e w2 ⟨rfl, rfl⟩
        rw [HD.out]
        go_wp2_with fail
        go_roundw
        case rel => exact ⟨j + 1, by omega, by go_num, by rw [HT2.out]; exact HS.out⟩
        case measure => simp [intOf]; omega
    · obtain rfl : j = len := by omega
      have ht : l.take j = l := List.take_of_length_le (by omega)
      rw [ht] at hS
      obtain ⟨q, hq⟩ : ∃ q, q = clearR c l := ⟨_, rfl⟩
      rw [← hq] at hS
      have HQ := Lib.hid hq
      have k16 : wr.cell? ⟨g1, 16, none⟩ = some (.bool q.x) := cell_of_row _ g1 16 _ _ _ hS.bc
      have z16 : wr.frozen? ⟨g1, 16, none⟩ = false := frozen_of_row _ g1 16 _ _ hS.bc
      have hS2 : ClSt w (wr.setCell ⟨g1, 16, none⟩ (.bool false)) g1 g2 q.calm := by
        have e := heap_setCell_same wr g1 16 _ _ (.bool false) hS.bc
        exact ⟨hS.be.setCell (p := ⟨g1, 16, none⟩) hS.h1 _, hS.h1, hS.h2, hS.n1, e, (heap_setCell_other wr ⟨g1, 16, none⟩ g2 _ (Ne.symm hS.n1)).trans hS.br⟩
      have HS2 := Lib.hid hS2
      clear ht hq hS hS2
      go_upto_region 8 with fail
      obtain ⟨w3, hw3⟩ : ∃ w3, w3 = wr.setCell ⟨g1, 16, none⟩ (.bool false) := ⟨_, rfl⟩
      rw [← hw3] at HS2 ⊢
      have b1 := HS2.out.bc
      have b2 := HS2.out.br
      have R := HS2.out.res q.calm
      clear hw3 k16 z16
      go_wp2_with (first | (refine wpList_load_row rfl 131 _ rfl _ rfl _ _ _ _ b1 Try.underlying131 rfl (by exact size_cx) ?_; (try go_simp)) | (refine wpList_store_row rfl 131 _ _ rfl _ _ rfl rfl _ _ b2 (by exact size_cx) (by rfl) (by simp [Value.oneCell']) ?_; (try go_simp)))
      refine bodyPost_ret (results_cell_row rfl _ _ _ _ _ _ _ rfl R.1 Try.underlying131 rfl size_cx) rfl ?_
      exact ⟨by rw [← HQ.out], R.2⟩
/-- Which roles may not any more. -/
def spentS (m : Lm) (c : Cx) : Nat → Nat
  | 0 => 0
  | k + 1 => if canR m c k then spentS m c k else spentS m c k ||| 2 ^ k
theorem spent_one (m : Lm) (c : Cx) (k : Int) : (spendR m c [k]).2 = canR m c k := by
  unfold spendR
  simp only [spend, oneMore]
  cases h : canR m c k <;> simp
theorem spentS_lt (m : Lm) (c : Cx) : ∀ k, k ≤ 6 → spentS m c k < 64
  | 0, _ => by simp [spentS]
  | k + 1, h => by
    have := spentS_lt m c k (by omega)
    unfold spentS
    split
    · exact this
    · exact Nat.or_lt_two_pow (n := 6) this (Nat.lt_of_lt_of_le (Nat.pow_lt_pow_right (by decide) (show k < 6 by omega)) (by decide))
set_option maxRecDepth 100000 in
set_option maxHeartbeats 4000000 in
theorem Spent_any {m : Lm} {c : Cx} (w : World) (hm : m.Ok) (hok : c.Ok) : Calls Try.prog 71 #[.agg #[.int .u8 m.l0, .int .u8 m.l1, .int .u8 m.l2, .int .u8 m.l3, .int .u8 m.l4, .int .u8 m.l5], .agg #[.int .u16 c.f, .int .u16 c.i, .int .u8 c.r0, .int .u8 c.r1, .int .u8 c.r2, .int .u8 c.r3, .int .u8 c.r4, .int .u8 c.r5, .int .i8 c.c0, .int .i8 c.c1, .int .i8 c.c2, .int .i8 c.c3, .int .i8 c.c4, .int .i8 c.c5, .int .u8 c.m, .int .u16 c.n, .bool c.x, .int .u8 c.h]] w fun e w' => e = .returned (.int .u16 (spentS m c 6 : Nat)) ∧ Below w.heap.size w w' := by
  have h0 := heap_alloc2_old w (.cells #[.int .u8 m.l0, .int .u8 m.l1, .int .u8 m.l2, .int .u8 m.l3, .int .u8 m.l4, .int .u8 m.l5] 129) (.cells #[.int .u16 c.f, .int .u16 c.i, .int .u8 c.r0, .int .u8 c.r1, .int .u8 c.r2, .int .u8 c.r3, .int .u8 c.r4, .int .u8 c.r5, .int .i8 c.c0, .int .i8 c.c1, .int .i8 c.c2, .int .i8 c.c3, .int .i8 c.c4, .int .i8 c.c5, .int .u8 c.m, .int .u16 c.n, .bool c.x, .int .u8 c.h] 131)
  have h1 := heap_alloc2_new w (.cells #[.int .u8 m.l0, .int .u8 m.l1, .int .u8 m.l2, .int .u8 m.l3, .int .u8 m.l4, .int .u8 m.l5] 129) (.cells #[.int .u16 c.f, .int .u16 c.i, .int .u8 c.r0, .int .u8 c.r1, .int .u8 c.r2, .int .u8 c.r3, .int .u8 c.r4, .int .u8 c.r5, .int .i8 c.c0, .int .i8 c.c1, .int .i8 c.c2, .int .i8 c.c3, .int .i8 c.c4, .int .i8 c.c5, .int .u8 c.m, .int .u16 c.n, .bool c.x, .int .u8 c.h] 131)
  have hb0 : Below w.heap.size w ((w.alloc (.cells #[.int .u8 m.l0, .int .u8 m.l1, .int .u8 m.l2, .int .u8 m.l3, .int .u8 m.l4, .int .u8 m.l5] 129)).alloc (.cells #[.int .u16 c.f, .int .u16 c.i, .int .u8 c.r0, .int .u8 c.r1, .int .u8 c.r2, .int .u8 c.r3, .int .u8 c.r4, .int .u8 c.r5, .int .i8 c.c0, .int .i8 c.c1, .int .i8 c.c2, .int .i8 c.c3, .int .i8 c.c4, .int .i8 c.c5, .int .u8 c.m, .int .u16 c.n, .bool c.x, .int .u8 c.h] 131)) := by repeat' (first | (with_reducible exact Below.refl _ _) | (with_reducible assumption) | (with_reducible refine Below.setCell ?_ ?_ _) | (with_reducible refine Below.alloc ?_ ?_ _) | (with_reducible refine Below.drew ?_) | (with_reducible refine Below.drawsN ?_ _) | go_size)
  go_enter Try.func71, Try.ntmps71
  go_upto_region 1 with fail
  obtain ⟨w1, hw1⟩ : ∃ w1, w1 = (w.alloc (.cells #[.int .u8 m.l0, .int .u8 m.l1, .int .u8 m.l2, .int .u8 m.l3, .int .u8 m.l4, .int .u8 m.l5] 129)).alloc (.cells #[.int .u16 c.f, .int .u16 c.i, .int .u8 c.r0, .int .u8 c.r1, .int .u8 c.r2, .int .u8 c.r3, .int .u8 c.r4, .int .u8 c.r5, .int .i8 c.c0, .int .i8 c.c1, .int .i8 c.c2, .int .i8 c.c3, .int .i8 c.c4, .int .i8 c.c5, .int .u8 c.m, .int .u16 c.n, .bool c.x, .int .u8 c.h] 131) := ⟨_, rfl⟩
  rw [← hw1] at h0 h1 hb0 ⊢
  have H0 := Lib.hid h0
  have H1 := Lib.hid h1
  have HB := Lib.hid hb0
  obtain ⟨g1, hg1⟩ : ∃ g, g = w.heap.size + 1 := ⟨_, rfl⟩
  rw [← hg1] at H1 ⊢
  obtain ⟨g0, hg0⟩ : ∃ g, g = w.heap.size := ⟨_, rfl⟩
  rw [show (Value.pointer (some ⟨w.heap.size, 0, none⟩)) = .pointer (some ⟨g0, 0, none⟩) by rw [hg0]]
  have H0 := Lib.hid (show w1.heap[g0]? = some (.cells #[.int .u8 m.l0, .int .u8 m.l1, .int .u8 m.l2, .int .u8 m.l3, .int .u8 m.l4, .int .u8 m.l5] 129 (0, 0)) by rw [hg0]; exact H0.out)
  clear hw1 h0 h1 hb0 hg1 hg0
  go_wp2_with fail
  go_loopw [5, 7] (fun v i wr => ∃ k : Nat, k ≤ 6 ∧ i = .int .i64 k ∧ v = .int .u16 (spentS m c k : Nat) ∧ Below w1.heap.size w1 wr) (fun _ i _ => 6 - (intOf i).toNat)
  case atStart => exact ⟨0, Nat.zero_le _, rfl, rfl, Below.refl _ _⟩
  case round =>
    obtain ⟨k, hk, rfl, rfl, hB⟩ := hrel
    have h0 := box_below H0.out hB (box_lt H0.out)
    have h1 := box_below H1.out hB (box_lt H1.out)
    have hz := spentS_lt m c k hk
    obtain ⟨s, hs⟩ : ∃ s, s = spentS m c k := ⟨_, rfl⟩
    rw [← hs] at hz ⊢
    have HB2 := Lib.hid (HB.out.trans (hB.mono HB.out.size))
    have HBB := Lib.hid hB
    have HS := Lib.hid hs
    clear hB hs
    by_cases hlt : k < 6
    · have hk16 : ((k : Int) < 6) := by omega
      have hal : Below wr.heap.size wr (wr.alloc (.cells #[.int .i64 (k : Nat)] 3)) := (Below.refl _ _).alloc (Nat.le_refl _) _
      have hrd : Rd (wr.heap.size + 1) (wr.alloc (.cells #[.int .i64 (k : Nat)] 3)) (some ⟨wr.heap.size, 0, none⟩) 1 1 (Bs.iv [(k : Int)]) := by
        refine ⟨Nat.le_refl _, by unfold maxLen; omega, (fun h => by cases h), fun _ => ⟨_, _, rfl, by omega, fun i hi => ?_⟩⟩
        obtain rfl : i = 0 := by omega
        exact cell_of_row _ _ 0 _ _ _ (heap_alloc_new _ _)
      obtain ⟨d, b, hd⟩ : ∃ d b, spendR m c [(k : Int)] = (d, b) := ⟨_, _, rfl⟩
      have hb : b = canR m c k := by rw [← spent_one, hd]
      have HD := Lib.hid hd
      have HBV := Lib.hid hb
      have HRD := Lib.hid hrd
      have HAL := Lib.hid hal
      clear hd hb hrd hal
      go_wp2_with (first | (refine wpList_load_row rfl 129 _ rfl _ rfl _ _ _ _ h0 Try.underlying129 rfl (by exact size_lm) ?_; (try go_simp)) | (refine wpList_load_row rfl 131 _ rfl _ rfl _ _ _ _ h1 Try.underlying131 rfl (by exact size_cx) ?_; (try go_simp)))
      go_at_call 65
      refine (May_det _ 1 1 _ [(k : Int)] _ hm hok rfl (by simp) HRD.out HD.out).mono ?_
      rintro e w2 ⟨rfl, hb2⟩
      have hb3 := HAL.out.trans (hb2.mono HAL.out.size)
      have HB3 := Lib.hid (HBB.out.trans (hb3.mono HBB.out.size))
      clear hb2 hb3 h0 h1
      cases b with
      | true =>
        have e1 : spentS m c (k + 1) = s := by rw [HS.out]; show (if canR m c k then _ else _) = _; rw [← HBV.out, if_pos rfl]
        have HE := Lib.hid e1
        clear e1
        go_wp2_with fail
        go_roundw
        case rel => exact ⟨k + 1, by omega, by go_num, by rw [HE.out], HB3.out⟩
        case measure => simp [intOf]; omega
      | false =>
        have e1 : spentS m c (k + 1) = s ||| 2 ^ k := by rw [HS.out]; show (if canR m c k then _ else _) = _; rw [← HBV.out, if_neg (by simp)]
        have hal2 : Below w2.heap.size w2 (w2.alloc (.cells #[.int .i64 (k : Nat)] 3)) := (Below.refl _ _).alloc (Nat.le_refl _) _
        have hrd2 : Rd (w2.heap.size + 1) (w2.alloc (.cells #[.int .i64 (k : Nat)] 3)) (some ⟨w2.heap.size, 0, none⟩) 1 1 (Bs.iv [(k : Int)]) := by
          refine ⟨Nat.le_refl _, by unfold maxLen; omega, (fun h => by cases h), fun _ => ⟨_, _, rfl, by omega, fun i hi => ?_⟩⟩
          obtain rfl : i = 0 := by omega
          exact cell_of_row _ _ 0 _ _ _ (heap_alloc_new _ _)
        have e2 : Bs.withS s [(k : Int)] = s ||| 2 ^ k := by
          unfold Bs.withS Bs.bit1
          simp only [List.foldl_cons, List.foldl_nil]
          rw [if_pos (by omega), Int.toNat_natCast]
        have HE := Lib.hid e1
        have HE2 := Lib.hid e2
        have HRD2 := Lib.hid hrd2
        have HAL2 := Lib.hid hal2
        clear e1 e2 hrd2 hal2
        go_wp2_with fail
        go_at_call 100
        refine (Bs.With_any _ 1 1 _ s [(k : Int)] _ (by omega) rfl (by simp) HRD2.out).mono ?_
        rintro e w3 ⟨rfl, hb4⟩
        rw [HE2.out]
        have hb5 := HAL2.out.trans (hb4.mono HAL2.out.size)
        have HB5 := Lib.hid (HB3.out.trans (hb5.mono HB3.out.size))
        clear hb4 hb5
        go_wp2_with fail
        go_roundw
        case rel => exact ⟨k + 1, by omega, by go_num, by rw [HE.out], HB5.out⟩
        case measure => simp [intOf]; omega
    · obtain rfl : k = 6 := by omega
      clear h0 h1
      go_wp2_with fail
      go_ret
      exact ⟨by rw [← HS.out]; rfl, HB2.out⟩
/-- The cells of a row of numbers. -/
def ziv (l : List Int) : List Value := l.map (Value.int .i64)
theorem ziv_at (l : List Int) (i : Nat) (h : i < l.length) : (ziv l)[i]? = some (Bs.iv l i) := by simp [ziv, Bs.iv, List.getD, h]
theorem info_intR : (Try.prog.info? 3).map (fun i => (i.zero, i.size, i.bytes)) = some (some (.int .i64 0), 1, 8) := by kernel_rfl
theorem int_newR (w : World) (x : Int) : ∀ (i : Nat) (u : Value), [Value.int .i64 x][i]? = some u → (w.alloc (.cells #[.int .i64 x] 3)).cell? ((⟨w.heap.size, 0, none⟩ : Addr).add i) = some u := cell_one_new _ _ _
set_option maxRecDepth 100000 in
set_option maxHeartbeats 4000000 in
theorem Few_any (a : Option Addr) (len cap n : Nat) (l : List Int) (most : Nat) (w : World) (hm : most ≤ 1000) (hl : l.length = len) (hn : n ≤ w.heap.size) (hr : Rd n w a len cap (Bs.iv l)) :
    Calls Try.prog 63 #[.slice a len cap, .int .i64 (most : Nat)] w fun e w' => ∃ v, e = .returned v ∧ w'.ownsRow w.heap.size 3 1 v (l.take most).length (ziv (l.take most)) ∧ Below w.heap.size w w' := by
  obtain ⟨i0, hi, hz0, hz1, hz2⟩ := info_parts info_intR
  have h1 := hr.le
  have h2 := hr.top
  unfold maxLen at h2
  have HR := Lib.hid hr
  have HN := Lib.hid hn
  clear hr hn
  go_enter Try.func63, Try.ntmps63
  go_wp2_with fail
  go_loopw [5, 10] (fun v i wr => ∃ k : Nat, k ≤ len ∧ i = .int .i64 k ∧ wr.ownsRow w.heap.size 3 1 v (l.take (min k most)).length (ziv (l.take (min k most))) ∧ Below w.heap.size w wr) (fun _ i _ => len - (intOf i).toNat)
  case atStart => exact ⟨0, Nat.zero_le _, rfl, by simpa [ziv] using World.ownsRow_nil _ _ _ _, Below.refl _ _⟩
  case round =>
    obtain ⟨k, hk, rfl, hO, hB⟩ := hrel
    by_cases hlt : k < len
    · obtain ⟨bb, off, rfl, hbb, hc0⟩ := HR.out.at hlt
      have hcx := (hB.cell (p := ⟨bb, off + k, none⟩) (show bb < w.heap.size by have := HN.out; omega)).trans hc0
      unfold Bs.iv at hcx
      obtain ⟨x, hx⟩ : ∃ x, x = l.getD k 0 := ⟨_, rfl⟩
      rw [← hx] at hcx
      have HO := Lib.hid hO
      have HB := Lib.hid hB
      have HX := Lib.hid hx
      clear hO hB hx hc0
      by_cases hkm : k < most
      · have hs := HB.out.size
        have e1 : l.take (min (k + 1) most) = l.take (min k most) ++ [x] := by
          rw [show min (k + 1) most = k + 1 by omega, show min k most = k by omega, HX.out]
          exact Bs.takeI_succ l (by omega)
        have e2 : (l.take (min k most)).length = k := by rw [List.length_take]; omega
        have HE := Lib.hid e1
        have HO2 := HO.out
        rw [e2] at HO2
        have HO3 := Lib.hid HO2
        have HE2 := Lib.hid e2
        clear e1 e2 HO HO2
        go_wp2_with (at_builtin; refine wpList_append_own _ rfl _ _ 29 rfl w.heap.size 3 i0 (.int .i64 0) 1 8 Try.underlying29 hi hz0 hz1 hz2 rfl (by decide) _ _ _ rfl (HO3.out.alloc _) ⟨wr.heap.size, 0, none⟩ 1 1 [.int .i64 x] rfl rfl (int_newR _ _) (by simp [Value.oneCell']) (by unfold maxLen; omega) (by omega) (by simp; omega) ?_; intro v4 w4 hown4 hgr4 _)
        go_roundw
        case rel =>
          refine ⟨k + 1, by omega, by go_num, ?_, ?_⟩
          · rw [HE.out, List.length_append, HE2.out, show ziv (l.take (min k most) ++ [x]) = ziv (l.take (min k most)) ++ [.int .i64 x] by simp [ziv]]
            exact hown4
          · exact (HB.out.alloc hs _).grown hgr4 (by simp; omega) (fun j hj => (HO3.out.lt j hj).1)
        case measure => simp [intOf]; omega
      · have e1 : l.take (min (k + 1) most) = l.take (min k most) := by rw [show min (k + 1) most = min k most by omega]
        have HE := Lib.hid e1
        clear e1
        go_wp2_with fail
        go_roundw
        case rel => exact ⟨k + 1, by omega, by go_num, by rw [HE.out]; exact HO.out, HB.out⟩
        case measure => simp [intOf]; omega
    · obtain rfl : k = len := by omega
      have e1 : l.take (min k most) = l.take most := by
        rcases Nat.le_total k most with h | h
        · rw [Nat.min_eq_left h, List.take_of_length_le (by omega), List.take_of_length_le (by omega)]
        · rw [Nat.min_eq_right h]
      rw [e1] at hO
      have HO := Lib.hid hO
      clear e1 hO
      go_wp2_with fail
      go_ret
      exact ⟨_, rfl, HO.out, hB⟩
set_option maxRecDepth 100000 in
set_option maxHeartbeats 2000000 in
theorem In_any (a : Option Addr) (len cap n : Nat) (l : List Int) (x : Int) (w : World) (hl : l.length = len) (hn : n ≤ w.heap.size) (hr : Rd n w a len cap (Bs.iv l)) :
    Calls Try.prog 57 #[.slice a len cap, .int .i64 x] w fun e w' => e = .returned (.bool (decide (x ∈ l))) ∧ w' = w := by
  have h1 := hr.le
  have h2 := hr.top
  unfold maxLen at h2
  have HR := Lib.hid hr
  clear hr
  go_enter Try.func57, Try.ntmps57
  go_wp2_with fail
  go_loopw [9] (fun i wr => ∃ k : Nat, k ≤ len ∧ i = .int .i64 k ∧ x ∉ l.take k ∧ wr = w) (fun i _ => len - (intOf i).toNat)
  case atStart => exact ⟨0, Nat.zero_le _, rfl, by simp, rfl⟩
  case round =>
    obtain ⟨k, hk, rfl, hno, rfl⟩ := hrel
    by_cases hlt : k < len
    · obtain ⟨bb, off, rfl, hbb, hcx⟩ := HR.out.at hlt
      unfold Bs.iv at hcx
      obtain ⟨y, hy⟩ : ∃ y, y = l.getD k 0 := ⟨_, rfl⟩
      rw [← hy] at hcx
      have ht : l.take (k + 1) = l.take k ++ [y] := by rw [hy]; exact Bs.takeI_succ l (by omega)
      have HT := Lib.hid ht
      have HNO := Lib.hid hno
      clear hy ht hno
      by_cases e : x = y
      · have hin : x ∈ l := List.mem_of_mem_take (i := k + 1) (by rw [HT.out, e]; simp)
        have HIN := Lib.hid (decide_eq_true hin)
        have e' : (x == y) = true := by simp [e]
        clear hin
        go_wp2_with fail
        go_ret
        exact ⟨by simp [of_decide_eq_true HIN.out], rfl⟩
      · have e' : (x == y) = false := by simp [e]
        have hno2 : x ∉ l.take (k + 1) := by rw [HT.out]; simp [HNO.out, e]
        have HNO2 := Lib.hid hno2
        clear hno2
        go_wp2_with fail
        go_roundw
        case rel => exact ⟨k + 1, by omega, by go_num, HNO2.out, trivial⟩
        case measure => simp [intOf]; omega
    · obtain rfl : k = len := by omega
      rw [List.take_of_length_le (by omega)] at hno
      have HNO := Lib.hid (decide_eq_false hno)
      clear hno
      go_wp2_with fail
      go_ret
      exact ⟨by simp [of_decide_eq_false HNO.out], rfl⟩
end Go.Proofs.Ytiaaafjpnijphaa
