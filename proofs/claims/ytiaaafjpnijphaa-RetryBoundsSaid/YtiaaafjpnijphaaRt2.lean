/- Layer 19: what retry counters can be asked; contexts compared; few of a list; in a list; the document's example. -/
import Derived.Test.YtiaaafjpnijphaaRt
import Derived.Laws.StructEq
import Derived.ChangeKeysEq
import Derived.Deep.CutBlock
import Derived.Deep.DeepCutAuto
namespace Go.Proofs.Ytiaaafjpnijphaa
open Go.RowKit Go.Own
set_option linter.unusedVariables false
set_option linter.unusedSimpArgs false
theorem part_i (e : TypeId) {k : IntKind} (he : Try.prog.underlying e = some (.int k)) (xs : Array Value) (j : Nat) (x : Value) (hx : xs[j]? = some x) (w : World) : (part e xs j).run Try.prog w = .ok x w := by
  obtain ⟨h, rfl⟩ := Array.getElem?_eq_some_iff.1 hx
  simp [part, isAgg, run_underlying he, h]
theorem eqItem (e : TypeId) {k : IntKind} (he : Try.prog.underlying e = some (.int k)) (d : Nat) (xs ys : Array Value) (j : Nat) (is : List Nat) (a b : Int) (hx : xs[j]? = some (.int k a)) (hy : ys[j]? = some (.int k b)) (w : World) :
    (Op.eqItems (d + 1) e 1 xs ys (j :: is)).run Try.prog w = if a == b then (Op.eqItems (d + 1) e 1 xs ys is).run Try.prog w else .ok false w := by
  simp only [Op.eqItems, Sem.run_bind, Nat.mul_one, part_i e he xs j _ hx, part_i e he ys j _ hy, Result.andThen_ok, run_equalIn_int w d e k k a b he]
  cases h : (a == b)
  · simp
  · simp
@[go_sem] theorem tR (w : World) (a b c d e f a' b' c' d' e' f' : Int) : (Op.equalIn 9999 128 (.agg #[.int .u8 a, .int .u8 b, .int .u8 c, .int .u8 d, .int .u8 e, .int .u8 f]) (.agg #[.int .u8 a', .int .u8 b', .int .u8 c', .int .u8 d', .int .u8 e', .int .u8 f'])).run Try.prog w = .ok (a == a' && b == b' && c == c' && d == d' && e == e' && f == f') w := by
  obtain ⟨i0, hi, _⟩ := info_parts info_u8
  have hc : Try.prog.cellsOf 5 = 1 := by kernel_rfl
  rw [run_equalIn_array w 9998 _ _ Try.underlying128 hi, hc]
  rw [show List.range 6 = [0, 1, 2, 3, 4, 5] from rfl]
  rw [eqItem _ Try.underlying5 _ _ _ 0 _ a a' rfl rfl, eqItem _ Try.underlying5 _ _ _ 1 _ b b' rfl rfl, eqItem _ Try.underlying5 _ _ _ 2 _ c c' rfl rfl, eqItem _ Try.underlying5 _ _ _ 3 _ d d' rfl rfl, eqItem _ Try.underlying5 _ _ _ 4 _ e e' rfl rfl, eqItem _ Try.underlying5 _ _ _ 5 _ f f' rfl rfl]
  have h0 : (Op.eqItems 9998 5 1 (#[.int .u8 a, .int .u8 b, .int .u8 c, .int .u8 d, .int .u8 e, .int .u8 f]) (#[.int .u8 a', .int .u8 b', .int .u8 c', .int .u8 d', .int .u8 e', .int .u8 f']) []).run Try.prog w = .ok true w := by simp [Op.eqItems]
  rw [h0]
  cases a == a' <;> cases b == b' <;> cases c == c' <;> cases d == d' <;> cases e == e' <;> cases f == f' <;> rfl
@[go_sem] theorem tC (w : World) (a b c d e f a' b' c' d' e' f' : Int) : (Op.equalIn 9999 100 (.agg #[.int .i8 a, .int .i8 b, .int .i8 c, .int .i8 d, .int .i8 e, .int .i8 f]) (.agg #[.int .i8 a', .int .i8 b', .int .i8 c', .int .i8 d', .int .i8 e', .int .i8 f'])).run Try.prog w = .ok (a == a' && b == b' && c == c' && d == d' && e == e' && f == f') w := by
  obtain ⟨i0, hi, _⟩ := info_parts (show (Try.prog.info? 99).map (fun i => (i.zero, i.size, i.bytes)) = some (some (.int .i8 0), 1, 1) by kernel_rfl)
  have hc : Try.prog.cellsOf 99 = 1 := by kernel_rfl
  rw [run_equalIn_array w 9998 _ _ Try.underlying100 hi, hc]
  rw [show List.range 6 = [0, 1, 2, 3, 4, 5] from rfl]
  rw [eqItem _ Try.underlying99 _ _ _ 0 _ a a' rfl rfl, eqItem _ Try.underlying99 _ _ _ 1 _ b b' rfl rfl, eqItem _ Try.underlying99 _ _ _ 2 _ c c' rfl rfl, eqItem _ Try.underlying99 _ _ _ 3 _ d d' rfl rfl, eqItem _ Try.underlying99 _ _ _ 4 _ e e' rfl rfl, eqItem _ Try.underlying99 _ _ _ 5 _ f f' rfl rfl]
  have h0 : (Op.eqItems 9998 99 1 (#[.int .i8 a, .int .i8 b, .int .i8 c, .int .i8 d, .int .i8 e, .int .i8 f]) (#[.int .i8 a', .int .i8 b', .int .i8 c', .int .i8 d', .int .i8 e', .int .i8 f']) []).run Try.prog w = .ok true w := by simp [Op.eqItems]
  rw [h0]
  cases a == a' <;> cases b == b' <;> cases c == c' <;> cases d == d' <;> cases e == e' <;> cases f == f' <;> rfl
set_option maxRecDepth 100000 in
theorem eqCx (x y : Cx) (w : World) : (Op.equalIn 10000 131 (.agg #[.int .u16 x.f, .int .u16 x.i, .int .u8 x.r0, .int .u8 x.r1, .int .u8 x.r2, .int .u8 x.r3, .int .u8 x.r4, .int .u8 x.r5, .int .i8 x.c0, .int .i8 x.c1, .int .i8 x.c2, .int .i8 x.c3, .int .i8 x.c4, .int .i8 x.c5, .int .u8 x.m, .int .u16 x.n, .bool x.x, .int .u8 x.h]) (.agg #[.int .u16 y.f, .int .u16 y.i, .int .u8 y.r0, .int .u8 y.r1, .int .u8 y.r2, .int .u8 y.r3, .int .u8 y.r4, .int .u8 y.r5, .int .i8 y.c0, .int .i8 y.c1, .int .i8 y.c2, .int .i8 y.c3, .int .i8 y.c4, .int .i8 y.c5, .int .u8 y.m, .int .u16 y.n, .bool y.x, .int .u8 y.h])).run Try.prog w = .ok (decide (x = y)) w := by
  go_simp
  by_cases h : x = y
  · subst h; simp
  · rw [decide_eq_false h]
    repeat' split
    all_goals first
      | rfl
      | (exfalso; apply h; rw [Cx.ext_iff]; simp_all)
theorem eqlCx (x y : Cx) (w : World) : (binOp .eql 131 (.agg #[.int .u16 x.f, .int .u16 x.i, .int .u8 x.r0, .int .u8 x.r1, .int .u8 x.r2, .int .u8 x.r3, .int .u8 x.r4, .int .u8 x.r5, .int .i8 x.c0, .int .i8 x.c1, .int .i8 x.c2, .int .i8 x.c3, .int .i8 x.c4, .int .i8 x.c5, .int .u8 x.m, .int .u16 x.n, .bool x.x, .int .u8 x.h]) (.agg #[.int .u16 y.f, .int .u16 y.i, .int .u8 y.r0, .int .u8 y.r1, .int .u8 y.r2, .int .u8 y.r3, .int .u8 y.r4, .int .u8 y.r5, .int .i8 y.c0, .int .i8 y.c1, .int .i8 y.c2, .int .i8 y.c3, .int .i8 y.c4, .int .i8 y.c5, .int .u8 y.m, .int .u16 y.n, .bool y.x, .int .u8 y.h])).run Try.prog w = .ok (.bool (decide (x = y))) w := by
  rw [run_eql_struct, eqCx]; rfl
theorem neqCx (x y : Cx) (w : World) : (binOp .neq 131 (.agg #[.int .u16 x.f, .int .u16 x.i, .int .u8 x.r0, .int .u8 x.r1, .int .u8 x.r2, .int .u8 x.r3, .int .u8 x.r4, .int .u8 x.r5, .int .i8 x.c0, .int .i8 x.c1, .int .i8 x.c2, .int .i8 x.c3, .int .i8 x.c4, .int .i8 x.c5, .int .u8 x.m, .int .u16 x.n, .bool x.x, .int .u8 x.h]) (.agg #[.int .u16 y.f, .int .u16 y.i, .int .u8 y.r0, .int .u8 y.r1, .int .u8 y.r2, .int .u8 y.r3, .int .u8 y.r4, .int .u8 y.r5, .int .i8 y.c0, .int .i8 y.c1, .int .i8 y.c2, .int .i8 y.c3, .int .i8 y.c4, .int .i8 y.c5, .int .u8 y.m, .int .u16 y.n, .bool y.x, .int .u8 y.h])).run Try.prog w = .ok (.bool (!decide (x = y))) w := by
  rw [run_neq_struct, eqCx]; rfl

@[go_sem] theorem ixra (w : World) (a b c d e f : Int) : (Instr.index 128 (.agg #[.int .u8 a, .int .u8 b, .int .u8 c, .int .u8 d, .int .u8 e, .int .u8 f]) (.int .i64 0)).run Try.prog w = .ok (.int .u8 a) w := by kernel_rfl
@[go_sem] theorem ixrb (w : World) (a b c d e f : Int) : (Instr.index 128 (.agg #[.int .u8 a, .int .u8 b, .int .u8 c, .int .u8 d, .int .u8 e, .int .u8 f]) (.int .i64 1)).run Try.prog w = .ok (.int .u8 b) w := by kernel_rfl
@[go_sem] theorem ixrc (w : World) (a b c d e f : Int) : (Instr.index 128 (.agg #[.int .u8 a, .int .u8 b, .int .u8 c, .int .u8 d, .int .u8 e, .int .u8 f]) (.int .i64 2)).run Try.prog w = .ok (.int .u8 c) w := by kernel_rfl
@[go_sem] theorem ixrd (w : World) (a b c d e f : Int) : (Instr.index 128 (.agg #[.int .u8 a, .int .u8 b, .int .u8 c, .int .u8 d, .int .u8 e, .int .u8 f]) (.int .i64 3)).run Try.prog w = .ok (.int .u8 d) w := by kernel_rfl
@[go_sem] theorem ixre (w : World) (a b c d e f : Int) : (Instr.index 128 (.agg #[.int .u8 a, .int .u8 b, .int .u8 c, .int .u8 d, .int .u8 e, .int .u8 f]) (.int .i64 4)).run Try.prog w = .ok (.int .u8 e) w := by kernel_rfl
@[go_sem] theorem ixrf (w : World) (a b c d e f : Int) : (Instr.index 128 (.agg #[.int .u8 a, .int .u8 b, .int .u8 c, .int .u8 d, .int .u8 e, .int .u8 f]) (.int .i64 5)).run Try.prog w = .ok (.int .u8 f) w := by kernel_rfl
@[go_sem] theorem ixla (w : World) (a b c d e f : Int) : (Instr.index 129 (.agg #[.int .u8 a, .int .u8 b, .int .u8 c, .int .u8 d, .int .u8 e, .int .u8 f]) (.int .i64 0)).run Try.prog w = .ok (.int .u8 a) w := by kernel_rfl
@[go_sem] theorem ixlb (w : World) (a b c d e f : Int) : (Instr.index 129 (.agg #[.int .u8 a, .int .u8 b, .int .u8 c, .int .u8 d, .int .u8 e, .int .u8 f]) (.int .i64 1)).run Try.prog w = .ok (.int .u8 b) w := by kernel_rfl
@[go_sem] theorem ixlc (w : World) (a b c d e f : Int) : (Instr.index 129 (.agg #[.int .u8 a, .int .u8 b, .int .u8 c, .int .u8 d, .int .u8 e, .int .u8 f]) (.int .i64 2)).run Try.prog w = .ok (.int .u8 c) w := by kernel_rfl
@[go_sem] theorem ixld (w : World) (a b c d e f : Int) : (Instr.index 129 (.agg #[.int .u8 a, .int .u8 b, .int .u8 c, .int .u8 d, .int .u8 e, .int .u8 f]) (.int .i64 3)).run Try.prog w = .ok (.int .u8 d) w := by kernel_rfl
@[go_sem] theorem ixle (w : World) (a b c d e f : Int) : (Instr.index 129 (.agg #[.int .u8 a, .int .u8 b, .int .u8 c, .int .u8 d, .int .u8 e, .int .u8 f]) (.int .i64 4)).run Try.prog w = .ok (.int .u8 e) w := by kernel_rfl
@[go_sem] theorem ixlf (w : World) (a b c d e f : Int) : (Instr.index 129 (.agg #[.int .u8 a, .int .u8 b, .int .u8 c, .int .u8 d, .int .u8 e, .int .u8 f]) (.int .i64 5)).run Try.prog w = .ok (.int .u8 f) w := by kernel_rfl
set_option maxRecDepth 100000 in
set_option maxHeartbeats 2000000 in
theorem May_det {m : Lm} {c d : Cx} {b : Bool} (a : Option Addr) (len cap n : Nat) (l : List Int) (w : World) (hm : m.Ok) (hok : c.Ok) (hl : l.length = len) (hn : n ≤ w.heap.size) (hr : Rd n w a len cap (Bs.iv l)) (h : spendR m c l = (d, b)) :
    Calls Try.prog 65 #[.agg #[.int .u8 m.l0, .int .u8 m.l1, .int .u8 m.l2, .int .u8 m.l3, .int .u8 m.l4, .int .u8 m.l5], .agg #[.int .u16 c.f, .int .u16 c.i, .int .u8 c.r0, .int .u8 c.r1, .int .u8 c.r2, .int .u8 c.r3, .int .u8 c.r4, .int .u8 c.r5, .int .i8 c.c0, .int .i8 c.c1, .int .i8 c.c2, .int .i8 c.c3, .int .i8 c.c4, .int .i8 c.c5, .int .u8 c.m, .int .u16 c.n, .bool c.x, .int .u8 c.h], .slice a len cap] w fun e w' => e = .returned (.bool b) ∧ Below w.heap.size w w' := by
  have hzc := zero_cx
  have H := Lib.hid h
  have hb0 : Below w.heap.size w ((w.alloc (.cells #[.int .u8 m.l0, .int .u8 m.l1, .int .u8 m.l2, .int .u8 m.l3, .int .u8 m.l4, .int .u8 m.l5] 129)).alloc (.cells #[.int .u16 c.f, .int .u16 c.i, .int .u8 c.r0, .int .u8 c.r1, .int .u8 c.r2, .int .u8 c.r3, .int .u8 c.r4, .int .u8 c.r5, .int .i8 c.c0, .int .i8 c.c1, .int .i8 c.c2, .int .i8 c.c3, .int .i8 c.c4, .int .i8 c.c5, .int .u8 c.m, .int .u16 c.n, .bool c.x, .int .u8 c.h] 131)) := by repeat' (first | (with_reducible exact Below.refl _ _) | (with_reducible assumption) | (with_reducible refine Below.setCell ?_ ?_ _) | (with_reducible refine Below.alloc ?_ ?_ _) | (with_reducible refine Below.drew ?_) | (with_reducible refine Below.drawsN ?_ _) | go_size)
  have HR := Lib.hid (hr.below' hb0 hn)
  have HN := Lib.hid (Nat.le_trans hn hb0.size)
  have HB := Lib.hid hb0
  clear h hr hn hb0
  have h0 := heap_alloc2_old w (.cells #[.int .u8 m.l0, .int .u8 m.l1, .int .u8 m.l2, .int .u8 m.l3, .int .u8 m.l4, .int .u8 m.l5] 129) (.cells #[.int .u16 c.f, .int .u16 c.i, .int .u8 c.r0, .int .u8 c.r1, .int .u8 c.r2, .int .u8 c.r3, .int .u8 c.r4, .int .u8 c.r5, .int .i8 c.c0, .int .i8 c.c1, .int .i8 c.c2, .int .i8 c.c3, .int .i8 c.c4, .int .i8 c.c5, .int .u8 c.m, .int .u16 c.n, .bool c.x, .int .u8 c.h] 131)
  have h1 := heap_alloc2_new w (.cells #[.int .u8 m.l0, .int .u8 m.l1, .int .u8 m.l2, .int .u8 m.l3, .int .u8 m.l4, .int .u8 m.l5] 129) (.cells #[.int .u16 c.f, .int .u16 c.i, .int .u8 c.r0, .int .u8 c.r1, .int .u8 c.r2, .int .u8 c.r3, .int .u8 c.r4, .int .u8 c.r5, .int .i8 c.c0, .int .i8 c.c1, .int .i8 c.c2, .int .i8 c.c3, .int .i8 c.c4, .int .i8 c.c5, .int .u8 c.m, .int .u16 c.n, .bool c.x, .int .u8 c.h] 131)
  go_enter Try.func65, Try.ntmps65
  go_upto_region 1 with fail
  obtain ⟨w1, hw1⟩ : ∃ w1, w1 = (w.alloc (.cells #[.int .u8 m.l0, .int .u8 m.l1, .int .u8 m.l2, .int .u8 m.l3, .int .u8 m.l4, .int .u8 m.l5] 129)).alloc (.cells #[.int .u16 c.f, .int .u16 c.i, .int .u8 c.r0, .int .u8 c.r1, .int .u8 c.r2, .int .u8 c.r3, .int .u8 c.r4, .int .u8 c.r5, .int .i8 c.c0, .int .i8 c.c1, .int .i8 c.c2, .int .i8 c.c3, .int .i8 c.c4, .int .i8 c.c5, .int .u8 c.m, .int .u16 c.n, .bool c.x, .int .u8 c.h] 131) := ⟨_, rfl⟩
  rw [← hw1] at HR HN HB h0 h1 ⊢
  clear hw1
  go_wp2_with (first | ((with_reducible show wpList _ _ _ (_ :: _) _ _); refine wpList_load_row rfl 129 _ rfl _ rfl _ _ _ _ h0 Try.underlying129 rfl (by exact size_lm) ?_; (try go_simp)) | ((with_reducible show wpList _ _ _ (_ :: _) _ _); refine wpList_load_row rfl 131 _ rfl _ rfl _ _ _ _ h1 Try.underlying131 rfl (by exact size_cx) ?_; (try go_simp)))
  clear h0 h1
  go_at_call 64
  refine (Spend_det a len cap n l _ hm hok hl HN.out HR.out H.out).mono ?_
  rintro e w2 ⟨rfl, hb⟩
  have HB2 := Lib.hid (HB.out.trans (hb.mono HB.out.size))
  clear hb HB HR HN
  go_wp2_with (((with_reducible show wpList _ _ _ (_ :: _) _ _); refine wpList_store_row rfl 131 _ _ rfl _ _ rfl rfl _ _ (heap_alloc_new _ _) (by exact size_cx) (by rfl) (by simp [Value.oneCell']) ?_; rw [World.setRow_alloc_new]))
  go_ret
  exact ⟨rfl, HB2.out.alloc HB2.out.size _⟩
set_option maxRecDepth 100000 in
set_option maxHeartbeats 2000000 in
theorem sum_any (a b c d e f : Int) (w : World) (ha : 0 ≤ a ∧ a < 256) (hb : 0 ≤ b ∧ b < 256) (hc : 0 ≤ c ∧ c < 256) (hd : 0 ≤ d ∧ d < 256) (he : 0 ≤ e ∧ e < 256) (hf : 0 ≤ f ∧ f < 256) :
    Calls Try.prog 107 #[.agg #[.int .u8 a, .int .u8 b, .int .u8 c, .int .u8 d, .int .u8 e, .int .u8 f]] w fun ee w' => ee = .returned (.int .i64 (a + b + c + d + e + f)) ∧ Below w.heap.size w w' := by
  obtain ⟨a0, a1⟩ := ha
  obtain ⟨b0, b1⟩ := hb
  obtain ⟨c0, c1⟩ := hc
  obtain ⟨d0, d1⟩ := hd
  obtain ⟨e0, e1⟩ := he
  obtain ⟨f0, f1⟩ := hf
  go_enter Try.func107, Try.ntmps107
  go_wp2
  refine wp_loop_rounds 7 ?_
  repeat any_goals (rw [rounds_succ]; go_wp2)
  go_ret
  exact ⟨by simp; try omega, by repeat' (first | (with_reducible exact Below.refl _ _) | (with_reducible assumption) | (with_reducible refine Below.setCell ?_ ?_ _) | (with_reducible refine Below.alloc ?_ ?_ _) | (with_reducible refine Below.drew ?_) | (with_reducible refine Below.drawsN ?_ _) | go_size)⟩
def Lm.sum (m : Lm) : Int := m.l0 + m.l1 + m.l2 + m.l3 + m.l4 + m.l5
def Cx.tot (c : Cx) : Int := c.r0 + c.r1 + c.r2 + c.r3 + c.r4 + c.r5
def leftR (m : Lm) (c : Cx) : Int := max (m.l0 - c.r0) 0 + max (m.l1 - c.r1) 0 + max (m.l2 - c.r2) 0 + max (m.l3 - c.r3) 0 + max (m.l4 - c.r4) 0 + max (m.l5 - c.r5) 0
theorem Sum_any {m : Lm} (hm : m.Ok) (w : World) : Calls Try.prog 67 #[.agg #[.int .u8 m.l0, .int .u8 m.l1, .int .u8 m.l2, .int .u8 m.l3, .int .u8 m.l4, .int .u8 m.l5]] w fun e w' => e = .returned (.int .i64 m.sum) ∧ Below w.heap.size w w' := by
  go_enter Try.func67, Try.ntmps67
  go_wp2_with (((with_reducible show wpList _ _ _ (_ :: _) _ _); refine wpList_load_row rfl 129 _ rfl _ rfl _ _ _ _ heap_alloc_new _ _ Try.underlying129 rfl (by exact size_lm) ?_; (try go_simp)))
  go_at_call 107
  refine (sum_any _ _ _ _ _ _ _ hm.l0 hm.l1 hm.l2 hm.l3 hm.l4 hm.l5).mono ?_
  rintro e w2 ⟨rfl, hb⟩
  have hb0 : Below w.heap.size w (w.alloc (.cells #[.int .u8 m.l0, .int .u8 m.l1, .int .u8 m.l2, .int .u8 m.l3, .int .u8 m.l4, .int .u8 m.l5] 129)) := by repeat' (first | (with_reducible exact Below.refl _ _) | (with_reducible assumption) | (with_reducible refine Below.setCell ?_ ?_ _) | (with_reducible refine Below.alloc ?_ ?_ _) | (with_reducible refine Below.drew ?_) | (with_reducible refine Below.drawsN ?_ _) | go_size)
  have HB := Lib.hid (hb0.trans (hb.mono hb0.size))
  clear hb hb0
  go_wp2
  go_ret
  exact ⟨rfl, HB.out⟩
theorem Total_any {c : Cx} (hc : c.Ok) (w : World) : Calls Try.prog 69 #[.agg #[.int .u16 c.f, .int .u16 c.i, .int .u8 c.r0, .int .u8 c.r1, .int .u8 c.r2, .int .u8 c.r3, .int .u8 c.r4, .int .u8 c.r5, .int .i8 c.c0, .int .i8 c.c1, .int .i8 c.c2, .int .i8 c.c3, .int .i8 c.c4, .int .i8 c.c5, .int .u8 c.m, .int .u16 c.n, .bool c.x, .int .u8 c.h]] w fun e w' => e = .returned (.int .i64 c.tot) ∧ Below w.heap.size w w' := by
  go_enter Try.func69, Try.ntmps69
  go_wp2_with fail
  go_at_call 107
  refine (sum_any _ _ _ _ _ _ _ hc.r0 hc.r1 hc.r2 hc.r3 hc.r4 hc.r5).mono ?_
  rintro e w2 ⟨rfl, hb⟩
  have hb0 : Below w.heap.size w (w.alloc (.cells #[.int .u16 c.f, .int .u16 c.i, .int .u8 c.r0, .int .u8 c.r1, .int .u8 c.r2, .int .u8 c.r3, .int .u8 c.r4, .int .u8 c.r5, .int .i8 c.c0, .int .i8 c.c1, .int .i8 c.c2, .int .i8 c.c3, .int .i8 c.c4, .int .i8 c.c5, .int .u8 c.m, .int .u16 c.n, .bool c.x, .int .u8 c.h] 131)) := by repeat' (first | (with_reducible exact Below.refl _ _) | (with_reducible assumption) | (with_reducible refine Below.setCell ?_ ?_ _) | (with_reducible refine Below.alloc ?_ ?_ _) | (with_reducible refine Below.drew ?_) | (with_reducible refine Below.drawsN ?_ _) | go_size)
  have HB := Lib.hid (hb0.trans (hb.mono hb0.size))
  clear hb hb0
  go_wp2
  go_ret
  exact ⟨rfl, HB.out⟩
set_option maxRecDepth 100000 in
set_option maxHeartbeats 4000000 in
theorem Left_any {m : Lm} {c : Cx} (hm : m.Ok) (hc : c.Ok) (w : World) : Calls Try.prog 68 #[.agg #[.int .u8 m.l0, .int .u8 m.l1, .int .u8 m.l2, .int .u8 m.l3, .int .u8 m.l4, .int .u8 m.l5], .agg #[.int .u16 c.f, .int .u16 c.i, .int .u8 c.r0, .int .u8 c.r1, .int .u8 c.r2, .int .u8 c.r3, .int .u8 c.r4, .int .u8 c.r5, .int .i8 c.c0, .int .i8 c.c1, .int .i8 c.c2, .int .i8 c.c3, .int .i8 c.c4, .int .i8 c.c5, .int .u8 c.m, .int .u16 c.n, .bool c.x, .int .u8 c.h]] w fun e w' => e = .returned (.int .i64 (leftR m c)) ∧ Below w.heap.size w w' := by
  have hmx := fun (a : Int) (w : World) => run_maxI (P := Try.prog) #[3, 3] 3 .i64 a 0 w
  obtain ⟨⟨a0, a1⟩, ⟨b0, b1⟩, ⟨c0, c1⟩, ⟨d0, d1⟩, ⟨e0, e1⟩, ⟨f0, f1⟩⟩ := hm
  obtain ⟨p0, p1⟩ := hc.r0
  obtain ⟨q0, q1⟩ := hc.r1
  obtain ⟨s0, s1⟩ := hc.r2
  obtain ⟨t0, t1⟩ := hc.r3
  obtain ⟨u0, u1⟩ := hc.r4
  obtain ⟨v0, v1⟩ := hc.r5
  go_enter Try.func68, Try.ntmps68
  go_wp2_with (((with_reducible show wpList _ _ _ (_ :: _) _ _); refine wpList_load_row rfl 129 _ rfl _ rfl _ _ _ _ heap_alloc2_old _ _ _ Try.underlying129 rfl (by exact size_lm) ?_; (try go_simp)))
  refine wp_loop_rounds 7 ?_
  repeat any_goals (rw [rounds_succ]; go_wp2)
  go_ret
  exact ⟨by simp [leftR]; try omega, by repeat' (first | (with_reducible exact Below.refl _ _) | (with_reducible assumption) | (with_reducible refine Below.setCell ?_ ?_ _) | (with_reducible refine Below.alloc ?_ ?_ _) | (with_reducible refine Below.drew ?_) | (with_reducible refine Below.drawsN ?_ _) | go_size)⟩
end Go.Proofs.Ytiaaafjpnijphaa
