/- Layer 8: when two contexts are alike; a context's bytes say the context; a reset; the document's own Right. -/
import Derived.Test.YtpgophkegjeheaaLaw08
import Derived.ChangeKeysEq
namespace Go.Proofs.Ytpgophkegjeheaa
open Go.RowKit Go.Own
set_option linter.unusedSimpArgs false
theorem part_i (e : TypeId) {k : IntKind} (he : Try.prog.underlying e = some (.int k)) (xs : Array Value) (j : Nat) (x : Value) (hx : xs[j]? = some x) (w : World) : (part e xs j).run Try.prog w = .ok x w := by
  obtain ⟨h, rfl⟩ := Array.getElem?_eq_some_iff.1 hx
  simp [part, isAgg, run_underlying he, h]
theorem eqItem (e : TypeId) {k : IntKind} (he : Try.prog.underlying e = some (.int k)) (d : Nat) (xs ys : Array Value) (j : Nat) (is : List Nat) (a b : Int) (hx : xs[j]? = some (.int k a)) (hy : ys[j]? = some (.int k b)) (w : World) :
    (Op.eqItems (d + 1) e 1 xs ys (j :: is)).run Try.prog w = if a == b then (Op.eqItems (d + 1) e 1 xs ys is).run Try.prog w else .ok false w := by
  simp only [Op.eqItems, Sem.run_bind, Nat.mul_one, part_i e he xs j _ hx, part_i e he ys j _ hy, Result.andThen_ok, run_equalIn_int w d e k k a b he]
  cases h : (a == b)
  · simp
  · simp
@[go_sem] theorem tR (w : World) (a b c d e f a' b' c' d' e' f' : Int) : (Op.equalIn 9999 24 (.agg #[.int .u8 a, .int .u8 b, .int .u8 c, .int .u8 d, .int .u8 e, .int .u8 f]) (.agg #[.int .u8 a', .int .u8 b', .int .u8 c', .int .u8 d', .int .u8 e', .int .u8 f'])).run Try.prog w = .ok (a == a' && b == b' && c == c' && d == d' && e == e' && f == f') w := by
  obtain ⟨i0, hi, _⟩ := info_parts info_u8
  have hc : Try.prog.cellsOf 5 = 1 := by kernel_rfl
  rw [run_equalIn_array w 9998 _ _ Try.underlying24 hi, hc]
  rw [show List.range 6 = [0, 1, 2, 3, 4, 5] from rfl]
  rw [eqItem _ Try.underlying5 _ _ _ 0 _ a a' rfl rfl, eqItem _ Try.underlying5 _ _ _ 1 _ b b' rfl rfl, eqItem _ Try.underlying5 _ _ _ 2 _ c c' rfl rfl, eqItem _ Try.underlying5 _ _ _ 3 _ d d' rfl rfl, eqItem _ Try.underlying5 _ _ _ 4 _ e e' rfl rfl, eqItem _ Try.underlying5 _ _ _ 5 _ f f' rfl rfl]
  have h0 : (Op.eqItems 9998 5 1 (#[.int .u8 a, .int .u8 b, .int .u8 c, .int .u8 d, .int .u8 e, .int .u8 f]) (#[.int .u8 a', .int .u8 b', .int .u8 c', .int .u8 d', .int .u8 e', .int .u8 f']) []).run Try.prog w = .ok true w := by simp [Op.eqItems]
  rw [h0]
  cases a == a' <;> cases b == b' <;> cases c == c' <;> cases d == d' <;> cases e == e' <;> cases f == f' <;> rfl
@[go_sem] theorem tC (w : World) (a b c d e f a' b' c' d' e' f' : Int) : (Op.equalIn 9999 26 (.agg #[.int .i8 a, .int .i8 b, .int .i8 c, .int .i8 d, .int .i8 e, .int .i8 f]) (.agg #[.int .i8 a', .int .i8 b', .int .i8 c', .int .i8 d', .int .i8 e', .int .i8 f'])).run Try.prog w = .ok (a == a' && b == b' && c == c' && d == d' && e == e' && f == f') w := by
  obtain ⟨i0, hi, _⟩ := info_parts (show (Try.prog.info? 25).map (fun i => (i.zero, i.size, i.bytes)) = some (some (.int .i8 0), 1, 1) by kernel_rfl)
  have hc : Try.prog.cellsOf 25 = 1 := by kernel_rfl
  rw [run_equalIn_array w 9998 _ _ Try.underlying26 hi, hc]
  rw [show List.range 6 = [0, 1, 2, 3, 4, 5] from rfl]
  rw [eqItem _ Try.underlying25 _ _ _ 0 _ a a' rfl rfl, eqItem _ Try.underlying25 _ _ _ 1 _ b b' rfl rfl, eqItem _ Try.underlying25 _ _ _ 2 _ c c' rfl rfl, eqItem _ Try.underlying25 _ _ _ 3 _ d d' rfl rfl, eqItem _ Try.underlying25 _ _ _ 4 _ e e' rfl rfl, eqItem _ Try.underlying25 _ _ _ 5 _ f f' rfl rfl]
  have h0 : (Op.eqItems 9998 25 1 (#[.int .i8 a, .int .i8 b, .int .i8 c, .int .i8 d, .int .i8 e, .int .i8 f]) (#[.int .i8 a', .int .i8 b', .int .i8 c', .int .i8 d', .int .i8 e', .int .i8 f']) []).run Try.prog w = .ok true w := by simp [Op.eqItems]
  rw [h0]
  cases a == a' <;> cases b == b' <;> cases c == c' <;> cases d == d' <;> cases e == e' <;> cases f == f' <;> rfl
set_option maxRecDepth 100000 in
theorem eqCx (x y : Cx) (w : World) : (Op.equalIn 10000 28 (.agg #[.int .u16 x.f, .int .u16 x.i, .int .u8 x.r0, .int .u8 x.r1, .int .u8 x.r2, .int .u8 x.r3, .int .u8 x.r4, .int .u8 x.r5, .int .i8 x.c0, .int .i8 x.c1, .int .i8 x.c2, .int .i8 x.c3, .int .i8 x.c4, .int .i8 x.c5, .int .u8 x.m, .int .u16 x.n, .bool x.x, .int .u8 x.h]) (.agg #[.int .u16 y.f, .int .u16 y.i, .int .u8 y.r0, .int .u8 y.r1, .int .u8 y.r2, .int .u8 y.r3, .int .u8 y.r4, .int .u8 y.r5, .int .i8 y.c0, .int .i8 y.c1, .int .i8 y.c2, .int .i8 y.c3, .int .i8 y.c4, .int .i8 y.c5, .int .u8 y.m, .int .u16 y.n, .bool y.x, .int .u8 y.h])).run Try.prog w = .ok (decide (x = y)) w := by
  go_simp
  by_cases h : x = y
  · subst h; simp
  · rw [decide_eq_false h]
    repeat' split
    all_goals first
      | rfl
      | (exfalso; apply h; rw [Cx.ext_iff]; simp_all)
set_option maxRecDepth 100000 in
theorem eqRx (x y : Cx) (w : World) : (Op.equalIn 10000 35 (.agg #[.int .u16 x.f, .int .u16 x.i, .int .u8 x.r0, .int .u8 x.r1, .int .u8 x.r2, .int .u8 x.r3, .int .u8 x.r4, .int .u8 x.r5, .int .i8 x.c0, .int .i8 x.c1, .int .i8 x.c2, .int .i8 x.c3, .int .i8 x.c4, .int .i8 x.c5, .int .u8 x.m, .int .u16 x.n, .bool x.x, .int .u8 x.h]) (.agg #[.int .u16 y.f, .int .u16 y.i, .int .u8 y.r0, .int .u8 y.r1, .int .u8 y.r2, .int .u8 y.r3, .int .u8 y.r4, .int .u8 y.r5, .int .i8 y.c0, .int .i8 y.c1, .int .i8 y.c2, .int .i8 y.c3, .int .i8 y.c4, .int .i8 y.c5, .int .u8 y.m, .int .u16 y.n, .bool y.x, .int .u8 y.h])).run Try.prog w = .ok (decide (x = y)) w := by
  go_simp
  by_cases h : x = y
  · subst h; simp
  · rw [decide_eq_false h]
    repeat' split
    all_goals first
      | rfl
      | (exfalso; apply h; rw [Cx.ext_iff]; simp_all)
theorem eqlCx (x y : Cx) (w : World) : (binOp .eql 28 (.agg #[.int .u16 x.f, .int .u16 x.i, .int .u8 x.r0, .int .u8 x.r1, .int .u8 x.r2, .int .u8 x.r3, .int .u8 x.r4, .int .u8 x.r5, .int .i8 x.c0, .int .i8 x.c1, .int .i8 x.c2, .int .i8 x.c3, .int .i8 x.c4, .int .i8 x.c5, .int .u8 x.m, .int .u16 x.n, .bool x.x, .int .u8 x.h]) (.agg #[.int .u16 y.f, .int .u16 y.i, .int .u8 y.r0, .int .u8 y.r1, .int .u8 y.r2, .int .u8 y.r3, .int .u8 y.r4, .int .u8 y.r5, .int .i8 y.c0, .int .i8 y.c1, .int .i8 y.c2, .int .i8 y.c3, .int .i8 y.c4, .int .i8 y.c5, .int .u8 y.m, .int .u16 y.n, .bool y.x, .int .u8 y.h])).run Try.prog w = .ok (.bool (decide (x = y))) w := by
  rw [run_eql_struct, eqCx]; rfl
theorem neqCx (x y : Cx) (w : World) : (binOp .neq 28 (.agg #[.int .u16 x.f, .int .u16 x.i, .int .u8 x.r0, .int .u8 x.r1, .int .u8 x.r2, .int .u8 x.r3, .int .u8 x.r4, .int .u8 x.r5, .int .i8 x.c0, .int .i8 x.c1, .int .i8 x.c2, .int .i8 x.c3, .int .i8 x.c4, .int .i8 x.c5, .int .u8 x.m, .int .u16 x.n, .bool x.x, .int .u8 x.h]) (.agg #[.int .u16 y.f, .int .u16 y.i, .int .u8 y.r0, .int .u8 y.r1, .int .u8 y.r2, .int .u8 y.r3, .int .u8 y.r4, .int .u8 y.r5, .int .i8 y.c0, .int .i8 y.c1, .int .i8 y.c2, .int .i8 y.c3, .int .i8 y.c4, .int .i8 y.c5, .int .u8 y.m, .int .u16 y.n, .bool y.x, .int .u8 y.h])).run Try.prog w = .ok (.bool (!decide (x = y))) w := by
  rw [run_neq_struct, eqCx]; rfl
theorem neqRx (x y : Cx) (w : World) : (binOp .neq 35 (.agg #[.int .u16 x.f, .int .u16 x.i, .int .u8 x.r0, .int .u8 x.r1, .int .u8 x.r2, .int .u8 x.r3, .int .u8 x.r4, .int .u8 x.r5, .int .i8 x.c0, .int .i8 x.c1, .int .i8 x.c2, .int .i8 x.c3, .int .i8 x.c4, .int .i8 x.c5, .int .u8 x.m, .int .u16 x.n, .bool x.x, .int .u8 x.h]) (.agg #[.int .u16 y.f, .int .u16 y.i, .int .u8 y.r0, .int .u8 y.r1, .int .u8 y.r2, .int .u8 y.r3, .int .u8 y.r4, .int .u8 y.r5, .int .i8 y.c0, .int .i8 y.c1, .int .i8 y.c2, .int .i8 y.c3, .int .i8 y.c4, .int .i8 y.c5, .int .u8 y.m, .int .u16 y.n, .bool y.x, .int .u8 y.h])).run Try.prog w = .ok (.bool (!decide (x = y))) w := by
  rw [run_neq_struct, eqRx]; rfl
set_option linter.unusedVariables false
set_option linter.unusedSimpArgs false

/-- A context's bytes. -/
def bytesOf (c : Cx) : List Nat := cxB c.f.toNat c.i.toNat c.n.toNat c
theorem bytesOf_len (c : Cx) : (bytesOf c).length = 21 := rfl
theorem unit_back {u : Int} (h0 : -1 ≤ u) (h1 : u < 16) : unitOf (u + 1).toNat = u := by
  unfold unitOf
  rw [if_pos (by omega), if_neg (by omega)]
  omega
theorem cxOf_bytes {c : Cx} (hok : c.Ok) (hr : c.right = true) : cxOf (bytesOf c) = c ∧ at2 (bytesOf c) 0 = c.f.toNat ∧ at2 (bytesOf c) 2 = c.i.toNat ∧ at2 (bytesOf c) 17 = c.n.toNat := by
  have hu := ((Cx.right_iff c).1 hr).1
  obtain ⟨a1, a2, a3, a4, a5, a6, a7, a8, a9, a10, a11, a12, a13, a14, a15, a16, a17⟩ := hok
  have u0 := hu 0 (by omega)
  have u1 := hu 1 (by omega)
  have u2 := hu 2 (by omega)
  have u3 := hu 3 (by omega)
  have u4 := hu 4 (by omega)
  have u5 := hu 5 (by omega)
  have e0 : at2 (bytesOf c) 0 = c.f.toNat := by show c.f.toNat / 256 * 256 + c.f.toNat % 256 = _; omega
  have e2 : at2 (bytesOf c) 2 = c.i.toNat := by show c.i.toNat / 256 * 256 + c.i.toNat % 256 = _; omega
  have e17 : at2 (bytesOf c) 17 = c.n.toNat := by show c.n.toNat / 256 * 256 + c.n.toNat % 256 = _; omega
  refine ⟨?_, e0, e2, e17⟩
  rw [Cx.ext_iff]
  refine ⟨?_, ?_, ?_, ?_, ?_, ?_, ?_, ?_, ?_, ?_, ?_, ?_, ?_, ?_, ?_, ?_, ?_, ?_⟩
  · show ((at2 (bytesOf c) 0 : Nat) : Int) = _; rw [e0]; omega
  · show ((at2 (bytesOf c) 2 : Nat) : Int) = _; rw [e2]; omega
  · show ((c.r0.toNat : Nat) : Int) = _; omega
  · show ((c.r1.toNat : Nat) : Int) = _; omega
  · show ((c.r2.toNat : Nat) : Int) = _; omega
  · show ((c.r3.toNat : Nat) : Int) = _; omega
  · show ((c.r4.toNat : Nat) : Int) = _; omega
  · show ((c.r5.toNat : Nat) : Int) = _; omega
  · exact unit_back u0.1 u0.2
  · exact unit_back u1.1 u1.2
  · exact unit_back u2.1 u2.2
  · exact unit_back u3.1 u3.2
  · exact unit_back u4.1 u4.2
  · exact unit_back u5.1 u5.2
  · show ((c.m.toNat : Nat) : Int) = _; omega
  · show ((at2 (bytesOf c) 17 : Nat) : Int) = _; rw [e17]; omega
  · have e : (bytesOf c).getD 19 0 = if c.x then 1 else 0 := rfl
    unfold cxOf
    simp only [e]
    cases c.x <;> rfl
  · show ((c.h.toNat : Nat) : Int) = _; omega
theorem bytesOf_bytes {c : Cx} (hok : c.Ok) (hr : c.right = true) : bytes (bytesOf c) := by
  have hu := ((Cx.right_iff c).1 hr).1
  obtain ⟨a1, a2, a3, a4, a5, a6, a7, a8, a9, a10, a11, a12, a13, a14, a15, a16, a17⟩ := hok
  have u0 : -1 ≤ c.c0 ∧ c.c0 < 16 := hu 0 (by omega)
  have u1 : -1 ≤ c.c1 ∧ c.c1 < 16 := hu 1 (by omega)
  have u2 : -1 ≤ c.c2 ∧ c.c2 < 16 := hu 2 (by omega)
  have u3 : -1 ≤ c.c3 ∧ c.c3 < 16 := hu 3 (by omega)
  have u4 : -1 ≤ c.c4 ∧ c.c4 < 16 := hu 4 (by omega)
  have u5 : -1 ≤ c.c5 ∧ c.c5 < 16 := hu 5 (by omega)
  have hx : (if c.x then 1 else 0 : Nat) < 256 := by split <;> omega
  intro x hx'
  simp only [bytesOf, cxB, Cx.q, List.mem_append, List.mem_cons, List.mem_nil_iff, or_false, List.not_mem_nil] at hx'
  omega
theorem good_bytes {c : Cx} (hok : c.Ok) (hr : c.right = true) : cxGood (bytesOf c) := by
  obtain ⟨e, e0, e2, e17⟩ := cxOf_bytes hok hr
  refine ⟨by rw [e]; exact hr, ?_⟩
  rw [e, e0, e2, e17]
  rfl
theorem good_len {l : List Nat} (h : cxGood l) : l.length = 21 := by rw [← h.2]; rfl
/-- One reset more. -/
def Cx.reset (c : Cx) : Cx := ⟨c.f, c.i, c.r0, c.r1, c.r2, c.r3, c.r4, c.r5, c.c0, c.c1, c.c2, c.c3, c.c4, c.c5, 0, if c.n < 65535 then c.n + 1 else c.n, c.x, c.h⟩
theorem Cx.reset_ok {c : Cx} (h : c.Ok) : c.reset.Ok := by
  obtain ⟨a1, a2, a3, a4, a5, a6, a7, a8, a9, a10, a11, a12, a13, a14, a15, a16, a17⟩ := h
  refine ⟨a1, a2, a3, a4, a5, a6, a7, a8, a9, a10, a11, a12, a13, a14, ⟨Int.le_refl 0, (by decide : (0 : Int) < 256)⟩, ?_, a17⟩
  show 0 ≤ (if c.n < 65535 then c.n + 1 else c.n) ∧ (if c.n < 65535 then c.n + 1 else c.n) < 65536
  split <;> omega
theorem Cx.reset_right {c : Cx} (h : c.right = true) : c.reset.right = true := by
  obtain ⟨h1, h2, h3⟩ := (Cx.right_iff c).1 h
  exact (Cx.right_iff _).2 ⟨h1, by show (0 : Int) ≤ 3; omega, h3⟩
set_option maxRecDepth 100000 in
set_option maxHeartbeats 2000000 in
theorem Reset_any (c : Cx) (w : World) (hok : c.Ok) : Calls Try.prog 36 #[.agg #[.int .u16 c.f, .int .u16 c.i, .int .u8 c.r0, .int .u8 c.r1, .int .u8 c.r2, .int .u8 c.r3, .int .u8 c.r4, .int .u8 c.r5, .int .i8 c.c0, .int .i8 c.c1, .int .i8 c.c2, .int .i8 c.c3, .int .i8 c.c4, .int .i8 c.c5, .int .u8 c.m, .int .u16 c.n, .bool c.x, .int .u8 c.h]] w fun e w' => e = .returned (.agg #[.int .u16 c.reset.f, .int .u16 c.reset.i, .int .u8 c.reset.r0, .int .u8 c.reset.r1, .int .u8 c.reset.r2, .int .u8 c.reset.r3, .int .u8 c.reset.r4, .int .u8 c.reset.r5, .int .i8 c.reset.c0, .int .i8 c.reset.c1, .int .i8 c.reset.c2, .int .i8 c.reset.c3, .int .i8 c.reset.c4, .int .i8 c.reset.c5, .int .u8 c.reset.m, .int .u16 c.reset.n, .bool c.reset.x, .int .u8 c.reset.h]) ∧ Below w.heap.size w w' := by
  have hn := hok.n
  have hzc := zero_cx
  by_cases h : c.n < 65535
  · have hw : IntKind.u16.wrap (c.n + 1) = c.n + 1 := by rw [IntKind.wrap_u16]; omega
    have e : c.reset = ⟨c.f, c.i, c.r0, c.r1, c.r2, c.r3, c.r4, c.r5, c.c0, c.c1, c.c2, c.c3, c.c4, c.c5, 0, c.n + 1, c.x, c.h⟩ := by unfold Cx.reset; rw [if_pos h]
    rw [e]
    clear e
    go_enter Try.func36, Try.ntmps36
    go_wp2_with (first | (refine wpList_load_row rfl 28 _ rfl _ rfl _ _ _ _ (by (first | exact heap_alloc2_new _ _ _ | exact heap_alloc2_old _ _ _ | exact heap_alloc_new _ _ | assumption)) Try.underlying28 rfl (by exact size_cx) ?_; (try go_simp)) | (refine wpList_store_row rfl 28 _ _ rfl _ _ rfl rfl _ _ (by (first | exact heap_alloc2_new _ _ _ | exact heap_alloc2_old _ _ _ | exact heap_alloc_new _ _ | assumption)) (by exact size_cx) (by rfl) (by simp [Value.oneCell']) ?_; (first | rw [setRow_alloc2_new] | rw [setRow_alloc2_old] | rw [World.setRow_alloc_new] | skip); (try go_simp)))
    refine bodyPost_ret (results_cell_row rfl _ _ _ _ _ _ _ rfl (heap_alloc2_new _ _ _) Try.underlying28 rfl size_cx) rfl ?_
    exact ⟨rfl, by repeat' (first | (with_reducible exact Below.refl _ _) | (with_reducible assumption) | (with_reducible refine Below.setCell ?_ ?_ _) | (with_reducible refine Below.alloc ?_ ?_ _) | (with_reducible refine Below.drew ?_) | (with_reducible refine Below.drawsN ?_ _) | go_size)⟩
  · have e : c.reset = ⟨c.f, c.i, c.r0, c.r1, c.r2, c.r3, c.r4, c.r5, c.c0, c.c1, c.c2, c.c3, c.c4, c.c5, 0, c.n, c.x, c.h⟩ := by unfold Cx.reset; rw [if_neg h]
    rw [e]
    clear e
    go_enter Try.func36, Try.ntmps36
    go_wp2_with (first | (refine wpList_load_row rfl 28 _ rfl _ rfl _ _ _ _ (by (first | exact heap_alloc2_new _ _ _ | exact heap_alloc2_old _ _ _ | exact heap_alloc_new _ _ | assumption)) Try.underlying28 rfl (by exact size_cx) ?_; (try go_simp)) | (refine wpList_store_row rfl 28 _ _ rfl _ _ rfl rfl _ _ (by (first | exact heap_alloc2_new _ _ _ | exact heap_alloc2_old _ _ _ | exact heap_alloc_new _ _ | assumption)) (by exact size_cx) (by rfl) (by simp [Value.oneCell']) ?_; (first | rw [setRow_alloc2_new] | rw [setRow_alloc2_old] | rw [World.setRow_alloc_new] | skip); (try go_simp)))
    refine bodyPost_ret (results_cell_row rfl _ _ _ _ _ _ _ rfl (heap_alloc2_new _ _ _) Try.underlying28 rfl size_cx) rfl ?_
    exact ⟨rfl, by repeat' (first | (with_reducible exact Below.refl _ _) | (with_reducible assumption) | (with_reducible refine Below.setCell ?_ ?_ _) | (with_reducible refine Below.alloc ?_ ?_ _) | (with_reducible refine Below.drew ?_) | (with_reducible refine Below.drawsN ?_ _) | go_size)⟩
set_option linter.unusedVariables false
set_option linter.unusedSimpArgs false
theorem size_rc : (Try.prog.info? 35).map (·.size) = some 18 := by kernel_rfl
theorem zero_rc (w : World) : (zeroValue 35).run Try.prog w = .ok (.agg #[.int .u16 cxZero.f, .int .u16 cxZero.i, .int .u8 cxZero.r0, .int .u8 cxZero.r1, .int .u8 cxZero.r2, .int .u8 cxZero.r3, .int .u8 cxZero.r4, .int .u8 cxZero.r5, .int .i8 cxZero.c0, .int .i8 cxZero.c1, .int .i8 cxZero.c2, .int .i8 cxZero.c3, .int .i8 cxZero.c4, .int .i8 cxZero.c5, .int .u8 cxZero.m, .int .u16 cxZero.n, .bool cxZero.x, .int .u8 cxZero.h]) w := by kernel_rfl
set_option maxRecDepth 100000 in
set_option maxHeartbeats 4000000 in
theorem own08 (c : Cx) (w : World) : Calls Try.prog 19 #[.agg #[.int .u16 c.f, .int .u16 c.i, .int .u8 c.r0, .int .u8 c.r1, .int .u8 c.r2, .int .u8 c.r3, .int .u8 c.r4, .int .u8 c.r5, .int .i8 c.c0, .int .i8 c.c1, .int .i8 c.c2, .int .i8 c.c3, .int .i8 c.c4, .int .i8 c.c5, .int .u8 c.m, .int .u16 c.n, .bool c.x, .int .u8 c.h]] w fun e w' => e = .returned (.agg #[.int .u16 c.f, .int .u16 c.i, .int .u8 c.r0, .int .u8 c.r1, .int .u8 c.r2, .int .u8 c.r3, .int .u8 c.r4, .int .u8 c.r5, .int .i8 c.c0, .int .i8 c.c1, .int .i8 c.c2, .int .i8 c.c3, .int .i8 c.c4, .int .i8 c.c5, .int .u8 c.m, .int .u16 c.n, .bool c.x, .int .u8 c.h]) ∧ Below w.heap.size w w' := by
  have hzc := zero_rc
  go_enter Try.func19, Try.ntmps19
  go_wp2_with (first | (refine wpList_load_row rfl 28 _ rfl _ rfl _ _ _ _ (by (first | exact heap_alloc2_new _ _ _ | exact heap_alloc2_old _ _ _ | exact heap_alloc_new _ _ | assumption)) Try.underlying28 rfl (by exact size_cx) ?_; (try go_simp)) | (refine wpList_store_row rfl 28 _ _ rfl _ _ rfl rfl _ _ (by (first | exact heap_alloc2_new _ _ _ | exact heap_alloc2_old _ _ _ | exact heap_alloc_new _ _ | assumption)) (by exact size_cx) (by rfl) (by simp [Value.oneCell']) ?_; (first | rw [setRow_alloc2_new] | rw [setRow_alloc2_old] | rw [World.setRow_alloc_new] | skip); (try go_simp)) | (refine wpList_load_row rfl 35 _ rfl _ rfl _ _ _ _ (by (first | exact heap_alloc2_new _ _ _ | exact heap_alloc2_old _ _ _ | exact heap_alloc_new _ _ | assumption)) Try.underlying35 rfl (by exact size_rc) ?_; (try go_simp)) | (refine wpList_store_row rfl 35 _ _ rfl _ _ rfl rfl _ _ (by (first | exact heap_alloc2_new _ _ _ | exact heap_alloc2_old _ _ _ | exact heap_alloc_new _ _ | assumption)) (by exact size_rc) (by rfl) (by simp [Value.oneCell']) ?_; (first | rw [setRow_alloc2_new] | rw [setRow_alloc2_old] | rw [World.setRow_alloc_new] | skip); (try go_simp)))
  refine bodyPost_ret (results_cell_row rfl _ _ _ _ _ _ _ rfl (heap_alloc2_new _ _ _) Try.underlying35 rfl size_rc) rfl ?_
  exact ⟨rfl, by repeat' (first | (with_reducible exact Below.refl _ _) | (with_reducible assumption) | (with_reducible refine Below.setCell ?_ ?_ _) | (with_reducible refine Below.alloc ?_ ?_ _) | (with_reducible refine Below.drew ?_) | (with_reducible refine Below.drawsN ?_ _) | go_size)⟩
set_option maxRecDepth 100000 in
set_option maxHeartbeats 4000000 in
theorem xRight_any (c : Cx) (w : World) : Calls Try.prog 18 #[.agg #[.int .u16 c.f, .int .u16 c.i, .int .u8 c.r0, .int .u8 c.r1, .int .u8 c.r2, .int .u8 c.r3, .int .u8 c.r4, .int .u8 c.r5, .int .i8 c.c0, .int .i8 c.c1, .int .i8 c.c2, .int .i8 c.c3, .int .i8 c.c4, .int .i8 c.c5, .int .u8 c.m, .int .u16 c.n, .bool c.x, .int .u8 c.h]] w fun e w' => e = .returned (.bool c.right) ∧ Below w.heap.size w w' := by
  go_enter Try.func18, Try.ntmps18
  go_wp2
  have hb0 : Below w.heap.size w (w.alloc (.cells #[.int .u16 c.f, .int .u16 c.i, .int .u8 c.r0, .int .u8 c.r1, .int .u8 c.r2, .int .u8 c.r3, .int .u8 c.r4, .int .u8 c.r5, .int .i8 c.c0, .int .i8 c.c1, .int .i8 c.c2, .int .i8 c.c3, .int .i8 c.c4, .int .i8 c.c5, .int .u8 c.m, .int .u16 c.n, .bool c.x, .int .u8 c.h] 35)) := (Below.refl _ _).alloc (Nat.le_refl _) _
  have hbx := heap_alloc_new w (.cells #[.int .u16 c.f, .int .u16 c.i, .int .u8 c.r0, .int .u8 c.r1, .int .u8 c.r2, .int .u8 c.r3, .int .u8 c.r4, .int .u8 c.r5, .int .i8 c.c0, .int .i8 c.c1, .int .i8 c.c2, .int .i8 c.c3, .int .i8 c.c4, .int .i8 c.c5, .int .u8 c.m, .int .u16 c.n, .bool c.x, .int .u8 c.h] 35)
  obtain ⟨b, hb⟩ : ∃ b, b = w.heap.size := ⟨_, rfl⟩
  obtain ⟨w1, hw1⟩ : ∃ w1, w1 = w.alloc (.cells #[.int .u16 c.f, .int .u16 c.i, .int .u8 c.r0, .int .u8 c.r1, .int .u8 c.r2, .int .u8 c.r3, .int .u8 c.r4, .int .u8 c.r5, .int .i8 c.c0, .int .i8 c.c1, .int .i8 c.c2, .int .i8 c.c3, .int .i8 c.c4, .int .i8 c.c5, .int .u8 c.m, .int .u16 c.n, .bool c.x, .int .u8 c.h] 35) := ⟨_, rfl⟩
  rw [← hb, ← hw1] at hbx
  rw [← hw1] at hb0
  rw [← hb, ← hw1]
  have m0 := cell_of_row w1 b 14 _ _ _ hbx
  have h0 := cell_of_row w1 b 17 _ _ _ hbx
  have HB0 := Lib.hid hb0
  clear hb hw1 hb0 hbx
  go_loopw [7] (fun i wr => ∃ k : Nat, k ≤ 6 ∧ i = .int .i64 (k : Nat) ∧ wr = w1 ∧ ∀ j, j < k → -1 ≤ c.u j ∧ c.u j < 16) (fun i _ => 6 - (intOf i).toNat)
  case atStart => exact ⟨0, by omega, rfl, rfl, fun j hj => absurd hj (by omega)⟩
  case round =>
    obtain ⟨k, hk, rfl, rfl, hup⟩ := hrel
    have hB := HB0.out
    have : k = 0 ∨ k = 1 ∨ k = 2 ∨ k = 3 ∨ k = 4 ∨ k = 5 ∨ k = 6 := by omega
    rcases this with rfl | rfl | rfl | rfl | rfl | rfl | rfl
    · have eu : c.u 0 = c.c0 := rfl
      by_cases h1 : c.c0 < -1
      · have hf : c.right = false := Cx.not_right (fun h => by have := h.1 0 (by omega); rw [eu] at this; omega)
        have HF := Lib.hid hf
        clear hf eu
        go_wp2
        go_ret
        exact ⟨by rw [HF.out]; rfl, hB⟩
      · by_cases h2 : 15 < c.c0
        · have hf : c.right = false := Cx.not_right (fun h => by have := h.1 0 (by omega); rw [eu] at this; omega)
          have HF := Lib.hid hf
          clear hf eu
          go_wp2
          go_ret
          exact ⟨by rw [HF.out]; rfl, hB⟩
        · go_wp2
          go_roundw
          case rel => exact ⟨0 + 1, by omega, by go_num, trivial, fun j hj => by
            by_cases e : j = 0
            · subst e; rw [eu]; omega
            · exact hup j (by omega)⟩
          case measure => simp [intOf]
    · have eu : c.u 1 = c.c1 := rfl
      by_cases h1 : c.c1 < -1
      · have hf : c.right = false := Cx.not_right (fun h => by have := h.1 1 (by omega); rw [eu] at this; omega)
        have HF := Lib.hid hf
        clear hf eu
        go_wp2
        go_ret
        exact ⟨by rw [HF.out]; rfl, hB⟩
      · by_cases h2 : 15 < c.c1
        · have hf : c.right = false := Cx.not_right (fun h => by have := h.1 1 (by omega); rw [eu] at this; omega)
          have HF := Lib.hid hf
          clear hf eu
          go_wp2
          go_ret
          exact ⟨by rw [HF.out]; rfl, hB⟩
        · go_wp2
          go_roundw
          case rel => exact ⟨1 + 1, by omega, by go_num, trivial, fun j hj => by
            by_cases e : j = 1
            · subst e; rw [eu]; omega
            · exact hup j (by omega)⟩
          case measure => simp [intOf]
    · have eu : c.u 2 = c.c2 := rfl
      by_cases h1 : c.c2 < -1
      · have hf : c.right = false := Cx.not_right (fun h => by have := h.1 2 (by omega); rw [eu] at this; omega)
        have HF := Lib.hid hf
        clear hf eu
        go_wp2
        go_ret
        exact ⟨by rw [HF.out]; rfl, hB⟩
      · by_cases h2 : 15 < c.c2
        · have hf : c.right = false := Cx.not_right (fun h => by have := h.1 2 (by omega); rw [eu] at this; omega)
          have HF := Lib.hid hf
          clear hf eu
          go_wp2
          go_ret
          exact ⟨by rw [HF.out]; rfl, hB⟩
        · go_wp2
          go_roundw
          case rel => exact ⟨2 + 1, by omega, by go_num, trivial, fun j hj => by
            by_cases e : j = 2
            · subst e; rw [eu]; omega
            · exact hup j (by omega)⟩
          case measure => simp [intOf]
    · have eu : c.u 3 = c.c3 := rfl
      by_cases h1 : c.c3 < -1
      · have hf : c.right = false := Cx.not_right (fun h => by have := h.1 3 (by omega); rw [eu] at this; omega)
        have HF := Lib.hid hf
        clear hf eu
        go_wp2
        go_ret
        exact ⟨by rw [HF.out]; rfl, hB⟩
      · by_cases h2 : 15 < c.c3
        · have hf : c.right = false := Cx.not_right (fun h => by have := h.1 3 (by omega); rw [eu] at this; omega)
          have HF := Lib.hid hf
          clear hf eu
          go_wp2
          go_ret
          exact ⟨by rw [HF.out]; rfl, hB⟩
        · go_wp2
          go_roundw
          case rel => exact ⟨3 + 1, by omega, by go_num, trivial, fun j hj => by
            by_cases e : j = 3
            · subst e; rw [eu]; omega
            · exact hup j (by omega)⟩
          case measure => simp [intOf]
    · have eu : c.u 4 = c.c4 := rfl
      by_cases h1 : c.c4 < -1
      · have hf : c.right = false := Cx.not_right (fun h => by have := h.1 4 (by omega); rw [eu] at this; omega)
        have HF := Lib.hid hf
        clear hf eu
        go_wp2
        go_ret
        exact ⟨by rw [HF.out]; rfl, hB⟩
      · by_cases h2 : 15 < c.c4
        · have hf : c.right = false := Cx.not_right (fun h => by have := h.1 4 (by omega); rw [eu] at this; omega)
          have HF := Lib.hid hf
          clear hf eu
          go_wp2
          go_ret
          exact ⟨by rw [HF.out]; rfl, hB⟩
        · go_wp2
          go_roundw
          case rel => exact ⟨4 + 1, by omega, by go_num, trivial, fun j hj => by
            by_cases e : j = 4
            · subst e; rw [eu]; omega
            · exact hup j (by omega)⟩
          case measure => simp [intOf]
    · have eu : c.u 5 = c.c5 := rfl
      by_cases h1 : c.c5 < -1
      · have hf : c.right = false := Cx.not_right (fun h => by have := h.1 5 (by omega); rw [eu] at this; omega)
        have HF := Lib.hid hf
        clear hf eu
        go_wp2
        go_ret
        exact ⟨by rw [HF.out]; rfl, hB⟩
      · by_cases h2 : 15 < c.c5
        · have hf : c.right = false := Cx.not_right (fun h => by have := h.1 5 (by omega); rw [eu] at this; omega)
          have HF := Lib.hid hf
          clear hf eu
          go_wp2
          go_ret
          exact ⟨by rw [HF.out]; rfl, hB⟩
        · go_wp2
          go_roundw
          case rel => exact ⟨5 + 1, by omega, by go_num, trivial, fun j hj => by
            by_cases e : j = 5
            · subst e; rw [eu]; omega
            · exact hup j (by omega)⟩
          case measure => simp [intOf]
    · by_cases h1 : c.m < 4
      · by_cases h2 : c.h < 32
        · have hf : c.right = true := (Cx.right_iff c).2 ⟨hup, by omega, h2⟩
          have HF := Lib.hid hf
          clear hf
          go_wp2
          go_ret
          exact ⟨by rw [HF.out]; rfl, hB⟩
        · have hf : c.right = false := Cx.not_right (fun h => h2 h.2.2)
          have HF := Lib.hid hf
          clear hf
          have h2' : decide (c.h < 32) = false := decide_eq_false h2
          go_wp2
          go_ret
          exact ⟨by rw [HF.out]; rfl, hB⟩
      · have hf : c.right = false := Cx.not_right (fun h => h1 (by have := h.2.1; omega))
        have HF := Lib.hid hf
        clear hf
        have h1' : decide (c.m < 4) = false := decide_eq_false h1
        go_wp2
        go_ret
        exact ⟨by rw [HF.out]; rfl, hB⟩
end Go.Proofs.Ytpgophkegjeheaa
