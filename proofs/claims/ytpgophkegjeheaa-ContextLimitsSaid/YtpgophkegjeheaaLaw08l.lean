/- ContextLimits: however often a role is switched over, its count never is above the limit. -/
import Derived.Test.YtpgophkegjeheaaLaw08
namespace Go.Proofs.Ytpgophkegjeheaa
open Go.RowKit Go.Own
set_option linter.unusedVariables false
set_option linter.unusedSimpArgs false

def zl (l : List Int) : List Value := l.map (Value.int .i64)
theorem zl_len (l : List Int) : (zl l).length = l.length := by simp [zl]
theorem zl_at (l : List Int) {i : Nat} (h : i < l.length) : (zl l)[i]? = some (.int .i64 (l.getD i 0)) := by simp [zl, List.getD, h]
theorem zl_set (l : List Int) (i : Nat) (x : Int) : (zl l).set i (.int .i64 x) = zl (l.set i x) := by simp [zl, List.map_set]
/-- Where the law stands. -/
structure LimSt (w wr : World) (gc gn : Nat) (set most : Int) (c : Cx) (nl : List Int) : Prop where
  be : Below w.heap.size w wr
  hc : w.heap.size ≤ gc
  hn : w.heap.size ≤ gn
  ne : gc ≠ gn
  bc : wr.heap[gc]? = some (.cells #[.int .u16 c.f, .int .u16 c.i, .int .u8 c.r0, .int .u8 c.r1, .int .u8 c.r2, .int .u8 c.r3, .int .u8 c.r4, .int .u8 c.r5, .int .i8 c.c0, .int .i8 c.c1, .int .i8 c.c2, .int .i8 c.c3, .int .i8 c.c4, .int .i8 c.c5, .int .u8 c.m, .int .u16 c.n, .bool c.x, .int .u8 c.h] 28 (0, 0))
  bn : wr.heap[gn]? = some (.cells (zl nl).toArray 63 (0, 0))
  ok : c.Ok
  f : c.f = set
  n : c.n = 0
  len : nl.length = 6
  eq : ∀ j : Nat, j < 6 → nl.getD j 0 = c.r (j : Int)
  le : ∀ j : Nat, j < 6 → c.r (j : Int) ≤ most
theorem LimSt.step {w wr w' : World} {gc gn : Nat} {set most : Int} {c : Cx} {nl : List Int} (h : LimSt w wr gc gn set most c nl) {k : Nat} (hb : Below k wr w') (hk : wr.heap.size ≤ k) : LimSt w w' gc gn set most c nl :=
  ⟨h.be.trans (hb.mono (Nat.le_trans h.be.size hk)), h.hc, h.hn, h.ne, box_below h.bc hb (Nat.lt_of_lt_of_le (box_lt h.bc) hk), box_below h.bn hb (Nat.lt_of_lt_of_le (box_lt h.bn) hk), h.ok, h.f, h.n, h.len, h.eq, h.le⟩
theorem Cx.setR_r (c : Cx) (k x : Int) (j : Int) (h0 : 0 ≤ j) (h6 : j < 6) (hk0 : 0 ≤ k) (hk6 : k < 6) : (c.setR k x).r j = if j = k then x else c.r j := by
  have hj : j = 0 ∨ j = 1 ∨ j = 2 ∨ j = 3 ∨ j = 4 ∨ j = 5 := by omega
  have hk : k = 0 ∨ k = 1 ∨ k = 2 ∨ k = 3 ∨ k = 4 ∨ k = 5 := by omega
  rcases hj with rfl | rfl | rfl | rfl | rfl | rfl <;> rcases hk with rfl | rfl | rfl | rfl | rfl | rfl <;> rfl
theorem Cx.setR_ok (c : Cx) (k x : Int) (h : c.Ok) (h0 : 0 ≤ x) (h1 : x < 256) : (c.setR k x).Ok := by
  obtain ⟨a1, a2, a3, a4, a5, a6, a7, a8, a9, a10, a11, a12, a13, a14, a15, a16, a17⟩ := h
  refine ⟨a1, a2, ?_, ?_, ?_, ?_, ?_, ?_, a9, a10, a11, a12, a13, a14, a15, a16, a17⟩ <;> (unfold Cx.setR; dsimp only; split <;> omega)
theorem Cx.r_ok (c : Cx) (h : c.Ok) (j : Int) : 0 ≤ c.r j ∧ c.r j < 256 := by
  have := h.r0; have := h.r1; have := h.r2; have := h.r3; have := h.r4; have := h.r5
  unfold Cx.r
  split
  · omega
  split
  · omega
  split
  · omega
  split
  · omega
  split
  · omega
  · omega
theorem LimSt.put {w wr : World} {gc gn : Nat} {set most : Int} {c : Cx} {nl : List Int} (h : LimSt w wr gc gn set most c nl) : LimSt w (wr.setRow gc #[.int .u16 c.f, .int .u16 c.i, .int .u8 c.r0, .int .u8 c.r1, .int .u8 c.r2, .int .u8 c.r3, .int .u8 c.r4, .int .u8 c.r5, .int .i8 c.c0, .int .i8 c.c1, .int .i8 c.c2, .int .i8 c.c3, .int .i8 c.c4, .int .i8 c.c5, .int .u8 c.m, .int .u16 c.n, .bool c.x, .int .u8 c.h]) gc gn set most c nl := by
  have hcc := h.hc
  exact ⟨⟨h.be.os, h.be.tape, h.be.output, by simpa [World.setRow] using h.be.size, fun i hi => (setRow_other _ gc i _ (by omega)).trans (h.be.block i hi)⟩, h.hc, h.hn, h.ne, setRow_heap _ gc _ _ _ _ h.bc, (setRow_other _ gc gn _ (Ne.symm h.ne)).trans h.bn, h.ok, h.f, h.n, h.len, h.eq, h.le⟩
/-- One switch-over more. -/
theorem LimSt.more {w wr : World} {gc gn k : Nat} {set most : Int} {c : Cx} {nl : List Int} (h : LimSt w wr gc gn set most c nl) (hk : k < 6) (hlt : c.r (k : Int) < min most 255) :
    LimSt w ((wr.setCell ⟨gn, k, none⟩ (.int .i64 (c.r (k : Int) + 1))).setRow gc #[.int .u16 (c.setR (k : Int) (c.r (k : Int) + 1)).f, .int .u16 (c.setR (k : Int) (c.r (k : Int) + 1)).i, .int .u8 (c.setR (k : Int) (c.r (k : Int) + 1)).r0, .int .u8 (c.setR (k : Int) (c.r (k : Int) + 1)).r1, .int .u8 (c.setR (k : Int) (c.r (k : Int) + 1)).r2, .int .u8 (c.setR (k : Int) (c.r (k : Int) + 1)).r3, .int .u8 (c.setR (k : Int) (c.r (k : Int) + 1)).r4, .int .u8 (c.setR (k : Int) (c.r (k : Int) + 1)).r5, .int .i8 (c.setR (k : Int) (c.r (k : Int) + 1)).c0, .int .i8 (c.setR (k : Int) (c.r (k : Int) + 1)).c1, .int .i8 (c.setR (k : Int) (c.r (k : Int) + 1)).c2, .int .i8 (c.setR (k : Int) (c.r (k : Int) + 1)).c3, .int .i8 (c.setR (k : Int) (c.r (k : Int) + 1)).c4, .int .i8 (c.setR (k : Int) (c.r (k : Int) + 1)).c5, .int .u8 (c.setR (k : Int) (c.r (k : Int) + 1)).m, .int .u16 (c.setR (k : Int) (c.r (k : Int) + 1)).n, .bool (c.setR (k : Int) (c.r (k : Int) + 1)).x, .int .u8 (c.setR (k : Int) (c.r (k : Int) + 1)).h]) gc gn set most (c.setR (k : Int) (c.r (k : Int) + 1)) (nl.set k (c.r (k : Int) + 1)) := by
  have hr := c.r_ok h.ok k
  have hgn := heap_setCell_same wr gn k _ _ (.int .i64 (c.r (k : Int) + 1)) h.bn
  have e2 : (zl nl).toArray.setIfInBounds k (.int .i64 (c.r (k : Int) + 1)) = (zl (nl.set k (c.r (k : Int) + 1))).toArray := by rw [← zl_set]; simp
  rw [e2] at hgn
  have hgc := (heap_setCell_other wr ⟨gn, k, none⟩ gc (.int .i64 (c.r (k : Int) + 1)) h.ne).trans h.bc
  have hcc := h.hc
  have hnn := h.hn
  refine ⟨?_, h.hc, h.hn, h.ne, setRow_heap _ gc _ _ _ _ hgc, (setRow_other _ gc gn _ (Ne.symm h.ne)).trans hgn, c.setR_ok _ _ h.ok (by omega) (by omega), h.f, h.n, by rw [List.length_set]; exact h.len, fun j hj => ?_, fun j hj => ?_⟩
  · have b1 := h.be.setCell (p := ⟨gn, k, none⟩) (by simpa using hnn) (.int .i64 (c.r (k : Int) + 1))
    exact ⟨b1.os, b1.tape, b1.output, by simpa [World.setRow] using b1.size, fun i hi => (setRow_other _ gc i _ (by omega)).trans (b1.block i hi)⟩
  · rw [c.setR_r _ _ _ (by omega) (by omega) (by omega) (by omega)]
    by_cases e : j = k
    · subst e
      simp [List.getD, h.len, hj]
    · have e' : ¬ (j : Int) = (k : Int) := by omega
      rw [if_neg e', ← h.eq j hj]
      simp only [List.getD, List.getElem?_set, Ne.symm e, if_false]
  · rw [c.setR_r _ _ _ (by omega) (by omega) (by omega) (by omega)]
    have := h.le j hj
    split <;> omega
@[go_sem] theorem ridx0 (w : World) (a b c d e f : Int) : (Instr.index 24 (.agg #[.int .u8 a, .int .u8 b, .int .u8 c, .int .u8 d, .int .u8 e, .int .u8 f]) (.int .i64 0)).run Try.prog w = .ok (.int .u8 a) w := by kernel_rfl
@[go_sem] theorem ridx1 (w : World) (a b c d e f : Int) : (Instr.index 24 (.agg #[.int .u8 a, .int .u8 b, .int .u8 c, .int .u8 d, .int .u8 e, .int .u8 f]) (.int .i64 1)).run Try.prog w = .ok (.int .u8 b) w := by kernel_rfl
@[go_sem] theorem ridx2 (w : World) (a b c d e f : Int) : (Instr.index 24 (.agg #[.int .u8 a, .int .u8 b, .int .u8 c, .int .u8 d, .int .u8 e, .int .u8 f]) (.int .i64 2)).run Try.prog w = .ok (.int .u8 c) w := by kernel_rfl
@[go_sem] theorem ridx3 (w : World) (a b c d e f : Int) : (Instr.index 24 (.agg #[.int .u8 a, .int .u8 b, .int .u8 c, .int .u8 d, .int .u8 e, .int .u8 f]) (.int .i64 3)).run Try.prog w = .ok (.int .u8 d) w := by kernel_rfl
@[go_sem] theorem ridx4 (w : World) (a b c d e f : Int) : (Instr.index 24 (.agg #[.int .u8 a, .int .u8 b, .int .u8 c, .int .u8 d, .int .u8 e, .int .u8 f]) (.int .i64 4)).run Try.prog w = .ok (.int .u8 e) w := by kernel_rfl
@[go_sem] theorem ridx5 (w : World) (a b c d e f : Int) : (Instr.index 24 (.agg #[.int .u8 a, .int .u8 b, .int .u8 c, .int .u8 d, .int .u8 e, .int .u8 f]) (.int .i64 5)).run Try.prog w = .ok (.int .u8 f) w := by kernel_rfl
def cxFrom (s : Int) : Cx := ⟨s, 0, 0, 0, 0, 0, 0, 0, -1, -1, -1, -1, -1, -1, 0, 0, false, 0⟩
theorem cxFrom_ok {s : Int} (h0 : 0 ≤ s) (h1 : s ≤ 65535) : (cxFrom s).Ok := by
  constructor <;> (unfold cxFrom; dsimp only; omega)
def zv (l : List Int) : Nat → Value := fun i => .int .i64 (l.getD i 0)
theorem isRow_z {w : World} {a : Option Addr} {len cap : Nat} {z : List Int} (h : IsRow .i64 w a len cap z) : ∃ l : List Int, l.length = len ∧ Rd w.heap.size w a len cap (zv l) := by
  rcases h with ⟨rfl, rfl, rfl, rfl⟩ | ⟨x, rfl, hl, hm, hz, hcell, hwz⟩
  · exact ⟨[], rfl, Rd.none_ _ _ _⟩
  · refine ⟨z.take len, by simp; omega, (rd_of_row hl hm (by omega) hcell).same fun i hi => ?_⟩
    unfold zv
    simp [List.getD, hi]
set_option maxRecDepth 100000 in
set_option maxHeartbeats 8000000 in
theorem walk_ContextLimits (a0 : Option Addr) (len0 cap0 : Nat) (z0 : List Int) (a1 a2 : Int) (w : World) (w0 : IsRow .i64 w a0 len0 cap0 z0) (w1 : (Lit.int .u8 a1).wf = true) (w2 : (Lit.int .u16 a2).wf = true) :
    Calls Try.prog 5 #[.slice a0 len0 cap0, .int .u8 a1, .int .u16 a2] w fun e w' => e = .returned (.bool true) ∧ Below w.heap.size w w' := by
  obtain ⟨p0, p1⟩ := bounds_u8 w1
  obtain ⟨q0, q1⟩ := bounds_u16 w2
  have H0 := Lib.hid w0
  clear w1 w2 w0
  go_enter Try.func5, Try.ntmps5
  go_wp2_with fail
  go_at_call 15
  refine (awake08 _).mono ?_
  rintro e wa ⟨rfl, hb1⟩
  have HB1 := Lib.hid hb1
  clear hb1
  go_wp2_with fail
  go_at_call 28
  refine (Default_any _).mono ?_
  rintro e wb ⟨rfl, hb2⟩
  have HB2 := Lib.hid (HB1.out.trans (hb2.mono HB1.out.size))
  clear hb2 HB1
  go_wp2_with (first | (refine wpList_load_row rfl 28 _ rfl _ rfl _ _ _ _ (by (first | exact heap_alloc2_new _ _ _ | exact heap_alloc2_old _ _ _ | exact heap_alloc_new _ _ | assumption)) Try.underlying28 rfl (by exact size_cx) ?_; (try go_simp)) | (refine wpList_store_row rfl 28 _ _ rfl _ _ rfl rfl _ _ (by (first | exact heap_alloc2_new _ _ _ | exact heap_alloc2_old _ _ _ | exact heap_alloc_new _ _ | assumption)) (by exact size_cx) (by rfl) (by simp [Value.oneCell']) ?_; (first | rw [setRow_alloc2_new] | rw [setRow_alloc2_old] | rw [World.setRow_alloc_new] | skip); (try go_simp)))
  obtain ⟨gc, hgc⟩ : ∃ g, g = wb.heap.size := ⟨_, rfl⟩
  have hL : LimSt w ((wb.alloc (.cells #[.int .u16 (cxFrom a2).f, .int .u16 (cxFrom a2).i, .int .u8 (cxFrom a2).r0, .int .u8 (cxFrom a2).r1, .int .u8 (cxFrom a2).r2, .int .u8 (cxFrom a2).r3, .int .u8 (cxFrom a2).r4, .int .u8 (cxFrom a2).r5, .int .i8 (cxFrom a2).c0, .int .i8 (cxFrom a2).c1, .int .i8 (cxFrom a2).c2, .int .i8 (cxFrom a2).c3, .int .i8 (cxFrom a2).c4, .int .i8 (cxFrom a2).c5, .int .u8 (cxFrom a2).m, .int .u16 (cxFrom a2).n, .bool (cxFrom a2).x, .int .u8 (cxFrom a2).h] 28)).alloc (.cells #[.int .i64 0, .int .i64 0, .int .i64 0, .int .i64 0, .int .i64 0, .int .i64 0] 63)) gc (gc + 1) a2 a1 (cxFrom a2) [0, 0, 0, 0, 0, 0] := by
    subst hgc
    have hs := HB2.out.size
    refine ⟨HB2.out.trans ?_, hs, by omega, by omega, heap_alloc2_old _ _ _, heap_alloc2_new _ _ _, cxFrom_ok q0 q1, rfl, rfl, rfl, fun j hj => ?_, fun j hj => ?_⟩
    · exact (((Below.refl wb.heap.size wb).alloc (Nat.le_refl _) _).alloc (by simp) _).mono hs
    · have : j = 0 ∨ j = 1 ∨ j = 2 ∨ j = 3 ∨ j = 4 ∨ j = 5 := by omega
      rcases this with rfl | rfl | rfl | rfl | rfl | rfl <;> rfl
    · have : j = 0 ∨ j = 1 ∨ j = 2 ∨ j = 3 ∨ j = 4 ∨ j = 5 := by omega
      rcases this with rfl | rfl | rfl | rfl | rfl | rfl <;> exact p0
  obtain ⟨ws, hws, hL1⟩ : ∃ ws, ws = (wb.alloc (.cells #[.int .u16 a2, .int .u16 cxDef.i, .int .u8 cxDef.r0, .int .u8 cxDef.r1, .int .u8 cxDef.r2, .int .u8 cxDef.r3, .int .u8 cxDef.r4, .int .u8 cxDef.r5, .int .i8 cxDef.c0, .int .i8 cxDef.c1, .int .i8 cxDef.c2, .int .i8 cxDef.c3, .int .i8 cxDef.c4, .int .i8 cxDef.c5, .int .u8 cxDef.m, .int .u16 cxDef.n, .bool cxDef.x, .int .u8 cxDef.h] 28)).alloc (.cells #[.int .i64 0, .int .i64 0, .int .i64 0, .int .i64 0, .int .i64 0, .int .i64 0] 63) ∧ LimSt w ws gc (gc + 1) a2 a1 (cxFrom a2) [0, 0, 0, 0, 0, 0] := ⟨_, rfl, hL⟩
  rw [← hgc, ← hws]
  obtain ⟨gn, hgn⟩ : ∃ g, g = gc + 1 := ⟨_, rfl⟩
  rw [← hgn] at hL1 ⊢
  have HL := Lib.hid hL1
  clear hL hL1 hgc hws hgn HB2
  obtain ⟨l, hl, hrd⟩ := isRow_z H0.out
  have HR := Lib.hid hrd
  have hlen := hrd.le
  have htop := hrd.top
  clear hrd H0
  go_loopw [22] (fun i wr => ∃ (j : Nat) (c : Cx) (nl : List Int), j ≤ len0 ∧ j ≤ 60 ∧ i = .int .i64 j ∧ LimSt w wr gc gn a2 a1 c nl) (fun i _ => len0 - (intOf i).toNat)
  case atStart => exact ⟨0, _, _, Nat.zero_le _, by omega, rfl, HL.out⟩
  case round =>
    obtain ⟨j, c, nl, hj, hj60, rfl, hL⟩ := hrel
    clear HL
    by_cases hlt : j < len0
    · by_cases h60 : j < 60
      · obtain ⟨bb, off, hAe, hbb, hc0⟩ := HR.out.at hlt
        have hcx := (hL.be.cell (p := ⟨bb, off + j, none⟩) hbb).trans hc0
        unfold zv at hcx
        subst hAe
        obtain ⟨x, hx⟩ : ∃ x, x = l.getD j 0 := ⟨_, rfl⟩
        rw [← hx] at hcx
        have hbc := hL.bc
        have h3 : ∀ w3 : World, Below wr.heap.size wr w3 → LimSt w (w3.alloc (.cells #[.int .u16 c.f, .int .u16 c.i, .int .u8 c.r0, .int .u8 c.r1, .int .u8 c.r2, .int .u8 c.r3, .int .u8 c.r4, .int .u8 c.r5, .int .i8 c.c0, .int .i8 c.c1, .int .i8 c.c2, .int .i8 c.c3, .int .i8 c.c4, .int .i8 c.c5, .int .u8 c.m, .int .u16 c.n, .bool c.x, .int .u8 c.h] 28)) gc gn a2 a1 c nl ∧ (w3.alloc (.cells #[.int .u16 c.f, .int .u16 c.i, .int .u8 c.r0, .int .u8 c.r1, .int .u8 c.r2, .int .u8 c.r3, .int .u8 c.r4, .int .u8 c.r5, .int .i8 c.c0, .int .i8 c.c1, .int .i8 c.c2, .int .i8 c.c3, .int .i8 c.c4, .int .i8 c.c5, .int .u8 c.m, .int .u16 c.n, .bool c.x, .int .u8 c.h] 28)).heap[gc]? = some (.cells #[.int .u16 c.f, .int .u16 c.i, .int .u8 c.r0, .int .u8 c.r1, .int .u8 c.r2, .int .u8 c.r3, .int .u8 c.r4, .int .u8 c.r5, .int .i8 c.c0, .int .i8 c.c1, .int .i8 c.c2, .int .i8 c.c3, .int .i8 c.c4, .int .i8 c.c5, .int .u8 c.m, .int .u16 c.n, .bool c.x, .int .u8 c.h] 28 (0, 0)) := fun w3 hb3 => by
          have h := (hL.step hb3 (Nat.le_refl _)).step ((Below.refl w3.heap.size w3).alloc (Nat.le_refl _) (.cells #[.int .u16 c.f, .int .u16 c.i, .int .u8 c.r0, .int .u8 c.r1, .int .u8 c.r2, .int .u8 c.r3, .int .u8 c.r4, .int .u8 c.r5, .int .i8 c.c0, .int .i8 c.c1, .int .i8 c.c2, .int .i8 c.c3, .int .i8 c.c4, .int .i8 c.c5, .int .u8 c.m, .int .u16 c.n, .bool c.x, .int .u8 c.h] 28)) (Nat.le_refl _)
          exact ⟨h, h.bc⟩
        have H3 := Lib.hid h3
        have HL := Lib.hid hL
        clear hx hc0 h3 hL
        by_cases hin : x < 0 ∨ 6 ≤ x
        · have HIN := Lib.hid hin
          clear hin
          go_wp2_with (first | (refine wpList_load_row rfl 28 _ rfl _ rfl _ _ _ _ (by (first | exact heap_alloc2_new _ _ _ | exact heap_alloc2_old _ _ _ | exact heap_alloc_new _ _ | assumption)) Try.underlying28 rfl (by exact size_cx) ?_; (try go_simp)))
          go_at_call 40
          refine (Again_no c x a1 _ HIN.out).mono ?_
          rintro e w3 ⟨rfl, hb3⟩
          obtain ⟨h4, hb4⟩ := H3.out w3 hb3
          have H4 := Lib.hid h4.put
          clear hb3 h4 hbc hcx
          go_wp2_with (first | (refine wpList_load_row rfl 28 _ rfl _ rfl _ _ _ _ (by (first | exact heap_alloc2_new _ _ _ | exact heap_alloc2_old _ _ _ | exact heap_alloc_new _ _ | assumption)) Try.underlying28 rfl (by exact size_cx) ?_; (try go_simp)) | (refine wpList_store_row rfl 28 _ _ rfl _ _ rfl rfl _ _ (by (first | exact heap_alloc2_new _ _ _ | exact heap_alloc2_old _ _ _ | exact heap_alloc_new _ _ | assumption)) (by exact size_cx) (by rfl) (by simp [Value.oneCell']) ?_; (first | rw [setRow_alloc2_new] | rw [setRow_alloc2_old] | rw [World.setRow_alloc_new] | skip); (try go_simp)))
          go_roundw
          case rel => exact ⟨j + 1, c, nl, by omega, by omega, by go_num, H4.out⟩
          case measure => simp [intOf]; omega
        · have hx0 : 0 ≤ x := by omega
          obtain ⟨k, rfl⟩ := Int.eq_ofNat_of_zero_le hx0
          have hk6 : k < 6 := by omega
          rcases Again_in c (k : Int) a1 (min a1 255) wr HL.out.ok (by omega) (by omega) rfl with ⟨hlt2, hcall⟩ | ⟨hlt2, hcall⟩
          · have hy := c.r_ok HL.out.ok k
            have hmore := fun (w4 : World) (h : LimSt w w4 gc gn a2 a1 c nl) => h.more hk6 hlt2
            have hat : nl.getD k 0 = c.r (k : Int) := HL.out.eq k hk6
            obtain ⟨y, hyy⟩ : ∃ y, y = c.r (k : Int) := ⟨_, rfl⟩
            rw [← hyy] at hcall hy hmore hat
            obtain ⟨c', hc'⟩ : ∃ c', c' = c.setR (k : Int) (y + 1) := ⟨_, rfl⟩
            rw [← hc'] at hcall hmore
            have HC := Lib.hid hcall
            have HM := Lib.hid hmore
            have hmn := fun (w : World) => run_minI (P := Try.prog) #[3, 3] 3 .i64 (k : Int) 5 w
            have hmx := fun (w : World) => run_maxI (P := Try.prog) #[3, 3] 3 .i64 (k : Int) 0 w
            rw [show min (k : Int) 5 = (k : Int) by omega] at hmn
            rw [show max (k : Int) 0 = (k : Int) by omega] at hmx
            have HMN := Lib.hid hmn
            have HMX := Lib.hid hmx
            clear hcall hlt2 hin hx0 hyy hc' hmore hmn hmx
            go_wp2_with (first | (refine wpList_load_row rfl 28 _ rfl _ rfl _ _ _ _ (by (first | exact heap_alloc2_new _ _ _ | exact heap_alloc2_old _ _ _ | exact heap_alloc_new _ _ | assumption)) Try.underlying28 rfl (by exact size_cx) ?_; (try go_simp)))
            go_at_call 40
            refine HC.out.mono ?_
            rintro e w3 ⟨rfl, hb3⟩
            clear hbc hcx
            have h4 := (HL.out.step hb3 (Nat.le_refl _)).step ((Below.refl w3.heap.size w3).alloc (Nat.le_refl _) (.cells #[.int .u16 c'.f, .int .u16 c'.i, .int .u8 c'.r0, .int .u8 c'.r1, .int .u8 c'.r2, .int .u8 c'.r3, .int .u8 c'.r4, .int .u8 c'.r5, .int .i8 c'.c0, .int .i8 c'.c1, .int .i8 c'.c2, .int .i8 c'.c3, .int .i8 c'.c4, .int .i8 c'.c5, .int .u8 c'.m, .int .u16 c'.n, .bool c'.x, .int .u8 c'.h] 28)) (Nat.le_refl _)
            have hlt3 : gn < w3.heap.size := Nat.lt_of_lt_of_le (box_lt HL.out.bn) hb3.size
            have f0 : (w3.alloc (.cells #[.int .u16 c'.f, .int .u16 c'.i, .int .u8 c'.r0, .int .u8 c'.r1, .int .u8 c'.r2, .int .u8 c'.r3, .int .u8 c'.r4, .int .u8 c'.r5, .int .i8 c'.c0, .int .i8 c'.c1, .int .i8 c'.c2, .int .i8 c'.c3, .int .i8 c'.c4, .int .i8 c'.c5, .int .u8 c'.m, .int .u16 c'.n, .bool c'.x, .int .u8 c'.h] 28)).heap[w3.heap.size]? = some (.cells #[.int .u16 c'.f, .int .u16 c'.i, .int .u8 c'.r0, .int .u8 c'.r1, .int .u8 c'.r2, .int .u8 c'.r3, .int .u8 c'.r4, .int .u8 c'.r5, .int .i8 c'.c0, .int .i8 c'.c1, .int .i8 c'.c2, .int .i8 c'.c3, .int .i8 c'.c4, .int .i8 c'.c5, .int .u8 c'.m, .int .u16 c'.n, .bool c'.x, .int .u8 c'.h] 28 (0, 0)) := heap_alloc_new _ _
            obtain ⟨w4, hw4, h5, f5⟩ : ∃ w4, w4 = w3.alloc (.cells #[.int .u16 c'.f, .int .u16 c'.i, .int .u8 c'.r0, .int .u8 c'.r1, .int .u8 c'.r2, .int .u8 c'.r3, .int .u8 c'.r4, .int .u8 c'.r5, .int .i8 c'.c0, .int .i8 c'.c1, .int .i8 c'.c2, .int .i8 c'.c3, .int .i8 c'.c4, .int .i8 c'.c5, .int .u8 c'.m, .int .u16 c'.n, .bool c'.x, .int .u8 c'.h] 28) ∧ LimSt w w4 gc gn a2 a1 c nl ∧ w4.heap[w3.heap.size]? = some (.cells #[.int .u16 c'.f, .int .u16 c'.i, .int .u8 c'.r0, .int .u8 c'.r1, .int .u8 c'.r2, .int .u8 c'.r3, .int .u8 c'.r4, .int .u8 c'.r5, .int .i8 c'.c0, .int .i8 c'.c1, .int .i8 c'.c2, .int .i8 c'.c3, .int .i8 c'.c4, .int .i8 c'.c5, .int .u8 c'.m, .int .u16 c'.n, .bool c'.x, .int .u8 c'.h] 28 (0, 0)) := ⟨_, rfl, h4, f0⟩
            have k4 : w4.cell? ⟨gn, k, none⟩ = some (.int .i64 y) := by
              rw [cell_of_row _ gn k _ _ _ h5.bn, List.getElem?_toArray, zl_at _ (by rw [h5.len]; exact hk6), hat]
            have z4 : w4.frozen? ⟨gn, k, none⟩ = false := frozen_of_row _ gn k _ _ h5.bn
            have f1 : (w4.setCell ⟨gn, k, none⟩ (.int .i64 (y + 1))).heap[w3.heap.size]? = some (.cells #[.int .u16 c'.f, .int .u16 c'.i, .int .u8 c'.r0, .int .u8 c'.r1, .int .u8 c'.r2, .int .u8 c'.r3, .int .u8 c'.r4, .int .u8 c'.r5, .int .i8 c'.c0, .int .i8 c'.c1, .int .i8 c'.c2, .int .i8 c'.c3, .int .i8 c'.c4, .int .i8 c'.c5, .int .u8 c'.m, .int .u16 c'.n, .bool c'.x, .int .u8 c'.h] 28 (0, 0)) := (heap_setCell_other _ ⟨gn, k, none⟩ _ _ (by show w3.heap.size ≠ gn; omega)).trans f5
            have f2 : (w4.setCell ⟨gn, k, none⟩ (.int .i64 (y + 1))).heap[gc]? = some (.cells #[.int .u16 c.f, .int .u16 c.i, .int .u8 c.r0, .int .u8 c.r1, .int .u8 c.r2, .int .u8 c.r3, .int .u8 c.r4, .int .u8 c.r5, .int .i8 c.c0, .int .i8 c.c1, .int .i8 c.c2, .int .i8 c.c3, .int .i8 c.c4, .int .i8 c.c5, .int .u8 c.m, .int .u16 c.n, .bool c.x, .int .u8 c.h] 28 (0, 0)) := (heap_setCell_other _ ⟨gn, k, none⟩ _ _ h5.ne).trans h5.bc
            have H5 := Lib.hid (HM.out _ h5)
            have HW4 := Lib.hid hw4
            have hmn := HMN.out
            have hmx := HMX.out
            clear hb3 h4 h5 f0 f5 hw4 hat
            go_wp2_with (first | (refine wpList_load_row rfl 28 _ rfl _ rfl _ _ _ _ f1 Try.underlying28 rfl (by exact size_cx) ?_; (try go_simp)) | ((refine wpList_store_row rfl 28 _ _ rfl _ _ rfl rfl _ _ (by (first | exact heap_alloc2_new _ _ _ | exact heap_alloc2_old _ _ _ | exact heap_alloc_new _ _ | assumption)) (by exact size_cx) (by rfl) (by simp [Value.oneCell']) ?_; (first | rw [setRow_alloc2_new] | rw [setRow_alloc2_old] | rw [World.setRow_alloc_new] | skip); (try go_simp)); rw [← HW4.out]) | (refine wpList_store_row rfl 28 _ _ rfl _ _ rfl rfl _ _ f2 (by exact size_cx) (by rfl) (by simp [Value.oneCell']) ?_; (try go_simp)))
            go_roundw
            case rel => exact ⟨j + 1, c', nl.set k (y + 1), by omega, by omega, by go_num, H5.out⟩
            case measure => simp [intOf]; omega
          · have HC := Lib.hid hcall
            clear hcall hlt2 hin hx0
            go_wp2_with (first | (refine wpList_load_row rfl 28 _ rfl _ rfl _ _ _ _ (by (first | exact heap_alloc2_new _ _ _ | exact heap_alloc2_old _ _ _ | exact heap_alloc_new _ _ | assumption)) Try.underlying28 rfl (by exact size_cx) ?_; (try go_simp)))
            go_at_call 40
            refine HC.out.mono ?_
            rintro e w3 ⟨rfl, hb3⟩
            obtain ⟨h4, hb4⟩ := H3.out w3 hb3
            have H4 := Lib.hid h4.put
            clear hb3 h4 hbc hcx
            go_wp2_with (first | (refine wpList_load_row rfl 28 _ rfl _ rfl _ _ _ _ (by (first | exact heap_alloc2_new _ _ _ | exact heap_alloc2_old _ _ _ | exact heap_alloc_new _ _ | assumption)) Try.underlying28 rfl (by exact size_cx) ?_; (try go_simp)) | (refine wpList_store_row rfl 28 _ _ rfl _ _ rfl rfl _ _ (by (first | exact heap_alloc2_new _ _ _ | exact heap_alloc2_old _ _ _ | exact heap_alloc_new _ _ | assumption)) (by exact size_cx) (by rfl) (by simp [Value.oneCell']) ?_; (first | rw [setRow_alloc2_new] | rw [setRow_alloc2_old] | rw [World.setRow_alloc_new] | skip); (try go_simp)))
            go_roundw
            case rel => exact ⟨j + 1, c, nl, by omega, by omega, by go_num, H4.out⟩
            case measure => simp [intOf]; omega
      · obtain rfl : j = 60 := by omega
        have HL := Lib.hid hL
        clear hL
        obtain ⟨bb, off, hAe, hbb, hc0⟩ := HR.out.at hlt
        have hcx := (HL.out.be.cell (p := ⟨bb, off + 60, none⟩) hbb).trans hc0
        unfold zv at hcx
        subst hAe
        have hbc := HL.out.bc
        have hok := HL.out.ok
        have hf := HL.out.f
        have hn := HL.out.n
        have hat := HL.out.eq
        have hle := HL.out.le
        have hcell : ∀ k : Nat, k < 6 → wr.cell? ⟨gn, k, none⟩ = some (.int .i64 (nl.getD k 0)) := fun k hk => by
          rw [cell_of_row _ gn k _ _ _ HL.out.bn, List.getElem?_toArray, zl_at _ (by rw [HL.out.len]; exact hk)]
        have q0 := cell_of_row wr gc 0 _ _ _ hbc
        have q2 := cell_of_row wr gc 2 _ _ _ hbc
        have q3 := cell_of_row wr gc 3 _ _ _ hbc
        have q4 := cell_of_row wr gc 4 _ _ _ hbc
        have q5 := cell_of_row wr gc 5 _ _ _ hbc
        have q6 := cell_of_row wr gc 6 _ _ _ hbc
        have q7 := cell_of_row wr gc 7 _ _ _ hbc
        have q15 := cell_of_row wr gc 15 _ _ _ hbc
        obtain ⟨wf, rfl⟩ : ∃ wf : World, wf = wr := ⟨_, rfl⟩
        clear hbc HR
        go_wp2
        go_loopw [49] (fun i wr => ∃ k : Nat, k ≤ 6 ∧ i = .int .i64 (k : Nat) ∧ wr = wf) (fun i _ => 6 - (intOf i).toNat)
        case atStart => exact ⟨0, by omega, rfl, rfl⟩
        case round =>
          obtain ⟨k, hk, rfl, rfl⟩ := hrel
          have : k = 0 ∨ k = 1 ∨ k = 2 ∨ k = 3 ∨ k = 4 ∨ k = 5 ∨ k = 6 := by omega
          rcases this with rfl | rfl | rfl | rfl | rfl | rfl | rfl
          · have n0 := hat 0 (by omega)
            have n1 := hle 0 (by omega)
            have hcr : c.r ((0 : Nat) : Int) = c.r0 := rfl
            rw [hcr] at n0 n1
            have ng := hcell 0 (by omega)
            rw [n0] at ng
            obtain ⟨hr0, hr1⟩ := hok.r0
            have hnb : (c.r0 != c.r0) = false := by simp
            clear hat hle hcell hcr n0
            go_wp2
            go_roundw
            case rel => exact ⟨0 + 1, by omega, by go_num, trivial⟩
            case measure => simp [intOf]
          · have n0 := hat 1 (by omega)
            have n1 := hle 1 (by omega)
            have hcr : c.r ((1 : Nat) : Int) = c.r1 := rfl
            rw [hcr] at n0 n1
            have ng := hcell 1 (by omega)
            rw [n0] at ng
            obtain ⟨hr0, hr1⟩ := hok.r1
            have hnb : (c.r1 != c.r1) = false := by simp
            clear hat hle hcell hcr n0
            go_wp2
            go_roundw
            case rel => exact ⟨1 + 1, by omega, by go_num, trivial⟩
            case measure => simp [intOf]
          · have n0 := hat 2 (by omega)
            have n1 := hle 2 (by omega)
            have hcr : c.r ((2 : Nat) : Int) = c.r2 := rfl
            rw [hcr] at n0 n1
            have ng := hcell 2 (by omega)
            rw [n0] at ng
            obtain ⟨hr0, hr1⟩ := hok.r2
            have hnb : (c.r2 != c.r2) = false := by simp
            clear hat hle hcell hcr n0
            go_wp2
            go_roundw
            case rel => exact ⟨2 + 1, by omega, by go_num, trivial⟩
            case measure => simp [intOf]
          · have n0 := hat 3 (by omega)
            have n1 := hle 3 (by omega)
            have hcr : c.r ((3 : Nat) : Int) = c.r3 := rfl
            rw [hcr] at n0 n1
            have ng := hcell 3 (by omega)
            rw [n0] at ng
            obtain ⟨hr0, hr1⟩ := hok.r3
            have hnb : (c.r3 != c.r3) = false := by simp
            clear hat hle hcell hcr n0
            go_wp2
            go_roundw
            case rel => exact ⟨3 + 1, by omega, by go_num, trivial⟩
            case measure => simp [intOf]
          · have n0 := hat 4 (by omega)
            have n1 := hle 4 (by omega)
            have hcr : c.r ((4 : Nat) : Int) = c.r4 := rfl
            rw [hcr] at n0 n1
            have ng := hcell 4 (by omega)
            rw [n0] at ng
            obtain ⟨hr0, hr1⟩ := hok.r4
            have hnb : (c.r4 != c.r4) = false := by simp
            clear hat hle hcell hcr n0
            go_wp2
            go_roundw
            case rel => exact ⟨4 + 1, by omega, by go_num, trivial⟩
            case measure => simp [intOf]
          · have n0 := hat 5 (by omega)
            have n1 := hle 5 (by omega)
            have hcr : c.r ((5 : Nat) : Int) = c.r5 := rfl
            rw [hcr] at n0 n1
            have ng := hcell 5 (by omega)
            rw [n0] at ng
            obtain ⟨hr0, hr1⟩ := hok.r5
            have hnb : (c.r5 != c.r5) = false := by simp
            clear hat hle hcell hcr n0
            go_wp2
            go_roundw
            case rel => exact ⟨5 + 1, by omega, by go_num, trivial⟩
            case measure => simp [intOf]
          · clear hat hle hcell
            have hff : (c.f == a2) = true := by rw [hf]; simp
            have hnn : (c.n == 0) = true := by rw [hn]; rfl
            go_wp2
            go_ret
            exact ⟨rfl, HL.out.be⟩
    · obtain rfl : j = len0 := by omega
      have HL := Lib.hid hL
      clear hL
      have hbc := HL.out.bc
      have hok := HL.out.ok
      have hf := HL.out.f
      have hn := HL.out.n
      have hat := HL.out.eq
      have hle := HL.out.le
      have hcell : ∀ k : Nat, k < 6 → wr.cell? ⟨gn, k, none⟩ = some (.int .i64 (nl.getD k 0)) := fun k hk => by
        rw [cell_of_row _ gn k _ _ _ HL.out.bn, List.getElem?_toArray, zl_at _ (by rw [HL.out.len]; exact hk)]
      have q0 := cell_of_row wr gc 0 _ _ _ hbc
      have q2 := cell_of_row wr gc 2 _ _ _ hbc
      have q3 := cell_of_row wr gc 3 _ _ _ hbc
      have q4 := cell_of_row wr gc 4 _ _ _ hbc
      have q5 := cell_of_row wr gc 5 _ _ _ hbc
      have q6 := cell_of_row wr gc 6 _ _ _ hbc
      have q7 := cell_of_row wr gc 7 _ _ _ hbc
      have q15 := cell_of_row wr gc 15 _ _ _ hbc
      obtain ⟨wf, rfl⟩ : ∃ wf : World, wf = wr := ⟨_, rfl⟩
      clear hbc HR
      go_wp2
      go_loopw [49] (fun i wr => ∃ k : Nat, k ≤ 6 ∧ i = .int .i64 (k : Nat) ∧ wr = wf) (fun i _ => 6 - (intOf i).toNat)
      case atStart => exact ⟨0, by omega, rfl, rfl⟩
      case round =>
        obtain ⟨k, hk, rfl, rfl⟩ := hrel
        have : k = 0 ∨ k = 1 ∨ k = 2 ∨ k = 3 ∨ k = 4 ∨ k = 5 ∨ k = 6 := by omega
        rcases this with rfl | rfl | rfl | rfl | rfl | rfl | rfl
        · have n0 := hat 0 (by omega)
          have n1 := hle 0 (by omega)
          have hcr : c.r ((0 : Nat) : Int) = c.r0 := rfl
          rw [hcr] at n0 n1
          have ng := hcell 0 (by omega)
          rw [n0] at ng
          obtain ⟨hr0, hr1⟩ := hok.r0
          have hnb : (c.r0 != c.r0) = false := by simp
          clear hat hle hcell hcr n0
          go_wp2
          go_roundw
          case rel => exact ⟨0 + 1, by omega, by go_num, trivial⟩
          case measure => simp [intOf]
        · have n0 := hat 1 (by omega)
          have n1 := hle 1 (by omega)
          have hcr : c.r ((1 : Nat) : Int) = c.r1 := rfl
          rw [hcr] at n0 n1
          have ng := hcell 1 (by omega)
          rw [n0] at ng
          obtain ⟨hr0, hr1⟩ := hok.r1
          have hnb : (c.r1 != c.r1) = false := by simp
          clear hat hle hcell hcr n0
          go_wp2
          go_roundw
          case rel => exact ⟨1 + 1, by omega, by go_num, trivial⟩
          case measure => simp [intOf]
        · have n0 := hat 2 (by omega)
          have n1 := hle 2 (by omega)
          have hcr : c.r ((2 : Nat) : Int) = c.r2 := rfl
          rw [hcr] at n0 n1
          have ng := hcell 2 (by omega)
          rw [n0] at ng
          obtain ⟨hr0, hr1⟩ := hok.r2
          have hnb : (c.r2 != c.r2) = false := by simp
          clear hat hle hcell hcr n0
          go_wp2
          go_roundw
          case rel => exact ⟨2 + 1, by omega, by go_num, trivial⟩
          case measure => simp [intOf]
        · have n0 := hat 3 (by omega)
          have n1 := hle 3 (by omega)
          have hcr : c.r ((3 : Nat) : Int) = c.r3 := rfl
          rw [hcr] at n0 n1
          have ng := hcell 3 (by omega)
          rw [n0] at ng
          obtain ⟨hr0, hr1⟩ := hok.r3
          have hnb : (c.r3 != c.r3) = false := by simp
          clear hat hle hcell hcr n0
          go_wp2
          go_roundw
          case rel => exact ⟨3 + 1, by omega, by go_num, trivial⟩
          case measure => simp [intOf]
        · have n0 := hat 4 (by omega)
          have n1 := hle 4 (by omega)
          have hcr : c.r ((4 : Nat) : Int) = c.r4 := rfl
          rw [hcr] at n0 n1
          have ng := hcell 4 (by omega)
          rw [n0] at ng
          obtain ⟨hr0, hr1⟩ := hok.r4
          have hnb : (c.r4 != c.r4) = false := by simp
          clear hat hle hcell hcr n0
          go_wp2
          go_roundw
          case rel => exact ⟨4 + 1, by omega, by go_num, trivial⟩
          case measure => simp [intOf]
        · have n0 := hat 5 (by omega)
          have n1 := hle 5 (by omega)
          have hcr : c.r ((5 : Nat) : Int) = c.r5 := rfl
          rw [hcr] at n0 n1
          have ng := hcell 5 (by omega)
          rw [n0] at ng
          obtain ⟨hr0, hr1⟩ := hok.r5
          have hnb : (c.r5 != c.r5) = false := by simp
          clear hat hle hcell hcr n0
          go_wp2
          go_roundw
          case rel => exact ⟨5 + 1, by omega, by go_num, trivial⟩
          case measure => simp [intOf]
        · clear hat hle hcell
          have hff : (c.f == a2) = true := by rw [hf]; simp
          have hnn : (c.n == 0) = true := by rw [hn]; rfl
          go_wp2
          go_ret
          exact ⟨rfl, HL.out.be⟩
end Go.Proofs.Ytpgophkegjeheaa
