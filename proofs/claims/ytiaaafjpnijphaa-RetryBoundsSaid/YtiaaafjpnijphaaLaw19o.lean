/- RetryOnce: what is spent in one go is what is spent one by one. -/
import Derived.Test.YtiaaafjpnijphaaLaw19
namespace Go.Proofs.Ytiaaafjpnijphaa
open Go.RowKit Go.Own
set_option linter.unusedVariables false
set_option linter.unusedSimpArgs false
theorem lm_of {z : List Int} (h : z.length = 6) (hw : ∀ x ∈ z, (Lit.int .u8 x).wf = true) : ∃ m : Lm, m.Ok ∧ (z.map (Value.int .u8)).toArray = #[.int .u8 m.l0, .int .u8 m.l1, .int .u8 m.l2, .int .u8 m.l3, .int .u8 m.l4, .int .u8 m.l5] := by
  match z, h, hw with
  | [a, b, c, d, e, f], _, hw =>
    have k : ∀ x ∈ [a, b, c, d, e, f], 0 ≤ x ∧ x < 256 := fun x hx => by have := bounds_u8 (hw x hx); omega
    exact ⟨⟨a, b, c, d, e, f⟩, ⟨k a (by simp), k b (by simp), k c (by simp), k d (by simp), k e (by simp), k f (by simp)⟩, rfl⟩
theorem isRow_i {w : World} {a : Option Addr} {len cap : Nat} {z : List Int} (h : IsRow .i64 w a len cap z) : ∃ l : List Int, l.length = len ∧ Rd w.heap.size w a len cap (Bs.iv l) := by
  rcases h with ⟨rfl, rfl, rfl, rfl⟩ | ⟨x, rfl, hl, hm, hz, hcell, hwz⟩
  · exact ⟨[], rfl, Rd.none_ _ _ _⟩
  · refine ⟨z.take len, by simp; omega, (rd_of_row hl hm (by omega) hcell).same fun i hi => ?_⟩
    unfold Bs.iv
    simp [List.getD, hi]
theorem bel_one {n g : Nat} (w : World) (hg : n ≤ g) (cs : Array Value) : Below n w (w.setRow g cs) := ⟨rfl, rfl, rfl, by simp [World.setRow], fun i hi => setRow_other _ g i _ (by omega)⟩
/-- Limits, a context, and a list, kept. -/
structure LcSt (w wr : World) (g0 g1 n : Nat) (m : Lm) (c : Cx) (a : Option Addr) (len cap : Nat) (l : List Int) : Prop where
  be : Below w.heap.size w wr
  l0 : g0 < n
  l1 : g1 < n
  ln : n ≤ wr.heap.size
  lw : w.heap.size ≤ n
  bm : wr.heap[g0]? = some (.cells #[.int .u8 m.l0, .int .u8 m.l1, .int .u8 m.l2, .int .u8 m.l3, .int .u8 m.l4, .int .u8 m.l5] 129 (0, 0))
  bc : wr.heap[g1]? = some (.cells #[.int .u16 c.f, .int .u16 c.i, .int .u8 c.r0, .int .u8 c.r1, .int .u8 c.r2, .int .u8 c.r3, .int .u8 c.r4, .int .u8 c.r5, .int .i8 c.c0, .int .i8 c.c1, .int .i8 c.c2, .int .i8 c.c3, .int .i8 c.c4, .int .i8 c.c5, .int .u8 c.m, .int .u16 c.n, .bool c.x, .int .u8 c.h] 131 (0, 0))
  ro : Rd n wr a len cap (Bs.iv l)
theorem LcSt.step {w wr w' : World} {g0 g1 n : Nat} {m : Lm} {c : Cx} {a : Option Addr} {len cap : Nat} {l : List Int} (h : LcSt w wr g0 g1 n m c a len cap l) {k : Nat} (hb : Below k wr w') (hk : n ≤ k) : LcSt w w' g0 g1 n m c a len cap l :=
  ⟨h.be.trans (hb.mono (Nat.le_trans h.lw hk)), h.l0, h.l1, Nat.le_trans h.ln hb.size, h.lw, box_below h.bm hb (Nat.lt_of_lt_of_le h.l0 hk), box_below h.bc hb (Nat.lt_of_lt_of_le h.l1 hk), h.ro.below' hb hk⟩
/-- How far it was spent one by one. -/
structure OnSt (m : Lm) (c : Cx) (l : List Int) (q : Cx) (b : Bool) : Prop where
  ok : q.Ok
  yes : b = true → spend m c l = some q
  no : b = false → spend m c l = none
theorem OnSt.next {m : Lm} (hm : m.Ok) {c : Cx} {l : List Int} {q q' : Cx} {x : Int} {b' : Bool} (h : OnSt m c l q true) (hs : spendR m q [x] = (q', b')) : OnSt m c (l ++ [x]) q' b' := by
  have h1 := h.yes rfl
  unfold spendR at hs
  cases e : spend m q [x] with
  | none =>
    rw [e] at hs
    obtain ⟨rfl, rfl⟩ := Prod.mk.inj hs
    exact ⟨h.ok, (fun h => by cases h), fun _ => by rw [spend_append, h1]; exact e⟩
  | some p =>
    rw [e] at hs
    obtain ⟨rfl, rfl⟩ := Prod.mk.inj hs
    exact ⟨spend_good hm h.ok e, fun _ => by rw [spend_append, h1]; exact e, fun h => by cases h⟩
theorem OnSt.stay {m : Lm} {c : Cx} {l : List Int} {q : Cx} (x : Int) (h : OnSt m c l q false) : OnSt m c (l ++ [x]) q false :=
  ⟨h.ok, (fun h => by cases h), fun _ => by rw [spend_append, h.no rfl]; rfl⟩
set_option maxRecDepth 100000 in
set_option maxHeartbeats 8000000 in
theorem walk_RetryOnce (z0 : List Int) (c : Cx) (a2 : Option Addr) (len2 cap2 : Nat) (z2 : List Int) (w : World) (l0 : z0.length = 6) (w0 : ∀ x ∈ z0, (Lit.int .u8 x).wf = true) (wc : c.Ok) (w2 : IsRow .i64 w a2 len2 cap2 z2) :
    Calls Try.prog 14 #[.agg (z0.map (Value.int .u8)).toArray, .agg #[.int .u16 c.f, .int .u16 c.i, .int .u8 c.r0, .int .u8 c.r1, .int .u8 c.r2, .int .u8 c.r3, .int .u8 c.r4, .int .u8 c.r5, .int .i8 c.c0, .int .i8 c.c1, .int .i8 c.c2, .int .i8 c.c3, .int .i8 c.c4, .int .i8 c.c5, .int .u8 c.m, .int .u16 c.n, .bool c.x, .int .u8 c.h], .slice a2 len2 cap2] w fun e w' => e = .returned (.bool true) ∧ Below w.heap.size w w' := by
  obtain ⟨m, hm, e0⟩ := lm_of l0 w0
  rw [e0]
  clear e0 l0 w0
  obtain ⟨l, hl, hrd⟩ := isRow_i w2
  clear w2
  have hzc := zero_cx
  have h0 := heap_alloc2_old w (.cells #[.int .u8 m.l0, .int .u8 m.l1, .int .u8 m.l2, .int .u8 m.l3, .int .u8 m.l4, .int .u8 m.l5] 129) (.cells #[.int .u16 c.f, .int .u16 c.i, .int .u8 c.r0, .int .u8 c.r1, .int .u8 c.r2, .int .u8 c.r3, .int .u8 c.r4, .int .u8 c.r5, .int .i8 c.c0, .int .i8 c.c1, .int .i8 c.c2, .int .i8 c.c3, .int .i8 c.c4, .int .i8 c.c5, .int .u8 c.m, .int .u16 c.n, .bool c.x, .int .u8 c.h] 131)
  have h1 := heap_alloc2_new w (.cells #[.int .u8 m.l0, .int .u8 m.l1, .int .u8 m.l2, .int .u8 m.l3, .int .u8 m.l4, .int .u8 m.l5] 129) (.cells #[.int .u16 c.f, .int .u16 c.i, .int .u8 c.r0, .int .u8 c.r1, .int .u8 c.r2, .int .u8 c.r3, .int .u8 c.r4, .int .u8 c.r5, .int .i8 c.c0, .int .i8 c.c1, .int .i8 c.c2, .int .i8 c.c3, .int .i8 c.c4, .int .i8 c.c5, .int .u8 c.m, .int .u16 c.n, .bool c.x, .int .u8 c.h] 131)
  have hb0 : Below w.heap.size w ((w.alloc (.cells #[.int .u8 m.l0, .int .u8 m.l1, .int .u8 m.l2, .int .u8 m.l3, .int .u8 m.l4, .int .u8 m.l5] 129)).alloc (.cells #[.int .u16 c.f, .int .u16 c.i, .int .u8 c.r0, .int .u8 c.r1, .int .u8 c.r2, .int .u8 c.r3, .int .u8 c.r4, .int .u8 c.r5, .int .i8 c.c0, .int .i8 c.c1, .int .i8 c.c2, .int .i8 c.c3, .int .i8 c.c4, .int .i8 c.c5, .int .u8 c.m, .int .u16 c.n, .bool c.x, .int .u8 c.h] 131)) := by repeat' (first | (with_reducible exact Below.refl _ _) | (with_reducible assumption) | (with_reducible refine Below.setCell ?_ ?_ _) | (with_reducible refine Below.alloc ?_ ?_ _) | (with_reducible refine Below.drew ?_) | (with_reducible refine Below.drawsN ?_ _) | go_size)
  have hsz : ((w.alloc (.cells #[.int .u8 m.l0, .int .u8 m.l1, .int .u8 m.l2, .int .u8 m.l3, .int .u8 m.l4, .int .u8 m.l5] 129)).alloc (.cells #[.int .u16 c.f, .int .u16 c.i, .int .u8 c.r0, .int .u8 c.r1, .int .u8 c.r2, .int .u8 c.r3, .int .u8 c.r4, .int .u8 c.r5, .int .i8 c.c0, .int .i8 c.c1, .int .i8 c.c2, .int .i8 c.c3, .int .i8 c.c4, .int .i8 c.c5, .int .u8 c.m, .int .u16 c.n, .bool c.x, .int .u8 c.h] 131)).heap.size = w.heap.size + 2 := by simp
  go_enter Try.func14, Try.ntmps14
  go_upto_region 1 with fail
  obtain ⟨w1, hw1⟩ : ∃ w1, w1 = (w.alloc (.cells #[.int .u8 m.l0, .int .u8 m.l1, .int .u8 m.l2, .int .u8 m.l3, .int .u8 m.l4, .int .u8 m.l5] 129)).alloc (.cells #[.int .u16 c.f, .int .u16 c.i, .int .u8 c.r0, .int .u8 c.r1, .int .u8 c.r2, .int .u8 c.r3, .int .u8 c.r4, .int .u8 c.r5, .int .i8 c.c0, .int .i8 c.c1, .int .i8 c.c2, .int .i8 c.c3, .int .i8 c.c4, .int .i8 c.c5, .int .u8 c.m, .int .u16 c.n, .bool c.x, .int .u8 c.h] 131) := ⟨_, rfl⟩
  rw [← hw1] at h0 h1 hb0 hsz ⊢
  have hS : LcSt w w1 w.heap.size (w.heap.size + 1) w1.heap.size m c a2 len2 cap2 l := ⟨hb0, by omega, by omega, Nat.le_refl _, by omega, h0, h1, (hrd.below hb0).mono (by omega)⟩
  clear hw1 h0 h1 hb0 hsz hrd
  obtain ⟨g1, hg1⟩ : ∃ g, g = w.heap.size + 1 := ⟨_, rfl⟩
  rw [← hg1] at hS ⊢
  obtain ⟨g0, hg0⟩ : ∃ g, g = w.heap.size := ⟨_, rfl⟩
  rw [show (Value.pointer (some ⟨w.heap.size, 0, none⟩)) = .pointer (some ⟨g0, 0, none⟩) by rw [hg0]]
  have hS : LcSt w w1 g0 g1 w1.heap.size m c a2 len2 cap2 l := by rw [hg0]; exact hS
  have HS := Lib.hid hS
  clear hS hg1 hg0
  go_wp2_with fail
  go_at_call 62
  refine (awake19 _).mono ?_
  rintro e w2 ⟨rfl, hb⟩
  have HS2 := Lib.hid (HS.out.step hb (Nat.le_refl _))
  clear hb HS
  go_wp2_with fail
  go_at_call 63
  refine (Few_any a2 len2 cap2 _ l 9 _ (by decide) hl HS2.out.ln HS2.out.ro).mono ?_
  rintro e w3 ⟨v, rfl, hown, hb⟩
  obtain ⟨a, cap, rfl⟩ := own_form hown
  obtain ⟨l9, hl9⟩ : ∃ l9, l9 = l.take 9 := ⟨_, rfl⟩
  rw [← hl9] at hown ⊢
  have hlen : l9.length ≤ 9 := by rw [hl9, List.length_take]; omega
  obtain ⟨len, hle⟩ : ∃ len, len = l9.length := ⟨_, rfl⟩
  rw [← hle] at hown hlen ⊢
  have hro := rd_of_own (f := Bs.iv l9) hown (fun i hi => ziv_at l9 i (by omega))
  have hS3 : LcSt w w3 g0 g1 w3.heap.size m c a len cap l9 := by
    have h := HS2.out.step hb HS2.out.ln
    exact ⟨h.be, Nat.lt_of_lt_of_le h.l0 h.ln, Nat.lt_of_lt_of_le h.l1 h.ln, Nat.le_refl _, h.be.size, h.bm, h.bc, hro⟩
  have HS3 := Lib.hid hS3
  have HL := Lib.hid hle.symm
  clear hl9 hle hown hro hb hS3 HS2 hl
  have b0 := HS3.out.bm
  have b1 := HS3.out.bc
  obtain ⟨d, b, hd⟩ : ∃ d b, spendR m c l9 = (d, b) := ⟨_, _, rfl⟩
  have HD := Lib.hid hd
  clear hd
  go_wp2_with (first | ((with_reducible show wpList _ _ _ (_ :: _) _ _); refine wpList_load_row rfl 129 _ rfl _ rfl _ _ _ _ b0 Try.underlying129 rfl (by exact size_lm) ?_; (try go_simp)) | ((with_reducible show wpList _ _ _ (_ :: _) _ _); refine wpList_load_row rfl 131 _ rfl _ rfl _ _ _ _ b1 Try.underlying131 rfl (by exact size_cx) ?_; (try go_simp)))
  go_at_call 64
  refine (Spend_det a len cap _ l9 _ hm wc HL.out (Nat.le_refl _) HS3.out.ro HD.out).mono ?_
  rintro e w4 ⟨rfl, hb⟩
  have h4 := HS3.out.step hb (Nat.le_refl _)
  have hb5 : Below w4.heap.size w4 (w4.alloc (.cells #[.int .u16 d.f, .int .u16 d.i, .int .u8 d.r0, .int .u8 d.r1, .int .u8 d.r2, .int .u8 d.r3, .int .u8 d.r4, .int .u8 d.r5, .int .i8 d.c0, .int .i8 d.c1, .int .i8 d.c2, .int .i8 d.c3, .int .i8 d.c4, .int .i8 d.c5, .int .u8 d.m, .int .u16 d.n, .bool d.x, .int .u8 d.h] 131)) := (Below.refl _ _).alloc (Nat.le_refl _) _
  have h5 := h4.step hb5 h4.ln
  have d5 := heap_alloc_new w4 (.cells #[.int .u16 d.f, .int .u16 d.i, .int .u8 d.r0, .int .u8 d.r1, .int .u8 d.r2, .int .u8 d.r3, .int .u8 d.r4, .int .u8 d.r5, .int .i8 d.c0, .int .i8 d.c1, .int .i8 d.c2, .int .i8 d.c3, .int .i8 d.c4, .int .i8 d.c5, .int .u8 d.m, .int .u16 d.n, .bool d.x, .int .u8 d.h] 131)
  clear hb b0 b1 h4 hb5
  go_upto_region 5 with ((with_reducible show wpList _ _ _ (_ :: _) _ _); refine wpList_store_row rfl 131 _ _ rfl _ _ rfl rfl _ _ (heap_alloc_new _ _) (by exact size_cx) (by rfl) (by simp [Value.oneCell']) ?_; rw [World.setRow_alloc_new])
  obtain ⟨w5, hw5⟩ : ∃ w5, w5 = w4.alloc (.cells #[.int .u16 d.f, .int .u16 d.i, .int .u8 d.r0, .int .u8 d.r1, .int .u8 d.r2, .int .u8 d.r3, .int .u8 d.r4, .int .u8 d.r5, .int .i8 d.c0, .int .i8 d.c1, .int .i8 d.c2, .int .i8 d.c3, .int .i8 d.c4, .int .i8 d.c5, .int .u8 d.m, .int .u16 d.n, .bool d.x, .int .u8 d.h] 131) := ⟨_, rfl⟩
  rw [← hw5] at h5 d5 ⊢
  obtain ⟨g7, hg7⟩ : ∃ g, g = w4.heap.size := ⟨_, rfl⟩
  rw [← hg7] at d5 ⊢
  have l7 := box_lt d5
  have b1 := h5.bc
  have hb6 : Below w5.heap.size w5 (w5.alloc (.cells #[.int .u16 c.f, .int .u16 c.i, .int .u8 c.r0, .int .u8 c.r1, .int .u8 c.r2, .int .u8 c.r3, .int .u8 c.r4, .int .u8 c.r5, .int .i8 c.c0, .int .i8 c.c1, .int .i8 c.c2, .int .i8 c.c3, .int .i8 c.c4, .int .i8 c.c5, .int .u8 c.m, .int .u16 c.n, .bool c.x, .int .u8 c.h] 131)) := (Below.refl _ _).alloc (Nat.le_refl _) _
  have h6 := h5.step hb6 h5.ln
  have d6 := (hb6.block g7 l7).trans d5
  have q6 := heap_alloc_new w5 (.cells #[.int .u16 c.f, .int .u16 c.i, .int .u8 c.r0, .int .u8 c.r1, .int .u8 c.r2, .int .u8 c.r3, .int .u8 c.r4, .int .u8 c.r5, .int .i8 c.c0, .int .i8 c.c1, .int .i8 c.c2, .int .i8 c.c3, .int .i8 c.c4, .int .i8 c.c5, .int .u8 c.m, .int .u16 c.n, .bool c.x, .int .u8 c.h] 131)
  have hs5 := h5.ln
  clear hw5 hg7 d5 h5 hb6
  go_upto_region 6 with (first | ((with_reducible show wpList _ _ _ (_ :: _) _ _); refine wpList_load_row rfl 131 _ rfl _ rfl _ _ _ _ b1 Try.underlying131 rfl (by exact size_cx) ?_; (try go_simp)) | ((with_reducible show wpList _ _ _ (_ :: _) _ _); refine wpList_store_row rfl 131 _ _ rfl _ _ rfl rfl _ _ (heap_alloc_new _ _) (by exact size_cx) (by rfl) (by simp [Value.oneCell']) ?_; rw [World.setRow_alloc_new]))
  clear b1
  obtain ⟨w6, hw6⟩ : ∃ w6, w6 = w5.alloc (.cells #[.int .u16 c.f, .int .u16 c.i, .int .u8 c.r0, .int .u8 c.r1, .int .u8 c.r2, .int .u8 c.r3, .int .u8 c.r4, .int .u8 c.r5, .int .i8 c.c0, .int .i8 c.c1, .int .i8 c.c2, .int .i8 c.c3, .int .i8 c.c4, .int .i8 c.c5, .int .u8 c.m, .int .u16 c.n, .bool c.x, .int .u8 c.h] 131) := ⟨_, rfl⟩
  rw [← hw6] at h6 d6 q6 ⊢
  obtain ⟨g9, hg9⟩ : ∃ g, g = w5.heap.size := ⟨_, rfl⟩
  rw [← hg9] at q6 l7 hs5 ⊢
  obtain ⟨n3, hn3⟩ : ∃ n, n = w3.heap.size := ⟨_, rfl⟩
  rw [← hn3] at h6 hs5
  have HS6 := Lib.hid h6
  have HD6 := Lib.hid d6
  have HQ6 := Lib.hid q6
  clear hw6 hg9 hn3 h6 d6 q6 HS3
  have hlen2 := HL.out
  go_wp2_with fail
  go_loopw [10, 29] (fun v i wr => ∃ (k : Nat) (q : Cx) (b2 : Bool), k ≤ len ∧ i = .int .i64 k ∧ v = .bool b2 ∧ LcSt w wr g0 g1 n3 m c a len cap l9 ∧ wr.heap[g7]? = some (.cells #[.int .u16 d.f, .int .u16 d.i, .int .u8 d.r0, .int .u8 d.r1, .int .u8 d.r2, .int .u8 d.r3, .int .u8 d.r4, .int .u8 d.r5, .int .i8 d.c0, .int .i8 d.c1, .int .i8 d.c2, .int .i8 d.c3, .int .i8 d.c4, .int .i8 d.c5, .int .u8 d.m, .int .u16 d.n, .bool d.x, .int .u8 d.h] 131 (0, 0)) ∧ wr.heap[g9]? = some (.cells #[.int .u16 q.f, .int .u16 q.i, .int .u8 q.r0, .int .u8 q.r1, .int .u8 q.r2, .int .u8 q.r3, .int .u8 q.r4, .int .u8 q.r5, .int .i8 q.c0, .int .i8 q.c1, .int .i8 q.c2, .int .i8 q.c3, .int .i8 q.c4, .int .i8 q.c5, .int .u8 q.m, .int .u16 q.n, .bool q.x, .int .u8 q.h] 131 (0, 0)) ∧ OnSt m c (l9.take k) q b2) (fun _ i _ => len - (intOf i).toNat)
  case atStart => exact ⟨0, c, true, Nat.zero_le _, rfl, rfl, HS6.out, HD6.out, HQ6.out, ⟨wc, fun _ => rfl, fun h => by cases h⟩⟩
  case round =>
    obtain ⟨k, q, b2, hk, rfl, rfl, hS, hd7, hq9, hon⟩ := hrel
    clear HS6 HD6 HQ6
    by_cases hlt : k < len
    · obtain ⟨bb, off, rfl, hbb, hcx⟩ := hS.ro.at hlt
      unfold Bs.iv at hcx
      obtain ⟨x, hx⟩ : ∃ x, x = l9.getD k 0 := ⟨_, rfl⟩
      have ht : l9.take (k + 1) = l9.take k ++ [x] := by rw [hx]; exact Bs.takeI_succ l9 (by omega)
      rw [← hx] at hcx
      have HT := Lib.hid ht
      have HS := Lib.hid hS
      have HD7 := Lib.hid hd7
      have HQ9 := Lib.hid hq9
      have HON := Lib.hid hon
      clear ht hS hd7 hq9 hon hx
      cases b2 with
      | false =>
        go_wp2_with fail
        go_roundw
        case rel => exact ⟨k + 1, q, false, by omega, by go_num, rfl, HS.out, HD7.out, HQ9.out, by rw [HT.out]; exact HON.out.stay x⟩
        case measure => simp [intOf]; omega
      | true =>
        have b0 := HS.out.bm
        have b9 := HQ9.out
        have hal : Below wr.heap.size wr (wr.alloc (.cells #[.int .i64 x] 3)) := (Below.refl _ _).alloc (Nat.le_refl _) _
        obtain ⟨q', b', hq'⟩ : ∃ q' b', spendR m q [x] = (q', b') := ⟨_, _, rfl⟩
        have HQ' := Lib.hid hq'
        have HAL := Lib.hid hal
        have hqo := HON.out.ok
        clear hq' hal
        go_wp2_with (first | ((with_reducible show wpList _ _ _ (_ :: _) _ _); refine wpList_load_row rfl 129 _ rfl _ rfl _ _ _ _ b0 Try.underlying129 rfl (by exact size_lm) ?_; (try go_simp)) | ((with_reducible show wpList _ _ _ (_ :: _) _ _); refine wpList_load_row rfl 131 _ rfl _ rfl _ _ _ _ b9 Try.underlying131 rfl (by exact size_cx) ?_; (try go_simp)))
        go_at_call 64
        refine (Spend_one _ hm hqo (heap_alloc_new _ _) HQ'.out).mono ?_
        rintro e w7 ⟨rfl, hb⟩
        have hb7 := HAL.out.trans (hb.mono HAL.out.size)
        have q7 := box_below HQ9.out hb7 (box_lt HQ9.out)
        have hon2 := HON.out.next hm HQ'.out
        have h7 : LcSt w (w7.setRow g9 #[.int .u16 q'.f, .int .u16 q'.i, .int .u8 q'.r0, .int .u8 q'.r1, .int .u8 q'.r2, .int .u8 q'.r3, .int .u8 q'.r4, .int .u8 q'.r5, .int .i8 q'.c0, .int .i8 q'.c1, .int .i8 q'.c2, .int .i8 q'.c3, .int .i8 q'.c4, .int .i8 q'.c5, .int .u8 q'.m, .int .u16 q'.n, .bool q'.x, .int .u8 q'.h]) g0 g1 n3 m c (some ⟨bb, off, none⟩) len cap l9 := (HS.out.step hb7 HS.out.ln).step (bel_one w7 hs5 _) (Nat.le_refl _)
        have d7 : (w7.setRow g9 #[.int .u16 q'.f, .int .u16 q'.i, .int .u8 q'.r0, .int .u8 q'.r1, .int .u8 q'.r2, .int .u8 q'.r3, .int .u8 q'.r4, .int .u8 q'.r5, .int .i8 q'.c0, .int .i8 q'.c1, .int .i8 q'.c2, .int .i8 q'.c3, .int .i8 q'.c4, .int .i8 q'.c5, .int .u8 q'.m, .int .u16 q'.n, .bool q'.x, .int .u8 q'.h]).heap[g7]? = some (.cells #[.int .u16 d.f, .int .u16 d.i, .int .u8 d.r0, .int .u8 d.r1, .int .u8 d.r2, .int .u8 d.r3, .int .u8 d.r4, .int .u8 d.r5, .int .i8 d.c0, .int .i8 d.c1, .int .i8 d.c2, .int .i8 d.c3, .int .i8 d.c4, .int .i8 d.c5, .int .u8 d.m, .int .u16 d.n, .bool d.x, .int .u8 d.h] 131 (0, 0)) := (setRow_other _ g9 g7 _ (by omega)).trans (box_below HD7.out hb7 (box_lt HD7.out))
        have q8 : (w7.setRow g9 #[.int .u16 q'.f, .int .u16 q'.i, .int .u8 q'.r0, .int .u8 q'.r1, .int .u8 q'.r2, .int .u8 q'.r3, .int .u8 q'.r4, .int .u8 q'.r5, .int .i8 q'.c0, .int .i8 q'.c1, .int .i8 q'.c2, .int .i8 q'.c3, .int .i8 q'.c4, .int .i8 q'.c5, .int .u8 q'.m, .int .u16 q'.n, .bool q'.x, .int .u8 q'.h]).heap[g9]? = some (.cells #[.int .u16 q'.f, .int .u16 q'.i, .int .u8 q'.r0, .int .u8 q'.r1, .int .u8 q'.r2, .int .u8 q'.r3, .int .u8 q'.r4, .int .u8 q'.r5, .int .i8 q'.c0, .int .i8 q'.c1, .int .i8 q'.c2, .int .i8 q'.c3, .int .i8 q'.c4, .int .i8 q'.c5, .int .u8 q'.m, .int .u16 q'.n, .bool q'.x, .int .u8 q'.h] 131 (0, 0)) := setRow_heap _ g9 _ _ _ _ q7
        have H7 := Lib.hid h7
        have D7 := Lib.hid d7
        have Q8 := Lib.hid q8
        have HON2 := Lib.hid hon2
        clear hb hb7 b0 b9 hon2 h7 d7 q8 HS HD7 HQ9 HON HQ' HAL
        go_wp2_with (((with_reducible show wpList _ _ _ (_ :: _) _ _); refine wpList_store_row rfl 131 _ _ rfl _ _ rfl rfl _ _ q7 (by exact size_cx) (by rfl) (by simp [Value.oneCell']) ?_))
        go_roundw
        case rel => exact ⟨k + 1, q', b', by omega, by go_num, rfl, H7.out, D7.out, Q8.out, by rw [HT.out]; exact HON2.out⟩
        case measure => simp [intOf]; omega
    · obtain rfl : k = len := by omega
      rw [List.take_of_length_le (by omega)] at hon
      have b0 := hS.bm
      have b1 := hS.bc
      have hal : Below wr.heap.size wr wr := Below.refl _ _
      have HS := Lib.hid hS
      have HD7 := Lib.hid hd7
      have HQ9 := Lib.hid hq9
      have HON := Lib.hid hon
      have he0 : spendR m c [] = (c, true) := rfl
      clear hS hd7 hq9 hon hal
      go_wp2_with (first | ((with_reducible show wpList _ _ _ (_ :: _) _ _); refine wpList_load_row rfl 129 _ rfl _ rfl _ _ _ _ b0 Try.underlying129 rfl (by exact size_lm) ?_; (try go_simp)) | ((with_reducible show wpList _ _ _ (_ :: _) _ _); refine wpList_load_row rfl 131 _ rfl _ rfl _ _ _ _ b1 Try.underlying131 rfl (by exact size_cx) ?_; (try go_simp)))
      go_at_call 64
      refine (Spend_det none 0 0 0 [] _ hm wc rfl (Nat.zero_le _) (Rd.none_ _ _ _) he0).mono ?_
      rintro e w7 ⟨rfl, hb⟩
      have e7 := heap_alloc_new w7 (.cells #[.int .u16 c.f, .int .u16 c.i, .int .u8 c.r0, .int .u8 c.r1, .int .u8 c.r2, .int .u8 c.r3, .int .u8 c.r4, .int .u8 c.r5, .int .i8 c.c0, .int .i8 c.c1, .int .i8 c.c2, .int .i8 c.c3, .int .i8 c.c4, .int .i8 c.c5, .int .u8 c.m, .int .u16 c.n, .bool c.x, .int .u8 c.h] 131)
      have hb8 : Below w7.heap.size w7 (w7.alloc (.cells #[.int .u16 c.f, .int .u16 c.i, .int .u8 c.r0, .int .u8 c.r1, .int .u8 c.r2, .int .u8 c.r3, .int .u8 c.r4, .int .u8 c.r5, .int .i8 c.c0, .int .i8 c.c1, .int .i8 c.c2, .int .i8 c.c3, .int .i8 c.c4, .int .i8 c.c5, .int .u8 c.m, .int .u16 c.n, .bool c.x, .int .u8 c.h] 131)) := (Below.refl _ _).alloc (Nat.le_refl _) _
      have hb9 := hb.trans (hb8.mono hb.size)
      have HB := Lib.hid (HS.out.step hb9 HS.out.ln).be
      have c1 := box_below HS.out.bc hb9 (box_lt HS.out.bc)
      have c7 := box_below HD7.out hb9 (box_lt HD7.out)
      have c9 := box_below HQ9.out hb9 (box_lt HQ9.out)
      clear hb hb8 hb9 b0 b1 he0
      go_upto_region 13 with ((with_reducible show wpList _ _ _ (_ :: _) _ _); refine wpList_store_row rfl 131 _ _ rfl _ _ rfl rfl _ _ (heap_alloc_new _ _) (by exact size_cx) (by rfl) (by simp [Value.oneCell']) ?_; rw [World.setRow_alloc_new])
      obtain ⟨w8, hw8⟩ : ∃ w8, w8 = w7.alloc (.cells #[.int .u16 c.f, .int .u16 c.i, .int .u8 c.r0, .int .u8 c.r1, .int .u8 c.r2, .int .u8 c.r3, .int .u8 c.r4, .int .u8 c.r5, .int .i8 c.c0, .int .i8 c.c1, .int .i8 c.c2, .int .i8 c.c3, .int .i8 c.c4, .int .i8 c.c5, .int .u8 c.m, .int .u16 c.n, .bool c.x, .int .u8 c.h] 131) := ⟨_, rfl⟩
      rw [← hw8] at HB c1 c7 c9 e7 ⊢
      obtain ⟨ge, hge⟩ : ∃ g, g = w7.heap.size := ⟨_, rfl⟩
      rw [← hge] at e7 ⊢
      have heq : ∀ (x : Cx) (w : World), (binOp .eql 131 (.agg #[.int .u16 x.f, .int .u16 x.i, .int .u8 x.r0, .int .u8 x.r1, .int .u8 x.r2, .int .u8 x.r3, .int .u8 x.r4, .int .u8 x.r5, .int .i8 x.c0, .int .i8 x.c1, .int .i8 x.c2, .int .i8 x.c3, .int .i8 x.c4, .int .i8 x.c5, .int .u8 x.m, .int .u16 x.n, .bool x.x, .int .u8 x.h]) (.agg #[.int .u16 x.f, .int .u16 x.i, .int .u8 x.r0, .int .u8 x.r1, .int .u8 x.r2, .int .u8 x.r3, .int .u8 x.r4, .int .u8 x.r5, .int .i8 x.c0, .int .i8 x.c1, .int .i8 x.c2, .int .i8 x.c3, .int .i8 x.c4, .int .i8 x.c5, .int .u8 x.m, .int .u16 x.n, .bool x.x, .int .u8 x.h])).run Try.prog w = .ok (.bool true) w := fun x w => by rw [eqlCx]; simp
      clear hw8 hge
      cases b2 with
      | true =>
        have h1 := HD.out
        unfold spendR at h1
        rw [HON.out.yes rfl] at h1
        obtain ⟨rfl, rfl⟩ := Prod.mk.inj h1
        clear h1 HON HD HS HD7 HQ9
        go_wp2_with (first | (refine wpLoadG (by (first | exact Go.Mix.wanted_none rfl | exact Go.Mix.wanted_tt rfl rfl rfl | exact Go.Mix.wanted_ff rfl rfl rfl)) 131 _ rfl _ rfl _ _ _ _ c1 Try.underlying131 rfl (by exact size_cx) ?_; (try go_simp)) | (refine wpLoadG (by (first | exact Go.Mix.wanted_none rfl | exact Go.Mix.wanted_tt rfl rfl rfl | exact Go.Mix.wanted_ff rfl rfl rfl)) 131 _ rfl _ rfl _ _ _ _ c7 Try.underlying131 rfl (by exact size_cx) ?_; (try go_simp)) | (refine wpLoadG (by (first | exact Go.Mix.wanted_none rfl | exact Go.Mix.wanted_tt rfl rfl rfl | exact Go.Mix.wanted_ff rfl rfl rfl)) 131 _ rfl _ rfl _ _ _ _ c9 Try.underlying131 rfl (by exact size_cx) ?_; (try go_simp)) | (refine wpLoadG (by (first | exact Go.Mix.wanted_none rfl | exact Go.Mix.wanted_tt rfl rfl rfl | exact Go.Mix.wanted_ff rfl rfl rfl)) 131 _ rfl _ rfl _ _ _ _ e7 Try.underlying131 rfl (by exact size_cx) ?_; (try go_simp)))
        go_ret
        exact ⟨rfl, HB.out⟩
      | false =>
        have h1 := HD.out
        unfold spendR at h1
        rw [HON.out.no rfl] at h1
        obtain ⟨rfl, rfl⟩ := Prod.mk.inj h1
        clear h1 HON HD HS HD7 HQ9
        go_wp2_with (first | (refine wpLoadG (by (first | exact Go.Mix.wanted_none rfl | exact Go.Mix.wanted_tt rfl rfl rfl | exact Go.Mix.wanted_ff rfl rfl rfl)) 131 _ rfl _ rfl _ _ _ _ c1 Try.underlying131 rfl (by exact size_cx) ?_; (try go_simp)) | (refine wpLoadG (by (first | exact Go.Mix.wanted_none rfl | exact Go.Mix.wanted_tt rfl rfl rfl | exact Go.Mix.wanted_ff rfl rfl rfl)) 131 _ rfl _ rfl _ _ _ _ c7 Try.underlying131 rfl (by exact size_cx) ?_; (try go_simp)) | (refine wpLoadG (by (first | exact Go.Mix.wanted_none rfl | exact Go.Mix.wanted_tt rfl rfl rfl | exact Go.Mix.wanted_ff rfl rfl rfl)) 131 _ rfl _ rfl _ _ _ _ c9 Try.underlying131 rfl (by exact size_cx) ?_; (try go_simp)) | (refine wpLoadG (by (first | exact Go.Mix.wanted_none rfl | exact Go.Mix.wanted_tt rfl rfl rfl | exact Go.Mix.wanted_ff rfl rfl rfl)) 131 _ rfl _ rfl _ _ _ _ e7 Try.underlying131 rfl (by exact size_cx) ?_; (try go_simp)))
        go_ret
        exact ⟨rfl, HB.out⟩
end Go.Proofs.Ytiaaafjpnijphaa
