/- Layer 8: a context's bytes . -/
import Derived.Test.YtpgophkegjeheaaCx3
import Derived.Test.YtpgophkegjeheaaKeep
import Derived.Test.YtpgophkegjeheaaFlo
import Derived.Laws.CopyOwn
namespace Go.Proofs.Ytpgophkegjeheaa
open Go.RowKit Go.Own
set_option linter.unusedVariables false
set_option linter.unusedSimpArgs false

/-- The context's box (b), and the bytes laid so far (r). -/
structure Bx (w W : World) (b r : Nat) (c : Cx) (L : List Nat) : Prop where
  be : Below w.heap.size w W
  hb : w.heap.size ≤ b
  hbr : b < r
  hc : W.heap[b]? = some (.cells #[.int .u16 c.f, .int .u16 c.i, .int .u8 c.r0, .int .u8 c.r1, .int .u8 c.r2, .int .u8 c.r3, .int .u8 c.r4, .int .u8 c.r5, .int .i8 c.c0, .int .i8 c.c1, .int .i8 c.c2, .int .i8 c.c3, .int .i8 c.c4, .int .i8 c.c5, .int .u8 c.m, .int .u16 c.n, .bool c.x, .int .u8 c.h] 28 (0, 0))
  hp : W.heap[r]? = some (.cells (bl L).toArray 5 (0, 0))
  len : L.length = 21
theorem Bx.set {w W : World} {b r : Nat} {c : Cx} {L : List Nat} (h : Bx w W b r c L) (i x : Nat) : Bx w (W.setCell ⟨r, i, none⟩ (.int .u8 ((x : Nat) : Int))) b r c (L.set i x) := by
  have hb := h.hb
  have hbr := h.hbr
  have hs := heap_setCell_same W r i _ _ (.int .u8 ((x : Nat) : Int)) h.hp
  refine ⟨h.be.setCell (p := ⟨r, i, none⟩) (by simp; omega) _, hb, hbr, (heap_setCell_other W ⟨r, i, none⟩ b _ (by simp; omega)).trans h.hc, ?_, by rw [List.length_set]; exact h.len⟩
  rw [hs, ← set_bl]
  simp
theorem Bx.below {w W W' : World} {b r : Nat} {c : Cx} {L : List Nat} (h : Bx w W b r c L) (hb : Below W.heap.size W W') : Bx w W' b r c L :=
  ⟨h.be.trans (hb.mono h.be.size), h.hb, h.hbr, box_below h.hc hb (box_lt h.hc), box_below h.hp hb (box_lt h.hp), h.len⟩
theorem Bx.c {w W : World} {b r : Nat} {c : Cx} {L : List Nat} (h : Bx w W b r c L) (i : Nat) : W.cell? ⟨b, i, none⟩ = (#[.int .u16 c.f, .int .u16 c.i, .int .u8 c.r0, .int .u8 c.r1, .int .u8 c.r2, .int .u8 c.r3, .int .u8 c.r4, .int .u8 c.r5, .int .i8 c.c0, .int .i8 c.c1, .int .i8 c.c2, .int .i8 c.c3, .int .i8 c.c4, .int .i8 c.c5, .int .u8 c.m, .int .u16 c.n, .bool c.x, .int .u8 c.h] : Array Value)[i]? := cell_of_row W b i _ _ _ h.hc
theorem Bx.p {w W : World} {b r : Nat} {c : Cx} {L : List Nat} (h : Bx w W b r c L) {i : Nat} (hi : i < 21) : W.cell? ⟨r, i, none⟩ = some (bv L i) := by
  rw [cell_of_row W r i _ _ _ h.hp, List.getElem?_toArray, bl_at L (by rw [h.len]; exact hi)]
theorem Bx.f {w W : World} {b r : Nat} {c : Cx} {L : List Nat} (h : Bx w W b r c L) (i : Nat) : W.frozen? ⟨r, i, none⟩ = false := frozen_of_row W r i _ _ h.hp
theorem make21 (w : World) : (Instr.makeSlice 29 (.int .i64 21) (.int .i64 21)).run Try.prog w = .ok (.slice (some ⟨w.heap.size, 0, none⟩) 21 21) (w.alloc (.cells (bl (List.replicate 21 0)).toArray 5)) := by kernel_rfl
set_option maxRecDepth 100000 in
set_option maxHeartbeats 4000000 in
theorem Bytes_no (c : Cx) (w : World) (hr : c.right = false) : Calls Try.prog 17 #[.agg #[.int .u16 c.f, .int .u16 c.i, .int .u8 c.r0, .int .u8 c.r1, .int .u8 c.r2, .int .u8 c.r3, .int .u8 c.r4, .int .u8 c.r5, .int .i8 c.c0, .int .i8 c.c1, .int .i8 c.c2, .int .i8 c.c3, .int .i8 c.c4, .int .i8 c.c5, .int .u8 c.m, .int .u16 c.n, .bool c.x, .int .u8 c.h]] w fun e w' => e = .returned (.slice none 0 0) ∧ Below w.heap.size w w' := by
  have hR := fun w : World => Right_any c w
  rw [hr] at hR
  have HR := Lib.hid hR
  clear hR hr
  go_enter Try.func17, Try.ntmps17
  go_wp2_with (first | (refine wpList_load_row rfl 28 _ rfl _ rfl _ _ _ _ (by (first | exact heap_alloc2_new _ _ _ | exact heap_alloc2_old _ _ _ | exact heap_alloc_new _ _ | assumption)) Try.underlying28 rfl (by exact size_cx) ?_; (try go_simp)))
  go_at_call 20
  refine (HR.out _).mono ?_
  rintro e w1 ⟨rfl, hb1⟩
  have hal : Below w.heap.size w (w.alloc (.cells #[.int .u16 c.f, .int .u16 c.i, .int .u8 c.r0, .int .u8 c.r1, .int .u8 c.r2, .int .u8 c.r3, .int .u8 c.r4, .int .u8 c.r5, .int .i8 c.c0, .int .i8 c.c1, .int .i8 c.c2, .int .i8 c.c3, .int .i8 c.c4, .int .i8 c.c5, .int .u8 c.m, .int .u16 c.n, .bool c.x, .int .u8 c.h] 28)) := (Below.refl _ _).alloc (Nat.le_refl _) _
  have B1 := Lib.hid (hal.trans (hb1.mono hal.size))
  clear hal hb1
  go_wp2
  go_ret
  exact ⟨rfl, B1.out⟩
theorem put_z (z : Int) (b off len cap n : Nat) (w : World) (x y : Value) (hz : z = (n : Int)) (hn : n < 65536) (h2 : 2 ≤ len) (c0 : w.cell? ⟨b, off, none⟩ = some x) (c1 : w.cell? ⟨b, off + 1, none⟩ = some y) (f0 : w.frozen? ⟨b, off, none⟩ = false) (f1 : w.frozen? ⟨b, off + 1, none⟩ = false) :
    Calls Try.prog 65 #[.slice (some ⟨b, off, none⟩) len cap, .int .u16 z] w fun e w' => (∃ v, e = .returned v) ∧ w' = (w.setCell ⟨b, off, none⟩ (.int .u8 ((n / 256 : Nat) : Int))).setCell ⟨b, off + 1, none⟩ (.int .u8 ((n % 256 : Nat) : Int)) := by
  subst hz
  exact put_any b off len cap n w x y hn h2 c0 c1 f0 f1
theorem Bx.put2 {w W : World} {b r n i : Nat} {c : Cx} {L : List Nat} (h : Bx w W b r c L) (hi : i + 1 < 21) (hn : n < 65536) (z : Int) (hz : z = (n : Int)) (len cap : Nat) (h2 : 2 ≤ len) :
    Calls Try.prog 65 #[.slice (some ⟨r, i, none⟩) len cap, .int .u16 z] W fun e w' => (∃ v, e = .returned v) ∧ Bx w w' b r c ((L.set i (n / 256)).set (i + 1) (n % 256)) := by
  refine (put_z z r i len cap n W _ _ hz hn h2 (h.p (by omega)) (h.p hi) (h.f _) (h.f _)).mono ?_
  rintro e w' ⟨hv, rfl⟩
  exact ⟨hv, (h.set i (n / 256)).set (i + 1) (n % 256)⟩
/- How a number is laid: #1 the world, #2 where, #3 which field, #4 its value, #5 its number, #6 their equation, #7 the new world -/
theorem wp_copy_splice {P : Program} {o : Oper} {a : Act} {w : World} {K : Act → World → Prop} {Q : Exit → Act → World → Prop} (hgd : o.guard = none) (d s : Operand) (dT sT : TypeId)
    (ho : o.op = .call { callee := .builtin .copy, args := #[d, s], argTypes := #[dT, sT] }) (elem : TypeId) (hu : P.underlying dT = some (.slice elem)) (hsz : (P.info? elem).map (·.size) = some 1)
    (dp sp : Option Addr) (dLen dCap sLen sCap : Nat) (hd : a.eval d = .slice dp dLen dCap) (hs : a.eval s = .slice sp sLen sCap)
    (g off : Nat) (cur : List Value) (t : TypeId) (hg : w.heap[g]? = some (.cells cur.toArray t (0, 0))) (cs : List Value) (hn : cs.length = Nat.min sLen dLen)
    (hpos : 0 < cs.length → dp = some ⟨g, off, none⟩ ∧ ∃ ad, sp = some ad ∧ ∀ j v, cs[j]? = some v → w.cell? (ad.add j) = some v)
    (hfit : off + cs.length ≤ cur.length) (h1 : ∀ v ∈ cs, v.oneCell' = true) (B : Nat) (w0 : World) (hb : Below B w0 w) (hBg : B ≤ g)
    (h : ∀ w', Hid (w'.heap[g]? = some (.cells (splice cur off cs).toArray t (0, 0))) → Below B w0 w' → K (a.put o.dst (goInt cs.length)) w') : Oper.wp P o a w K Q := by
  have hh := step_copy_splice (ops := #[]) (Q := Q) (E := True) hgd d s dT sT ho elem hu hsz dp sp dLen dCap sLen sCap hd hs g off cur t hg cs hn hpos hfit h1 B w0 hb hBg h
  rw [if_pos (by simp [Region.wanted, hgd])] at hh
  exact hh
/-- The counters of the roles, the units of the chain plus one. -/
def Cx.q (c : Cx) : List Nat := [c.r0.toNat, c.r1.toNat, c.r2.toNat, c.r3.toNat, c.r4.toNat, c.r5.toNat]
theorem Cx.q_bl {c : Cx} (h : c.Ok) : bl c.q = [.int .u8 c.r0, .int .u8 c.r1, .int .u8 c.r2, .int .u8 c.r3, .int .u8 c.r4, .int .u8 c.r5] := by
  simp [bl, Cx.q, Int.toNat_of_nonneg h.r0.1, Int.toNat_of_nonneg h.r1.1, Int.toNat_of_nonneg h.r2.1, Int.toNat_of_nonneg h.r3.1, Int.toNat_of_nonneg h.r4.1, Int.toNat_of_nonneg h.r5.1]
theorem Cx.q_len (c : Cx) : c.q.length = 6 := rfl
theorem Bx.q {w W : World} {b r : Nat} {c : Cx} {L : List Nat} (h : Bx w W b r c L) (hok : c.Ok) {j : Nat} {v : Value} (hj : (bl c.q)[j]? = some v) : W.cell? ((⟨b, 2, none⟩ : Addr).add j) = some v := by
  rw [Cx.q_bl hok] at hj
  have hj6 : j < 6 := (List.getElem?_eq_some_iff.1 hj).1
  have : j = 0 ∨ j = 1 ∨ j = 2 ∨ j = 3 ∨ j = 4 ∨ j = 5 := by omega
  rcases this with rfl | rfl | rfl | rfl | rfl | rfl
  · rw [← hj]; exact h.c 2
  · rw [← hj]; exact h.c 3
  · rw [← hj]; exact h.c 4
  · rw [← hj]; exact h.c 5
  · rw [← hj]; exact h.c 6
  · rw [← hj]; exact h.c 7
theorem Bx.copied {w W W' : World} {b r : Nat} {c : Cx} {L : List Nat} (h : Bx w W b r c L) (hh : Hid (W'.heap[r]? = some (.cells (splice (bl L) 4 (bl c.q)).toArray 5 (0, 0)))) (hb : Below r W W') : Bx w W' b r c (splice L 4 c.q) := by
  have h1 := h.hb
  have h2 := h.hbr
  refine ⟨h.be.trans (hb.mono (by omega)), h1, h2, (hb.block b h2).trans h.hc, ?_, ?_⟩
  · have e : splice (bl L) 4 (bl c.q) = bl (splice L 4 c.q) := by simp [splice, bl]
    rw [← e]; exact hh
  · rw [length_splice _ _ _ (by rw [h.len, Cx.q_len]; decide)]; exact h.len
theorem splice_bl (L M : List Nat) (k : Nat) : splice (bl L) k (bl M) = bl (splice L k M) := by
  simp [splice, bl]
theorem splice_len (L M : List Nat) (k : Nat) (h : k + M.length ≤ L.length) : (splice L k M).length = L.length := length_splice L k M h
/-- The units laid, up to the k-th. -/
def setU (c : Cx) (L : List Nat) : Nat → List Nat
  | 0 => L
  | k + 1 => (setU c L k).set (10 + k) (c.u k + 1).toNat
theorem Bx.setI {w W : World} {b r : Nat} {c : Cx} {L : List Nat} (h : Bx w W b r c L) (i x : Nat) (z : Int) (hz : z = (x : Int)) : Bx w (W.setCell ⟨r, i, none⟩ (.int .u8 z)) b r c (L.set i x) := by
  subst hz
  exact h.set i x
theorem Bx.own {w W : World} {b r : Nat} {c : Cx} {L : List Nat} (h : Bx w W b r c L) : W.ownsRow w.heap.size 5 1 (.slice (some ⟨r, 0, none⟩) 21 21) 21 (bl L) := by
  have h1 := h.hb
  have h2 := h.hbr
  have hl := h.len
  exact ⟨by simp [bl, hl], .inr ⟨r, 21, _, rfl, by omega, h.hp, Nat.le_refl _, by unfold maxLen; omega, by simp [bl, hl], by rw [Nat.mul_one]; exact List.take_of_length_le (by simp [bl, hl])⟩⟩
/-- A context's bytes. -/
def cxB (f i n : Nat) (c : Cx) : List Nat := [f / 256, f % 256, i / 256, i % 256] ++ c.q ++ [(c.c0 + 1).toNat, (c.c1 + 1).toNat, (c.c2 + 1).toNat, (c.c3 + 1).toNat, (c.c4 + 1).toNat, (c.c5 + 1).toNat] ++ [c.m.toNat, n / 256, n % 256, if c.x then 1 else 0, c.h.toNat]
set_option maxRecDepth 100000 in
set_option maxHeartbeats 4000000 in
theorem Bytes_yes (c : Cx) (w : World) (hok : c.Ok) (hr : c.right = true) (f ih n : Nat) (hf : c.f = (f : Int)) (hi : c.i = (ih : Int)) (hn : c.n = (n : Int)) (hf2 : f < 65536) (hi2 : ih < 65536) (hn2 : n < 65536) : Calls Try.prog 17 #[.agg #[.int .u16 c.f, .int .u16 c.i, .int .u8 c.r0, .int .u8 c.r1, .int .u8 c.r2, .int .u8 c.r3, .int .u8 c.r4, .int .u8 c.r5, .int .i8 c.c0, .int .i8 c.c1, .int .i8 c.c2, .int .i8 c.c3, .int .i8 c.c4, .int .i8 c.c5, .int .u8 c.m, .int .u16 c.n, .bool c.x, .int .u8 c.h]] w fun e w' => ∃ v, e = .returned v ∧ w'.ownsRow w.heap.size 5 1 v 21 (bl (cxB f ih n c)) ∧ Below w.heap.size w w' := by
  have hR := fun w : World => Right_any c w
  have HUP := Lib.hid ((Cx.right_iff c).1 hr).1
  rw [hr] at hR
  have HR := Lib.hid hR
  have HF := Lib.hid hf
  have HI := Lib.hid hi
  have HN := Lib.hid hn
  clear hR hr hf hi hn
  go_enter Try.func17, Try.ntmps17
  go_wp2_with (first | (refine wpList_load_row rfl 28 _ rfl _ rfl _ _ _ _ (by (first | exact heap_alloc2_new _ _ _ | exact heap_alloc2_old _ _ _ | exact heap_alloc_new _ _ | assumption)) Try.underlying28 rfl (by exact size_cx) ?_; (try go_simp)))
  go_at_call 20
  refine (HR.out _).mono ?_
  rintro e w1 ⟨rfl, hb1⟩
  have hbox := heap_alloc_new w (.cells #[.int .u16 c.f, .int .u16 c.i, .int .u8 c.r0, .int .u8 c.r1, .int .u8 c.r2, .int .u8 c.r3, .int .u8 c.r4, .int .u8 c.r5, .int .i8 c.c0, .int .i8 c.c1, .int .i8 c.c2, .int .i8 c.c3, .int .i8 c.c4, .int .i8 c.c5, .int .u8 c.m, .int .u16 c.n, .bool c.x, .int .u8 c.h] 28)
  have hal : Below w.heap.size w (w.alloc (.cells #[.int .u16 c.f, .int .u16 c.i, .int .u8 c.r0, .int .u8 c.r1, .int .u8 c.r2, .int .u8 c.r3, .int .u8 c.r4, .int .u8 c.r5, .int .i8 c.c0, .int .i8 c.c1, .int .i8 c.c2, .int .i8 c.c3, .int .i8 c.c4, .int .i8 c.c5, .int .u8 c.m, .int .u16 c.n, .bool c.x, .int .u8 c.h] 28)) := (Below.refl _ _).alloc (Nat.le_refl _) _
  have h1 := (hb1.block w.heap.size (Array.getElem?_eq_some_iff.1 hbox).1).trans hbox
  have hl1 := (Array.getElem?_eq_some_iff.1 h1).1
  have hB1 := hal.trans (hb1.mono hal.size)
  have hal2 := (Below.refl w1.heap.size w1).alloc (Nat.le_refl _) (.cells (bl [0, 0, 0, 0, 0, 0, 0, 0, 0, 0, 0, 0, 0, 0, 0, 0, 0, 0, 0, 0, 0]).toArray 5)
  have X := Lib.hid (show Bx w (w1.alloc (.cells (bl [0, 0, 0, 0, 0, 0, 0, 0, 0, 0, 0, 0, 0, 0, 0, 0, 0, 0, 0, 0, 0]).toArray 5)) w.heap.size w1.heap.size c [0, 0, 0, 0, 0, 0, 0, 0, 0, 0, 0, 0, 0, 0, 0, 0, 0, 0, 0, 0, 0] from ⟨hB1.trans (hal2.mono hB1.size), Nat.le_refl _, hl1, (hal2.block _ hl1).trans h1, heap_alloc_new _ _, by simp⟩)
  clear hbox hal h1 hB1 hal2 hb1 HR
  have hmk := make21 w1
  go_wp2_with fail
  clear hmk
  obtain ⟨w2, hw2⟩ : ∃ w2, w2 = w1.alloc (.cells (bl [0, 0, 0, 0, 0, 0, 0, 0, 0, 0, 0, 0, 0, 0, 0, 0, 0, 0, 0, 0, 0]).toArray 5) := ⟨_, rfl⟩
  obtain ⟨r, hr⟩ : ∃ r, r = w1.heap.size := ⟨_, rfl⟩
  obtain ⟨b, hb⟩ : ∃ b, b = w.heap.size := ⟨_, rfl⟩
  rw [← hw2, ← hr, ← hb] at X
  rw [← hw2, ← hr, ← hb]
  obtain ⟨L0, hL0⟩ : ∃ L0 : List Nat, L0 = [0, 0, 0, 0, 0, 0, 0, 0, 0, 0, 0, 0, 0, 0, 0, 0, 0, 0, 0, 0, 0] := ⟨_, rfl⟩
  rw [← hL0] at X
  have HL0 := Lib.hid hL0
  clear hw2 hr hb hL0 hl1
  skip
  obtain ⟨I, W, hne, hWI, hIW⟩ := Go.Mix.family (fun v => Below w2.heap.size w2 v) (Below.refl _ _)
  have HJ := Lib.hid hIW
  have HW := Lib.hid hWI
  clear hWI hIW
  refine Go.Flo.wp_region (fun w' => ∃ i, w' = W i) 4 [Go.Flo.dflt] (by kernel_rfl) (by kernel_rfl) (by decide) (by rintro _ w' ⟨i, rfl⟩ hb; exact HJ.out _ ((HW.out i).trans (hb.mono (HW.out i).size))) (HJ.out _ (Below.refl _ _).drew) ?_
  simp only [Go.Flo.pair, Go.Mix.calm, List.take, List.drop, if_true, Bool.false_eq_true, if_false, Nat.reduceAdd, Nat.reduceSub]
  have e0 : ∀ i, (W i).cell? ⟨b, 0, none⟩ = some (.int .u16 c.f) := fun i => (X.out.below (HW.out i)).c 0
  (repeat (first | (refine Go.Flo.fw_calm rfl ?_ (fun K hK => ?_); (first | exact Go.Mix.wanted_none rfl | exact Go.Mix.wanted_tt rfl rfl rfl | exact Go.Mix.wanted_ff rfl rfl rfl); go_big_quiet_op; refine hK _ ?_; clear hK K) | (refine Go.Flo.fw_skip ?_ (fun K hK => ?_); (first | exact Go.Mix.wanted_tf rfl rfl rfl | exact Go.Mix.wanted_ft rfl rfl rfl); go_simp; refine hK _ ?_; clear hK K) | (refine Go.Flo.fw_any rfl ?_ (fun K hK => ?_); (first | exact Go.Mix.wanted_none rfl | exact Go.Mix.wanted_tt rfl rfl rfl | exact Go.Mix.wanted_ff rfl rfl rfl); go_simp; (try (go_ints; try go_simp)); refine hK _ ?_; clear hK K)))
  refine Go.Flo.fw_nil ?_
  intro wq hwwq hfwq huwq
  obtain ⟨iend, hiend⟩ := hwwq
  have hbwq := HW.out iend
  rw [← hiend] at hbwq
  clear hiend iend huwq
  have XQ := Lib.hid (X.out.below hbwq)
  clear hfwq HJ HW hne e0 hbwq X
  clear W I
  refine Go.Flo.tw_step ?_ (fun K hK => ?_)
  · (first | exact Go.Mix.wanted_none rfl | exact Go.Mix.wanted_tt rfl rfl rfl | exact Go.Mix.wanted_ff rfl rfl rfl)
  (first | go_big_op | go_simp)
  go_at_call 65
  refine (XQ.out.put2 (i := 0) (by decide) hf2 _ HF.out _ _ (by decide)).mono ?_
  rintro e w3 ⟨⟨vv, rfl⟩, hX⟩
  have X := Lib.hid hX
  refine hK _ _ ?_
  clear hK K hX XQ
  refine Go.Flo.tw_nil ?_
  go_wp2_with fail
  skip
  obtain ⟨I, W, hne, hWI, hIW⟩ := Go.Mix.family (fun v => Below w3.heap.size w3 v) (Below.refl _ _)
  have HJ := Lib.hid hIW
  have HW := Lib.hid hWI
  clear hWI hIW
  refine Go.Flo.wp_region (fun w' => ∃ i, w' = W i) 4 [Go.Flo.dflt] (by kernel_rfl) (by kernel_rfl) (by decide) (by rintro _ w' ⟨i, rfl⟩ hb; exact HJ.out _ ((HW.out i).trans (hb.mono (HW.out i).size))) (HJ.out _ (Below.refl _ _).drew) ?_
  simp only [Go.Flo.pair, Go.Mix.calm, List.take, List.drop, if_true, Bool.false_eq_true, if_false, Nat.reduceAdd, Nat.reduceSub]
  have e0 : ∀ i, (W i).cell? ⟨b, 1, none⟩ = some (.int .u16 c.i) := fun i => (X.out.below (HW.out i)).c 1
  (repeat (first | (refine Go.Flo.fw_calm rfl ?_ (fun K hK => ?_); (first | exact Go.Mix.wanted_none rfl | exact Go.Mix.wanted_tt rfl rfl rfl | exact Go.Mix.wanted_ff rfl rfl rfl); go_big_quiet_op; refine hK _ ?_; clear hK K) | (refine Go.Flo.fw_skip ?_ (fun K hK => ?_); (first | exact Go.Mix.wanted_tf rfl rfl rfl | exact Go.Mix.wanted_ft rfl rfl rfl); go_simp; refine hK _ ?_; clear hK K) | (refine Go.Flo.fw_any rfl ?_ (fun K hK => ?_); (first | exact Go.Mix.wanted_none rfl | exact Go.Mix.wanted_tt rfl rfl rfl | exact Go.Mix.wanted_ff rfl rfl rfl); go_simp; (try (go_ints; try go_simp)); refine hK _ ?_; clear hK K)))
  refine Go.Flo.fw_nil ?_
  intro wq hwwq hfwq huwq
  obtain ⟨iend, hiend⟩ := hwwq
  have hbwq := HW.out iend
  rw [← hiend] at hbwq
  clear hiend iend huwq
  have XQ := Lib.hid (X.out.below hbwq)
  clear hfwq HJ HW hne e0 hbwq X
  clear W I
  refine Go.Flo.tw_step ?_ (fun K hK => ?_)
  · (first | exact Go.Mix.wanted_none rfl | exact Go.Mix.wanted_tt rfl rfl rfl | exact Go.Mix.wanted_ff rfl rfl rfl)
  (first | go_big_op | go_simp)
  go_at_call 65
  refine (XQ.out.put2 (i := 2) (by decide) hi2 _ HI.out _ _ (by decide)).mono ?_
  rintro e w4 ⟨⟨vv, rfl⟩, hX⟩
  have X := Lib.hid hX
  refine hK _ _ ?_
  clear hK K hX XQ
  refine Go.Flo.tw_nil ?_
  go_wp2_with fail
  obtain ⟨I, W, hne, hWI, hIW⟩ := Go.Mix.family (fun v => Below w4.heap.size w4 v) (Below.refl _ _)
  have HJ := Lib.hid hIW
  have HW := Lib.hid hWI
  clear hWI hIW
  refine Go.Flo.wp_region (fun w' => ∃ i, w' = W i) 4 [Go.Flo.dflt] (by kernel_rfl) (by kernel_rfl) (by decide) (by rintro _ w' ⟨i, rfl⟩ hb; exact HJ.out _ ((HW.out i).trans (hb.mono (HW.out i).size))) (HJ.out _ (Below.refl _ _).drew) ?_
  simp only [Go.Flo.pair, Go.Mix.calm, List.take, List.drop, if_true, Bool.false_eq_true, if_false, Nat.reduceAdd, Nat.reduceSub]
  (repeat (first | (refine Go.Flo.fw_calm rfl ?_ (fun K hK => ?_); (first | exact Go.Mix.wanted_none rfl | exact Go.Mix.wanted_tt rfl rfl rfl | exact Go.Mix.wanted_ff rfl rfl rfl); go_big_quiet_op; refine hK _ ?_; clear hK K) | (refine Go.Flo.fw_skip ?_ (fun K hK => ?_); (first | exact Go.Mix.wanted_tf rfl rfl rfl | exact Go.Mix.wanted_ft rfl rfl rfl); go_simp; refine hK _ ?_; clear hK K) | (refine Go.Flo.fw_any rfl ?_ (fun K hK => ?_); (first | exact Go.Mix.wanted_none rfl | exact Go.Mix.wanted_tt rfl rfl rfl | exact Go.Mix.wanted_ff rfl rfl rfl); go_simp; (try (go_ints; try go_simp)); refine hK _ ?_; clear hK K)))
  refine Go.Flo.fw_nil ?_
  intro wq hwwq hfwq huwq
  obtain ⟨iend, hiend⟩ := hwwq
  have hbwq := HW.out iend
  rw [← hiend] at hbwq
  clear hiend iend huwq
  have XQ := X.out.below hbwq
  clear hfwq HJ HW hne hbwq X
  clear W I
  refine Go.Flo.tw_step ?_ (fun K hK => ?_)
  · (first | exact Go.Mix.wanted_none rfl | exact Go.Mix.wanted_tt rfl rfl rfl | exact Go.Mix.wanted_ff rfl rfl rfl)
  have hb2 := XQ.hbr
  refine wp_copy_splice rfl (.tmp 21) (.tmp 23) 29 29 rfl 5 Try.underlying29 (by kernel_rfl) (some ⟨r, 4, none⟩) (some ⟨b, 2, none⟩) 6 17 6 6 rfl rfl r 4 (bl _) 5 XQ.hp (bl c.q) (by rw [Cx.q_bl hok]; rfl) (fun _ => ⟨rfl, ⟨b, 2, none⟩, rfl, fun j v hj => XQ.q hok hj⟩) (by rw [bl_len, bl_len, XQ.len, Cx.q_len]; decide) (by rw [Cx.q_bl hok]; simp [Value.oneCell']) r wq (Below.refl _ _) (Nat.le_refl _) ?_
  intro w5 hw5 hb5
  have X := Lib.hid (XQ.copied hw5 hb5)
  refine hK _ _ ?_
  clear hK K XQ hw5 hb5 hb2
  refine Go.Flo.tw_nil ?_
  obtain ⟨L1, hL1⟩ : ∃ L1, L1 = splice ((((L0.set 0 (f / 256)).set (0 + 1) (f % 256)).set 2 (ih / 256)).set (2 + 1) (ih % 256)) 4 c.q := ⟨_, rfl⟩
  rw [← hL1] at X
  have HL1 := Lib.hid hL1
  clear hL1
  have k8 := X.out.c 8
  have k9 := X.out.c 9
  have k10 := X.out.c 10
  have k11 := X.out.c 11
  have k12 := X.out.c 12
  have k13 := X.out.c 13
  go_wp2_with fail
  clear k8 k9 k10 k11 k12 k13
  have hX0 := X.out
  go_loopw [27] (fun i wr => ∃ k : Nat, k ≤ 6 ∧ i = .int .i64 (k : Nat) ∧ Bx w wr b r c (setU c L1 k)) (fun i _ => 6 - (intOf i).toNat)
  case atStart => exact ⟨0, by omega, rfl, hX0⟩
  case round =>
    clear hX0 X
    obtain ⟨k, hk, rfl, hX⟩ := hrel
    have hup := HUP.out
    have : k = 0 ∨ k = 1 ∨ k = 2 ∨ k = 3 ∨ k = 4 ∨ k = 5 ∨ k = 6 := by omega
    rcases this with rfl | rfl | rfl | rfl | rfl | rfl | rfl
    · have hu := hup 0 (by decide)
      have eu : c.u 0 = c.c0 := rfl
      rw [eu] at hu
      obtain ⟨y, hy⟩ : ∃ y : Nat, c.c0 + 1 = (y : Int) := ⟨(c.c0 + 1).toNat, by omega⟩
      have hy2 : (c.u 0 + 1).toNat = y := by rw [eu]; omega
      have hs1 : c.c0 - -1 = (y : Int) := by omega
      have hy16 : y < 256 := by omega
      have hp := hX.p (i := 10) (by decide)
      have hf := hX.f 10
      have HXS := Lib.hid (hX.set 10 y)
      have HY2 := Lib.hid hy2
      clear hy2 hX
      go_wp2
      go_roundw
      case rel => exact ⟨0 + 1, by omega, by go_num, by unfold setU; rw [HY2.out]; exact HXS.out⟩
      case measure => simp [intOf]
    · have hu := hup 1 (by decide)
      have eu : c.u 1 = c.c1 := rfl
      rw [eu] at hu
      obtain ⟨y, hy⟩ : ∃ y : Nat, c.c1 + 1 = (y : Int) := ⟨(c.c1 + 1).toNat, by omega⟩
      have hy2 : (c.u 1 + 1).toNat = y := by rw [eu]; omega
      have hs1 : c.c1 - -1 = (y : Int) := by omega
      have hy16 : y < 256 := by omega
      have hp := hX.p (i := 11) (by decide)
      have hf := hX.f 11
      have HXS := Lib.hid (hX.set 11 y)
      have HY2 := Lib.hid hy2
      clear hy2 hX
      go_wp2
      go_roundw
      case rel => exact ⟨1 + 1, by omega, by go_num, by unfold setU; rw [HY2.out]; exact HXS.out⟩
      case measure => simp [intOf]
    · have hu := hup 2 (by decide)
      have eu : c.u 2 = c.c2 := rfl
      rw [eu] at hu
      obtain ⟨y, hy⟩ : ∃ y : Nat, c.c2 + 1 = (y : Int) := ⟨(c.c2 + 1).toNat, by omega⟩
      have hy2 : (c.u 2 + 1).toNat = y := by rw [eu]; omega
      have hs1 : c.c2 - -1 = (y : Int) := by omega
      have hy16 : y < 256 := by omega
      have hp := hX.p (i := 12) (by decide)
      have hf := hX.f 12
      have HXS := Lib.hid (hX.set 12 y)
      have HY2 := Lib.hid hy2
      clear hy2 hX
      go_wp2
      go_roundw
      case rel => exact ⟨2 + 1, by omega, by go_num, by unfold setU; rw [HY2.out]; exact HXS.out⟩
      case measure => simp [intOf]
    · have hu := hup 3 (by decide)
      have eu : c.u 3 = c.c3 := rfl
      rw [eu] at hu
      obtain ⟨y, hy⟩ : ∃ y : Nat, c.c3 + 1 = (y : Int) := ⟨(c.c3 + 1).toNat, by omega⟩
      have hy2 : (c.u 3 + 1).toNat = y := by rw [eu]; omega
      have hs1 : c.c3 - -1 = (y : Int) := by omega
      have hy16 : y < 256 := by omega
      have hp := hX.p (i := 13) (by decide)
      have hf := hX.f 13
      have HXS := Lib.hid (hX.set 13 y)
      have HY2 := Lib.hid hy2
      clear hy2 hX
      go_wp2
      go_roundw
      case rel => exact ⟨3 + 1, by omega, by go_num, by unfold setU; rw [HY2.out]; exact HXS.out⟩
      case measure => simp [intOf]
    · have hu := hup 4 (by decide)
      have eu : c.u 4 = c.c4 := rfl
      rw [eu] at hu
      obtain ⟨y, hy⟩ : ∃ y : Nat, c.c4 + 1 = (y : Int) := ⟨(c.c4 + 1).toNat, by omega⟩
      have hy2 : (c.u 4 + 1).toNat = y := by rw [eu]; omega
      have hs1 : c.c4 - -1 = (y : Int) := by omega
      have hy16 : y < 256 := by omega
      have hp := hX.p (i := 14) (by decide)
      have hf := hX.f 14
      have HXS := Lib.hid (hX.set 14 y)
      have HY2 := Lib.hid hy2
      clear hy2 hX
      go_wp2
      go_roundw
      case rel => exact ⟨4 + 1, by omega, by go_num, by unfold setU; rw [HY2.out]; exact HXS.out⟩
      case measure => simp [intOf]
    · have hu := hup 5 (by decide)
      have eu : c.u 5 = c.c5 := rfl
      rw [eu] at hu
      obtain ⟨y, hy⟩ : ∃ y : Nat, c.c5 + 1 = (y : Int) := ⟨(c.c5 + 1).toNat, by omega⟩
      have hy2 : (c.u 5 + 1).toNat = y := by rw [eu]; omega
      have hs1 : c.c5 - -1 = (y : Int) := by omega
      have hy16 : y < 256 := by omega
      have hp := hX.p (i := 15) (by decide)
      have hf := hX.f 15
      have HXS := Lib.hid (hX.set 15 y)
      have HY2 := Lib.hid hy2
      clear hy2 hX
      go_wp2
      go_roundw
      case rel => exact ⟨5 + 1, by omega, by go_num, by unfold setU; rw [HY2.out]; exact HXS.out⟩
      case measure => simp [intOf]
    · clear hup
      obtain ⟨mm, hmm⟩ : ∃ mm : Nat, c.m = (mm : Int) := ⟨c.m.toNat, by have := hok.m; omega⟩
      obtain ⟨hh, hhh⟩ : ∃ hh : Nat, c.h = (hh : Int) := ⟨c.h.toNat, by have := hok.h; omega⟩
      obtain ⟨L2, hL2⟩ : ∃ L2, L2 = setU c L1 6 := ⟨_, rfl⟩
      rw [← hL2] at hX
      have HL2 := Lib.hid hL2
      have HMM := Lib.hid hmm
      have HHH := Lib.hid hhh
      have k14 := hX.c 14
      have p16 := hX.p (i := 16) (by decide)
      have f16 := hX.f 16
      have X := Lib.hid (hX.setI 16 mm c.m hmm)
      clear hL2 hmm hhh hX
      go_wp2_with fail
      clear k14 p16 f16
      obtain ⟨w6, hw6⟩ : ∃ w6, w6 = wr.setCell ⟨r, 16, none⟩ (.int .u8 c.m) := ⟨_, rfl⟩
      rw [← hw6] at X
      rw [← hw6]
      clear hw6
      skip
      obtain ⟨I, W, hne, hWI, hIW⟩ := Go.Mix.family (fun v => Below w6.heap.size w6 v) (Below.refl _ _)
      have HJ := Lib.hid hIW
      have HW := Lib.hid hWI
      clear hWI hIW
      refine Go.Flo.wp_region (fun w' => ∃ i, w' = W i) 4 [Go.Flo.dflt] (by kernel_rfl) (by kernel_rfl) (by decide) (by rintro _ w' ⟨i, rfl⟩ hb; exact HJ.out _ ((HW.out i).trans (hb.mono (HW.out i).size))) (HJ.out _ (Below.refl _ _).drew) ?_
      simp only [Go.Flo.pair, Go.Mix.calm, List.take, List.drop, if_true, Bool.false_eq_true, if_false, Nat.reduceAdd, Nat.reduceSub]
      have e0 : ∀ i, (W i).cell? ⟨b, 15, none⟩ = some (.int .u16 c.n) := fun i => (X.out.below (HW.out i)).c 15
      (repeat (first | (refine Go.Flo.fw_calm rfl ?_ (fun K hK => ?_); (first | exact Go.Mix.wanted_none rfl | exact Go.Mix.wanted_tt rfl rfl rfl | exact Go.Mix.wanted_ff rfl rfl rfl); go_big_quiet_op; refine hK _ ?_; clear hK K) | (refine Go.Flo.fw_skip ?_ (fun K hK => ?_); (first | exact Go.Mix.wanted_tf rfl rfl rfl | exact Go.Mix.wanted_ft rfl rfl rfl); go_simp; refine hK _ ?_; clear hK K) | (refine Go.Flo.fw_any rfl ?_ (fun K hK => ?_); (first | exact Go.Mix.wanted_none rfl | exact Go.Mix.wanted_tt rfl rfl rfl | exact Go.Mix.wanted_ff rfl rfl rfl); go_simp; (try (go_ints; try go_simp)); refine hK _ ?_; clear hK K)))
      refine Go.Flo.fw_nil ?_
      intro wq hwwq hfwq huwq
      obtain ⟨iend, hiend⟩ := hwwq
      have hbwq := HW.out iend
      rw [← hiend] at hbwq
      clear hiend iend huwq
      have XQ := Lib.hid (X.out.below hbwq)
      clear hfwq HJ HW hne e0 hbwq X
      clear W I
      refine Go.Flo.tw_step ?_ (fun K hK => ?_)
      · (first | exact Go.Mix.wanted_none rfl | exact Go.Mix.wanted_tt rfl rfl rfl | exact Go.Mix.wanted_ff rfl rfl rfl)
      (first | go_big_op | go_simp)
      go_at_call 65
      refine (XQ.out.put2 (i := 17) (by decide) hn2 _ HN.out _ _ (by decide)).mono ?_
      rintro e w7 ⟨⟨vv, rfl⟩, hX⟩
      have X := Lib.hid hX
      refine hK _ _ ?_
      clear hK K hX XQ
      refine Go.Flo.tw_nil ?_
      have hX := X.out
      have hm2 : c.m.toNat = mm := by rw [HMM.out]; rfl
      have hh2 : c.h.toNat = hh := by rw [HHH.out]; rfl
      clear X
      cases hx : c.x with
      | true =>
        have hfin : ((((L2.set 16 mm).set 17 (n / 256)).set (17 + 1) (n % 256)).set 19 1).set 20 hh = cxB f ih n c := by
          rw [HL2.out, HL1.out, HL0.out]
          unfold cxB
          rw [hm2, hh2, hx]
          rfl
        have k16 : w7.cell? ⟨b, 16, none⟩ = some (.bool true) := by rw [hX.c 16, ← hx]; rfl
        have p19 := hX.p (i := 19) (by decide)
        have f19 := hX.f 19
        have hX8 := hX.setI 19 1 1 rfl
        have k17 := hX8.c 17
        have p20 := hX8.p (i := 20) (by decide)
        have f20 := hX8.f 20
        have hX9 := hX8.setI 20 hh c.h HHH.out
        rw [hfin] at hX9
        have HX9 := Lib.hid hX9
        clear hX hX8 hX9 hfin hx hm2 hh2
        go_wp2
        go_ret
        exact ⟨_, rfl, HX9.out.own, HX9.out.be⟩
      | false =>
        have hfin : (((L2.set 16 mm).set 17 (n / 256)).set (17 + 1) (n % 256)).set 20 hh = cxB f ih n c := by
          rw [HL2.out, HL1.out, HL0.out]
          unfold cxB
          rw [hm2, hh2, hx]
          rfl
        have k16 : w7.cell? ⟨b, 16, none⟩ = some (.bool false) := by rw [hX.c 16, ← hx]; rfl
        have k17 := hX.c 17
        have p20 := hX.p (i := 20) (by decide)
        have f20 := hX.f 20
        have hX9 := hX.setI 20 hh c.h HHH.out
        rw [hfin] at hX9
        have HX9 := Lib.hid hX9
        clear hX hX9 hfin hx hm2 hh2
        go_wp2
        go_ret
        exact ⟨_, rfl, HX9.out.own, HX9.out.be⟩
end Go.Proofs.Ytpgophkegjeheaa
