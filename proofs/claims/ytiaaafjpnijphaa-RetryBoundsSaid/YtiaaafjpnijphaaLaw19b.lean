/- RetryBounds: however often it is tried, no role is switched over more often than its limit. -/
import Derived.Test.YtiaaafjpnijphaaLaw19s
import Derived.Deep.Matrix
namespace Go.Proofs.Ytiaaafjpnijphaa
open Go.RowKit Go.Own Go.ChangeShapes Go.WideShapes
set_option linter.unusedVariables false
set_option linter.unusedSimpArgs false
/-- A slice of slices of whole numbers that came in. -/
def IsRowsI (w : World) (a : Option Addr) (len cap : Nat) : Prop :=
  ∃ (p : Nat → Option Addr) (c : Nat → Nat) (ls : Nat → List Int), Rd w.heap.size w a len cap (fun i => .slice (p i) (ls i).length (c i)) ∧ ∀ i, i < len → Rd w.heap.size w (p i) (ls i).length (c i) (Bs.iv (ls i))
theorem plain_of_cellI {w : World} {x : Addr} {f : Nat → Value} {n : Nat} (hn : 0 < n) (hc : ∀ i, i < n → w.cell? (x.add i) = some (f i)) : ∃ b off, x = ⟨b, off, none⟩ ∧ b < w.heap.size ∧ ∀ i, i < n → w.cell? ⟨b, off + i, none⟩ = some (f i) := by
  have h0 := hc 0 hn
  obtain ⟨b, off, spot⟩ := x
  have hspot : spot = none := by simpa [Addr.add] using World.cell?_spot h0
  subst hspot
  refine ⟨b, off, rfl, ?_, fun i hi => ?_⟩
  · have := World.block_lt_of_cell? w _ h0
    simpa [Addr.add] using this
  · have := hc i hi
    rw [← this]
    congr 1
    unfold Addr.add
    split
    · rename_i e; subst e; rfl
    · rfl
theorem isRowsI_of {H : Type} {enc : TypeId × Value → H} {P : Program} {w : World} {t e q : TypeId} {a : Option Addr} {len cap : Nat} {d : DataW H} {ps : List MemPlace}
    (ht : P.underlying t = some (.slice e)) (he : P.underlying e = some (.slice q)) (hq : P.underlying q = some (.int .i64)) (ce : P.cellsOf e = 1) (cq : P.cellsOf q = 1)
    (h : DataW.Trod enc P w 0 (fun _ => true) true t (.slice a len cap) d ps) : IsRowsI w a len cap := by
  obtain ⟨fuel, hf⟩ := h
  rcases Go.Deep.open_int_rows ht he hq ce cq hf with ⟨hcs, _⟩ | ⟨x, l, c, A, L, C, Z, hcs, _, hl, hm, _, hx⟩
  · simp [Value.cells] at hcs
    obtain ⟨rfl, rfl, rfl⟩ := hcs
    exact ⟨fun _ => none, fun _ => 0, fun _ => [], Rd.none_ _ _ _, fun i hi => absurd hi (by omega)⟩
  · simp [Value.cells] at hcs
    obtain ⟨rfl, rfl, rfl⟩ := hcs
    have hll : ∀ r, r < cap → ((Z r).take (L r)).length = L r := fun r hr => by
      obtain ⟨_, h1, _, h3, _⟩ := hx r hr
      simp; omega
    refine ⟨A, C, fun r => (Z r).take (L r), ?_, fun r hr => ?_⟩
    · refine ⟨hl, hm, fun h => (by cases h), fun h0 => ?_⟩
      obtain ⟨b, off, rfl, hb, hc⟩ := plain_of_cellI (n := cap) (by omega) (fun r hr => (hx r hr).1)
      exact ⟨b, off, rfl, hb, fun i hi => by rw [hc i (by omega), hll i (by omega)]⟩
    · obtain ⟨_, h1, h2, h3, h4, h5, h6⟩ := hx r (by omega)
      rw [hll r (by omega)]
      refine ⟨h1, h2, h5, fun h0 => ?_⟩
      cases hA : A r with
      | none => have := h5 hA; omega
      | some a' =>
        obtain ⟨_, hc⟩ := h6 a' hA
        obtain ⟨b, off, rfl, hb, hc⟩ := plain_of_cellI (n := C r) (by omega) hc
        refine ⟨b, off, rfl, hb, fun i hi => ?_⟩
        rw [hc i (by omega)]
        have hi2 : i < (Z r).length := by omega
        unfold Bs.iv
        simp [List.getD, hi, hi2]
/-- How the counts stand: no role above its limit, all together so many. -/
structure BdSt (m : Lm) (c : Cx) (since : Nat) : Prop where
  ok : c.Ok
  x : c.x = false
  le : ∀ k : Int, 0 ≤ k → k < 6 → c.r k ≤ m.l k
  tot : c.tot = since
theorem count_six : ∀ (l : List Int), (∀ k ∈ l, 0 ≤ k ∧ k < 6) → l.count 0 + l.count 1 + l.count 2 + l.count 3 + l.count 4 + l.count 5 = l.length
  | [], _ => rfl
  | x :: l, h => by
    have ih := count_six l (fun k hk => h k (by simp [hk]))
    have hx := h x (by simp)
    have : x = 0 ∨ x = 1 ∨ x = 2 ∨ x = 3 ∨ x = 4 ∨ x = 5 := by omega
    simp only [List.count_cons, List.length_cons]
    rcases this with rfl | rfl | rfl | rfl | rfl | rfl <;> simp <;> omega
theorem BdSt.left {m : Lm} {c : Cx} {s : Nat} (h : BdSt m c s) : leftR m c = m.sum - s ∧ (s : Int) ≤ m.sum := by
  have h0 : c.r0 ≤ m.l0 := h.le 0 (by omega) (by omega)
  have h1 : c.r1 ≤ m.l1 := h.le 1 (by omega) (by omega)
  have h2 : c.r2 ≤ m.l2 := h.le 2 (by omega) (by omega)
  have h3 : c.r3 ≤ m.l3 := h.le 3 (by omega) (by omega)
  have h4 : c.r4 ≤ m.l4 := h.le 4 (by omega) (by omega)
  have h5 : c.r5 ≤ m.l5 := h.le 5 (by omega) (by omega)
  have ht := h.tot
  unfold Cx.tot at ht
  unfold leftR Lm.sum
  omega
theorem BdSt.start {m : Lm} (hm : m.Ok) : BdSt m cxDef 0 := by
  refine ⟨def_ok, rfl, fun k h0 h6 => ?_, rfl⟩
  have := Lm.l_ok hm k
  have hk : k = 0 ∨ k = 1 ∨ k = 2 ∨ k = 3 ∨ k = 4 ∨ k = 5 := by omega
  have : cxDef.r k = 0 := by rcases hk with rfl | rfl | rfl | rfl | rfl | rfl <;> rfl
  omega
theorem BdSt.spent {m : Lm} (hm : m.Ok) {c d : Cx} {s : Nat} {l : List Int} (h : BdSt m c s) (hs : spend m c l = some d) : BdSt m d (s + l.length) := by
  have hM := spend_may l hs
  have hd := spend_yes l hM
  rw [hs] at hd
  injection hd with hd
  refine ⟨spend_good hm h.ok hs, by rw [hd]; exact h.x, fun k h0 h6 => ?_, ?_⟩
  · rw [hd, c.bump_r _ k h0 h6]
    by_cases hz : 0 < l.count k
    · exact hM.le k h0 h6 hz
    · have := h.le k h0 h6; omega
  · have ht := h.tot
    have hc := count_six l hM.role
    rw [hd]
    show c.r0 + (l.count 0 : Nat) + (c.r1 + (l.count 1 : Nat)) + (c.r2 + (l.count 2 : Nat)) + (c.r3 + (l.count 3 : Nat)) + (c.r4 + (l.count 4 : Nat)) + (c.r5 + (l.count 5 : Nat)) = _
    unfold Cx.tot at ht
    omega
theorem BdSt.clear {m : Lm} (hm : m.Ok) {c : Cx} {s : Nat} (h : BdSt m c s) : BdSt m (clearR c [0, 1, 2, 3, 4, 5]).calm 0 := by
  have e : (clearR c [0, 1, 2, 3, 4, 5]).calm = (c.withR fun _ => 0).calm := by
    rw [clearR_with]
    refine congrArg Cx.calm (c.withR_congr fun j h0 h6 => ?_)
    have hk : j = 0 ∨ j = 1 ∨ j = 2 ∨ j = 3 ∨ j = 4 ∨ j = 5 := by omega
    rw [if_pos (by simp; omega)]
  refine ⟨calm_good (clearR_good h.ok _), rfl, fun k h0 h6 => ?_, by rw [e]; rfl⟩
  rw [e, calm_r, c.withR_r _ _ h0 h6]
  exact (Lm.l_ok hm k).1
/-- The limits' sum, so far. -/
def sumK (m : Lm) : Nat → Int
  | 0 => 0
  | k + 1 => sumK m k + m.l (k : Nat)
theorem sumK_six (m : Lm) : sumK m 6 = m.sum := by
  show 0 + m.l0 + m.l1 + m.l2 + m.l3 + m.l4 + m.l5 = _
  unfold Lm.sum
  omega
theorem sumK_ok {m : Lm} (hm : m.Ok) : ∀ k, k ≤ 6 → 0 ≤ sumK m k ∧ sumK m k ≤ 256 * k
  | 0, _ => ⟨by simp [sumK], by simp [sumK]⟩
  | k + 1, h => by
    have := sumK_ok hm k (by omega)
    have := Lm.l_ok hm (k : Nat)
    unfold sumK
    omega
theorem cx_index (c : Cx) {k : Nat} (hk : k < 6) (w : World) : (Instr.index 128 (.agg #[.int .u8 c.r0, .int .u8 c.r1, .int .u8 c.r2, .int .u8 c.r3, .int .u8 c.r4, .int .u8 c.r5]) (.int .i64 (k : Nat))).run Try.prog w = .ok (.int .u8 (c.r (k : Nat))) w := by
  have : k = 0 ∨ k = 1 ∨ k = 2 ∨ k = 3 ∨ k = 4 ∨ k = 5 := by omega
  rcases this with rfl | rfl | rfl | rfl | rfl | rfl
  · exact ixra _ _ _ _ _ _ _
  · exact ixrb _ _ _ _ _ _ _
  · exact ixrc _ _ _ _ _ _ _
  · exact ixrd _ _ _ _ _ _ _
  · exact ixre _ _ _ _ _ _ _
  · exact ixrf _ _ _ _ _ _ _
theorem rd_six {w : World} {g : Nat} {t : TypeId} (h : w.heap[g]? = some (.cells #[.int .i64 0, .int .i64 1, .int .i64 2, .int .i64 3, .int .i64 4, .int .i64 5] t (0, 0))) : Rd w.heap.size w (some ⟨g, 0, none⟩) 6 6 (Bs.iv [0, 1, 2, 3, 4, 5]) :=
  ⟨Nat.le_refl _, by unfold maxLen; omega, (fun h => by cases h), fun _ => ⟨_, _, rfl, box_lt h, fun i hi => by
    have hh : i = 0 ∨ i = 1 ∨ i = 2 ∨ i = 3 ∨ i = 4 ∨ i = 5 := by omega
    rcases hh with rfl | rfl | rfl | rfl | rfl | rfl <;> exact cell_of_row _ _ _ _ _ _ h⟩⟩
/-- The call's own row of these numbers. -/
def SpOI (n0 : Nat) (l : List Int) : Go.Flo.Spec :=
  ⟨fun v w => w.ownsRow n0 3 1 v l.length (ziv l), fun v w w' hb h => own_keep h hb⟩
theorem owes_OI {o : Oper} {n0 : Nat} {l : List Int} {w w' : World} {v : Value} {base : Nat} (hm : Go.Flo.makes o = false) (hb : Below w.heap.size w w') (h : w'.ownsRow base 3 1 v l.length (ziv l)) (h0 : n0 ≤ base) : Go.Flo.owes o (SpOI n0 l) w v w' :=
  ⟨World.ownsRow.mono h h0, hb, fun g hg => by simp [Go.Flo.ownOf, hm] at hg⟩
theorem ex_OI {C : World → Prop} {o : Oper} {n0 : Nat} {l : List Int} {v : Value} {F : Go.Flo.Facts} {G : Go.Flo.Used} (h : Go.Flo.Ex C o (SpOI n0 l) F G v) : ∃ a c, v = .slice a l.length c := by
  obtain ⟨w, _, _, h1, _⟩ := h
  exact own_form h1
theorem AwSt.stepB {w wr w' : World} {g0 g n : Nat} {m : Lm} {c : Cx} (h : AwSt w wr g0 g m c) (hb : Below n wr w') (hn : wr.heap.size ≤ n) : AwSt w w' g0 g m c := h.step (hb.mono hn)
theorem wrap_sum {a b n : Nat} (h : a + b = n) (hn : n ≤ 100000) : wrap64 ((a : Int) + (b : Int)) = (n : Int) := by unfold wrap64; omega
theorem wrap_sub {S : Int} {s : Nat} (h0 : 0 ≤ S) (h1 : S ≤ 256 * ((6 : Nat) : Int)) (h : (s : Int) ≤ S) : wrap64 (S - (s : Int)) = S - (s : Int) := by unfold wrap64; omega
theorem HIN_of {k : Int} {l : List Int} (h : k ∈ l) : decide (k ∈ l) = true := decide_eq_true h
set_option maxRecDepth 100000 in
set_option maxHeartbeats 16000000 in
theorem walk_RetryBounds (z0 : List Int) (a1 : Option Addr) (len1 cap1 : Nat) (a2 : Option Addr) (len2 cap2 : Nat) (z2 : List Int) (w : World) (l0 : z0.length = 6) (w0 : ∀ x ∈ z0, (Lit.int .u8 x).wf = true) (wr : IsRowsI w a1 len1 cap1) (w2 : IsRow .i64 w a2 len2 cap2 z2) :
    Calls Try.prog 12 #[.agg (z0.map (Value.int .u8)).toArray, .slice a1 len1 cap1, .slice a2 len2 cap2] w fun e w' => e = .returned (.bool true) ∧ Below w.heap.size w w' := by
  obtain ⟨m, hm, e0⟩ := lm_of l0 w0
  rw [e0]
  clear e0 l0 w0
  obtain ⟨l, hl, hrd⟩ := isRow_i w2
  clear w2
  obtain ⟨pp, cc, ls, hrr, hrs⟩ := wr
  have HR := Lib.hid hrd
  have HRR := Lib.hid hrr
  have HRS := Lib.hid hrs
  have hlen1 := hrr.le
  have htop1 := hrr.top
  unfold maxLen at htop1
  clear hrd hrr hrs
  have hzc := zero_cx
  have h0 := heap_alloc_new w (.cells #[.int .u8 m.l0, .int .u8 m.l1, .int .u8 m.l2, .int .u8 m.l3, .int .u8 m.l4, .int .u8 m.l5] 129)
  have hb0 : Below w.heap.size w (w.alloc (.cells #[.int .u8 m.l0, .int .u8 m.l1, .int .u8 m.l2, .int .u8 m.l3, .int .u8 m.l4, .int .u8 m.l5] 129)) := by repeat' (first | (with_reducible exact Below.refl _ _) | (with_reducible assumption) | (with_reducible refine Below.setCell ?_ ?_ _) | (with_reducible refine Below.alloc ?_ ?_ _) | (with_reducible refine Below.drew ?_) | (with_reducible refine Below.drawsN ?_ _) | go_size)
  go_enter Try.func12, Try.ntmps12
  go_upto_region 1 with fail
  obtain ⟨w1, hw1⟩ : ∃ w1, w1 = w.alloc (.cells #[.int .u8 m.l0, .int .u8 m.l1, .int .u8 m.l2, .int .u8 m.l3, .int .u8 m.l4, .int .u8 m.l5] 129) := ⟨_, rfl⟩
  obtain ⟨g0, hg0⟩ : ∃ g, g = w.heap.size := ⟨_, rfl⟩
  rw [← hw1] at h0 hb0 ⊢
  rw [← hg0] at h0 ⊢
  have HB := Lib.hid hb0
  have H0 := Lib.hid h0
  have hgw : w.heap.size ≤ g0 := by omega
  have hgz : g0 < w1.heap.size := box_lt h0
  clear hw1 hg0 hb0 h0
  go_wp2_with fail
  go_at_call 62
  refine (awake19 _).mono ?_
  rintro e wa ⟨rfl, hb⟩
  have HB2 := Lib.hid (HB.out.trans (hb.mono HB.out.size))
  have H2 := Lib.hid (box_below H0.out hb hgz)
  clear hb HB H0 hgz
  go_wp2_with fail
  go_at_call 66
  refine (Default_any _).mono ?_
  rintro e w3 ⟨rfl, hb⟩
  have hb3 := HB2.out.trans (hb.mono HB2.out.size)
  have h3 := box_below H2.out hb (box_lt H2.out)
  have hb4 : Below w3.heap.size w3 (w3.alloc (.cells #[.int .u16 cxDef.f, .int .u16 cxDef.i, .int .u8 cxDef.r0, .int .u8 cxDef.r1, .int .u8 cxDef.r2, .int .u8 cxDef.r3, .int .u8 cxDef.r4, .int .u8 cxDef.r5, .int .i8 cxDef.c0, .int .i8 cxDef.c1, .int .i8 cxDef.c2, .int .i8 cxDef.c3, .int .i8 cxDef.c4, .int .i8 cxDef.c5, .int .u8 cxDef.m, .int .u16 cxDef.n, .bool cxDef.x, .int .u8 cxDef.h] 131)) := (Below.refl _ _).alloc (Nat.le_refl _) _
  have hA : AwSt w (w3.alloc (.cells #[.int .u16 cxDef.f, .int .u16 cxDef.i, .int .u8 cxDef.r0, .int .u8 cxDef.r1, .int .u8 cxDef.r2, .int .u8 cxDef.r3, .int .u8 cxDef.r4, .int .u8 cxDef.r5, .int .i8 cxDef.c0, .int .i8 cxDef.c1, .int .i8 cxDef.c2, .int .i8 cxDef.c3, .int .i8 cxDef.c4, .int .i8 cxDef.c5, .int .u8 cxDef.m, .int .u16 cxDef.n, .bool cxDef.x, .int .u8 cxDef.h] 131)) g0 w3.heap.size m cxDef := ⟨hb3.trans (hb4.mono hb3.size), hb3.size, by have := box_lt h3; omega, box_below h3 hb4 (box_lt h3), heap_alloc_new _ _⟩
  clear hb hb3 h3 hb4 HB2 H2
  go_upto_region 4 with ((with_reducible show wpList _ _ _ (_ :: _) _ _); refine wpList_store_row rfl 131 _ _ rfl _ _ rfl rfl _ _ (heap_alloc_new _ _) (by exact size_cx) (by rfl) (by simp [Value.oneCell']) ?_; rw [World.setRow_alloc_new])
  obtain ⟨w4, hw4⟩ : ∃ w4, w4 = w3.alloc (.cells #[.int .u16 cxDef.f, .int .u16 cxDef.i, .int .u8 cxDef.r0, .int .u8 cxDef.r1, .int .u8 cxDef.r2, .int .u8 cxDef.r3, .int .u8 cxDef.r4, .int .u8 cxDef.r5, .int .i8 cxDef.c0, .int .i8 cxDef.c1, .int .i8 cxDef.c2, .int .i8 cxDef.c3, .int .i8 cxDef.c4, .int .i8 cxDef.c5, .int .u8 cxDef.m, .int .u16 cxDef.n, .bool cxDef.x, .int .u8 cxDef.h] 131) := ⟨_, rfl⟩
  rw [← hw4] at hA ⊢
  obtain ⟨g7, hg7⟩ : ∃ g, g = w3.heap.size := ⟨_, rfl⟩
  rw [← hg7] at hA ⊢
  have b0 := hA.bm
  have HA := Lib.hid hA
  clear hw4 hg7 hA
  go_wp2_with (((with_reducible show wpList _ _ _ (_ :: _) _ _); refine wpList_load_row rfl 129 _ rfl _ rfl _ _ _ _ b0 Try.underlying129 rfl (by exact size_lm) ?_; (try go_simp)))
  clear b0
  go_loopw [10, 24] (fun v i wr => ∃ (k : Nat), k ≤ 6 ∧ i = .int .i64 k ∧ v = .int .i64 (sumK m k) ∧ wr = w4) (fun _ i _ => 6 - (intOf i).toNat)
  case atStart => exact ⟨0, Nat.zero_le _, rfl, rfl, rfl⟩
  case round =>
    obtain ⟨k, hk, rfl, rfl, rfl⟩ := hrel
    have hsk := sumK_ok hm k hk
    by_cases hlt : k < 6
    · have hix := fun w => lm_index m hlt w
      have hx := Lm.l_ok hm (k : Nat)
      have eS : sumK m (k + 1) = sumK m k + m.l (k : Nat) := rfl
      obtain ⟨x, hx'⟩ : ∃ x, x = m.l (k : Nat) := ⟨_, rfl⟩
      obtain ⟨S, hS'⟩ : ∃ S, S = sumK m k := ⟨_, rfl⟩
      rw [← hx'] at hix hx eS
      rw [← hS'] at hsk eS ⊢
      obtain ⟨x0, x1⟩ := hx
      obtain ⟨s0, s1⟩ := hsk
      have ES := Lib.hid eS
      clear eS hx' hS'
      go_wp2_with fail
      go_roundw
      case rel => exact ⟨k + 1, by omega, by go_num, by rw [ES.out], trivial⟩
      case measure => simp [intOf]; omega
    · obtain rfl : k = 6 := by omega
      rw [sumK_six] at hsk ⊢
      obtain ⟨s0, s1⟩ := hsk
      have hlft := (BdSt.start hm).left.1
      have hlft : leftR m cxDef = m.sum := by rw [hlft]; simp
      have hSum := fun w => Sum_any hm w
      have hLeft := fun w => Left_any hm def_ok w
      rw [hlft] at hLeft
      obtain ⟨S, hS⟩ : ∃ S, S = m.sum := ⟨_, rfl⟩
      rw [← hS] at hSum hLeft s0 s1 ⊢
      have hself : (S != S) = false := by simp
      have HSM := Lib.hid hSum
      have HLF := Lib.hid hLeft
      have HS := Lib.hid hS
      have b0 := HA.out.bm
      clear hSum hLeft hlft hS
      go_wp2_with (((with_reducible show wpList _ _ _ (_ :: _) _ _); refine wpList_load_row rfl 129 _ rfl _ rfl _ _ _ _ b0 Try.underlying129 rfl (by exact size_lm) ?_; (try go_simp)))
      go_at_call 67
      refine (HSM.out _).mono ?_
      rintro e w5 ⟨rfl, hb⟩
      have HA5 := Lib.hid (HA.out.step hb)
      have b0 := HA5.out.bm
      have b1 := HA5.out.bc
      clear hb HA HSM
      go_wp2_with (first | (refine wpLoadG (by (first | exact Go.Mix.wanted_none rfl | exact Go.Mix.wanted_tt rfl rfl rfl | exact Go.Mix.wanted_ff rfl rfl rfl)) 129 _ rfl _ rfl _ _ _ _ b0 Try.underlying129 rfl (by exact size_lm) ?_; (try go_simp)) | (refine wpLoadG (by (first | exact Go.Mix.wanted_none rfl | exact Go.Mix.wanted_tt rfl rfl rfl | exact Go.Mix.wanted_ff rfl rfl rfl)) 131 _ rfl _ rfl _ _ _ _ b1 Try.underlying131 rfl (by exact size_cx) ?_; (try go_simp)))
      go_at_call 68
      refine (HLF.out _).mono ?_
      rintro e w6 ⟨rfl, hb⟩
      have HA6 := Lib.hid (HA5.out.step hb)
      clear hb HA5 HLF b0 b1 hself
      go_wp2_with fail
      go_loopw [8, 9, 45] (fun nv sv i wr => ∃ (j nn s : Nat) (c : Cx), j ≤ len1 ∧ j ≤ 60 ∧ nn ≤ 8 * j ∧ i = .int .i64 j ∧ nv = .int .i64 (nn : Nat) ∧ sv = .int .i64 (s : Nat) ∧ AwSt w wr g0 g7 m c ∧ BdSt m c s) (fun _ _ i _ => len1 - (intOf i).toNat)
      case atStart => exact ⟨0, 0, 0, cxDef, Nat.zero_le _, by omega, by omega, rfl, rfl, rfl, HA6.out, BdSt.start hm⟩
      case round =>
        obtain ⟨j, nn, s, c, hj, hj60, hnn, rfl, rfl, rfl, hA, hB⟩ := hrel
        clear HA6
        have HAw := Lib.hid hA
        clear hA
        by_cases hlt : j < len1
        · obtain ⟨bb, off, rfl, hbb, hc0⟩ := HRR.out.at hlt
          have hcx := (HAw.out.be.cell (p := ⟨bb, off + j, none⟩) hbb).trans hc0
          have hrow := (HRS.out j hlt).below HAw.out.be
          obtain ⟨pj, hpj⟩ : ∃ pj, pj = pp j := ⟨_, rfl⟩
          obtain ⟨cj, hcj⟩ : ∃ cj, cj = cc j := ⟨_, rfl⟩
          obtain ⟨lj, hlj⟩ : ∃ lj, lj = ls j := ⟨_, rfl⟩
          rw [← hpj, ← hcj, ← hlj] at hcx hrow
          have HROW := Lib.hid hrow
          clear hpj hcj hlj hc0 hrow
          by_cases h60 : j < 60
          · have hge : decide (60 ≤ (j : Int)) = false := decide_eq_false (by omega)
            go_wp2_with fail
            go_at_call 63
            refine (Few_any pj _ cj _ lj 8 _ (by decide) rfl HAw.out.be.size HROW.out).mono ?_
            rintro e w7 ⟨v, rfl, hown, hb⟩
            obtain ⟨xa, xc, rfl⟩ := own_form hown
            have h88 : (lj.take 8).length ≤ 8 := by rw [List.length_take]; omega
            obtain ⟨l8, hl8⟩ : ∃ l8, l8 = lj.take 8 := ⟨_, rfl⟩
            rw [← hl8] at hown h88 ⊢
            obtain ⟨q8, hq8⟩ : ∃ q8, q8 = l8.length := ⟨_, rfl⟩
            rw [← hq8] at hown h88 ⊢
            have hro := rd_of_own (f := Bs.iv l8) hown (fun i hi => ziv_at l8 i (by omega))
            have HQ8 := Lib.hid hq8
            clear hq8
            have HA7 := Lib.hid (HAw.out.step hb)
            have HRO := Lib.hid hro
            have b0 := HA7.out.bm
            have b1 := HA7.out.bc
            obtain ⟨d, b, hd⟩ : ∃ d b, spendR m c l8 = (d, b) := ⟨_, _, rfl⟩
            have HD := Lib.hid hd
            have HBB := Lib.hid hB
            have hok := hB.ok
            clear hb hown hro hl8 HAw HROW hcx hd hB hge
            go_wp2_with (first | ((with_reducible show wpList _ _ _ (_ :: _) _ _); refine wpList_load_row rfl 129 _ rfl _ rfl _ _ _ _ b0 Try.underlying129 rfl (by exact size_lm) ?_; (try go_simp)) | ((with_reducible show wpList _ _ _ (_ :: _) _ _); refine wpList_load_row rfl 131 _ rfl _ rfl _ _ _ _ b1 Try.underlying131 rfl (by exact size_cx) ?_; (try go_simp)))
            go_at_call 64
            refine (Spend_det xa _ xc _ l8 _ hm hok HQ8.out.symm (Nat.le_refl _) HRO.out HD.out).mono ?_
            rintro e w8 ⟨rfl, hb⟩
            have hA8 := HA7.out.step hb
            have hb9 : Below w8.heap.size w8 (w8.alloc (.cells #[.int .u16 d.f, .int .u16 d.i, .int .u8 d.r0, .int .u8 d.r1, .int .u8 d.r2, .int .u8 d.r3, .int .u8 d.r4, .int .u8 d.r5, .int .i8 d.c0, .int .i8 d.c1, .int .i8 d.c2, .int .i8 d.c3, .int .i8 d.c4, .int .i8 d.c5, .int .u8 d.m, .int .u16 d.n, .bool d.x, .int .u8 d.h] 131)) := (Below.refl _ _).alloc (Nat.le_refl _) _
            have HA9 := Lib.hid (hA8.step hb9)
            have d9 := heap_alloc_new w8 (.cells #[.int .u16 d.f, .int .u16 d.i, .int .u8 d.r0, .int .u8 d.r1, .int .u8 d.r2, .int .u8 d.r3, .int .u8 d.r4, .int .u8 d.r5, .int .i8 d.c0, .int .i8 d.c1, .int .i8 d.c2, .int .i8 d.c3, .int .i8 d.c4, .int .i8 d.c5, .int .u8 d.m, .int .u16 d.n, .bool d.x, .int .u8 d.h] 131)
            clear hb hA8 hb9 b0 b1 HA7 HRO
            go_upto_region 19 with ((with_reducible show wpList _ _ _ (_ :: _) _ _); refine wpList_store_row rfl 131 _ _ rfl _ _ rfl rfl _ _ (heap_alloc_new _ _) (by exact size_cx) (by rfl) (by simp [Value.oneCell']) ?_; rw [World.setRow_alloc_new])
            obtain ⟨w9, hw9⟩ : ∃ w9, w9 = w8.alloc (.cells #[.int .u16 d.f, .int .u16 d.i, .int .u8 d.r0, .int .u8 d.r1, .int .u8 d.r2, .int .u8 d.r3, .int .u8 d.r4, .int .u8 d.r5, .int .i8 d.c0, .int .i8 d.c1, .int .i8 d.c2, .int .i8 d.c3, .int .i8 d.c4, .int .i8 d.c5, .int .u8 d.m, .int .u16 d.n, .bool d.x, .int .u8 d.h] 131) := ⟨_, rfl⟩
            rw [← hw9] at HA9 d9 ⊢
            obtain ⟨gf, hgf⟩ : ∃ g, g = w8.heap.size := ⟨_, rfl⟩
            rw [← hgf] at d9 ⊢
            clear hw9 hgf
            go_upto_if 61 with fail
            go_cut [8, 9] (fun s8 s9 wx => ∃ (nn s : Nat) (c : Cx), nn ≤ 8 * j + 8 ∧ s8 = .int .i64 (nn : Nat) ∧ s9 = .int .i64 (s : Nat) ∧ AwSt w wx g0 g7 m c ∧ BdSt m c s)
            case first =>
              have hsS := HBB.out.left.2
              rw [← HS.out] at hsS
              cases hsp : spend m c l8 with
              | none =>
                have h1 := HD.out
                unfold spendR at h1
                rw [hsp] at h1
                obtain ⟨rfl, rfl⟩ := Prod.mk.inj h1
                clear h1 hsp
                go_wp2_with fail
                go_meet
                case rel => exact ⟨nn, s, c, by omega, rfl, rfl, HA9.out, HBB.out⟩
              | some q =>
                have h1 := HD.out
                unfold spendR at h1
                rw [hsp] at h1
                obtain ⟨rfl, rfl⟩ := Prod.mk.inj h1
                have HB2 := Lib.hid (HBB.out.spent hm hsp)
                have b1 := HA9.out.bc
                have HA10 := Lib.hid (HA9.out.put q)
                rw [← HQ8.out] at HB2
                obtain ⟨N, hN⟩ : ∃ N : Nat, N = nn + q8 := ⟨_, rfl⟩
                obtain ⟨T, hT⟩ : ∃ T : Nat, T = s + q8 := ⟨_, rfl⟩
                rw [← hT] at HB2
                have w1 := wrap_sum hN.symm (by omega)
                have w2 := wrap_sum hT.symm (by omega)
                have HN := Lib.hid hN
                have HE8 := Lib.hid (show Value.int .i64 ((nn : Int) + (q8 : Int)) = .int .i64 (N : Nat) by rw [hN]; simp)
                clear hT hN
                clear h1 hsp hsS HBB HD
                go_wp2_with (first | ((with_reducible show wpList _ _ _ (_ :: _) _ _); refine wpList_load_row rfl 131 _ rfl _ rfl _ _ _ _ d9 Try.underlying131 rfl (by exact size_cx) ?_; (try go_simp)) | ((with_reducible show wpList _ _ _ (_ :: _) _ _); refine wpList_store_row rfl 131 _ _ rfl _ _ rfl rfl _ _ b1 (by exact size_cx) (by rfl) (by simp [Value.oneCell']) ?_))
                go_meet
                case rel => exact ⟨N, T, q, by have := HN.out; omega, HE8.out, rfl, HA10.out, HB2.out⟩
            case rest =>
              clear HA9 d9 HD HBB hok hnn
              obtain ⟨nn, s, c, hnn, rfl, rfl, hA, hB⟩ := hcut
              obtain ⟨wt, rfl⟩ : ∃ wt, wt = wc := ⟨_, rfl⟩
              have q2 := cell_of_row _ g7 2 _ _ _ hA.bc
              have q3 := cell_of_row _ g7 3 _ _ _ hA.bc
              have q4 := cell_of_row _ g7 4 _ _ _ hA.bc
              have q5 := cell_of_row _ g7 5 _ _ _ hA.bc
              have q6 := cell_of_row _ g7 6 _ _ _ hA.bc
              have q7 := cell_of_row _ g7 7 _ _ _ hA.bc
              simp at q2 q3 q4 q5 q6 q7
              have HA := Lib.hid hA
              have HB := Lib.hid hB
              clear hA hB
              go_wp2_with fail
              clear q2 q3 q4 q5 q6 q7
              go_loopw [73] (fun i wr => ∃ (k : Nat), k ≤ 6 ∧ i = .int .i64 k ∧ wr = wt) (fun i _ => 6 - (intOf i).toNat)
              case atStart => exact ⟨0, Nat.zero_le _, rfl, rfl⟩
              case round =>
                obtain ⟨k, hk, rfl, rfl⟩ := hrel
                by_cases hlt6 : k < 6
                · have hix := fun w => cx_index c hlt6 w
                  have hk0 : wr.cell? ⟨g0, k, none⟩ = some (.int .u8 (m.l (k : Int))) := by rw [cell_of_row _ g0 k _ _ _ HA.out.bm, lm_cell m hlt6]
                  have hle := HB.out.le (k : Int) (by omega) (by omega)
                  have hd : decide (m.l (k : Int) < c.r (k : Int)) = false := decide_eq_false (by omega)
                  go_wp2_with fail
                  go_roundw
                  case rel => exact ⟨k + 1, by omega, by go_num, trivial⟩
                  case measure => simp [intOf]; omega
                · obtain rfl : k = 6 := by omega
                  have hlft := HB.out.left
                  have htot := HB.out.tot
                  have hcok := HB.out.ok
                  rw [← HS.out] at hlft
                  obtain ⟨hlf, hsS⟩ := hlft
                  have hTot := fun w => Total_any hcok w
                  have hLeft := fun w => Left_any hm hcok w
                  rw [htot] at hTot
                  rw [hlf] at hLeft
                  have HTT := Lib.hid hTot
                  have HLL := Lib.hid hLeft
                  have b0 := HA.out.bm
                  have b1 := HA.out.bc
                  have hz0 := box_lt b0
                  have hz1 := box_lt b1
                  have hg1 : decide (S < (s : Int)) = false := decide_eq_false (by omega)
                  have hg2 : decide ((s : Int) < (s : Int)) = false := decide_eq_false (by omega)
                  have hg4 := wrap_sub s0 s1 hsS
                  have hg3 : (S - (s : Int) != S - (s : Int)) = false := by simp
                  clear htot hlf hTot hLeft hsS
                  go_upto_region 29 with fail
                  obtain ⟨I, W, hne, hWI, hIW⟩ := Go.Mix.family (fun v => Below wr.heap.size wr v) (Below.refl _ _)
                  have HJ := Lib.hid hIW
                  have HW := Lib.hid hWI
                  clear hWI hIW
                  refine Go.Flo.wp_region (fun w' => ∃ i, w' = W i) 19 [Go.Flo.Spec.is (.int .i64 (s : Nat)), Go.Flo.Spec.is (.int .i64 (S - (s : Nat))), Go.Flo.Spec.is (.int .i64 (s : Nat))] (by kernel_rfl) (by kernel_rfl) (by decide) (by rintro _ w' ⟨i, rfl⟩ hb; exact HJ.out _ ((HW.out i).trans (hb.mono (HW.out i).size))) (HJ.out _ (Below.refl _ _).drew) ?_
                  simp only [Go.Flo.pair, Go.Mix.calm, List.take, List.drop, if_true, Bool.false_eq_true, if_false, Nat.reduceAdd, Nat.reduceSub]
                  (first | (refine Go.Flo.fw_calm rfl ?_ (fun K hK => ?_); (first | exact Go.Mix.wanted_none rfl | exact Go.Mix.wanted_tt rfl rfl rfl | exact Go.Mix.wanted_ff rfl rfl rfl); go_big_quiet_op; refine hK _ ?_; clear hK K) | (refine Go.Flo.fw_skip ?_ (fun K hK => ?_); (first | exact Go.Mix.wanted_tf rfl rfl rfl | exact Go.Mix.wanted_ft rfl rfl rfl); go_simp; refine hK _ ?_; clear hK K) | (refine Go.Flo.fw_any rfl ?_ (fun K hK => ?_); (first | exact Go.Mix.wanted_none rfl | exact Go.Mix.wanted_tt rfl rfl rfl | exact Go.Mix.wanted_ff rfl rfl rfl); go_simp; (try (go_ints; try go_simp)); refine hK _ ?_; clear hK K))
                  (first | (refine Go.Flo.fw_calm rfl ?_ (fun K hK => ?_); (first | exact Go.Mix.wanted_none rfl | exact Go.Mix.wanted_tt rfl rfl rfl | exact Go.Mix.wanted_ff rfl rfl rfl); go_big_quiet_op; refine hK _ ?_; clear hK K) | (refine Go.Flo.fw_skip ?_ (fun K hK => ?_); (first | exact Go.Mix.wanted_tf rfl rfl rfl | exact Go.Mix.wanted_ft rfl rfl rfl); go_simp; refine hK _ ?_; clear hK K) | (refine Go.Flo.fw_any rfl ?_ (fun K hK => ?_); (first | exact Go.Mix.wanted_none rfl | exact Go.Mix.wanted_tt rfl rfl rfl | exact Go.Mix.wanted_ff rfl rfl rfl); go_simp; (try (go_ints; try go_simp)); refine hK _ ?_; clear hK K))
                  (first | (refine Go.Flo.fw_calm rfl ?_ (fun K hK => ?_); (first | exact Go.Mix.wanted_none rfl | exact Go.Mix.wanted_tt rfl rfl rfl | exact Go.Mix.wanted_ff rfl rfl rfl); go_big_quiet_op; refine hK _ ?_; clear hK K) | (refine Go.Flo.fw_skip ?_ (fun K hK => ?_); (first | exact Go.Mix.wanted_tf rfl rfl rfl | exact Go.Mix.wanted_ft rfl rfl rfl); go_simp; refine hK _ ?_; clear hK K) | (refine Go.Flo.fw_any rfl ?_ (fun K hK => ?_); (first | exact Go.Mix.wanted_none rfl | exact Go.Mix.wanted_tt rfl rfl rfl | exact Go.Mix.wanted_ff rfl rfl rfl); go_simp; (try (go_ints; try go_simp)); refine hK _ ?_; clear hK K))
                  (first | (refine Go.Flo.fw_calm rfl ?_ (fun K hK => ?_); (first | exact Go.Mix.wanted_none rfl | exact Go.Mix.wanted_tt rfl rfl rfl | exact Go.Mix.wanted_ff rfl rfl rfl); go_big_quiet_op; refine hK _ ?_; clear hK K) | (refine Go.Flo.fw_skip ?_ (fun K hK => ?_); (first | exact Go.Mix.wanted_tf rfl rfl rfl | exact Go.Mix.wanted_ft rfl rfl rfl); go_simp; refine hK _ ?_; clear hK K) | (refine Go.Flo.fw_any rfl ?_ (fun K hK => ?_); (first | exact Go.Mix.wanted_none rfl | exact Go.Mix.wanted_tt rfl rfl rfl | exact Go.Mix.wanted_ff rfl rfl rfl); go_simp; (try (go_ints; try go_simp)); refine hK _ ?_; clear hK K))
                  (refine Go.Flo.fw_calm rfl ?_ (fun K hK => ?_); (first | exact Go.Mix.wanted_none rfl | exact Go.Mix.wanted_tt rfl rfl rfl | exact Go.Mix.wanted_ff rfl rfl rfl); refine Go.Flo.quiet_load_row 131 _ rfl g7 rfl _ #[.int .u16 c.f, .int .u16 c.i, .int .u8 c.r0, .int .u8 c.r1, .int .u8 c.r2, .int .u8 c.r3, .int .u8 c.r4, .int .u8 c.r5, .int .i8 c.c0, .int .i8 c.c1, .int .i8 c.c2, .int .i8 c.c3, .int .i8 c.c4, .int .i8 c.c5, .int .u8 c.m, .int .u16 c.n, .bool c.x, .int .u8 c.h] _ (by rintro _ ⟨i, rfl⟩; exact ((HW.out i).block g7 hz1).trans b1) Try.underlying131 rfl size_cx ?_; go_simp; refine hK _ ?_; clear hK K)
                  refine Go.Flo.fw_loud rfl ?_ rfl (by simp) (fun wv hwv hav K hK => ?_) (fun v hv K hK => ?_)
                  · (first | exact Go.Mix.wanted_none rfl | exact Go.Mix.wanted_tt rfl rfl rfl | exact Go.Mix.wanted_ff rfl rfl rfl)
                  · obtain ⟨iv, rfl⟩ := hwv
                    have hbv := HW.out iv
                    (first | go_big_op | go_simp)
                    go_at_call 69
                    refine (HTT.out _).mono ?_
                    rintro ee w' ⟨rfl, hb⟩
                    exact hK _ _ (Go.Flo.owes_is _ rfl hb)
                  obtain rfl := hv.is
                  go_simp
                  refine hK _ ?_
                  clear hK K hv
                  (first | (refine Go.Flo.fw_calm rfl ?_ (fun K hK => ?_); (first | exact Go.Mix.wanted_none rfl | exact Go.Mix.wanted_tt rfl rfl rfl | exact Go.Mix.wanted_ff rfl rfl rfl); go_big_quiet_op; refine hK _ ?_; clear hK K) | (refine Go.Flo.fw_skip ?_ (fun K hK => ?_); (first | exact Go.Mix.wanted_tf rfl rfl rfl | exact Go.Mix.wanted_ft rfl rfl rfl); go_simp; refine hK _ ?_; clear hK K) | (refine Go.Flo.fw_any rfl ?_ (fun K hK => ?_); (first | exact Go.Mix.wanted_none rfl | exact Go.Mix.wanted_tt rfl rfl rfl | exact Go.Mix.wanted_ff rfl rfl rfl); go_simp; (try (go_ints; try go_simp)); refine hK _ ?_; clear hK K))
                  (first | (refine Go.Flo.fw_calm rfl ?_ (fun K hK => ?_); (first | exact Go.Mix.wanted_none rfl | exact Go.Mix.wanted_tt rfl rfl rfl | exact Go.Mix.wanted_ff rfl rfl rfl); go_big_quiet_op; refine hK _ ?_; clear hK K) | (refine Go.Flo.fw_skip ?_ (fun K hK => ?_); (first | exact Go.Mix.wanted_tf rfl rfl rfl | exact Go.Mix.wanted_ft rfl rfl rfl); go_simp; refine hK _ ?_; clear hK K) | (refine Go.Flo.fw_any rfl ?_ (fun K hK => ?_); (first | exact Go.Mix.wanted_none rfl | exact Go.Mix.wanted_tt rfl rfl rfl | exact Go.Mix.wanted_ff rfl rfl rfl); go_simp; (try (go_ints; try go_simp)); refine hK _ ?_; clear hK K))
                  (first | (refine Go.Flo.fw_calm rfl ?_ (fun K hK => ?_); (first | exact Go.Mix.wanted_none rfl | exact Go.Mix.wanted_tt rfl rfl rfl | exact Go.Mix.wanted_ff rfl rfl rfl); go_big_quiet_op; refine hK _ ?_; clear hK K) | (refine Go.Flo.fw_skip ?_ (fun K hK => ?_); (first | exact Go.Mix.wanted_tf rfl rfl rfl | exact Go.Mix.wanted_ft rfl rfl rfl); go_simp; refine hK _ ?_; clear hK K) | (refine Go.Flo.fw_any rfl ?_ (fun K hK => ?_); (first | exact Go.Mix.wanted_none rfl | exact Go.Mix.wanted_tt rfl rfl rfl | exact Go.Mix.wanted_ff rfl rfl rfl); go_simp; (try (go_ints; try go_simp)); refine hK _ ?_; clear hK K))
                  (first | (refine Go.Flo.fw_calm rfl ?_ (fun K hK => ?_); (first | exact Go.Mix.wanted_none rfl | exact Go.Mix.wanted_tt rfl rfl rfl | exact Go.Mix.wanted_ff rfl rfl rfl); go_big_quiet_op; refine hK _ ?_; clear hK K) | (refine Go.Flo.fw_skip ?_ (fun K hK => ?_); (first | exact Go.Mix.wanted_tf rfl rfl rfl | exact Go.Mix.wanted_ft rfl rfl rfl); go_simp; refine hK _ ?_; clear hK K) | (refine Go.Flo.fw_any rfl ?_ (fun K hK => ?_); (first | exact Go.Mix.wanted_none rfl | exact Go.Mix.wanted_tt rfl rfl rfl | exact Go.Mix.wanted_ff rfl rfl rfl); go_simp; (try (go_ints; try go_simp)); refine hK _ ?_; clear hK K))
                  (refine Go.Flo.fw_calm rfl ?_ (fun K hK => ?_); (first | exact Go.Mix.wanted_none rfl | exact Go.Mix.wanted_tt rfl rfl rfl | exact Go.Mix.wanted_ff rfl rfl rfl); refine Go.Flo.quiet_load_row 129 _ rfl g0 rfl _ #[.int .u8 m.l0, .int .u8 m.l1, .int .u8 m.l2, .int .u8 m.l3, .int .u8 m.l4, .int .u8 m.l5] _ (by rintro _ ⟨i, rfl⟩; exact ((HW.out i).block g0 hz0).trans b0) Try.underlying129 rfl size_lm ?_; go_simp; refine hK _ ?_; clear hK K)
                  (refine Go.Flo.fw_calm rfl ?_ (fun K hK => ?_); (first | exact Go.Mix.wanted_none rfl | exact Go.Mix.wanted_tt rfl rfl rfl | exact Go.Mix.wanted_ff rfl rfl rfl); refine Go.Flo.quiet_load_row 131 _ rfl g7 rfl _ #[.int .u16 c.f, .int .u16 c.i, .int .u8 c.r0, .int .u8 c.r1, .int .u8 c.r2, .int .u8 c.r3, .int .u8 c.r4, .int .u8 c.r5, .int .i8 c.c0, .int .i8 c.c1, .int .i8 c.c2, .int .i8 c.c3, .int .i8 c.c4, .int .i8 c.c5, .int .u8 c.m, .int .u16 c.n, .bool c.x, .int .u8 c.h] _ (by rintro _ ⟨i, rfl⟩; exact ((HW.out i).block g7 hz1).trans b1) Try.underlying131 rfl size_cx ?_; go_simp; refine hK _ ?_; clear hK K)
                  refine Go.Flo.fw_loud rfl ?_ rfl (by simp) (fun wv hwv hav K hK => ?_) (fun v hv K hK => ?_)
                  · (first | exact Go.Mix.wanted_none rfl | exact Go.Mix.wanted_tt rfl rfl rfl | exact Go.Mix.wanted_ff rfl rfl rfl)
                  · obtain ⟨iv, rfl⟩ := hwv
                    have hbv := HW.out iv
                    (first | go_big_op | go_simp)
                    go_at_call 68
                    refine (HLL.out _).mono ?_
                    rintro ee w' ⟨rfl, hb⟩
                    exact hK _ _ (Go.Flo.owes_is _ rfl hb)
                  obtain rfl := hv.is
                  go_simp
                  refine hK _ ?_
                  clear hK K hv
                  (first | (refine Go.Flo.fw_calm rfl ?_ (fun K hK => ?_); (first | exact Go.Mix.wanted_none rfl | exact Go.Mix.wanted_tt rfl rfl rfl | exact Go.Mix.wanted_ff rfl rfl rfl); go_big_quiet_op; refine hK _ ?_; clear hK K) | (refine Go.Flo.fw_skip ?_ (fun K hK => ?_); (first | exact Go.Mix.wanted_tf rfl rfl rfl | exact Go.Mix.wanted_ft rfl rfl rfl); go_simp; refine hK _ ?_; clear hK K) | (refine Go.Flo.fw_any rfl ?_ (fun K hK => ?_); (first | exact Go.Mix.wanted_none rfl | exact Go.Mix.wanted_tt rfl rfl rfl | exact Go.Mix.wanted_ff rfl rfl rfl); go_simp; (try (go_ints; try go_simp)); refine hK _ ?_; clear hK K))
                  (refine Go.Flo.fw_calm rfl ?_ (fun K hK => ?_); (first | exact Go.Mix.wanted_none rfl | exact Go.Mix.wanted_tt rfl rfl rfl | exact Go.Mix.wanted_ff rfl rfl rfl); refine Go.Flo.quiet_load_row 131 _ rfl g7 rfl _ #[.int .u16 c.f, .int .u16 c.i, .int .u8 c.r0, .int .u8 c.r1, .int .u8 c.r2, .int .u8 c.r3, .int .u8 c.r4, .int .u8 c.r5, .int .i8 c.c0, .int .i8 c.c1, .int .i8 c.c2, .int .i8 c.c3, .int .i8 c.c4, .int .i8 c.c5, .int .u8 c.m, .int .u16 c.n, .bool c.x, .int .u8 c.h] _ (by rintro _ ⟨i, rfl⟩; exact ((HW.out i).block g7 hz1).trans b1) Try.underlying131 rfl size_cx ?_; go_simp; refine hK _ ?_; clear hK K)
                  refine Go.Flo.fw_loud rfl ?_ rfl (by simp) (fun wv hwv hav K hK => ?_) (fun v hv K hK => ?_)
                  · (first | exact Go.Mix.wanted_none rfl | exact Go.Mix.wanted_tt rfl rfl rfl | exact Go.Mix.wanted_ff rfl rfl rfl)
                  · obtain ⟨iv, rfl⟩ := hwv
                    have hbv := HW.out iv
                    (first | go_big_op | go_simp)
                    go_at_call 69
                    refine (HTT.out _).mono ?_
                    rintro ee w' ⟨rfl, hb⟩
                    exact hK _ _ (Go.Flo.owes_is _ rfl hb)
                  obtain rfl := hv.is
                  go_simp
                  refine hK _ ?_
                  clear hK K hv
                  (repeat (first | (refine Go.Flo.fw_calm rfl ?_ (fun K hK => ?_); (first | exact Go.Mix.wanted_none rfl | exact Go.Mix.wanted_tt rfl rfl rfl | exact Go.Mix.wanted_ff rfl rfl rfl); go_big_quiet_op; refine hK _ ?_; clear hK K) | (refine Go.Flo.fw_skip ?_ (fun K hK => ?_); (first | exact Go.Mix.wanted_tf rfl rfl rfl | exact Go.Mix.wanted_ft rfl rfl rfl); go_simp; refine hK _ ?_; clear hK K) | (refine Go.Flo.fw_any rfl ?_ (fun K hK => ?_); (first | exact Go.Mix.wanted_none rfl | exact Go.Mix.wanted_tt rfl rfl rfl | exact Go.Mix.wanted_ff rfl rfl rfl); go_simp; (try (go_ints; try go_simp)); refine hK _ ?_; clear hK K)))
                  refine Go.Flo.fw_nil ?_
                  intro x4 hwx4 hfx4 hux4
                  refine Go.Flo.tw_nil ?_
                  obtain ⟨iend, hiend⟩ := hwx4
                  have hbx4 := HW.out iend
                  rw [← hiend] at hbx4
                  clear hiend iend hux4
                  have HA2 := Lib.hid (HA.out.step hbx4)
                  clear hfx4 HJ HW hne b0 b1 hz0 hz1 hbx4 HA HTT HLL hg1 hg2 hg3 hg4
                  clear W I
                  have hrem : Int.tmod (j : Int) 20 = ((j % 20 : Nat) : Int) := by rw [Int.tmod_eq_emod_of_nonneg (by omega)]; omega
                  obtain ⟨r, hr⟩ : ∃ r, r = j % 20 := ⟨_, rfl⟩
                  rw [← hr] at hrem
                  clear hr
                  by_cases h19 : r = 19
                  · have he19 : ((r : Int) == 19) = true := by simp [h19]
                    have b0 := HA2.out.bm
                    have b1 := HA2.out.bc
                    have hal : Below x4.heap.size x4 (x4.alloc (.cells #[.int .i64 0, .int .i64 1, .int .i64 2, .int .i64 3, .int .i64 4, .int .i64 5] 3)) := (Below.refl _ _).alloc (Nat.le_refl _) _
                    have HAL := Lib.hid hal
                    have HCB := Lib.hid (HB.out.clear hm)
                    obtain ⟨e, he⟩ : ∃ e, e = (clearR c [0, 1, 2, 3, 4, 5]).calm := ⟨_, rfl⟩
                    rw [← he] at HCB
                    have HE := Lib.hid he
                    clear h19 hal he
                    go_wp2_with (first | ((with_reducible show wpList _ _ _ (_ :: _) _ _); refine wpList_load_row rfl 129 _ rfl _ rfl _ _ _ _ b0 Try.underlying129 rfl (by exact size_lm) ?_; (try go_simp)) | ((with_reducible show wpList _ _ _ (_ :: _) _ _); refine wpList_load_row rfl 131 _ rfl _ rfl _ _ _ _ b1 Try.underlying131 rfl (by exact size_cx) ?_; (try go_simp)))
                    go_at_call 70
                    refine (Clear_any (m := m) (c := c) _ _ _ _ [0, 1, 2, 3, 4, 5] _ rfl (Nat.le_refl _) (rd_six (heap_alloc_new _ _))).mono ?_
                    rintro ee x5 ⟨rfl, hb⟩
                    rw [← HE.out]
                    have hA5 := HA2.out.step (HAL.out.trans (hb.mono HAL.out.size))
                    have b1 := hA5.bc
                    have HA5 := Lib.hid (hA5.put e)
                    clear hb b0 hA5 HAL HA2
                    go_wp2_with (((with_reducible show wpList _ _ _ (_ :: _) _ _); refine wpList_store_row rfl 131 _ _ rfl _ _ rfl rfl _ _ b1 (by exact size_cx) (by rfl) (by simp [Value.oneCell']) ?_))
                    go_roundw
                    case rel => exact ⟨j + 1, nn, 0, e, by omega, by omega, by omega, by go_num, rfl, rfl, HA5.out, HCB.out⟩
                    case measure => simp [intOf]; omega
                  · have he19 : ((r : Int) == 19) = false := by
                      rw [beq_eq_false_iff_ne]
                      omega
                    clear h19
                    go_wp2_with fail
                    go_roundw
                    case rel => exact ⟨j + 1, nn, s, c, by omega, by omega, by omega, by go_num, rfl, rfl, HA2.out, HB.out⟩
                    case measure => simp [intOf]; omega
          · obtain rfl : j = 60 := by omega
            have hge : decide ((60 : Int) ≤ ((60 : Nat) : Int)) = true := by decide
            clear HROW
            skip
            have b0 := HAw.out.bm
            have b1 := HAw.out.bc
            have HR2 := Lib.hid (HR.out.below HAw.out.be)
            have hsw : w.heap.size ≤ wr.heap.size := HAw.out.be.size
            have hcl : ∀ k : Nat, k < 6 → (clearR c (l.take 9)).calm.r (k : Int) = if (k : Int) ∈ l.take 9 then 0 else c.r (k : Int) := fun k hk => by rw [calm_r, clearR_r c _ _ (by omega) (by omega)]
            obtain ⟨l9, hl9⟩ : ∃ l9, l9 = l.take 9 := ⟨_, rfl⟩
            obtain ⟨e, he⟩ : ∃ e, e = (clearR c l9).calm := ⟨_, rfl⟩
            have hcl : ∀ k : Nat, k < 6 → (k : Int) ∈ l9 → e.r (k : Int) = 0 := fun k hk hi => by rw [he, hl9, hcl k hk, if_pos (by rw [← hl9]; exact hi)]
            have hex := Lib.hid (show e.x = false by rw [he]; rfl)
            have hz0 := box_lt b0
            have hz1 := box_lt b1
            have HL9 := Lib.hid hl9
            have HE := Lib.hid he
            have HCL := Lib.hid hcl
            clear hl9 he hcl
            go_upto_region 35 with fail
            obtain ⟨I, W, hne, hWI, hIW⟩ := Go.Mix.family (fun v => Below wr.heap.size wr v) (Below.refl _ _)
            have HJ := Lib.hid hIW
            have HW := Lib.hid hWI
            clear hWI hIW
            refine Go.Flo3.wp_region (fun w' => ∃ i, w' = W i) 5 [SpOI w.heap.size l9, Go.Flo.Spec.is (.agg #[.int .u16 e.f, .int .u16 e.i, .int .u8 e.r0, .int .u8 e.r1, .int .u8 e.r2, .int .u8 e.r3, .int .u8 e.r4, .int .u8 e.r5, .int .i8 e.c0, .int .i8 e.c1, .int .i8 e.c2, .int .i8 e.c3, .int .i8 e.c4, .int .i8 e.c5, .int .u8 e.m, .int .u16 e.n, .bool e.x, .int .u8 e.h])] (by kernel_rfl) (by kernel_rfl) (by decide) (by rintro _ w' ⟨i, rfl⟩ hb; exact HJ.out _ ((HW.out i).trans (hb.mono (HW.out i).size))) (HJ.out _ (Below.refl _ _).drew) ?_
            simp only [Go.Flo.pair, Go.Mix.calm, List.take, List.drop, if_true, Bool.false_eq_true, if_false, Nat.reduceAdd, Nat.reduceSub]
            (refine Go.Flo.fw_calm rfl ?_ (fun K hK => ?_); (first | exact Go.Mix.wanted_none rfl | exact Go.Mix.wanted_tt rfl rfl rfl | exact Go.Mix.wanted_ff rfl rfl rfl); refine Go.Flo.quiet_load_row 129 _ rfl g0 rfl _ #[.int .u8 m.l0, .int .u8 m.l1, .int .u8 m.l2, .int .u8 m.l3, .int .u8 m.l4, .int .u8 m.l5] _ (by rintro _ ⟨i, rfl⟩; exact ((HW.out i).block g0 hz0).trans b0) Try.underlying129 rfl size_lm ?_; go_simp; refine hK _ ?_; clear hK K)
            (refine Go.Flo.fw_calm rfl ?_ (fun K hK => ?_); (first | exact Go.Mix.wanted_none rfl | exact Go.Mix.wanted_tt rfl rfl rfl | exact Go.Mix.wanted_ff rfl rfl rfl); refine Go.Flo.quiet_load_row 131 _ rfl g7 rfl _ #[.int .u16 c.f, .int .u16 c.i, .int .u8 c.r0, .int .u8 c.r1, .int .u8 c.r2, .int .u8 c.r3, .int .u8 c.r4, .int .u8 c.r5, .int .i8 c.c0, .int .i8 c.c1, .int .i8 c.c2, .int .i8 c.c3, .int .i8 c.c4, .int .i8 c.c5, .int .u8 c.m, .int .u16 c.n, .bool c.x, .int .u8 c.h] _ (by rintro _ ⟨i, rfl⟩; exact ((HW.out i).block g7 hz1).trans b1) Try.underlying131 rfl size_cx ?_; go_simp; refine hK _ ?_; clear hK K)
            (first | (refine Go.Flo.fw_calm rfl ?_ (fun K hK => ?_); (first | exact Go.Mix.wanted_none rfl | exact Go.Mix.wanted_tt rfl rfl rfl | exact Go.Mix.wanted_ff rfl rfl rfl); go_big_quiet_op; refine hK _ ?_; clear hK K) | (refine Go.Flo.fw_skip ?_ (fun K hK => ?_); (first | exact Go.Mix.wanted_tf rfl rfl rfl | exact Go.Mix.wanted_ft rfl rfl rfl); go_simp; refine hK _ ?_; clear hK K) | (refine Go.Flo.fw_any rfl ?_ (fun K hK => ?_); (first | exact Go.Mix.wanted_none rfl | exact Go.Mix.wanted_tt rfl rfl rfl | exact Go.Mix.wanted_ff rfl rfl rfl); go_simp; (try (go_ints; try go_simp)); refine hK _ ?_; clear hK K))
            refine Go.Flo.fw_loud rfl ?_ rfl (by simp) (fun wv hwv hav K hK => ?_) (fun v hv K hK => ?_)
            · (first | exact Go.Mix.wanted_none rfl | exact Go.Mix.wanted_tt rfl rfl rfl | exact Go.Mix.wanted_ff rfl rfl rfl)
            · obtain ⟨iv, rfl⟩ := hwv
              have hbv := HW.out iv
              (first | go_big_op | go_simp)
              go_at_call 63
              refine (Few_any a2 len2 cap2 _ l 9 _ (by decide) hl (Nat.le_trans hsw hbv.size) (HR2.out.below' hbv hsw)).mono ?_
              rintro ee w' ⟨v, rfl, hown, hb⟩
              rw [← HL9.out] at hown
              exact hK _ _ (owes_OI rfl hb hown (Nat.le_trans hsw hbv.size))
            obtain ⟨xa, xc, rfl⟩ := ex_OI hv
            go_simp
            refine hK _ ?_
            clear hK K hv
            refine Go.Flo.fw_loud rfl ?_ rfl (by simp) (fun wv hwv hav K hK => ?_) (fun v hv K hK => ?_)
            · (first | exact Go.Mix.wanted_none rfl | exact Go.Mix.wanted_tt rfl rfl rfl | exact Go.Mix.wanted_ff rfl rfl rfl)
            · obtain ⟨iv, rfl⟩ := hwv
              have hbv := HW.out iv
              (first | go_big_op | go_simp)
              have s1 : (W iv).ownsRow w.heap.size 3 1 (.slice xa l9.length xc) l9.length (ziv l9) := ((hav 113 (by decide +kernel)).2 rfl).1
              go_at_call 70
              refine (Clear_any (m := m) (c := c) xa l9.length xc _ l9 _ rfl (Nat.le_refl _) (rd_of_own (f := Bs.iv l9) s1 (fun i hi => ziv_at l9 i hi))).mono ?_
              rintro ee w' ⟨rfl, hb⟩
              rw [← HE.out]
              exact hK _ _ (Go.Flo.owes_is _ rfl hb)
            obtain rfl := hv.is
            go_simp
            refine hK _ ?_
            clear hK K hv
            refine Go.Flo.fw_nil ?_
            intro x2 hwx2 hfx2 hux2
            obtain ⟨iend, hiend⟩ := hwx2
            have hbx2 := HW.out iend
            rw [← hiend] at hbx2
            clear hiend iend hux2
            have hA2 := HAw.out.step hbx2
            have hC2 := hA2.bc
            have HA3 := Lib.hid (hA2.put e)
            clear hfx2 HJ HW hne hA2 b0 b1 hz0 hz1 hbx2 HAw
            clear W I
            refine ⟨fun _ => True, trivial, ?_⟩

            (refine Go.Mix.walk_loud rfl ?_ (fun K hK => ?_); (first | exact Go.Mix.wanted_none rfl | exact Go.Mix.wanted_tt rfl rfl rfl | exact Go.Mix.wanted_ff rfl rfl rfl); refine wp_store_row 131 _ _ rfl _ #[.int .u16 e.f, .int .u16 e.i, .int .u8 e.r0, .int .u8 e.r1, .int .u8 e.r2, .int .u8 e.r3, .int .u8 e.r4, .int .u8 e.r5, .int .i8 e.c0, .int .i8 e.c1, .int .i8 e.c2, .int .i8 e.c3, .int .i8 e.c4, .int .i8 e.c5, .int .u8 e.m, .int .u16 e.n, .bool e.x, .int .u8 e.h] rfl rfl 131 _ hC2 size_cx rfl (by simp [Value.oneCell']) (hK _ _ trivial ?_); clear hK K)
            (repeat (first | (refine Go.Mix.walk_calm rfl ?_ (fun K hK => ?_); (first | exact Go.Mix.wanted_none rfl | exact Go.Mix.wanted_tt rfl rfl rfl | exact Go.Mix.wanted_ff rfl rfl rfl); go_big_quiet_op; refine hK _ ?_; clear hK K) | (refine Go.Mix.walk_skip ?_ (fun K hK => ?_); (first | exact Go.Mix.wanted_tf rfl rfl rfl | exact Go.Mix.wanted_ft rfl rfl rfl); go_simp; refine hK _ ?_; clear hK K) | (refine Go.Mix.walk_loud rfl ?_ (fun K hK => ?_); (first | exact Go.Mix.wanted_none rfl | exact Go.Mix.wanted_tt rfl rfl rfl | exact Go.Mix.wanted_ff rfl rfl rfl); (first | go_big_op | go_simp); (first | (refine hK _ _ trivial ?_; clear hK K) | (fail; (try dsimp only); refine hK _ _ trivial ?_; clear hK K))) | (refine Go.Mix.walk_step (fun K hK => ?_); go_simp; (try (go_ints; try go_simp)); refine hK _ _ ?_; clear hK K)))
            refine Go.Mix.walk_nil ?_
            obtain ⟨x3, hx3⟩ : ∃ x3, x3 = x2.setRow g7 #[.int .u16 e.f, .int .u16 e.i, .int .u8 e.r0, .int .u8 e.r1, .int .u8 e.r2, .int .u8 e.r3, .int .u8 e.r4, .int .u8 e.r5, .int .i8 e.c0, .int .i8 e.c1, .int .i8 e.c2, .int .i8 e.c3, .int .i8 e.c4, .int .i8 e.c5, .int .u8 e.m, .int .u16 e.n, .bool e.x, .int .u8 e.h] := ⟨_, rfl⟩
            rw [← hx3] at HA3 ⊢
            clear hC2 hx3
            go_wp2_with fail
            go_loopw [115] (fun i wr => ∃ (k : Nat), k ≤ 6 ∧ i = .int .i64 k ∧ AwSt w wr g0 g7 m e) (fun i _ => 6 - (intOf i).toNat)
            case atStart => exact ⟨0, Nat.zero_le _, rfl, HA3.out⟩
            case round =>
              obtain ⟨k, hk, rfl, hA4⟩ := hrel
              clear HA3
              by_cases hlt : k < 6
              · have HA4 := Lib.hid hA4
                clear hA4
                have hr4 := HR.out.below HA4.out.be
                go_wp2_with fail
                go_at_call 63
                refine (Few_any a2 len2 cap2 _ l 9 _ (by decide) hl HA4.out.be.size hr4).mono ?_
                rintro ee w8 ⟨v, rfl, hown, hb⟩
                obtain ⟨xa, xc, rfl⟩ := own_form hown
                rw [← HL9.out] at hown ⊢
                have hro := rd_of_own (f := Bs.iv l9) hown (fun i hi => ziv_at l9 i hi)
                have HA5 := Lib.hid (HA4.out.step hb)
                have HRO := Lib.hid hro
                clear hb hown hro hr4 HA4
                by_cases hin : (k : Int) ∈ l9
                · have hin' := HIN_of hin
                  have hkc : w8.cell? ⟨g7, 2 + k, none⟩ = some (.int .u8 0) := by rw [cell_of_row _ g7 (2 + k) _ _ _ HA5.out.bc, cx_cell e k hlt, HCL.out k hlt hin]
                  have HIN := Lib.hid hin'
                  clear hin hin'
                  go_wp2_with fail
                  go_at_call 57
                  refine (In_any xa _ xc _ l9 (k : Int) _ rfl (Nat.le_refl _) HRO.out).mono ?_
                  rintro ee w9 ⟨rfl, rfl⟩
                  rw [HIN.out]
                  go_wp2_with fail
                  go_roundw
                  case rel => exact ⟨k + 1, by omega, by go_num, HA5.out⟩
                  case measure => simp [intOf]; omega
                · have HIN := Lib.hid (decide_eq_false hin)
                  clear hin
                  go_wp2_with fail
                  go_at_call 57
                  refine (In_any xa _ xc _ l9 (k : Int) _ rfl (Nat.le_refl _) HRO.out).mono ?_
                  rintro ee w9 ⟨rfl, rfl⟩
                  rw [HIN.out]
                  go_wp2_with fail
                  go_roundw
                  case rel => exact ⟨k + 1, by omega, by go_num, HA5.out⟩
                  case measure => simp [intOf]; omega
              · have k16 := cell_of_row _ g7 16 _ _ _ hA4.bc
                have HA4 := Lib.hid hA4
                clear hA4
                have k17 : wr.cell? ⟨g7, 16, none⟩ = some (.bool false) := by rw [k16]; simp [hex.out]
                clear k16
                have hn0 : decide ((nn : Int) ≥ 0) = true := decide_eq_true (by omega)
                have hn1 : decide (0 ≤ (nn : Int)) = true := decide_eq_true (by omega)
                go_wp2_with fail
                go_ret
                exact ⟨rfl, HA4.out.be⟩
        · obtain rfl : j = len1 := by omega
          skip
          have b0 := HAw.out.bm
          have b1 := HAw.out.bc
          have HR2 := Lib.hid (HR.out.below HAw.out.be)
          have hsw : w.heap.size ≤ wr.heap.size := HAw.out.be.size
          have hcl : ∀ k : Nat, k < 6 → (clearR c (l.take 9)).calm.r (k : Int) = if (k : Int) ∈ l.take 9 then 0 else c.r (k : Int) := fun k hk => by rw [calm_r, clearR_r c _ _ (by omega) (by omega)]
          obtain ⟨l9, hl9⟩ : ∃ l9, l9 = l.take 9 := ⟨_, rfl⟩
          obtain ⟨e, he⟩ : ∃ e, e = (clearR c l9).calm := ⟨_, rfl⟩
          have hcl : ∀ k : Nat, k < 6 → (k : Int) ∈ l9 → e.r (k : Int) = 0 := fun k hk hi => by rw [he, hl9, hcl k hk, if_pos (by rw [← hl9]; exact hi)]
          have hex := Lib.hid (show e.x = false by rw [he]; rfl)
          have hz0 := box_lt b0
          have hz1 := box_lt b1
          have HL9 := Lib.hid hl9
          have HE := Lib.hid he
          have HCL := Lib.hid hcl
          clear hl9 he hcl
          go_upto_region 35 with fail
          obtain ⟨I, W, hne, hWI, hIW⟩ := Go.Mix.family (fun v => Below wr.heap.size wr v) (Below.refl _ _)
          have HJ := Lib.hid hIW
          have HW := Lib.hid hWI
          clear hWI hIW
          refine Go.Flo3.wp_region (fun w' => ∃ i, w' = W i) 5 [SpOI w.heap.size l9, Go.Flo.Spec.is (.agg #[.int .u16 e.f, .int .u16 e.i, .int .u8 e.r0, .int .u8 e.r1, .int .u8 e.r2, .int .u8 e.r3, .int .u8 e.r4, .int .u8 e.r5, .int .i8 e.c0, .int .i8 e.c1, .int .i8 e.c2, .int .i8 e.c3, .int .i8 e.c4, .int .i8 e.c5, .int .u8 e.m, .int .u16 e.n, .bool e.x, .int .u8 e.h])] (by kernel_rfl) (by kernel_rfl) (by decide) (by rintro _ w' ⟨i, rfl⟩ hb; exact HJ.out _ ((HW.out i).trans (hb.mono (HW.out i).size))) (HJ.out _ (Below.refl _ _).drew) ?_
          simp only [Go.Flo.pair, Go.Mix.calm, List.take, List.drop, if_true, Bool.false_eq_true, if_false, Nat.reduceAdd, Nat.reduceSub]
          (refine Go.Flo.fw_calm rfl ?_ (fun K hK => ?_); (first | exact Go.Mix.wanted_none rfl | exact Go.Mix.wanted_tt rfl rfl rfl | exact Go.Mix.wanted_ff rfl rfl rfl); refine Go.Flo.quiet_load_row 129 _ rfl g0 rfl _ #[.int .u8 m.l0, .int .u8 m.l1, .int .u8 m.l2, .int .u8 m.l3, .int .u8 m.l4, .int .u8 m.l5] _ (by rintro _ ⟨i, rfl⟩; exact ((HW.out i).block g0 hz0).trans b0) Try.underlying129 rfl size_lm ?_; go_simp; refine hK _ ?_; clear hK K)
          (refine Go.Flo.fw_calm rfl ?_ (fun K hK => ?_); (first | exact Go.Mix.wanted_none rfl | exact Go.Mix.wanted_tt rfl rfl rfl | exact Go.Mix.wanted_ff rfl rfl rfl); refine Go.Flo.quiet_load_row 131 _ rfl g7 rfl _ #[.int .u16 c.f, .int .u16 c.i, .int .u8 c.r0, .int .u8 c.r1, .int .u8 c.r2, .int .u8 c.r3, .int .u8 c.r4, .int .u8 c.r5, .int .i8 c.c0, .int .i8 c.c1, .int .i8 c.c2, .int .i8 c.c3, .int .i8 c.c4, .int .i8 c.c5, .int .u8 c.m, .int .u16 c.n, .bool c.x, .int .u8 c.h] _ (by rintro _ ⟨i, rfl⟩; exact ((HW.out i).block g7 hz1).trans b1) Try.underlying131 rfl size_cx ?_; go_simp; refine hK _ ?_; clear hK K)
          (first | (refine Go.Flo.fw_calm rfl ?_ (fun K hK => ?_); (first | exact Go.Mix.wanted_none rfl | exact Go.Mix.wanted_tt rfl rfl rfl | exact Go.Mix.wanted_ff rfl rfl rfl); go_big_quiet_op; refine hK _ ?_; clear hK K) | (refine Go.Flo.fw_skip ?_ (fun K hK => ?_); (first | exact Go.Mix.wanted_tf rfl rfl rfl | exact Go.Mix.wanted_ft rfl rfl rfl); go_simp; refine hK _ ?_; clear hK K) | (refine Go.Flo.fw_any rfl ?_ (fun K hK => ?_); (first | exact Go.Mix.wanted_none rfl | exact Go.Mix.wanted_tt rfl rfl rfl | exact Go.Mix.wanted_ff rfl rfl rfl); go_simp; (try (go_ints; try go_simp)); refine hK _ ?_; clear hK K))
          refine Go.Flo.fw_loud rfl ?_ rfl (by simp) (fun wv hwv hav K hK => ?_) (fun v hv K hK => ?_)
          · (first | exact Go.Mix.wanted_none rfl | exact Go.Mix.wanted_tt rfl rfl rfl | exact Go.Mix.wanted_ff rfl rfl rfl)
          · obtain ⟨iv, rfl⟩ := hwv
            have hbv := HW.out iv
            (first | go_big_op | go_simp)
            go_at_call 63
            refine (Few_any a2 len2 cap2 _ l 9 _ (by decide) hl (Nat.le_trans hsw hbv.size) (HR2.out.below' hbv hsw)).mono ?_
            rintro ee w' ⟨v, rfl, hown, hb⟩
            rw [← HL9.out] at hown
            exact hK _ _ (owes_OI rfl hb hown (Nat.le_trans hsw hbv.size))
          obtain ⟨xa, xc, rfl⟩ := ex_OI hv
          go_simp
          refine hK _ ?_
          clear hK K hv
          refine Go.Flo.fw_loud rfl ?_ rfl (by simp) (fun wv hwv hav K hK => ?_) (fun v hv K hK => ?_)
          · (first | exact Go.Mix.wanted_none rfl | exact Go.Mix.wanted_tt rfl rfl rfl | exact Go.Mix.wanted_ff rfl rfl rfl)
          · obtain ⟨iv, rfl⟩ := hwv
            have hbv := HW.out iv
            (first | go_big_op | go_simp)
            have s1 : (W iv).ownsRow w.heap.size 3 1 (.slice xa l9.length xc) l9.length (ziv l9) := ((hav 113 (by decide +kernel)).2 rfl).1
            go_at_call 70
            refine (Clear_any (m := m) (c := c) xa l9.length xc _ l9 _ rfl (Nat.le_refl _) (rd_of_own (f := Bs.iv l9) s1 (fun i hi => ziv_at l9 i hi))).mono ?_
            rintro ee w' ⟨rfl, hb⟩
            rw [← HE.out]
            exact hK _ _ (Go.Flo.owes_is _ rfl hb)
          obtain rfl := hv.is
          go_simp
          refine hK _ ?_
          clear hK K hv
          refine Go.Flo.fw_nil ?_
          intro x2 hwx2 hfx2 hux2
          obtain ⟨iend, hiend⟩ := hwx2
          have hbx2 := HW.out iend
          rw [← hiend] at hbx2
          clear hiend iend hux2
          have hA2 := HAw.out.step hbx2
          have hC2 := hA2.bc
          have HA3 := Lib.hid (hA2.put e)
          clear hfx2 HJ HW hne hA2 b0 b1 hz0 hz1 hbx2 HAw
          clear W I
          refine ⟨fun _ => True, trivial, ?_⟩

          (refine Go.Mix.walk_loud rfl ?_ (fun K hK => ?_); (first | exact Go.Mix.wanted_none rfl | exact Go.Mix.wanted_tt rfl rfl rfl | exact Go.Mix.wanted_ff rfl rfl rfl); refine wp_store_row 131 _ _ rfl _ #[.int .u16 e.f, .int .u16 e.i, .int .u8 e.r0, .int .u8 e.r1, .int .u8 e.r2, .int .u8 e.r3, .int .u8 e.r4, .int .u8 e.r5, .int .i8 e.c0, .int .i8 e.c1, .int .i8 e.c2, .int .i8 e.c3, .int .i8 e.c4, .int .i8 e.c5, .int .u8 e.m, .int .u16 e.n, .bool e.x, .int .u8 e.h] rfl rfl 131 _ hC2 size_cx rfl (by simp [Value.oneCell']) (hK _ _ trivial ?_); clear hK K)
          (repeat (first | (refine Go.Mix.walk_calm rfl ?_ (fun K hK => ?_); (first | exact Go.Mix.wanted_none rfl | exact Go.Mix.wanted_tt rfl rfl rfl | exact Go.Mix.wanted_ff rfl rfl rfl); go_big_quiet_op; refine hK _ ?_; clear hK K) | (refine Go.Mix.walk_skip ?_ (fun K hK => ?_); (first | exact Go.Mix.wanted_tf rfl rfl rfl | exact Go.Mix.wanted_ft rfl rfl rfl); go_simp; refine hK _ ?_; clear hK K) | (refine Go.Mix.walk_loud rfl ?_ (fun K hK => ?_); (first | exact Go.Mix.wanted_none rfl | exact Go.Mix.wanted_tt rfl rfl rfl | exact Go.Mix.wanted_ff rfl rfl rfl); (first | go_big_op | go_simp); (first | (refine hK _ _ trivial ?_; clear hK K) | (fail; (try dsimp only); refine hK _ _ trivial ?_; clear hK K))) | (refine Go.Mix.walk_step (fun K hK => ?_); go_simp; (try (go_ints; try go_simp)); refine hK _ _ ?_; clear hK K)))
          refine Go.Mix.walk_nil ?_
          obtain ⟨x3, hx3⟩ : ∃ x3, x3 = x2.setRow g7 #[.int .u16 e.f, .int .u16 e.i, .int .u8 e.r0, .int .u8 e.r1, .int .u8 e.r2, .int .u8 e.r3, .int .u8 e.r4, .int .u8 e.r5, .int .i8 e.c0, .int .i8 e.c1, .int .i8 e.c2, .int .i8 e.c3, .int .i8 e.c4, .int .i8 e.c5, .int .u8 e.m, .int .u16 e.n, .bool e.x, .int .u8 e.h] := ⟨_, rfl⟩
          rw [← hx3] at HA3 ⊢
          clear hC2 hx3
          go_wp2_with fail
          go_loopw [115] (fun i wr => ∃ (k : Nat), k ≤ 6 ∧ i = .int .i64 k ∧ AwSt w wr g0 g7 m e) (fun i _ => 6 - (intOf i).toNat)
          case atStart => exact ⟨0, Nat.zero_le _, rfl, HA3.out⟩
          case round =>
            obtain ⟨k, hk, rfl, hA4⟩ := hrel
            clear HA3
            by_cases hlt : k < 6
            · have HA4 := Lib.hid hA4
              clear hA4
              have hr4 := HR.out.below HA4.out.be
              go_wp2_with fail
              go_at_call 63
              refine (Few_any a2 len2 cap2 _ l 9 _ (by decide) hl HA4.out.be.size hr4).mono ?_
              rintro ee w8 ⟨v, rfl, hown, hb⟩
              obtain ⟨xa, xc, rfl⟩ := own_form hown
              rw [← HL9.out] at hown ⊢
              have hro := rd_of_own (f := Bs.iv l9) hown (fun i hi => ziv_at l9 i hi)
              have HA5 := Lib.hid (HA4.out.step hb)
              have HRO := Lib.hid hro
              clear hb hown hro hr4 HA4
              by_cases hin : (k : Int) ∈ l9
              · have hin' := HIN_of hin
                have hkc : w8.cell? ⟨g7, 2 + k, none⟩ = some (.int .u8 0) := by rw [cell_of_row _ g7 (2 + k) _ _ _ HA5.out.bc, cx_cell e k hlt, HCL.out k hlt hin]
                have HIN := Lib.hid hin'
                clear hin hin'
                go_wp2_with fail
                go_at_call 57
                refine (In_any xa _ xc _ l9 (k : Int) _ rfl (Nat.le_refl _) HRO.out).mono ?_
                rintro ee w9 ⟨rfl, rfl⟩
                rw [HIN.out]
                go_wp2_with fail
                go_roundw
                case rel => exact ⟨k + 1, by omega, by go_num, HA5.out⟩
                case measure => simp [intOf]; omega
              · have HIN := Lib.hid (decide_eq_false hin)
                clear hin
                go_wp2_with fail
                go_at_call 57
                refine (In_any xa _ xc _ l9 (k : Int) _ rfl (Nat.le_refl _) HRO.out).mono ?_
                rintro ee w9 ⟨rfl, rfl⟩
                rw [HIN.out]
                go_wp2_with fail
                go_roundw
                case rel => exact ⟨k + 1, by omega, by go_num, HA5.out⟩
                case measure => simp [intOf]; omega
            · have k16 := cell_of_row _ g7 16 _ _ _ hA4.bc
              have HA4 := Lib.hid hA4
              clear hA4
              have k17 : wr.cell? ⟨g7, 16, none⟩ = some (.bool false) := by rw [k16]; simp [hex.out]
              clear k16
              have hn0 : decide ((nn : Int) ≥ 0) = true := decide_eq_true (by omega)
              have hn1 : decide (0 ≤ (nn : Int)) = true := decide_eq_true (by omega)
              go_wp2_with fail
              go_ret
              exact ⟨rfl, HA4.out.be⟩
end Go.Proofs.Ytiaaafjpnijphaa
