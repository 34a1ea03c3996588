/- TurnAgain: a turn that was stopped leaves the chain that it had, and another one can be started from there. -/
import Derived.Test.YtboojcahflkkmaaLaw20n
import Derived.Deep.CutBlock
import Derived.Deep.DeepCutAuto
namespace Go.Proofs.Ytboojcahflkkmaa
open Go.RowKit Go.Own Bs
set_option linter.unusedVariables false
set_option linter.unusedSimpArgs false
/-- The phase, and the old chain, after k cycles in which all works. -/
def agP (k : Nat) : Int := if k = 0 then 1 else if k = 1 then 2 else if k = 2 then 3 else 0
def agF (f t : Nat → Int) (k : Nat) : Nat → Int := if k < 3 then f else t
theorem agP_next (f t : Nat → Int) (k : Nat) : ∃ o d, nxtR (agP k) (agF f t k) t 65535 0 = ⟨agP (k + 1), agF f t (k + 1), t, o, d, 0⟩ := by
  have hl : lessS (unitsS t 6) 65535 = 0 := by simp [lessS]
  match k with
  | 0 =>
    refine ⟨0, false, ?_⟩
    show (if (1 : Int) = 1 then powR f t 65535 0 else _) = _
    rw [if_pos rfl]
    unfold powR
    rw [if_pos (Nat.and_zero _), if_pos hl]
    rfl
  | 1 => exact ⟨0, false, rfl⟩
  | 2 => exact ⟨_, true, rfl⟩
  | k + 3 =>
    have e1 : agP (k + 3) = 0 := by unfold agP; rw [if_neg (by omega), if_neg (by omega), if_neg (by omega)]
    have e2 : agP (k + 3 + 1) = 0 := by unfold agP; rw [if_neg (by omega), if_neg (by omega), if_neg (by omega)]
    have e3 : agF f t (k + 3) = t := by unfold agF; rw [if_neg (by omega)]
    have e4 : agF f t (k + 3 + 1) = t := by unfold agF; rw [if_neg (by omega)]
    rw [e1, e2, e3, e4]
    exact ⟨0, false, rfl⟩
/-- The chain in use then. -/
def agA (f t : Nat → Int) (k : Nat) : Nat → Int := if k < 2 then f else t
theorem agA_is (f t : Nat → Int) (k : Nat) : actC (agP k) (agF f t k) t = agA f t k := by
  match k with
  | 0 => rfl
  | 1 => rfl
  | 2 => rfl
  | k + 3 =>
    have e1 : agP (k + 3) = 0 := by unfold agP; rw [if_neg (by omega), if_neg (by omega), if_neg (by omega)]
    unfold actC agA
    rw [e1, if_neg (by decide), if_neg (by omega)]
theorem agP_bd (k : Nat) : 0 ≤ agP k ∧ agP k < 256 := by unfold agP; split <;> (try split) <;> (try split) <;> decide
/-- Where the law stands: the chains, and the turn. -/
structure AgSt (w wr : World) (g5 g6 g7 g11 : Nat) (f t o : Nat → Int) (p : Int) (f' : Nat → Int) : Prop where
  be : Below w.heap.size w wr
  b5 : wr.heap[g5]? = some (.cells #[.int .i8 (f 0), .int .i8 (f 1), .int .i8 (f 2), .int .i8 (f 3), .int .i8 (f 4), .int .i8 (f 5)] 67 (0, 0))
  b6 : wr.heap[g6]? = some (.cells #[.int .i8 (t 0), .int .i8 (t 1), .int .i8 (t 2), .int .i8 (t 3), .int .i8 (t 4), .int .i8 (t 5)] 67 (0, 0))
  b7 : wr.heap[g7]? = some (.cells #[.int .i8 (o 0), .int .i8 (o 1), .int .i8 (o 2), .int .i8 (o 3), .int .i8 (o 4), .int .i8 (o 5)] 67 (0, 0))
  b11 : wr.heap[g11]? = some (.cells #[.int .u8 p, .int .i8 (f' 0), .int .i8 (f' 1), .int .i8 (f' 2), .int .i8 (f' 3), .int .i8 (f' 4), .int .i8 (f' 5), .int .i8 (t 0), .int .i8 (t 1), .int .i8 (t 2), .int .i8 (t 3), .int .i8 (t 4), .int .i8 (t 5)] 96 (0, 0))
  h11 : w.heap.size ≤ g11
  n5 : g5 ≠ g11
  n6 : g6 ≠ g11
  n7 : g7 ≠ g11
theorem AgSt.step {w wr w' : World} {g5 g6 g7 g11 : Nat} {f t o : Nat → Int} {p : Int} {f' : Nat → Int} (h : AgSt w wr g5 g6 g7 g11 f t o p f') (hb : Below wr.heap.size wr w') : AgSt w w' g5 g6 g7 g11 f t o p f' :=
  ⟨h.be.trans (hb.mono h.be.size), box_below h.b5 hb (box_lt h.b5), box_below h.b6 hb (box_lt h.b6), box_below h.b7 hb (box_lt h.b7), box_below h.b11 hb (box_lt h.b11), h.h11, h.n5, h.n6, h.n7⟩
theorem AgSt.put {w wr : World} {g5 g6 g7 g11 : Nat} {f t o : Nat → Int} {p : Int} {f' : Nat → Int} (h : AgSt w wr g5 g6 g7 g11 f t o p f') (p2 : Int) (f2 : Nat → Int) : AgSt w (wr.setRow g11 #[.int .u8 p2, .int .i8 (f2 0), .int .i8 (f2 1), .int .i8 (f2 2), .int .i8 (f2 3), .int .i8 (f2 4), .int .i8 (f2 5), .int .i8 (t 0), .int .i8 (t 1), .int .i8 (t 2), .int .i8 (t 3), .int .i8 (t 4), .int .i8 (t 5)]) g5 g6 g7 g11 f t o p2 f2 :=
  ⟨bel_rowS h.be h.h11 _, (setRow_other _ _ _ _ h.n5).trans h.b5, (setRow_other _ _ _ _ h.n6).trans h.b6, (setRow_other _ _ _ _ h.n7).trans h.b7, setRow_heap _ _ _ _ _ _ h.b11, h.h11, h.n5, h.n6, h.n7⟩
/-- Where the law stands at its end. -/
structure AgE (w wr : World) (g5 g6 g7 g14 g18 g19 g20 : Nat) (f t A o : Nat → Int) (ya : Option Addr) (yl yc : Nat) (l : List Nat) (B : Nat) : Prop where
  be : Below w.heap.size w wr
  b5 : wr.heap[g5]? = some (.cells #[.int .i8 (f 0), .int .i8 (f 1), .int .i8 (f 2), .int .i8 (f 3), .int .i8 (f 4), .int .i8 (f 5)] 67 (0, 0))
  b6 : wr.heap[g6]? = some (.cells #[.int .i8 (t 0), .int .i8 (t 1), .int .i8 (t 2), .int .i8 (t 3), .int .i8 (t 4), .int .i8 (t 5)] 67 (0, 0))
  b7 : wr.heap[g7]? = some (.cells #[.int .i8 (o 0), .int .i8 (o 1), .int .i8 (o 2), .int .i8 (o 3), .int .i8 (o 4), .int .i8 (o 5)] 67 (0, 0))
  b14 : wr.heap[g14]? = some (.cells #[.int .i8 (A 0), .int .i8 (A 1), .int .i8 (A 2), .int .i8 (A 3), .int .i8 (A 4), .int .i8 (A 5)] 67 (0, 0))
  b18 : wr.heap[g18]? = some (.cells #[.int .u8 0, .int .i8 (A 0), .int .i8 (A 1), .int .i8 (A 2), .int .i8 (A 3), .int .i8 (A 4), .int .i8 (A 5), .int .i8 (A 0), .int .i8 (A 1), .int .i8 (A 2), .int .i8 (A 3), .int .i8 (A 4), .int .i8 (A 5)] 96 (0, 0))
  b19 : wr.heap[g19]? = some (.cells #[.int .u8 1, .int .i8 (A 0), .int .i8 (A 1), .int .i8 (A 2), .int .i8 (A 3), .int .i8 (A 4), .int .i8 (A 5), .int .i8 (o 0), .int .i8 (o 1), .int .i8 (o 2), .int .i8 (o 3), .int .i8 (o 4), .int .i8 (o 5)] 96 (0, 0))
  b20 : wr.heap[g20]? = some (.cells #[.slice ya yl yc, .slice none 0 0, .bool false, .int .u16 0] 98 (0, 0))
  rd : Rd B wr ya yl yc (zv l)
  sz : B ≤ wr.heap.size
  lb : w.heap.size ≤ B
  lt : g5 < B ∧ g6 < B ∧ g7 < B ∧ g14 < B ∧ g18 < B ∧ g19 < B ∧ g20 < B
theorem AgE.step {w wr w' : World} {g5 g6 g7 g14 g18 g19 g20 : Nat} {f t A o : Nat → Int} {ya : Option Addr} {yl yc : Nat} {l : List Nat} {B k : Nat} (h : AgE w wr g5 g6 g7 g14 g18 g19 g20 f t A o ya yl yc l B) (hb : Below k wr w') (hk : B ≤ k) : AgE w w' g5 g6 g7 g14 g18 g19 g20 f t A o ya yl yc l B := by
  obtain ⟨l1, l2, l3, l4, l5, l6, l7⟩ := h.lt
  exact ⟨h.be.trans (hb.mono (Nat.le_trans h.lb hk)), box_below h.b5 hb (by omega), box_below h.b6 hb (by omega), box_below h.b7 hb (by omega), box_below h.b14 hb (by omega), box_below h.b18 hb (by omega), box_below h.b19 hb (by omega), box_below h.b20 hb (by omega), h.rd.below' hb hk, Nat.le_trans h.sz hb.size, h.lb, h.lt⟩
set_option maxRecDepth 100000 in
set_option maxHeartbeats 8000000 in
theorem walk_TurnAgain (z0 z1 z2 : List Int) (a3 a4 : Int) (w : World) (l0 : z0.length = 6) (w0 : ∀ x ∈ z0, (Lit.int .i8 x).wf = true) (l1 : z1.length = 6) (w1 : ∀ x ∈ z1, (Lit.int .i8 x).wf = true) (l2 : z2.length = 6) (w2 : ∀ x ∈ z2, (Lit.int .i8 x).wf = true) (w3 : (Lit.int .u8 a3).wf = true) (w4 : (Lit.int .u16 a4).wf = true) :
    Calls Try.prog 12 #[.agg (z0.map (Value.int .i8)).toArray, .agg (z1.map (Value.int .i8)).toArray, .agg (z2.map (Value.int .i8)).toArray, .int .u8 a3, .int .u16 a4] w fun e w' => e = .returned (.bool true) ∧ Below w.heap.size w w' := by
  obtain ⟨f, hf, e0⟩ := ch_of l0 w0
  obtain ⟨t, ht, e1⟩ := ch_of l1 w1
  obtain ⟨o, ho, e2⟩ := ch_of l2 w2
  rw [e0, e1, e2]
  clear e0 e1 e2 l0 w0 l1 w1 l2 w2
  obtain ⟨p0, p1⟩ := bounds_u8 w3
  obtain ⟨r0, r1⟩ := bounds_u16 w4
  obtain ⟨st, rfl⟩ := Int.eq_ofNat_of_zero_le p0
  obtain ⟨pw, rfl⟩ := Int.eq_ofNat_of_zero_le r0
  have hpw : pw < 65536 := by omega
  have hst : st < 256 := by omega
  have HC := Lib.hid (show ChOk f ∧ ChOk t ∧ ChOk o from ⟨hf, ht, ho⟩)
  clear w3 w4 hf ht ho p0 p1 r0 r1
  have hzt := zero_tn
  have hzs := zero_st
  have hzc := zero_ch
  obtain ⟨h5, h6, h7⟩ := al3S w (.cells #[.int .i8 (f 0), .int .i8 (f 1), .int .i8 (f 2), .int .i8 (f 3), .int .i8 (f 4), .int .i8 (f 5)] 67) (.cells #[.int .i8 (t 0), .int .i8 (t 1), .int .i8 (t 2), .int .i8 (t 3), .int .i8 (t 4), .int .i8 (t 5)] 67) (.cells #[.int .i8 (o 0), .int .i8 (o 1), .int .i8 (o 2), .int .i8 (o 3), .int .i8 (o 4), .int .i8 (o 5)] 67)
  have hb0 : Below w.heap.size w (((w.alloc (.cells #[.int .i8 (f 0), .int .i8 (f 1), .int .i8 (f 2), .int .i8 (f 3), .int .i8 (f 4), .int .i8 (f 5)] 67)).alloc (.cells #[.int .i8 (t 0), .int .i8 (t 1), .int .i8 (t 2), .int .i8 (t 3), .int .i8 (t 4), .int .i8 (t 5)] 67)).alloc (.cells #[.int .i8 (o 0), .int .i8 (o 1), .int .i8 (o 2), .int .i8 (o 3), .int .i8 (o 4), .int .i8 (o 5)] 67)) := by repeat' (first | (with_reducible exact Below.refl _ _) | (with_reducible assumption) | (with_reducible refine Below.setCell ?_ ?_ _) | (with_reducible refine Below.alloc ?_ ?_ _) | (with_reducible refine Below.drew ?_) | (with_reducible refine Below.drawsN ?_ _) | go_size)
  go_enter Try.func12, Try.ntmps12
  go_upto_region 1 with fail
  obtain ⟨wa, hwa⟩ : ∃ w1, w1 = ((w.alloc (.cells #[.int .i8 (f 0), .int .i8 (f 1), .int .i8 (f 2), .int .i8 (f 3), .int .i8 (f 4), .int .i8 (f 5)] 67)).alloc (.cells #[.int .i8 (t 0), .int .i8 (t 1), .int .i8 (t 2), .int .i8 (t 3), .int .i8 (t 4), .int .i8 (t 5)] 67)).alloc (.cells #[.int .i8 (o 0), .int .i8 (o 1), .int .i8 (o 2), .int .i8 (o 3), .int .i8 (o 4), .int .i8 (o 5)] 67) := ⟨_, rfl⟩
  rw [← hwa] at h5 h6 h7 hb0 ⊢
  obtain ⟨g7, hg7⟩ : ∃ g, g = w.heap.size + 1 + 1 := ⟨_, rfl⟩
  rw [← hg7] at h7 ⊢
  obtain ⟨g6, hg6⟩ : ∃ g, g = w.heap.size + 1 := ⟨_, rfl⟩
  rw [← hg6] at h6 ⊢
  obtain ⟨g5, hg5⟩ : ∃ g, g = w.heap.size := ⟨_, rfl⟩
  rw [show (Value.pointer (some ⟨w.heap.size, 0, none⟩)) = .pointer (some ⟨g5, 0, none⟩) by rw [hg5]]
  rw [← hg5] at h5
  have HB0 := Lib.hid hb0
  have H5 := Lib.hid (show _ ∧ _ ∧ _ from ⟨h5, h6, h7⟩)
  clear hwa hg5 hg6 hg7 hb0 h5 h6 h7
  go_wp2_with fail
  go_at_call 46
  refine (awake20 _).mono ?_
  rintro e wb ⟨rfl, hb⟩
  have HB1 := Lib.hid (HB0.out.trans (hb.mono HB0.out.size))
  have b5 := box_below H5.out.1 hb (box_lt H5.out.1)
  have b6 := box_below H5.out.2.1 hb (box_lt H5.out.2.1)
  have b7 := box_below H5.out.2.2 hb (box_lt H5.out.2.2)
  clear hb HB0 H5
  have HST := Lib.hid (fun w => Start_idle f f t pw w HC.out.2.1 hpw)
  go_wp2_with (first | ((with_reducible show wpList _ _ _ (_ :: _) _ _); refine wpList_load_row rfl 67 _ rfl _ rfl _ _ _ _ b5 Try.underlying67 rfl (by exact size_ch) ?_; (try go_simp)) | ((with_reducible show wpList _ _ _ (_ :: _) _ _); refine wpList_load_row rfl 67 _ rfl _ rfl _ _ _ _ b6 Try.underlying67 rfl (by exact size_ch) ?_; (try go_simp)))
  go_at_call 54
  refine (HST.out _).mono ?_
  rintro e wc ⟨v, rfl, hown, hb⟩
  obtain ⟨va, vc, rfl⟩ := own_formZ hown
  obtain ⟨vl, hvl⟩ : ∃ vl, vl = (upTo (lessS (unitsS t 6) pw) 16).length := ⟨_, rfl⟩
  rw [← hvl]
  skip
  obtain ⟨q1, q2, q3, q4, q5⟩ := pairBox wc #[.int .u8 1, .int .i8 (f 0), .int .i8 (f 1), .int .i8 (f 2), .int .i8 (f 3), .int .i8 (f 4), .int .i8 (f 5), .int .i8 (t 0), .int .i8 (t 1), .int .i8 (t 2), .int .i8 (t 3), .int .i8 (t 4), .int .i8 (t 5)] #[.slice va vl vc, .slice none 0 0, .bool false, .int .u16 0]
  obtain ⟨wA, hwA⟩ : ∃ x, (wc.alloc (.cells #[.int .u8 0, .int .i8 0, .int .i8 0, .int .i8 0, .int .i8 0, .int .i8 0, .int .i8 0, .int .i8 0, .int .i8 0, .int .i8 0, .int .i8 0, .int .i8 0, .int .i8 0] 96)).alloc (.cells #[.slice none 0 0, .slice none 0 0, .bool false, .int .u16 0] 98) = x := ⟨_, rfl⟩
  rw [hwA] at q1 q2 q3 q4 q5
  obtain ⟨wB, hwB⟩ : ∃ x, wA.setRow wc.heap.size #[.int .u8 1, .int .i8 (f 0), .int .i8 (f 1), .int .i8 (f 2), .int .i8 (f 3), .int .i8 (f 4), .int .i8 (f 5), .int .i8 (t 0), .int .i8 (t 1), .int .i8 (t 2), .int .i8 (t 3), .int .i8 (t 4), .int .i8 (t 5)] = x := ⟨_, rfl⟩
  rw [hwB] at q2 q3 q4 q5
  obtain ⟨wC, hwC⟩ : ∃ x, wB.setRow (wc.heap.size + 1) #[.slice va vl vc, .slice none 0 0, .bool false, .int .u16 0] = x := ⟨_, rfl⟩
  rw [hwC] at q3 q4 q5
  have hbc := HB1.out.trans (hb.mono HB1.out.size)
  have c5 := box_below b5 hb (box_lt b5)
  have c6 := box_below b6 hb (box_lt b6)
  have c7 := box_below b7 hb (box_lt b7)
  have HS := Lib.hid (show AgSt w wC g5 g6 g7 wc.heap.size f t o 1 f from ⟨hbc.trans (q5.mono hbc.size), box_below c5 q5 (box_lt c5), box_below c6 q5 (box_lt c6), box_below c7 q5 (box_lt c7), q3, hbc.size, Nat.ne_of_lt (box_lt c5), Nat.ne_of_lt (box_lt c6), Nat.ne_of_lt (box_lt c7)⟩)
  clear hvl hown hb b5 b6 b7 HST HB1 q3 q4 q5 hbc c5 c6 c7
  go_upto_region 4 with (first | ((with_reducible show wpList _ _ _ (_ :: _) _ _); (try rw [hwA]); refine wpList_store_row rfl 96 _ _ rfl _ _ rfl rfl _ _ q1 (by exact size_tn) (by rfl) (by simp [Value.oneCell']) ?_; rw [hwB]) | ((with_reducible show wpList _ _ _ (_ :: _) _ _); refine wpList_store_row rfl 98 _ _ rfl _ _ rfl rfl _ _ q2 (by exact size_st) (by rfl) (by simp [Value.oneCell']) ?_; rw [hwC]))
  clear hwA hwB hwC q1 q2
  obtain ⟨g11, hg11⟩ : ∃ g, g = wc.heap.size := ⟨_, rfl⟩
  rw [← hg11] at HS
  rw [show (Value.pointer (some ⟨wc.heap.size, 0, none⟩)) = .pointer (some ⟨g11, 0, none⟩) by rw [hg11]]
  clear hg11
  obtain ⟨kk, hkk⟩ : ∃ kk, kk = st % 5 := ⟨_, rfl⟩
  have hk5 : kk < 5 := by rw [hkk]; exact Nat.mod_lt _ (by decide)
  have hke : (st : Int) % 5 = (kk : Int) := by rw [hkk]; push_cast; rfl
  have HKE := Lib.hid hke
  clear hkk hke
  go_wp2_with fail
  rw [HKE.out]
  go_loopw [37] (fun v wr => ∃ k : Nat, k ≤ kk ∧ v = .int .u8 (k : Nat) ∧ AgSt w wr g5 g6 g7 g11 f t o (agP k) (agF f t k)) (fun v _ => kk - (intOf v).toNat)
  case atStart => exact ⟨0, Nat.zero_le _, rfl, HS.out⟩
  case round =>
    clear HS
    obtain ⟨k, hk, rfl, hS⟩ := hrel
    have HS := Lib.hid hS
    clear hS
    by_cases hlt : k < kk
    · obtain ⟨on, d, hn⟩ := agP_next f t k
      have hokf : ChOk (agF f t k) := by unfold agF; split; exact HC.out.1; exact HC.out.2.1
      obtain ⟨P0, hP0⟩ : ∃ P0, P0 = agP k := ⟨_, rfl⟩
      obtain ⟨F0, hF0⟩ : ∃ F0, F0 = agF f t k := ⟨_, rfl⟩
      obtain ⟨P1, hP1⟩ : ∃ P1, P1 = agP (k + 1) := ⟨_, rfl⟩
      obtain ⟨F1, hF1⟩ : ∃ F1, F1 = agF f t (k + 1) := ⟨_, rfl⟩
      rw [← hP0, ← hF0, ← hP1, ← hF1] at hn
      rw [← hF0] at hokf
      have HS0 := HS.out
      rw [← hP0, ← hF0] at HS0
      have HS1 := Lib.hid HS0
      have HN := Lib.hid hn
      have HP := Lib.hid (And.intro hP1 hF1)
      clear HS HS0 hn hP0 hF0 hP1 hF1
      have b11 := HS1.out.b11
      have hk255 : k + 1 ≤ 255 := by omega
      go_wp2_with (((with_reducible show wpList _ _ _ (_ :: _) _ _); refine wpList_load_row rfl 96 _ rfl _ rfl _ _ _ _ b11 Try.underlying96 rfl (by exact size_tn) ?_; (try go_simp)))
      go_at_call 47
      refine (Next_det (p := P0) (f := F0) (t := t) (wk := 65535) (ls := 0) _ hokf HC.out.2.1 (by decide) (by decide) HN.out).mono ?_
      rintro e wd ⟨v, rfl, hown, hb⟩
      obtain ⟨xa, xc, rfl⟩ := own_formZ hown
      have HS2 := Lib.hid (HS1.out.step hb)
      have b11 := HS2.out.b11
      have HS3 := Lib.hid (HS2.out.put P1 F1)
      obtain ⟨we, hwe⟩ : ∃ we, wd.setRow g11 #[.int .u8 P1, .int .i8 (F1 0), .int .i8 (F1 1), .int .i8 (F1 2), .int .i8 (F1 3), .int .i8 (F1 4), .int .i8 (F1 5), .int .i8 (t 0), .int .i8 (t 1), .int .i8 (t 2), .int .i8 (t 3), .int .i8 (t 4), .int .i8 (t 5)] = we := ⟨_, rfl⟩
      rw [hwe] at HS3
      clear hown hb HS1 HS2
      go_upto_region 7 with ((with_reducible show wpList _ _ _ (_ :: _) _ _); refine wpList_store_row rfl 96 _ _ rfl _ _ rfl rfl _ _ b11 (by exact size_tn) (by rfl) (by simp [Value.oneCell']) ?_; rw [hwe])
      clear hwe b11
      go_wp2_with fail
      go_roundw
      case rel => exact ⟨k + 1, by omega, by go_num, by rw [← HP.out.1, ← HP.out.2]; exact HS3.out⟩
      case measure => simp [intOf]; omega
    · obtain rfl : k = kk := by omega
      have hact := agA_is f t k
      have hbd := agP_bd k
      have hokf : ChOk (agF f t k) := by unfold agF; split; exact HC.out.1; exact HC.out.2.1
      have hz : agP k = 0 ↔ 3 ≤ k := by
        unfold agP
        by_cases k0 : k = 0
        · rw [if_pos k0]; omega
        · rw [if_neg k0]
          by_cases k1 : k = 1
          · rw [if_pos k1]; omega
          · rw [if_neg k1]
            by_cases k2 : k = 2
            · rw [if_pos k2]; omega
            · rw [if_neg k2]; omega
      obtain ⟨p, hp⟩ : ∃ p, p = agP k := ⟨_, rfl⟩
      obtain ⟨F, hF⟩ : ∃ F, F = agF f t k := ⟨_, rfl⟩
      obtain ⟨A, hA⟩ : ∃ A, A = agA f t k := ⟨_, rfl⟩
      have hokA : ChOk A := by rw [hA]; unfold agA; split; exact HC.out.1; exact HC.out.2.1
      rw [← hp] at hz hbd
      rw [← hF] at hokf
      rw [← hp, ← hF, ← hA] at hact
      have HS0 := HS.out
      rw [← hp, ← hF] at HS0
      have HS1 := Lib.hid HS0
      have HACT := Lib.hid hact
      have HA := Lib.hid hA
      have HBD := Lib.hid hbd
      have HZ := Lib.hid hz
      clear HS HS0 hact hA hbd hz hp hF
      have b11 := HS1.out.b11
      go_wp2_with (((with_reducible show wpList _ _ _ (_ :: _) _ _); refine wpList_load_row rfl 96 _ rfl _ rfl _ _ _ _ b11 Try.underlying96 rfl (by exact size_tn) ?_; (try go_simp)))
      go_at_call 51
      refine (Active_any p F t _).mono ?_
      rintro e wd ⟨rfl, hb⟩
      rw [HACT.out]
      have HS2 := Lib.hid (HS1.out.step hb)
      have hal : Below wd.heap.size wd (wd.alloc (.cells #[.int .i8 (A 0), .int .i8 (A 1), .int .i8 (A 2), .int .i8 (A 3), .int .i8 (A 4), .int .i8 (A 5)] 67)) := by repeat' (first | (with_reducible exact Below.refl _ _) | (with_reducible assumption) | (with_reducible refine Below.setCell ?_ ?_ _) | (with_reducible refine Below.alloc ?_ ?_ _) | (with_reducible refine Below.drew ?_) | (with_reducible refine Below.drawsN ?_ _) | go_size)
      have h14 := heap_alloc_new wd (.cells #[.int .i8 (A 0), .int .i8 (A 1), .int .i8 (A 2), .int .i8 (A 3), .int .i8 (A 4), .int .i8 (A 5)] 67)
      have HS3 := Lib.hid (HS2.out.step hal)
      clear hb b11 HS1 HS2 hal
      obtain ⟨we, hwe⟩ : ∃ we, wd.alloc (.cells #[.int .i8 (A 0), .int .i8 (A 1), .int .i8 (A 2), .int .i8 (A 3), .int .i8 (A 4), .int .i8 (A 5)] 67) = we := ⟨_, rfl⟩
      rw [hwe] at h14 HS3
      go_upto_region 9 with ((with_reducible show wpList _ _ _ (_ :: _) _ _); refine wpList_store_row rfl 67 _ _ rfl _ _ rfl rfl _ _ (heap_alloc_new _ _) (by exact size_ch) (by rfl) (by simp [Value.oneCell']) ?_; rw [World.setRow_alloc_new, hwe])
      clear hwe
      obtain ⟨g14, hg14⟩ : ∃ g, g = wd.heap.size := ⟨_, rfl⟩
      rw [← hg14] at h14 ⊢
      clear hg14
      by_cases h3 : 3 ≤ k
      · obtain rfl : p = 0 := HZ.out.2 h3
        have b11 := HS3.out.b11
        have b7 := HS3.out.b7
        have HST := Lib.hid (fun w => Start_idle F t o pw w HC.out.2.2 hpw)
        go_wp2_with (first | ((with_reducible show wpList _ _ _ (_ :: _) _ _); refine wpList_load_row rfl 96 _ rfl _ rfl _ _ _ _ b11 Try.underlying96 rfl (by exact size_tn) ?_; (try go_simp)) | ((with_reducible show wpList _ _ _ (_ :: _) _ _); refine wpList_load_row rfl 67 _ rfl _ rfl _ _ _ _ b7 Try.underlying67 rfl (by exact size_ch) ?_; (try go_simp)))
        go_at_call 54
        refine (HST.out _).mono ?_
        rintro e wf ⟨v, rfl, hown, hb⟩
        obtain ⟨xa, xc, rfl⟩ := own_formZ hown
        obtain ⟨xl, hxl⟩ : ∃ xl, xl = (upTo (lessS (unitsS o 6) pw) 16).length := ⟨_, rfl⟩
        rw [← hxl]
        skip
        obtain ⟨q1, q2, q3, q4, q5⟩ := pairBox wf #[.int .u8 1, .int .i8 (t 0), .int .i8 (t 1), .int .i8 (t 2), .int .i8 (t 3), .int .i8 (t 4), .int .i8 (t 5), .int .i8 (o 0), .int .i8 (o 1), .int .i8 (o 2), .int .i8 (o 3), .int .i8 (o 4), .int .i8 (o 5)] #[.slice xa xl xc, .slice none 0 0, .bool false, .int .u16 0]
        obtain ⟨wA, hwA⟩ : ∃ x, (wf.alloc (.cells #[.int .u8 0, .int .i8 0, .int .i8 0, .int .i8 0, .int .i8 0, .int .i8 0, .int .i8 0, .int .i8 0, .int .i8 0, .int .i8 0, .int .i8 0, .int .i8 0, .int .i8 0] 96)).alloc (.cells #[.slice none 0 0, .slice none 0 0, .bool false, .int .u16 0] 98) = x := ⟨_, rfl⟩
        rw [hwA] at q1 q2 q3 q4 q5
        obtain ⟨wB, hwB⟩ : ∃ x, wA.setRow wf.heap.size #[.int .u8 1, .int .i8 (t 0), .int .i8 (t 1), .int .i8 (t 2), .int .i8 (t 3), .int .i8 (t 4), .int .i8 (t 5), .int .i8 (o 0), .int .i8 (o 1), .int .i8 (o 2), .int .i8 (o 3), .int .i8 (o 4), .int .i8 (o 5)] = x := ⟨_, rfl⟩
        rw [hwB] at q2 q3 q4 q5
        obtain ⟨wC, hwC⟩ : ∃ x, wB.setRow (wf.heap.size + 1) #[.slice xa xl xc, .slice none 0 0, .bool false, .int .u16 0] = x := ⟨_, rfl⟩
        rw [hwC] at q3 q4 q5
        have hS4 := HS3.out.step hb
        have HS5 := Lib.hid (hS4.step q5)
        have H14 := Lib.hid (box_below (box_below h14 hb (box_lt h14)) q5 (box_lt (box_below h14 hb (box_lt h14))))
        clear hown hb hxl HST HS3 h14 hS4 q3 q4 q5 b11 b7
        go_upto_region 10 with (first | ((with_reducible show wpList _ _ _ (_ :: _) _ _); (try rw [hwA]); refine wpList_store_row rfl 96 _ _ rfl _ _ rfl rfl _ _ q1 (by exact size_tn) (by rfl) (by simp [Value.oneCell']) ?_; rw [hwB]) | ((with_reducible show wpList _ _ _ (_ :: _) _ _); refine wpList_store_row rfl 98 _ _ rfl _ _ rfl rfl _ _ q2 (by exact size_st) (by rfl) (by simp [Value.oneCell']) ?_; rw [hwC]))
        clear hwA hwB hwC q1 q2
        have b11 := HS5.out.b11
        go_wp2_with (((with_reducible show wpList _ _ _ (_ :: _) _ _); refine wpList_load_row rfl 96 _ rfl _ rfl _ _ _ _ b11 Try.underlying96 rfl (by exact size_tn) ?_; (try go_simp)))
        go_at_call 52
        refine (Busy_any 0 F t _).mono ?_
        rintro e wg ⟨rfl, hb⟩
        have HS6 := Lib.hid (HS5.out.step hb)
        have H146 := Lib.hid (box_below H14.out hb (box_lt H14.out))
        clear hb HS5 H14 b11
        go_upto_region 12 with fail
        skip
        have b11 := HS6.out.b11
        go_wp2_with (((with_reducible show wpList _ _ _ (_ :: _) _ _); refine wpList_load_row rfl 96 _ rfl _ rfl _ _ _ _ b11 Try.underlying96 rfl (by exact size_tn) ?_; (try go_simp)))
        go_at_call 53
        refine (Stop_any 0 F t _).mono ?_
        rintro e wh ⟨rfl, hb⟩
        rw [HACT.out]
        have hS7 := HS6.out.step hb
        have h147 := box_below H146.out hb (box_lt H146.out)
        have hal : Below wh.heap.size wh (wh.alloc (.cells #[.int .u8 0, .int .i8 (A 0), .int .i8 (A 1), .int .i8 (A 2), .int .i8 (A 3), .int .i8 (A 4), .int .i8 (A 5), .int .i8 (A 0), .int .i8 (A 1), .int .i8 (A 2), .int .i8 (A 3), .int .i8 (A 4), .int .i8 (A 5)] 96)) := by repeat' (first | (with_reducible exact Below.refl _ _) | (with_reducible assumption) | (with_reducible refine Below.setCell ?_ ?_ _) | (with_reducible refine Below.alloc ?_ ?_ _) | (with_reducible refine Below.drew ?_) | (with_reducible refine Below.drawsN ?_ _) | go_size)
        have h18 := heap_alloc_new wh (.cells #[.int .u8 0, .int .i8 (A 0), .int .i8 (A 1), .int .i8 (A 2), .int .i8 (A 3), .int .i8 (A 4), .int .i8 (A 5), .int .i8 (A 0), .int .i8 (A 1), .int .i8 (A 2), .int .i8 (A 3), .int .i8 (A 4), .int .i8 (A 5)] 96)
        have hS8 := hS7.step hal
        have h148 := box_below h147 hal (box_lt h147)
        obtain ⟨wi, hwi⟩ : ∃ wi, wh.alloc (.cells #[.int .u8 0, .int .i8 (A 0), .int .i8 (A 1), .int .i8 (A 2), .int .i8 (A 3), .int .i8 (A 4), .int .i8 (A 5), .int .i8 (A 0), .int .i8 (A 1), .int .i8 (A 2), .int .i8 (A 3), .int .i8 (A 4), .int .i8 (A 5)] 96) = wi := ⟨_, rfl⟩
        rw [hwi] at h18 hS8 h148
        have HS8 := Lib.hid hS8
        have H148 := Lib.hid h148
        clear hb b11 HS6 H146 hS7 h147 hal hS8 h148
        go_upto_region 13 with ((with_reducible show wpList _ _ _ (_ :: _) _ _); refine wpList_store_row rfl 96 _ _ rfl _ _ rfl rfl _ _ (heap_alloc_new _ _) (by exact size_tn) (by rfl) (by simp [Value.oneCell']) ?_; rw [World.setRow_alloc_new, hwi])
        clear hwi
        obtain ⟨g18, hg18⟩ : ∃ g, g = wh.heap.size := ⟨_, rfl⟩
        rw [← hg18] at h18 ⊢
        clear hg18
        have b7 := HS8.out.b7
        have HST := Lib.hid (fun w => Start_idle A A o pw w HC.out.2.2 hpw)
        go_wp2_with (first | ((with_reducible show wpList _ _ _ (_ :: _) _ _); refine wpList_load_row rfl 96 _ rfl _ rfl _ _ _ _ h18 Try.underlying96 rfl (by exact size_tn) ?_; (try go_simp)) | ((with_reducible show wpList _ _ _ (_ :: _) _ _); refine wpList_load_row rfl 67 _ rfl _ rfl _ _ _ _ b7 Try.underlying67 rfl (by exact size_ch) ?_; (try go_simp)))
        go_at_call 54
        refine (HST.out _).mono ?_
        rintro e wj ⟨v, rfl, hown, hb⟩
        obtain ⟨ya, yc, rfl⟩ := own_formZ hown
        obtain ⟨s, hs⟩ : ∃ s, s = lessS (unitsS o 6) pw := ⟨_, rfl⟩
        rw [← hs] at hown ⊢
        obtain ⟨yl, hyl⟩ : ∃ yl, yl = (upTo s 16).length := ⟨_, rfl⟩
        rw [← hyl] at hown ⊢
        have hrd := rd_of_own (f := zv (upTo s 16)) hown (fun i hi => zl_zv _ i (by omega))
        skip
        obtain ⟨q1, q2, q3, q4, q5⟩ := pairBox wj #[.int .u8 1, .int .i8 (A 0), .int .i8 (A 1), .int .i8 (A 2), .int .i8 (A 3), .int .i8 (A 4), .int .i8 (A 5), .int .i8 (o 0), .int .i8 (o 1), .int .i8 (o 2), .int .i8 (o 3), .int .i8 (o 4), .int .i8 (o 5)] #[.slice ya yl yc, .slice none 0 0, .bool false, .int .u16 0]
        obtain ⟨wA, hwA⟩ : ∃ x, (wj.alloc (.cells #[.int .u8 0, .int .i8 0, .int .i8 0, .int .i8 0, .int .i8 0, .int .i8 0, .int .i8 0, .int .i8 0, .int .i8 0, .int .i8 0, .int .i8 0, .int .i8 0, .int .i8 0] 96)).alloc (.cells #[.slice none 0 0, .slice none 0 0, .bool false, .int .u16 0] 98) = x := ⟨_, rfl⟩
        rw [hwA] at q1 q2 q3 q4 q5
        obtain ⟨wB, hwB⟩ : ∃ x, wA.setRow wj.heap.size #[.int .u8 1, .int .i8 (A 0), .int .i8 (A 1), .int .i8 (A 2), .int .i8 (A 3), .int .i8 (A 4), .int .i8 (A 5), .int .i8 (o 0), .int .i8 (o 1), .int .i8 (o 2), .int .i8 (o 3), .int .i8 (o 4), .int .i8 (o 5)] = x := ⟨_, rfl⟩
        rw [hwB] at q2 q3 q4 q5
        obtain ⟨wC, hwC⟩ : ∃ x, wB.setRow (wj.heap.size + 1) #[.slice ya yl yc, .slice none 0 0, .bool false, .int .u16 0] = x := ⟨_, rfl⟩
        rw [hwC] at q3 q4 q5
        have hS9 := (HS8.out.step hb).step q5
        have h149 := box_below (box_below H148.out hb (box_lt H148.out)) q5 (box_lt (box_below H148.out hb (box_lt H148.out)))
        have h189 := box_below (box_below h18 hb (box_lt h18)) q5 (box_lt (box_below h18 hb (box_lt h18)))
        have HE0 := Lib.hid (show AgE w wC g5 g6 g7 g14 g18 wj.heap.size (wj.heap.size + 1) f t A o ya yl yc (upTo s 16) wC.heap.size from ⟨hS9.be, hS9.b5, hS9.b6, hS9.b7, h149, h189, q3, q4, (hrd.below q5).mono q5.size, Nat.le_refl _, hS9.be.size, box_lt hS9.b5, box_lt hS9.b6, box_lt hS9.b7, box_lt h149, box_lt h189, box_lt q3, box_lt q4⟩)
        have HSL := Lib.hid (show s = lessS (unitsS o 6) pw ∧ yl = (upTo s 16).length from ⟨hs, hyl⟩)
        clear hown hb hs hyl hrd HST HS8 H148 hS9 h149 h189 q3 q4 q5 b7 h18
        go_upto_region 14 with (first | ((with_reducible show wpList _ _ _ (_ :: _) _ _); (try rw [hwA]); refine wpList_store_row rfl 96 _ _ rfl _ _ rfl rfl _ _ q1 (by exact size_tn) (by rfl) (by simp [Value.oneCell']) ?_; rw [hwB]) | ((with_reducible show wpList _ _ _ (_ :: _) _ _); refine wpList_store_row rfl 98 _ _ rfl _ _ rfl rfl _ _ q2 (by exact size_st) (by rfl) (by simp [Value.oneCell']) ?_; rw [hwC]))
        clear hwA hwB hwC q1 q2
        obtain ⟨g20, hg20⟩ : ∃ g, g = wj.heap.size + 1 := ⟨_, rfl⟩
        rw [← hg20] at HE0 ⊢
        obtain ⟨g19, hg19⟩ : ∃ g, g = wj.heap.size := ⟨_, rfl⟩
        rw [← hg19] at HE0 ⊢
        clear hg19 hg20
        have b5 := HE0.out.b5
        have hal : Below wC.heap.size wC (wC.alloc (.cells #[.int .i8 (f 0), .int .i8 (f 1), .int .i8 (f 2), .int .i8 (f 3), .int .i8 (f 4), .int .i8 (f 5)] 67)) := by repeat' (first | (with_reducible exact Below.refl _ _) | (with_reducible assumption) | (with_reducible refine Below.setCell ?_ ?_ _) | (with_reducible refine Below.alloc ?_ ?_ _) | (with_reducible refine Below.drew ?_) | (with_reducible refine Below.drawsN ?_ _) | go_size)
        have h22 := heap_alloc_new wC (.cells #[.int .i8 (f 0), .int .i8 (f 1), .int .i8 (f 2), .int .i8 (f 3), .int .i8 (f 4), .int .i8 (f 5)] 67)
        obtain ⟨wk, hwk⟩ : ∃ wk, wC.alloc (.cells #[.int .i8 (f 0), .int .i8 (f 1), .int .i8 (f 2), .int .i8 (f 3), .int .i8 (f 4), .int .i8 (f 5)] 67) = wk := ⟨_, rfl⟩
        rw [hwk] at h22 hal
        have HE1 := Lib.hid (HE0.out.step hal (Nat.le_refl _))
        clear hal HE0
        go_upto_region 15 with (first | ((with_reducible show wpList _ _ _ (_ :: _) _ _); refine wpList_load_row rfl 67 _ rfl _ rfl _ _ _ _ b5 Try.underlying67 rfl (by exact size_ch) ?_; (try go_simp)) | ((with_reducible show wpList _ _ _ (_ :: _) _ _); refine wpList_store_row rfl 67 _ _ rfl _ _ rfl rfl _ _ (heap_alloc_new _ _) (by exact size_ch) (by rfl) (by simp [Value.oneCell']) ?_; rw [World.setRow_alloc_new, hwk]))
        clear hwk b5
        obtain ⟨g22, hg22⟩ : ∃ g, g = wC.heap.size := ⟨_, rfl⟩
        rw [← hg22] at h22 HE1 ⊢
        clear hg22
        have hge : (2 : Int) ≤ (st : Int) % 5 := by have := HKE.out; omega
        have HAt := Lib.hid (show A = t by rw [HA.out]; unfold agA; rw [if_neg (by omega)])
        skip
        have b6 := HE1.out.b6
        have HE2 := Lib.hid (HE1.out.step (show Below g22 wk (wk.setRow g22 #[.int .i8 (t 0), .int .i8 (t 1), .int .i8 (t 2), .int .i8 (t 3), .int .i8 (t 4), .int .i8 (t 5)]) from ⟨rfl, rfl, rfl, by simp [World.setRow], fun i hi => setRow_other _ g22 i _ (by omega)⟩) (Nat.le_refl _))
        have h23 := setRow_heap wk g22 _ #[.int .i8 (t 0), .int .i8 (t 1), .int .i8 (t 2), .int .i8 (t 3), .int .i8 (t 4), .int .i8 (t 5)] _ _ h22
        obtain ⟨wl, hwl⟩ : ∃ wl, wk.setRow g22 #[.int .i8 (t 0), .int .i8 (t 1), .int .i8 (t 2), .int .i8 (t 3), .int .i8 (t 4), .int .i8 (t 5)] = wl := ⟨_, rfl⟩
        rw [hwl] at HE2 h23
        clear HE1
        go_upto_region 17 with (first | ((with_reducible show wpList _ _ _ (_ :: _) _ _); refine wpList_load_row rfl 67 _ rfl _ rfl _ _ _ _ b6 Try.underlying67 rfl (by exact size_ch) ?_; (try go_simp)) | (((with_reducible show wpList _ _ _ (_ :: _) _ _); refine wpList_store_row rfl 67 _ _ rfl _ _ rfl rfl _ _ h22 (by exact size_ch) (by rfl) (by simp [Value.oneCell']) ?_); rw [hwl]))
        clear hwl h22 b6 hge
        rw [← HAt.out] at h23
        skip
        have e7 := HE2.out.b7
        have e14 := HE2.out.b14
        have e18 := HE2.out.b18
        have e19 := HE2.out.b19
        have e20 := HE2.out.b20
        obtain ⟨l5, l6, l7, l14, l18, l19, l20⟩ := HE2.out.lt
        have hsz := HE2.out.sz
        have k7 : g7 < wl.heap.size := by omega
        have k14 : g14 < wl.heap.size := by omega
        have k18 : g18 < wl.heap.size := by omega
        have k19 : g19 < wl.heap.size := by omega
        have k20 : g20 < wl.heap.size := by omega
        have k22 := box_lt h23
        obtain ⟨uo, huo⟩ : ∃ uo, uo = unitsS o 6 := ⟨_, rfl⟩
        have huo1 : uo < 65536 := by rw [huo]; exact unitsS_lt o 6
        have HUO := Lib.hid huo
        have hs1 : s < 65536 := by rw [HSL.out.1]; exact lessS_lt (unitsS_lt o 6)
        clear l5 l6 l7 l14 l18 l19 l20 huo
        obtain ⟨I, W, hne, hWI, hIW⟩ := Go.Mix.family (fun v => Below wl.heap.size wl v) (Below.refl _ _)
        have HJ := Lib.hid hIW
        have HW := Lib.hid hWI
        clear hWI hIW
        refine Go.Flo.wp_region (fun w' => ∃ i, w' = W i) 38 [Go.Flo.Spec.is (.agg #[.int .i8 (A 0), .int .i8 (A 1), .int .i8 (A 2), .int .i8 (A 3), .int .i8 (A 4), .int .i8 (A 5)]), Go.Flo.Spec.is (.bool false), Go.Flo.Spec.is (.agg #[.int .i8 (A 0), .int .i8 (A 1), .int .i8 (A 2), .int .i8 (A 3), .int .i8 (A 4), .int .i8 (A 5)]), Go.Flo.Spec.is (.bool true), Go.Flo.Spec.is (.int .u16 (uo : Nat)), Go.Flo.Spec.is (.int .u16 (s : Nat)), Go.Flo.Spec.is (.bool true)] (by kernel_rfl) (by kernel_rfl) (by decide) (by rintro _ w' ⟨i, rfl⟩ hb; exact HJ.out _ ((HW.out i).trans (hb.mono (HW.out i).size))) (HJ.out _ (Below.refl _ _).drew) ?_
        simp only [Go.Flo.pair, Go.Mix.calm, List.take, List.drop, if_true, Bool.false_eq_true, if_false, Nat.reduceAdd, Nat.reduceSub]
        have he : ∀ w, (binOp .eql 67 (.agg #[.int .i8 (A 0), .int .i8 (A 1), .int .i8 (A 2), .int .i8 (A 3), .int .i8 (A 4), .int .i8 (A 5)]) (.agg #[.int .i8 (A 0), .int .i8 (A 1), .int .i8 (A 2), .int .i8 (A 3), .int .i8 (A 4), .int .i8 (A 5)])).run Try.prog w = .ok (.bool true) w := fun w => by rw [eqlCh hokA hokA, sameC_refl]
        have HEQ := Lib.hid he
        clear he
        (refine Go.Flo.fw_calm rfl ?_ (fun K hK => ?_); (first | exact Go.Mix.wanted_none rfl | exact Go.Mix.wanted_tt rfl rfl rfl | exact Go.Mix.wanted_ff rfl rfl rfl); refine Go.Flo.quiet_load_row 67 _ rfl _ rfl _ #[.int .i8 (A 0), .int .i8 (A 1), .int .i8 (A 2), .int .i8 (A 3), .int .i8 (A 4), .int .i8 (A 5)] _ (by rintro _ ⟨i, rfl⟩; exact ((HW.out i).block _ k14).trans e14) Try.underlying67 rfl size_ch ?_; go_simp; refine hK _ ?_; clear hK K)
        (refine Go.Flo.fw_calm rfl ?_ (fun K hK => ?_); (first | exact Go.Mix.wanted_none rfl | exact Go.Mix.wanted_tt rfl rfl rfl | exact Go.Mix.wanted_ff rfl rfl rfl); refine Go.Flo.quiet_load_row 67 _ rfl _ rfl _ #[.int .i8 (A 0), .int .i8 (A 1), .int .i8 (A 2), .int .i8 (A 3), .int .i8 (A 4), .int .i8 (A 5)] _ (by rintro _ ⟨i, rfl⟩; exact ((HW.out i).block _ k22).trans h23) Try.underlying67 rfl size_ch ?_; go_simp; refine hK _ ?_; clear hK K)
        have he := HEQ.out
        (first | (refine Go.Flo.fw_calm rfl ?_ (fun K hK => ?_); (first | exact Go.Mix.wanted_none rfl | exact Go.Mix.wanted_tt rfl rfl rfl | exact Go.Mix.wanted_ff rfl rfl rfl); go_big_quiet_op; refine hK _ ?_; clear hK K) | (refine Go.Flo.fw_skip ?_ (fun K hK => ?_); (first | exact Go.Mix.wanted_tf rfl rfl rfl | exact Go.Mix.wanted_ft rfl rfl rfl); go_simp; refine hK _ ?_; clear hK K) | (refine Go.Flo.fw_any rfl ?_ (fun K hK => ?_); (first | exact Go.Mix.wanted_none rfl | exact Go.Mix.wanted_tt rfl rfl rfl | exact Go.Mix.wanted_ff rfl rfl rfl); go_simp; (try (go_ints; try go_simp)); refine hK _ ?_; clear hK K))
        clear he
        (first | (refine Go.Flo.fw_calm rfl ?_ (fun K hK => ?_); (first | exact Go.Mix.wanted_none rfl | exact Go.Mix.wanted_tt rfl rfl rfl | exact Go.Mix.wanted_ff rfl rfl rfl); go_big_quiet_op; refine hK _ ?_; clear hK K) | (refine Go.Flo.fw_skip ?_ (fun K hK => ?_); (first | exact Go.Mix.wanted_tf rfl rfl rfl | exact Go.Mix.wanted_ft rfl rfl rfl); go_simp; refine hK _ ?_; clear hK K) | (refine Go.Flo.fw_any rfl ?_ (fun K hK => ?_); (first | exact Go.Mix.wanted_none rfl | exact Go.Mix.wanted_tt rfl rfl rfl | exact Go.Mix.wanted_ff rfl rfl rfl); go_simp; (try (go_ints; try go_simp)); refine hK _ ?_; clear hK K))
        (refine Go.Flo.fw_calm rfl ?_ (fun K hK => ?_); (first | exact Go.Mix.wanted_none rfl | exact Go.Mix.wanted_tt rfl rfl rfl | exact Go.Mix.wanted_ff rfl rfl rfl); refine Go.Flo.quiet_load_row 96 _ rfl _ rfl _ #[.int .u8 0, .int .i8 (A 0), .int .i8 (A 1), .int .i8 (A 2), .int .i8 (A 3), .int .i8 (A 4), .int .i8 (A 5), .int .i8 (A 0), .int .i8 (A 1), .int .i8 (A 2), .int .i8 (A 3), .int .i8 (A 4), .int .i8 (A 5)] _ (by rintro _ ⟨i, rfl⟩; exact ((HW.out i).block _ k18).trans e18) Try.underlying96 rfl size_tn ?_; go_simp; refine hK _ ?_; clear hK K)
        refine Go.Flo.fw_loud rfl ?_ rfl (by simp) (fun wv hwv hav K hK => ?_) (fun v hv K hK => ?_)
        · (first | exact Go.Mix.wanted_none rfl | exact Go.Mix.wanted_tt rfl rfl rfl | exact Go.Mix.wanted_ff rfl rfl rfl)
        · obtain ⟨iv, rfl⟩ := hwv
          have hbv := HW.out iv
          (first | go_big_op | go_simp)
          go_at_call 51
          refine (Active_any 0 A A _).mono ?_
          rintro e w' ⟨rfl, hb⟩
          rw [actC_same]
          exact hK _ _ (Go.Flo.owes_is _ rfl hb)
        obtain rfl := hv.is
        go_simp
        refine hK _ ?_
        clear hK K hv
        (refine Go.Flo.fw_calm rfl ?_ (fun K hK => ?_); (first | exact Go.Mix.wanted_none rfl | exact Go.Mix.wanted_tt rfl rfl rfl | exact Go.Mix.wanted_ff rfl rfl rfl); refine Go.Flo.quiet_load_row 67 _ rfl _ rfl _ #[.int .i8 (A 0), .int .i8 (A 1), .int .i8 (A 2), .int .i8 (A 3), .int .i8 (A 4), .int .i8 (A 5)] _ (by rintro _ ⟨i, rfl⟩; exact ((HW.out i).block _ k14).trans e14) Try.underlying67 rfl size_ch ?_; go_simp; refine hK _ ?_; clear hK K)
        have he := HEQ.out
        (first | (refine Go.Flo.fw_calm rfl ?_ (fun K hK => ?_); (first | exact Go.Mix.wanted_none rfl | exact Go.Mix.wanted_tt rfl rfl rfl | exact Go.Mix.wanted_ff rfl rfl rfl); go_big_quiet_op; refine hK _ ?_; clear hK K) | (refine Go.Flo.fw_skip ?_ (fun K hK => ?_); (first | exact Go.Mix.wanted_tf rfl rfl rfl | exact Go.Mix.wanted_ft rfl rfl rfl); go_simp; refine hK _ ?_; clear hK K) | (refine Go.Flo.fw_any rfl ?_ (fun K hK => ?_); (first | exact Go.Mix.wanted_none rfl | exact Go.Mix.wanted_tt rfl rfl rfl | exact Go.Mix.wanted_ff rfl rfl rfl); go_simp; (try (go_ints; try go_simp)); refine hK _ ?_; clear hK K))
        clear he
        (first | (refine Go.Flo.fw_calm rfl ?_ (fun K hK => ?_); (first | exact Go.Mix.wanted_none rfl | exact Go.Mix.wanted_tt rfl rfl rfl | exact Go.Mix.wanted_ff rfl rfl rfl); go_big_quiet_op; refine hK _ ?_; clear hK K) | (refine Go.Flo.fw_skip ?_ (fun K hK => ?_); (first | exact Go.Mix.wanted_tf rfl rfl rfl | exact Go.Mix.wanted_ft rfl rfl rfl); go_simp; refine hK _ ?_; clear hK K) | (refine Go.Flo.fw_any rfl ?_ (fun K hK => ?_); (first | exact Go.Mix.wanted_none rfl | exact Go.Mix.wanted_tt rfl rfl rfl | exact Go.Mix.wanted_ff rfl rfl rfl); go_simp; (try (go_ints; try go_simp)); refine hK _ ?_; clear hK K))
        (first | (refine Go.Flo.fw_calm rfl ?_ (fun K hK => ?_); (first | exact Go.Mix.wanted_none rfl | exact Go.Mix.wanted_tt rfl rfl rfl | exact Go.Mix.wanted_ff rfl rfl rfl); go_big_quiet_op; refine hK _ ?_; clear hK K) | (refine Go.Flo.fw_skip ?_ (fun K hK => ?_); (first | exact Go.Mix.wanted_tf rfl rfl rfl | exact Go.Mix.wanted_ft rfl rfl rfl); go_simp; refine hK _ ?_; clear hK K) | (refine Go.Flo.fw_any rfl ?_ (fun K hK => ?_); (first | exact Go.Mix.wanted_none rfl | exact Go.Mix.wanted_tt rfl rfl rfl | exact Go.Mix.wanted_ff rfl rfl rfl); go_simp; (try (go_ints; try go_simp)); refine hK _ ?_; clear hK K))
        (refine Go.Flo.fw_calm rfl ?_ (fun K hK => ?_); (first | exact Go.Mix.wanted_none rfl | exact Go.Mix.wanted_tt rfl rfl rfl | exact Go.Mix.wanted_ff rfl rfl rfl); refine Go.Flo.quiet_load_row 96 _ rfl _ rfl _ #[.int .u8 0, .int .i8 (A 0), .int .i8 (A 1), .int .i8 (A 2), .int .i8 (A 3), .int .i8 (A 4), .int .i8 (A 5), .int .i8 (A 0), .int .i8 (A 1), .int .i8 (A 2), .int .i8 (A 3), .int .i8 (A 4), .int .i8 (A 5)] _ (by rintro _ ⟨i, rfl⟩; exact ((HW.out i).block _ k18).trans e18) Try.underlying96 rfl size_tn ?_; go_simp; refine hK _ ?_; clear hK K)
        refine Go.Flo.fw_loud rfl ?_ rfl (by simp) (fun wv hwv hav K hK => ?_) (fun v hv K hK => ?_)
        · (first | exact Go.Mix.wanted_none rfl | exact Go.Mix.wanted_tt rfl rfl rfl | exact Go.Mix.wanted_ff rfl rfl rfl)
        · obtain ⟨iv, rfl⟩ := hwv
          have hbv := HW.out iv
          (first | go_big_op | go_simp)
          go_at_call 52
          refine (Busy_any 0 A A _).mono ?_
          rintro e w' ⟨rfl, hb⟩
          exact hK _ _ (Go.Flo.owes_is _ rfl hb)
        obtain rfl := hv.is
        go_simp
        refine hK _ ?_
        clear hK K hv
        (first | (refine Go.Flo.fw_calm rfl ?_ (fun K hK => ?_); (first | exact Go.Mix.wanted_none rfl | exact Go.Mix.wanted_tt rfl rfl rfl | exact Go.Mix.wanted_ff rfl rfl rfl); go_big_quiet_op; refine hK _ ?_; clear hK K) | (refine Go.Flo.fw_skip ?_ (fun K hK => ?_); (first | exact Go.Mix.wanted_tf rfl rfl rfl | exact Go.Mix.wanted_ft rfl rfl rfl); go_simp; refine hK _ ?_; clear hK K) | (refine Go.Flo.fw_any rfl ?_ (fun K hK => ?_); (first | exact Go.Mix.wanted_none rfl | exact Go.Mix.wanted_tt rfl rfl rfl | exact Go.Mix.wanted_ff rfl rfl rfl); go_simp; (try (go_ints; try go_simp)); refine hK _ ?_; clear hK K))
        (first | (refine Go.Flo.fw_calm rfl ?_ (fun K hK => ?_); (first | exact Go.Mix.wanted_none rfl | exact Go.Mix.wanted_tt rfl rfl rfl | exact Go.Mix.wanted_ff rfl rfl rfl); go_big_quiet_op; refine hK _ ?_; clear hK K) | (refine Go.Flo.fw_skip ?_ (fun K hK => ?_); (first | exact Go.Mix.wanted_tf rfl rfl rfl | exact Go.Mix.wanted_ft rfl rfl rfl); go_simp; refine hK _ ?_; clear hK K) | (refine Go.Flo.fw_any rfl ?_ (fun K hK => ?_); (first | exact Go.Mix.wanted_none rfl | exact Go.Mix.wanted_tt rfl rfl rfl | exact Go.Mix.wanted_ff rfl rfl rfl); go_simp; (try (go_ints; try go_simp)); refine hK _ ?_; clear hK K))
        (first | (refine Go.Flo.fw_calm rfl ?_ (fun K hK => ?_); (first | exact Go.Mix.wanted_none rfl | exact Go.Mix.wanted_tt rfl rfl rfl | exact Go.Mix.wanted_ff rfl rfl rfl); go_big_quiet_op; refine hK _ ?_; clear hK K) | (refine Go.Flo.fw_skip ?_ (fun K hK => ?_); (first | exact Go.Mix.wanted_tf rfl rfl rfl | exact Go.Mix.wanted_ft rfl rfl rfl); go_simp; refine hK _ ?_; clear hK K) | (refine Go.Flo.fw_any rfl ?_ (fun K hK => ?_); (first | exact Go.Mix.wanted_none rfl | exact Go.Mix.wanted_tt rfl rfl rfl | exact Go.Mix.wanted_ff rfl rfl rfl); go_simp; (try (go_ints; try go_simp)); refine hK _ ?_; clear hK K))
        (first | (refine Go.Flo.fw_calm rfl ?_ (fun K hK => ?_); (first | exact Go.Mix.wanted_none rfl | exact Go.Mix.wanted_tt rfl rfl rfl | exact Go.Mix.wanted_ff rfl rfl rfl); go_big_quiet_op; refine hK _ ?_; clear hK K) | (refine Go.Flo.fw_skip ?_ (fun K hK => ?_); (first | exact Go.Mix.wanted_tf rfl rfl rfl | exact Go.Mix.wanted_ft rfl rfl rfl); go_simp; refine hK _ ?_; clear hK K) | (refine Go.Flo.fw_any rfl ?_ (fun K hK => ?_); (first | exact Go.Mix.wanted_none rfl | exact Go.Mix.wanted_tt rfl rfl rfl | exact Go.Mix.wanted_ff rfl rfl rfl); go_simp; (try (go_ints; try go_simp)); refine hK _ ?_; clear hK K))
        (first | (refine Go.Flo.fw_calm rfl ?_ (fun K hK => ?_); (first | exact Go.Mix.wanted_none rfl | exact Go.Mix.wanted_tt rfl rfl rfl | exact Go.Mix.wanted_ff rfl rfl rfl); go_big_quiet_op; refine hK _ ?_; clear hK K) | (refine Go.Flo.fw_skip ?_ (fun K hK => ?_); (first | exact Go.Mix.wanted_tf rfl rfl rfl | exact Go.Mix.wanted_ft rfl rfl rfl); go_simp; refine hK _ ?_; clear hK K) | (refine Go.Flo.fw_any rfl ?_ (fun K hK => ?_); (first | exact Go.Mix.wanted_none rfl | exact Go.Mix.wanted_tt rfl rfl rfl | exact Go.Mix.wanted_ff rfl rfl rfl); go_simp; (try (go_ints; try go_simp)); refine hK _ ?_; clear hK K))
        (first | (refine Go.Flo.fw_calm rfl ?_ (fun K hK => ?_); (first | exact Go.Mix.wanted_none rfl | exact Go.Mix.wanted_tt rfl rfl rfl | exact Go.Mix.wanted_ff rfl rfl rfl); go_big_quiet_op; refine hK _ ?_; clear hK K) | (refine Go.Flo.fw_skip ?_ (fun K hK => ?_); (first | exact Go.Mix.wanted_tf rfl rfl rfl | exact Go.Mix.wanted_ft rfl rfl rfl); go_simp; refine hK _ ?_; clear hK K) | (refine Go.Flo.fw_any rfl ?_ (fun K hK => ?_); (first | exact Go.Mix.wanted_none rfl | exact Go.Mix.wanted_tt rfl rfl rfl | exact Go.Mix.wanted_ff rfl rfl rfl); go_simp; (try (go_ints; try go_simp)); refine hK _ ?_; clear hK K))
        (first | (refine Go.Flo.fw_calm rfl ?_ (fun K hK => ?_); (first | exact Go.Mix.wanted_none rfl | exact Go.Mix.wanted_tt rfl rfl rfl | exact Go.Mix.wanted_ff rfl rfl rfl); go_big_quiet_op; refine hK _ ?_; clear hK K) | (refine Go.Flo.fw_skip ?_ (fun K hK => ?_); (first | exact Go.Mix.wanted_tf rfl rfl rfl | exact Go.Mix.wanted_ft rfl rfl rfl); go_simp; refine hK _ ?_; clear hK K) | (refine Go.Flo.fw_any rfl ?_ (fun K hK => ?_); (first | exact Go.Mix.wanted_none rfl | exact Go.Mix.wanted_tt rfl rfl rfl | exact Go.Mix.wanted_ff rfl rfl rfl); go_simp; (try (go_ints; try go_simp)); refine hK _ ?_; clear hK K))
        (refine Go.Flo.fw_calm rfl ?_ (fun K hK => ?_); (first | exact Go.Mix.wanted_none rfl | exact Go.Mix.wanted_tt rfl rfl rfl | exact Go.Mix.wanted_ff rfl rfl rfl); refine Go.Flo.quiet_load_row 96 _ rfl _ rfl _ #[.int .u8 1, .int .i8 (A 0), .int .i8 (A 1), .int .i8 (A 2), .int .i8 (A 3), .int .i8 (A 4), .int .i8 (A 5), .int .i8 (o 0), .int .i8 (o 1), .int .i8 (o 2), .int .i8 (o 3), .int .i8 (o 4), .int .i8 (o 5)] _ (by rintro _ ⟨i, rfl⟩; exact ((HW.out i).block _ k19).trans e19) Try.underlying96 rfl size_tn ?_; go_simp; refine hK _ ?_; clear hK K)
        refine Go.Flo.fw_loud rfl ?_ rfl (by simp) (fun wv hwv hav K hK => ?_) (fun v hv K hK => ?_)
        · (first | exact Go.Mix.wanted_none rfl | exact Go.Mix.wanted_tt rfl rfl rfl | exact Go.Mix.wanted_ff rfl rfl rfl)
        · obtain ⟨iv, rfl⟩ := hwv
          have hbv := HW.out iv
          (first | go_big_op | go_simp)
          go_at_call 51
          refine (Active_any 1 A o _).mono ?_
          rintro e w' ⟨rfl, hb⟩
          rw [show actC 1 A o = A from rfl]
          exact hK _ _ (Go.Flo.owes_is _ rfl hb)
        obtain rfl := hv.is
        go_simp
        refine hK _ ?_
        clear hK K hv
        (refine Go.Flo.fw_calm rfl ?_ (fun K hK => ?_); (first | exact Go.Mix.wanted_none rfl | exact Go.Mix.wanted_tt rfl rfl rfl | exact Go.Mix.wanted_ff rfl rfl rfl); refine Go.Flo.quiet_load_row 67 _ rfl _ rfl _ #[.int .i8 (A 0), .int .i8 (A 1), .int .i8 (A 2), .int .i8 (A 3), .int .i8 (A 4), .int .i8 (A 5)] _ (by rintro _ ⟨i, rfl⟩; exact ((HW.out i).block _ k14).trans e14) Try.underlying67 rfl size_ch ?_; go_simp; refine hK _ ?_; clear hK K)
        have he := HEQ.out
        (first | (refine Go.Flo.fw_calm rfl ?_ (fun K hK => ?_); (first | exact Go.Mix.wanted_none rfl | exact Go.Mix.wanted_tt rfl rfl rfl | exact Go.Mix.wanted_ff rfl rfl rfl); go_big_quiet_op; refine hK _ ?_; clear hK K) | (refine Go.Flo.fw_skip ?_ (fun K hK => ?_); (first | exact Go.Mix.wanted_tf rfl rfl rfl | exact Go.Mix.wanted_ft rfl rfl rfl); go_simp; refine hK _ ?_; clear hK K) | (refine Go.Flo.fw_any rfl ?_ (fun K hK => ?_); (first | exact Go.Mix.wanted_none rfl | exact Go.Mix.wanted_tt rfl rfl rfl | exact Go.Mix.wanted_ff rfl rfl rfl); go_simp; (try (go_ints; try go_simp)); refine hK _ ?_; clear hK K))
        clear he
        (first | (refine Go.Flo.fw_calm rfl ?_ (fun K hK => ?_); (first | exact Go.Mix.wanted_none rfl | exact Go.Mix.wanted_tt rfl rfl rfl | exact Go.Mix.wanted_ff rfl rfl rfl); go_big_quiet_op; refine hK _ ?_; clear hK K) | (refine Go.Flo.fw_skip ?_ (fun K hK => ?_); (first | exact Go.Mix.wanted_tf rfl rfl rfl | exact Go.Mix.wanted_ft rfl rfl rfl); go_simp; refine hK _ ?_; clear hK K) | (refine Go.Flo.fw_any rfl ?_ (fun K hK => ?_); (first | exact Go.Mix.wanted_none rfl | exact Go.Mix.wanted_tt rfl rfl rfl | exact Go.Mix.wanted_ff rfl rfl rfl); go_simp; (try (go_ints; try go_simp)); refine hK _ ?_; clear hK K))
        (first | (refine Go.Flo.fw_calm rfl ?_ (fun K hK => ?_); (first | exact Go.Mix.wanted_none rfl | exact Go.Mix.wanted_tt rfl rfl rfl | exact Go.Mix.wanted_ff rfl rfl rfl); go_big_quiet_op; refine hK _ ?_; clear hK K) | (refine Go.Flo.fw_skip ?_ (fun K hK => ?_); (first | exact Go.Mix.wanted_tf rfl rfl rfl | exact Go.Mix.wanted_ft rfl rfl rfl); go_simp; refine hK _ ?_; clear hK K) | (refine Go.Flo.fw_any rfl ?_ (fun K hK => ?_); (first | exact Go.Mix.wanted_none rfl | exact Go.Mix.wanted_tt rfl rfl rfl | exact Go.Mix.wanted_ff rfl rfl rfl); go_simp; (try (go_ints; try go_simp)); refine hK _ ?_; clear hK K))
        (refine Go.Flo.fw_calm rfl ?_ (fun K hK => ?_); (first | exact Go.Mix.wanted_none rfl | exact Go.Mix.wanted_tt rfl rfl rfl | exact Go.Mix.wanted_ff rfl rfl rfl); refine Go.Flo.quiet_load_row 96 _ rfl _ rfl _ #[.int .u8 1, .int .i8 (A 0), .int .i8 (A 1), .int .i8 (A 2), .int .i8 (A 3), .int .i8 (A 4), .int .i8 (A 5), .int .i8 (o 0), .int .i8 (o 1), .int .i8 (o 2), .int .i8 (o 3), .int .i8 (o 4), .int .i8 (o 5)] _ (by rintro _ ⟨i, rfl⟩; exact ((HW.out i).block _ k19).trans e19) Try.underlying96 rfl size_tn ?_; go_simp; refine hK _ ?_; clear hK K)
        refine Go.Flo.fw_loud rfl ?_ rfl (by simp) (fun wv hwv hav K hK => ?_) (fun v hv K hK => ?_)
        · (first | exact Go.Mix.wanted_none rfl | exact Go.Mix.wanted_tt rfl rfl rfl | exact Go.Mix.wanted_ff rfl rfl rfl)
        · obtain ⟨iv, rfl⟩ := hwv
          have hbv := HW.out iv
          (first | go_big_op | go_simp)
          go_at_call 52
          refine (Busy_any 1 A o _).mono ?_
          rintro e w' ⟨rfl, hb⟩
          exact hK _ _ (Go.Flo.owes_is _ rfl hb)
        obtain rfl := hv.is
        go_simp
        refine hK _ ?_
        clear hK K hv
        (first | (refine Go.Flo.fw_calm rfl ?_ (fun K hK => ?_); (first | exact Go.Mix.wanted_none rfl | exact Go.Mix.wanted_tt rfl rfl rfl | exact Go.Mix.wanted_ff rfl rfl rfl); go_big_quiet_op; refine hK _ ?_; clear hK K) | (refine Go.Flo.fw_skip ?_ (fun K hK => ?_); (first | exact Go.Mix.wanted_tf rfl rfl rfl | exact Go.Mix.wanted_ft rfl rfl rfl); go_simp; refine hK _ ?_; clear hK K) | (refine Go.Flo.fw_any rfl ?_ (fun K hK => ?_); (first | exact Go.Mix.wanted_none rfl | exact Go.Mix.wanted_tt rfl rfl rfl | exact Go.Mix.wanted_ff rfl rfl rfl); go_simp; (try (go_ints; try go_simp)); refine hK _ ?_; clear hK K))
        (first | (refine Go.Flo.fw_calm rfl ?_ (fun K hK => ?_); (first | exact Go.Mix.wanted_none rfl | exact Go.Mix.wanted_tt rfl rfl rfl | exact Go.Mix.wanted_ff rfl rfl rfl); go_big_quiet_op; refine hK _ ?_; clear hK K) | (refine Go.Flo.fw_skip ?_ (fun K hK => ?_); (first | exact Go.Mix.wanted_tf rfl rfl rfl | exact Go.Mix.wanted_ft rfl rfl rfl); go_simp; refine hK _ ?_; clear hK K) | (refine Go.Flo.fw_any rfl ?_ (fun K hK => ?_); (first | exact Go.Mix.wanted_none rfl | exact Go.Mix.wanted_tt rfl rfl rfl | exact Go.Mix.wanted_ff rfl rfl rfl); go_simp; (try (go_ints; try go_simp)); refine hK _ ?_; clear hK K))
        have y0 : ∀ i, (W i).cell? ⟨g20, 0, none⟩ = some (.slice ya yl yc) := fun i => ((HW.out i).cell (p := ⟨g20, 0, none⟩) k20).trans (cell_of_row _ _ 0 _ _ _ e20)
        (first | (refine Go.Flo.fw_calm rfl ?_ (fun K hK => ?_); (first | exact Go.Mix.wanted_none rfl | exact Go.Mix.wanted_tt rfl rfl rfl | exact Go.Mix.wanted_ff rfl rfl rfl); go_big_quiet_op; refine hK _ ?_; clear hK K) | (refine Go.Flo.fw_skip ?_ (fun K hK => ?_); (first | exact Go.Mix.wanted_tf rfl rfl rfl | exact Go.Mix.wanted_ft rfl rfl rfl); go_simp; refine hK _ ?_; clear hK K) | (refine Go.Flo.fw_any rfl ?_ (fun K hK => ?_); (first | exact Go.Mix.wanted_none rfl | exact Go.Mix.wanted_tt rfl rfl rfl | exact Go.Mix.wanted_ff rfl rfl rfl); go_simp; (try (go_ints; try go_simp)); refine hK _ ?_; clear hK K))
        (first | (refine Go.Flo.fw_calm rfl ?_ (fun K hK => ?_); (first | exact Go.Mix.wanted_none rfl | exact Go.Mix.wanted_tt rfl rfl rfl | exact Go.Mix.wanted_ff rfl rfl rfl); go_big_quiet_op; refine hK _ ?_; clear hK K) | (refine Go.Flo.fw_skip ?_ (fun K hK => ?_); (first | exact Go.Mix.wanted_tf rfl rfl rfl | exact Go.Mix.wanted_ft rfl rfl rfl); go_simp; refine hK _ ?_; clear hK K) | (refine Go.Flo.fw_any rfl ?_ (fun K hK => ?_); (first | exact Go.Mix.wanted_none rfl | exact Go.Mix.wanted_tt rfl rfl rfl | exact Go.Mix.wanted_ff rfl rfl rfl); go_simp; (try (go_ints; try go_simp)); refine hK _ ?_; clear hK K))
        (refine Go.Flo.fw_calm rfl ?_ (fun K hK => ?_); (first | exact Go.Mix.wanted_none rfl | exact Go.Mix.wanted_tt rfl rfl rfl | exact Go.Mix.wanted_ff rfl rfl rfl); refine Go.Flo.quiet_load_row 67 _ rfl _ rfl _ #[.int .i8 (o 0), .int .i8 (o 1), .int .i8 (o 2), .int .i8 (o 3), .int .i8 (o 4), .int .i8 (o 5)] _ (by rintro _ ⟨i, rfl⟩; exact ((HW.out i).block _ k7).trans e7) Try.underlying67 rfl size_ch ?_; go_simp; refine hK _ ?_; clear hK K)
        refine Go.Flo.fw_loud rfl ?_ rfl (by simp) (fun wv hwv hav K hK => ?_) (fun v hv K hK => ?_)
        · (first | exact Go.Mix.wanted_none rfl | exact Go.Mix.wanted_tt rfl rfl rfl | exact Go.Mix.wanted_ff rfl rfl rfl)
        · obtain ⟨iv, rfl⟩ := hwv
          have hbv := HW.out iv
          (first | go_big_op | go_simp)
          go_at_call 56
          refine (rUnits_any o _ HC.out.2.2).mono ?_
          rintro e w' ⟨rfl, hb⟩
          rw [← HUO.out]
          exact hK _ _ (Go.Flo.owes_is _ rfl hb)
        obtain rfl := hv.is
        go_simp
        refine hK _ ?_
        clear hK K hv
        (first | (refine Go.Flo.fw_calm rfl ?_ (fun K hK => ?_); (first | exact Go.Mix.wanted_none rfl | exact Go.Mix.wanted_tt rfl rfl rfl | exact Go.Mix.wanted_ff rfl rfl rfl); go_big_quiet_op; refine hK _ ?_; clear hK K) | (refine Go.Flo.fw_skip ?_ (fun K hK => ?_); (first | exact Go.Mix.wanted_tf rfl rfl rfl | exact Go.Mix.wanted_ft rfl rfl rfl); go_simp; refine hK _ ?_; clear hK K) | (refine Go.Flo.fw_any rfl ?_ (fun K hK => ?_); (first | exact Go.Mix.wanted_none rfl | exact Go.Mix.wanted_tt rfl rfl rfl | exact Go.Mix.wanted_ff rfl rfl rfl); go_simp; (try (go_ints; try go_simp)); refine hK _ ?_; clear hK K))
        refine Go.Flo.fw_loud rfl ?_ rfl (by simp) (fun wv hwv hav K hK => ?_) (fun v hv K hK => ?_)
        · (first | exact Go.Mix.wanted_none rfl | exact Go.Mix.wanted_tt rfl rfl rfl | exact Go.Mix.wanted_ff rfl rfl rfl)
        · obtain ⟨iv, rfl⟩ := hwv
          have hbv := HW.out iv
          (first | go_big_op | go_simp)
          go_at_call 55
          refine (rLess_any uo pw _ huo1 hpw).mono ?_
          rintro e w' ⟨rfl, rfl⟩
          rw [show lessS uo pw = s by rw [HUO.out, HSL.out.1]]
          exact hK _ _ (Go.Flo.owes_is _ rfl (Below.refl _ _))
        obtain rfl := hv.is
        go_simp
        refine hK _ ?_
        clear hK K hv
        refine Go.Flo.fw_loud rfl ?_ rfl (by simp) (fun wv hwv hav K hK => ?_) (fun v hv K hK => ?_)
        · (first | exact Go.Mix.wanted_none rfl | exact Go.Mix.wanted_tt rfl rfl rfl | exact Go.Mix.wanted_ff rfl rfl rfl)
        · obtain ⟨iv, rfl⟩ := hwv
          have hbv := HW.out iv
          (first | go_big_op | go_simp)
          go_at_call 50
          refine (same_tn ya yl yc _ s _ hs1 HSL.out.2 (Nat.le_trans hsz hbv.size) (HE2.out.rd.below' hbv hsz)).mono ?_
          rintro e w' ⟨rfl, hb⟩
          exact hK _ _ (Go.Flo.owes_is _ rfl hb)
        obtain rfl := hv.is
        go_simp
        refine hK _ ?_
        clear hK K hv
        (repeat (first | (refine Go.Flo.fw_calm rfl ?_ (fun K hK => ?_); (first | exact Go.Mix.wanted_none rfl | exact Go.Mix.wanted_tt rfl rfl rfl | exact Go.Mix.wanted_ff rfl rfl rfl); go_big_quiet_op; refine hK _ ?_; clear hK K) | (refine Go.Flo.fw_skip ?_ (fun K hK => ?_); (first | exact Go.Mix.wanted_tf rfl rfl rfl | exact Go.Mix.wanted_ft rfl rfl rfl); go_simp; refine hK _ ?_; clear hK K) | (refine Go.Flo.fw_any rfl ?_ (fun K hK => ?_); (first | exact Go.Mix.wanted_none rfl | exact Go.Mix.wanted_tt rfl rfl rfl | exact Go.Mix.wanted_ff rfl rfl rfl); go_simp; (try (go_ints; try go_simp)); refine hK _ ?_; clear hK K)))
        refine Go.Flo.fw_nil ?_
        intro wz hwwz hfwz huwz
        refine Go.Flo.tw_nil ?_
        obtain ⟨iend, hiend⟩ := hwwz
        have hbwz := HW.out iend
        rw [← hiend] at hbwz
        clear hiend iend huwz
        have HB := Lib.hid (HE2.out.be.trans (hbwz.mono HE2.out.be.size))
        clear hfwz HJ HW hne hbwz e7 e14 e18 e19 e20 HE2 HEQ
        go_wp2_with fail
        go_ret
        exact ⟨rfl, HB.out⟩
      · have hp0 : p ≠ 0 := fun h => h3 (HZ.out.1 h)
        have b11 := HS3.out.b11
        have b7 := HS3.out.b7
        have HST := Lib.hid (fun w => Start_busy p F t o pw w hp0)
        have hpb : (p != 0) = true := by simpa using hp0
        go_wp2_with (first | ((with_reducible show wpList _ _ _ (_ :: _) _ _); refine wpList_load_row rfl 96 _ rfl _ rfl _ _ _ _ b11 Try.underlying96 rfl (by exact size_tn) ?_; (try go_simp)) | ((with_reducible show wpList _ _ _ (_ :: _) _ _); refine wpList_load_row rfl 67 _ rfl _ rfl _ _ _ _ b7 Try.underlying67 rfl (by exact size_ch) ?_; (try go_simp)))
        go_at_call 54
        refine (HST.out _).mono ?_
        rintro e wf ⟨rfl, hb⟩
        skip
        obtain ⟨q1, q2, q3, q4, q5⟩ := pairBox wf #[.int .u8 p, .int .i8 (F 0), .int .i8 (F 1), .int .i8 (F 2), .int .i8 (F 3), .int .i8 (F 4), .int .i8 (F 5), .int .i8 (t 0), .int .i8 (t 1), .int .i8 (t 2), .int .i8 (t 3), .int .i8 (t 4), .int .i8 (t 5)] #[.slice none 0 0, .slice none 0 0, .bool false, .int .u16 0]
        obtain ⟨wA, hwA⟩ : ∃ x, (wf.alloc (.cells #[.int .u8 0, .int .i8 0, .int .i8 0, .int .i8 0, .int .i8 0, .int .i8 0, .int .i8 0, .int .i8 0, .int .i8 0, .int .i8 0, .int .i8 0, .int .i8 0, .int .i8 0] 96)).alloc (.cells #[.slice none 0 0, .slice none 0 0, .bool false, .int .u16 0] 98) = x := ⟨_, rfl⟩
        rw [hwA] at q1 q2 q3 q4 q5
        obtain ⟨wB, hwB⟩ : ∃ x, wA.setRow wf.heap.size #[.int .u8 p, .int .i8 (F 0), .int .i8 (F 1), .int .i8 (F 2), .int .i8 (F 3), .int .i8 (F 4), .int .i8 (F 5), .int .i8 (t 0), .int .i8 (t 1), .int .i8 (t 2), .int .i8 (t 3), .int .i8 (t 4), .int .i8 (t 5)] = x := ⟨_, rfl⟩
        rw [hwB] at q2 q3 q4 q5
        obtain ⟨wC, hwC⟩ : ∃ x, wB.setRow (wf.heap.size + 1) #[.slice none 0 0, .slice none 0 0, .bool false, .int .u16 0] = x := ⟨_, rfl⟩
        rw [hwC] at q3 q4 q5
        have hS4 := HS3.out.step hb
        have HS5 := Lib.hid (hS4.step q5)
        have H14 := Lib.hid (box_below (box_below h14 hb (box_lt h14)) q5 (box_lt (box_below h14 hb (box_lt h14))))
        have Q3 := Lib.hid q3
        clear hb HST HS3 h14 hS4 q3 q4 q5 b11 b7
        go_upto_region 10 with (first | ((with_reducible show wpList _ _ _ (_ :: _) _ _); (try rw [hwA]); refine wpList_store_row rfl 96 _ _ rfl _ _ rfl rfl _ _ q1 (by exact size_tn) (by rfl) (by simp [Value.oneCell']) ?_; rw [hwB]) | ((with_reducible show wpList _ _ _ (_ :: _) _ _); refine wpList_store_row rfl 98 _ _ rfl _ _ rfl rfl _ _ q2 (by exact size_st) (by rfl) (by simp [Value.oneCell']) ?_; rw [hwC]))
        clear hwA hwB hwC q1 q2
        have b11 := HS5.out.b11
        go_wp2_with (((with_reducible show wpList _ _ _ (_ :: _) _ _); refine wpList_load_row rfl 96 _ rfl _ rfl _ _ _ _ b11 Try.underlying96 rfl (by exact size_tn) ?_; (try go_simp)))
        go_at_call 52
        refine (Busy_any p F t _).mono ?_
        rintro e wg ⟨rfl, hb⟩
        rw [hpb]
        have HS6 := Lib.hid (HS5.out.step hb)
        have H146 := Lib.hid (box_below H14.out hb (box_lt H14.out))
        have q3 := box_below Q3.out hb (box_lt Q3.out)
        clear hb HS5 H14 b11 Q3
        have b11 := HS6.out.b11
        have hne := neqTn HBD.out hokf HC.out.2.1
        go_upto_region 12 with (first | (refine wpLoadGT (by (first | exact Go.Mix.wanted_none rfl | exact Go.Mix.wanted_tt rfl rfl rfl | exact Go.Mix.wanted_ff rfl rfl rfl)) 96 _ rfl _ rfl _ _ _ _ q3 Try.underlying96 rfl (by exact size_tn) ?_; (try go_simp)) | (refine wpLoadGT (by (first | exact Go.Mix.wanted_none rfl | exact Go.Mix.wanted_tt rfl rfl rfl | exact Go.Mix.wanted_ff rfl rfl rfl)) 96 _ rfl _ rfl _ _ _ _ b11 Try.underlying96 rfl (by exact size_tn) ?_; (try go_simp)))
        clear hne q3 b11
        skip
        have b11 := HS6.out.b11
        go_wp2_with (((with_reducible show wpList _ _ _ (_ :: _) _ _); refine wpList_load_row rfl 96 _ rfl _ rfl _ _ _ _ b11 Try.underlying96 rfl (by exact size_tn) ?_; (try go_simp)))
        go_at_call 53
        refine (Stop_any p F t _).mono ?_
        rintro e wh ⟨rfl, hb⟩
        rw [HACT.out]
        have hS7 := HS6.out.step hb
        have h147 := box_below H146.out hb (box_lt H146.out)
        have hal : Below wh.heap.size wh (wh.alloc (.cells #[.int .u8 0, .int .i8 (A 0), .int .i8 (A 1), .int .i8 (A 2), .int .i8 (A 3), .int .i8 (A 4), .int .i8 (A 5), .int .i8 (A 0), .int .i8 (A 1), .int .i8 (A 2), .int .i8 (A 3), .int .i8 (A 4), .int .i8 (A 5)] 96)) := by repeat' (first | (with_reducible exact Below.refl _ _) | (with_reducible assumption) | (with_reducible refine Below.setCell ?_ ?_ _) | (with_reducible refine Below.alloc ?_ ?_ _) | (with_reducible refine Below.drew ?_) | (with_reducible refine Below.drawsN ?_ _) | go_size)
        have h18 := heap_alloc_new wh (.cells #[.int .u8 0, .int .i8 (A 0), .int .i8 (A 1), .int .i8 (A 2), .int .i8 (A 3), .int .i8 (A 4), .int .i8 (A 5), .int .i8 (A 0), .int .i8 (A 1), .int .i8 (A 2), .int .i8 (A 3), .int .i8 (A 4), .int .i8 (A 5)] 96)
        have hS8 := hS7.step hal
        have h148 := box_below h147 hal (box_lt h147)
        obtain ⟨wi, hwi⟩ : ∃ wi, wh.alloc (.cells #[.int .u8 0, .int .i8 (A 0), .int .i8 (A 1), .int .i8 (A 2), .int .i8 (A 3), .int .i8 (A 4), .int .i8 (A 5), .int .i8 (A 0), .int .i8 (A 1), .int .i8 (A 2), .int .i8 (A 3), .int .i8 (A 4), .int .i8 (A 5)] 96) = wi := ⟨_, rfl⟩
        rw [hwi] at h18 hS8 h148
        have HS8 := Lib.hid hS8
        have H148 := Lib.hid h148
        clear hb b11 HS6 H146 hS7 h147 hal hS8 h148
        go_upto_region 13 with ((with_reducible show wpList _ _ _ (_ :: _) _ _); refine wpList_store_row rfl 96 _ _ rfl _ _ rfl rfl _ _ (heap_alloc_new _ _) (by exact size_tn) (by rfl) (by simp [Value.oneCell']) ?_; rw [World.setRow_alloc_new, hwi])
        clear hwi
        obtain ⟨g18, hg18⟩ : ∃ g, g = wh.heap.size := ⟨_, rfl⟩
        rw [← hg18] at h18 ⊢
        clear hg18
        have b7 := HS8.out.b7
        have HST := Lib.hid (fun w => Start_idle A A o pw w HC.out.2.2 hpw)
        go_wp2_with (first | ((with_reducible show wpList _ _ _ (_ :: _) _ _); refine wpList_load_row rfl 96 _ rfl _ rfl _ _ _ _ h18 Try.underlying96 rfl (by exact size_tn) ?_; (try go_simp)) | ((with_reducible show wpList _ _ _ (_ :: _) _ _); refine wpList_load_row rfl 67 _ rfl _ rfl _ _ _ _ b7 Try.underlying67 rfl (by exact size_ch) ?_; (try go_simp)))
        go_at_call 54
        refine (HST.out _).mono ?_
        rintro e wj ⟨v, rfl, hown, hb⟩
        obtain ⟨ya, yc, rfl⟩ := own_formZ hown
        obtain ⟨s, hs⟩ : ∃ s, s = lessS (unitsS o 6) pw := ⟨_, rfl⟩
        rw [← hs] at hown ⊢
        obtain ⟨yl, hyl⟩ : ∃ yl, yl = (upTo s 16).length := ⟨_, rfl⟩
        rw [← hyl] at hown ⊢
        have hrd := rd_of_own (f := zv (upTo s 16)) hown (fun i hi => zl_zv _ i (by omega))
        skip
        obtain ⟨q1, q2, q3, q4, q5⟩ := pairBox wj #[.int .u8 1, .int .i8 (A 0), .int .i8 (A 1), .int .i8 (A 2), .int .i8 (A 3), .int .i8 (A 4), .int .i8 (A 5), .int .i8 (o 0), .int .i8 (o 1), .int .i8 (o 2), .int .i8 (o 3), .int .i8 (o 4), .int .i8 (o 5)] #[.slice ya yl yc, .slice none 0 0, .bool false, .int .u16 0]
        obtain ⟨wA, hwA⟩ : ∃ x, (wj.alloc (.cells #[.int .u8 0, .int .i8 0, .int .i8 0, .int .i8 0, .int .i8 0, .int .i8 0, .int .i8 0, .int .i8 0, .int .i8 0, .int .i8 0, .int .i8 0, .int .i8 0, .int .i8 0] 96)).alloc (.cells #[.slice none 0 0, .slice none 0 0, .bool false, .int .u16 0] 98) = x := ⟨_, rfl⟩
        rw [hwA] at q1 q2 q3 q4 q5
        obtain ⟨wB, hwB⟩ : ∃ x, wA.setRow wj.heap.size #[.int .u8 1, .int .i8 (A 0), .int .i8 (A 1), .int .i8 (A 2), .int .i8 (A 3), .int .i8 (A 4), .int .i8 (A 5), .int .i8 (o 0), .int .i8 (o 1), .int .i8 (o 2), .int .i8 (o 3), .int .i8 (o 4), .int .i8 (o 5)] = x := ⟨_, rfl⟩
        rw [hwB] at q2 q3 q4 q5
        obtain ⟨wC, hwC⟩ : ∃ x, wB.setRow (wj.heap.size + 1) #[.slice ya yl yc, .slice none 0 0, .bool false, .int .u16 0] = x := ⟨_, rfl⟩
        rw [hwC] at q3 q4 q5
        have hS9 := (HS8.out.step hb).step q5
        have h149 := box_below (box_below H148.out hb (box_lt H148.out)) q5 (box_lt (box_below H148.out hb (box_lt H148.out)))
        have h189 := box_below (box_below h18 hb (box_lt h18)) q5 (box_lt (box_below h18 hb (box_lt h18)))
        have HE0 := Lib.hid (show AgE w wC g5 g6 g7 g14 g18 wj.heap.size (wj.heap.size + 1) f t A o ya yl yc (upTo s 16) wC.heap.size from ⟨hS9.be, hS9.b5, hS9.b6, hS9.b7, h149, h189, q3, q4, (hrd.below q5).mono q5.size, Nat.le_refl _, hS9.be.size, box_lt hS9.b5, box_lt hS9.b6, box_lt hS9.b7, box_lt h149, box_lt h189, box_lt q3, box_lt q4⟩)
        have HSL := Lib.hid (show s = lessS (unitsS o 6) pw ∧ yl = (upTo s 16).length from ⟨hs, hyl⟩)
        clear hown hb hs hyl hrd HST HS8 H148 hS9 h149 h189 q3 q4 q5 b7 h18
        go_upto_region 14 with (first | ((with_reducible show wpList _ _ _ (_ :: _) _ _); (try rw [hwA]); refine wpList_store_row rfl 96 _ _ rfl _ _ rfl rfl _ _ q1 (by exact size_tn) (by rfl) (by simp [Value.oneCell']) ?_; rw [hwB]) | ((with_reducible show wpList _ _ _ (_ :: _) _ _); refine wpList_store_row rfl 98 _ _ rfl _ _ rfl rfl _ _ q2 (by exact size_st) (by rfl) (by simp [Value.oneCell']) ?_; rw [hwC]))
        clear hwA hwB hwC q1 q2
        obtain ⟨g20, hg20⟩ : ∃ g, g = wj.heap.size + 1 := ⟨_, rfl⟩
        rw [← hg20] at HE0 ⊢
        obtain ⟨g19, hg19⟩ : ∃ g, g = wj.heap.size := ⟨_, rfl⟩
        rw [← hg19] at HE0 ⊢
        clear hg19 hg20
        have b5 := HE0.out.b5
        have hal : Below wC.heap.size wC (wC.alloc (.cells #[.int .i8 (f 0), .int .i8 (f 1), .int .i8 (f 2), .int .i8 (f 3), .int .i8 (f 4), .int .i8 (f 5)] 67)) := by repeat' (first | (with_reducible exact Below.refl _ _) | (with_reducible assumption) | (with_reducible refine Below.setCell ?_ ?_ _) | (with_reducible refine Below.alloc ?_ ?_ _) | (with_reducible refine Below.drew ?_) | (with_reducible refine Below.drawsN ?_ _) | go_size)
        have h22 := heap_alloc_new wC (.cells #[.int .i8 (f 0), .int .i8 (f 1), .int .i8 (f 2), .int .i8 (f 3), .int .i8 (f 4), .int .i8 (f 5)] 67)
        obtain ⟨wk, hwk⟩ : ∃ wk, wC.alloc (.cells #[.int .i8 (f 0), .int .i8 (f 1), .int .i8 (f 2), .int .i8 (f 3), .int .i8 (f 4), .int .i8 (f 5)] 67) = wk := ⟨_, rfl⟩
        rw [hwk] at h22 hal
        have HE1 := Lib.hid (HE0.out.step hal (Nat.le_refl _))
        clear hal HE0
        go_upto_region 15 with (first | ((with_reducible show wpList _ _ _ (_ :: _) _ _); refine wpList_load_row rfl 67 _ rfl _ rfl _ _ _ _ b5 Try.underlying67 rfl (by exact size_ch) ?_; (try go_simp)) | ((with_reducible show wpList _ _ _ (_ :: _) _ _); refine wpList_store_row rfl 67 _ _ rfl _ _ rfl rfl _ _ (heap_alloc_new _ _) (by exact size_ch) (by rfl) (by simp [Value.oneCell']) ?_; rw [World.setRow_alloc_new, hwk]))
        clear hwk b5
        obtain ⟨g22, hg22⟩ : ∃ g, g = wC.heap.size := ⟨_, rfl⟩
        rw [← hg22] at h22 HE1 ⊢
        clear hg22
        by_cases h2 : 2 ≤ k
        · have hge : (2 : Int) ≤ (st : Int) % 5 := by have := HKE.out; omega
          have HAt := Lib.hid (show A = t by rw [HA.out]; unfold agA; rw [if_neg (by omega)])
          skip
          have b6 := HE1.out.b6
          have HE2 := Lib.hid (HE1.out.step (show Below g22 wk (wk.setRow g22 #[.int .i8 (t 0), .int .i8 (t 1), .int .i8 (t 2), .int .i8 (t 3), .int .i8 (t 4), .int .i8 (t 5)]) from ⟨rfl, rfl, rfl, by simp [World.setRow], fun i hi => setRow_other _ g22 i _ (by omega)⟩) (Nat.le_refl _))
          have h23 := setRow_heap wk g22 _ #[.int .i8 (t 0), .int .i8 (t 1), .int .i8 (t 2), .int .i8 (t 3), .int .i8 (t 4), .int .i8 (t 5)] _ _ h22
          obtain ⟨wl, hwl⟩ : ∃ wl, wk.setRow g22 #[.int .i8 (t 0), .int .i8 (t 1), .int .i8 (t 2), .int .i8 (t 3), .int .i8 (t 4), .int .i8 (t 5)] = wl := ⟨_, rfl⟩
          rw [hwl] at HE2 h23
          clear HE1
          go_upto_region 17 with (first | ((with_reducible show wpList _ _ _ (_ :: _) _ _); refine wpList_load_row rfl 67 _ rfl _ rfl _ _ _ _ b6 Try.underlying67 rfl (by exact size_ch) ?_; (try go_simp)) | (((with_reducible show wpList _ _ _ (_ :: _) _ _); refine wpList_store_row rfl 67 _ _ rfl _ _ rfl rfl _ _ h22 (by exact size_ch) (by rfl) (by simp [Value.oneCell']) ?_); rw [hwl]))
          clear hwl h22 b6 hge
          rw [← HAt.out] at h23
          skip
          have e7 := HE2.out.b7
          have e14 := HE2.out.b14
          have e18 := HE2.out.b18
          have e19 := HE2.out.b19
          have e20 := HE2.out.b20
          obtain ⟨l5, l6, l7, l14, l18, l19, l20⟩ := HE2.out.lt
          have hsz := HE2.out.sz
          have k7 : g7 < wl.heap.size := by omega
          have k14 : g14 < wl.heap.size := by omega
          have k18 : g18 < wl.heap.size := by omega
          have k19 : g19 < wl.heap.size := by omega
          have k20 : g20 < wl.heap.size := by omega
          have k22 := box_lt h23
          obtain ⟨uo, huo⟩ : ∃ uo, uo = unitsS o 6 := ⟨_, rfl⟩
          have huo1 : uo < 65536 := by rw [huo]; exact unitsS_lt o 6
          have HUO := Lib.hid huo
          have hs1 : s < 65536 := by rw [HSL.out.1]; exact lessS_lt (unitsS_lt o 6)
          clear l5 l6 l7 l14 l18 l19 l20 huo
          obtain ⟨I, W, hne, hWI, hIW⟩ := Go.Mix.family (fun v => Below wl.heap.size wl v) (Below.refl _ _)
          have HJ := Lib.hid hIW
          have HW := Lib.hid hWI
          clear hWI hIW
          refine Go.Flo.wp_region (fun w' => ∃ i, w' = W i) 38 [Go.Flo.Spec.is (.agg #[.int .i8 (A 0), .int .i8 (A 1), .int .i8 (A 2), .int .i8 (A 3), .int .i8 (A 4), .int .i8 (A 5)]), Go.Flo.Spec.is (.bool false), Go.Flo.Spec.is (.agg #[.int .i8 (A 0), .int .i8 (A 1), .int .i8 (A 2), .int .i8 (A 3), .int .i8 (A 4), .int .i8 (A 5)]), Go.Flo.Spec.is (.bool true), Go.Flo.Spec.is (.int .u16 (uo : Nat)), Go.Flo.Spec.is (.int .u16 (s : Nat)), Go.Flo.Spec.is (.bool true)] (by kernel_rfl) (by kernel_rfl) (by decide) (by rintro _ w' ⟨i, rfl⟩ hb; exact HJ.out _ ((HW.out i).trans (hb.mono (HW.out i).size))) (HJ.out _ (Below.refl _ _).drew) ?_
          simp only [Go.Flo.pair, Go.Mix.calm, List.take, List.drop, if_true, Bool.false_eq_true, if_false, Nat.reduceAdd, Nat.reduceSub]
          have he : ∀ w, (binOp .eql 67 (.agg #[.int .i8 (A 0), .int .i8 (A 1), .int .i8 (A 2), .int .i8 (A 3), .int .i8 (A 4), .int .i8 (A 5)]) (.agg #[.int .i8 (A 0), .int .i8 (A 1), .int .i8 (A 2), .int .i8 (A 3), .int .i8 (A 4), .int .i8 (A 5)])).run Try.prog w = .ok (.bool true) w := fun w => by rw [eqlCh hokA hokA, sameC_refl]
          have HEQ := Lib.hid he
          clear he
          (refine Go.Flo.fw_calm rfl ?_ (fun K hK => ?_); (first | exact Go.Mix.wanted_none rfl | exact Go.Mix.wanted_tt rfl rfl rfl | exact Go.Mix.wanted_ff rfl rfl rfl); refine Go.Flo.quiet_load_row 67 _ rfl _ rfl _ #[.int .i8 (A 0), .int .i8 (A 1), .int .i8 (A 2), .int .i8 (A 3), .int .i8 (A 4), .int .i8 (A 5)] _ (by rintro _ ⟨i, rfl⟩; exact ((HW.out i).block _ k14).trans e14) Try.underlying67 rfl size_ch ?_; go_simp; refine hK _ ?_; clear hK K)
          (refine Go.Flo.fw_calm rfl ?_ (fun K hK => ?_); (first | exact Go.Mix.wanted_none rfl | exact Go.Mix.wanted_tt rfl rfl rfl | exact Go.Mix.wanted_ff rfl rfl rfl); refine Go.Flo.quiet_load_row 67 _ rfl _ rfl _ #[.int .i8 (A 0), .int .i8 (A 1), .int .i8 (A 2), .int .i8 (A 3), .int .i8 (A 4), .int .i8 (A 5)] _ (by rintro _ ⟨i, rfl⟩; exact ((HW.out i).block _ k22).trans h23) Try.underlying67 rfl size_ch ?_; go_simp; refine hK _ ?_; clear hK K)
          have he := HEQ.out
          (first | (refine Go.Flo.fw_calm rfl ?_ (fun K hK => ?_); (first | exact Go.Mix.wanted_none rfl | exact Go.Mix.wanted_tt rfl rfl rfl | exact Go.Mix.wanted_ff rfl rfl rfl); go_big_quiet_op; refine hK _ ?_; clear hK K) | (refine Go.Flo.fw_skip ?_ (fun K hK => ?_); (first | exact Go.Mix.wanted_tf rfl rfl rfl | exact Go.Mix.wanted_ft rfl rfl rfl); go_simp; refine hK _ ?_; clear hK K) | (refine Go.Flo.fw_any rfl ?_ (fun K hK => ?_); (first | exact Go.Mix.wanted_none rfl | exact Go.Mix.wanted_tt rfl rfl rfl | exact Go.Mix.wanted_ff rfl rfl rfl); go_simp; (try (go_ints; try go_simp)); refine hK _ ?_; clear hK K))
          clear he
          (first | (refine Go.Flo.fw_calm rfl ?_ (fun K hK => ?_); (first | exact Go.Mix.wanted_none rfl | exact Go.Mix.wanted_tt rfl rfl rfl | exact Go.Mix.wanted_ff rfl rfl rfl); go_big_quiet_op; refine hK _ ?_; clear hK K) | (refine Go.Flo.fw_skip ?_ (fun K hK => ?_); (first | exact Go.Mix.wanted_tf rfl rfl rfl | exact Go.Mix.wanted_ft rfl rfl rfl); go_simp; refine hK _ ?_; clear hK K) | (refine Go.Flo.fw_any rfl ?_ (fun K hK => ?_); (first | exact Go.Mix.wanted_none rfl | exact Go.Mix.wanted_tt rfl rfl rfl | exact Go.Mix.wanted_ff rfl rfl rfl); go_simp; (try (go_ints; try go_simp)); refine hK _ ?_; clear hK K))
          (refine Go.Flo.fw_calm rfl ?_ (fun K hK => ?_); (first | exact Go.Mix.wanted_none rfl | exact Go.Mix.wanted_tt rfl rfl rfl | exact Go.Mix.wanted_ff rfl rfl rfl); refine Go.Flo.quiet_load_row 96 _ rfl _ rfl _ #[.int .u8 0, .int .i8 (A 0), .int .i8 (A 1), .int .i8 (A 2), .int .i8 (A 3), .int .i8 (A 4), .int .i8 (A 5), .int .i8 (A 0), .int .i8 (A 1), .int .i8 (A 2), .int .i8 (A 3), .int .i8 (A 4), .int .i8 (A 5)] _ (by rintro _ ⟨i, rfl⟩; exact ((HW.out i).block _ k18).trans e18) Try.underlying96 rfl size_tn ?_; go_simp; refine hK _ ?_; clear hK K)
          refine Go.Flo.fw_loud rfl ?_ rfl (by simp) (fun wv hwv hav K hK => ?_) (fun v hv K hK => ?_)
          · (first | exact Go.Mix.wanted_none rfl | exact Go.Mix.wanted_tt rfl rfl rfl | exact Go.Mix.wanted_ff rfl rfl rfl)
          · obtain ⟨iv, rfl⟩ := hwv
            have hbv := HW.out iv
            (first | go_big_op | go_simp)
            go_at_call 51
            refine (Active_any 0 A A _).mono ?_
            rintro e w' ⟨rfl, hb⟩
            rw [actC_same]
            exact hK _ _ (Go.Flo.owes_is _ rfl hb)
          obtain rfl := hv.is
          go_simp
          refine hK _ ?_
          clear hK K hv
          (refine Go.Flo.fw_calm rfl ?_ (fun K hK => ?_); (first | exact Go.Mix.wanted_none rfl | exact Go.Mix.wanted_tt rfl rfl rfl | exact Go.Mix.wanted_ff rfl rfl rfl); refine Go.Flo.quiet_load_row 67 _ rfl _ rfl _ #[.int .i8 (A 0), .int .i8 (A 1), .int .i8 (A 2), .int .i8 (A 3), .int .i8 (A 4), .int .i8 (A 5)] _ (by rintro _ ⟨i, rfl⟩; exact ((HW.out i).block _ k14).trans e14) Try.underlying67 rfl size_ch ?_; go_simp; refine hK _ ?_; clear hK K)
          have he := HEQ.out
          (first | (refine Go.Flo.fw_calm rfl ?_ (fun K hK => ?_); (first | exact Go.Mix.wanted_none rfl | exact Go.Mix.wanted_tt rfl rfl rfl | exact Go.Mix.wanted_ff rfl rfl rfl); go_big_quiet_op; refine hK _ ?_; clear hK K) | (refine Go.Flo.fw_skip ?_ (fun K hK => ?_); (first | exact Go.Mix.wanted_tf rfl rfl rfl | exact Go.Mix.wanted_ft rfl rfl rfl); go_simp; refine hK _ ?_; clear hK K) | (refine Go.Flo.fw_any rfl ?_ (fun K hK => ?_); (first | exact Go.Mix.wanted_none rfl | exact Go.Mix.wanted_tt rfl rfl rfl | exact Go.Mix.wanted_ff rfl rfl rfl); go_simp; (try (go_ints; try go_simp)); refine hK _ ?_; clear hK K))
          clear he
          (first | (refine Go.Flo.fw_calm rfl ?_ (fun K hK => ?_); (first | exact Go.Mix.wanted_none rfl | exact Go.Mix.wanted_tt rfl rfl rfl | exact Go.Mix.wanted_ff rfl rfl rfl); go_big_quiet_op; refine hK _ ?_; clear hK K) | (refine Go.Flo.fw_skip ?_ (fun K hK => ?_); (first | exact Go.Mix.wanted_tf rfl rfl rfl | exact Go.Mix.wanted_ft rfl rfl rfl); go_simp; refine hK _ ?_; clear hK K) | (refine Go.Flo.fw_any rfl ?_ (fun K hK => ?_); (first | exact Go.Mix.wanted_none rfl | exact Go.Mix.wanted_tt rfl rfl rfl | exact Go.Mix.wanted_ff rfl rfl rfl); go_simp; (try (go_ints; try go_simp)); refine hK _ ?_; clear hK K))
          (first | (refine Go.Flo.fw_calm rfl ?_ (fun K hK => ?_); (first | exact Go.Mix.wanted_none rfl | exact Go.Mix.wanted_tt rfl rfl rfl | exact Go.Mix.wanted_ff rfl rfl rfl); go_big_quiet_op; refine hK _ ?_; clear hK K) | (refine Go.Flo.fw_skip ?_ (fun K hK => ?_); (first | exact Go.Mix.wanted_tf rfl rfl rfl | exact Go.Mix.wanted_ft rfl rfl rfl); go_simp; refine hK _ ?_; clear hK K) | (refine Go.Flo.fw_any rfl ?_ (fun K hK => ?_); (first | exact Go.Mix.wanted_none rfl | exact Go.Mix.wanted_tt rfl rfl rfl | exact Go.Mix.wanted_ff rfl rfl rfl); go_simp; (try (go_ints; try go_simp)); refine hK _ ?_; clear hK K))
          (refine Go.Flo.fw_calm rfl ?_ (fun K hK => ?_); (first | exact Go.Mix.wanted_none rfl | exact Go.Mix.wanted_tt rfl rfl rfl | exact Go.Mix.wanted_ff rfl rfl rfl); refine Go.Flo.quiet_load_row 96 _ rfl _ rfl _ #[.int .u8 0, .int .i8 (A 0), .int .i8 (A 1), .int .i8 (A 2), .int .i8 (A 3), .int .i8 (A 4), .int .i8 (A 5), .int .i8 (A 0), .int .i8 (A 1), .int .i8 (A 2), .int .i8 (A 3), .int .i8 (A 4), .int .i8 (A 5)] _ (by rintro _ ⟨i, rfl⟩; exact ((HW.out i).block _ k18).trans e18) Try.underlying96 rfl size_tn ?_; go_simp; refine hK _ ?_; clear hK K)
          refine Go.Flo.fw_loud rfl ?_ rfl (by simp) (fun wv hwv hav K hK => ?_) (fun v hv K hK => ?_)
          · (first | exact Go.Mix.wanted_none rfl | exact Go.Mix.wanted_tt rfl rfl rfl | exact Go.Mix.wanted_ff rfl rfl rfl)
          · obtain ⟨iv, rfl⟩ := hwv
            have hbv := HW.out iv
            (first | go_big_op | go_simp)
            go_at_call 52
            refine (Busy_any 0 A A _).mono ?_
            rintro e w' ⟨rfl, hb⟩
            exact hK _ _ (Go.Flo.owes_is _ rfl hb)
          obtain rfl := hv.is
          go_simp
          refine hK _ ?_
          clear hK K hv
          (first | (refine Go.Flo.fw_calm rfl ?_ (fun K hK => ?_); (first | exact Go.Mix.wanted_none rfl | exact Go.Mix.wanted_tt rfl rfl rfl | exact Go.Mix.wanted_ff rfl rfl rfl); go_big_quiet_op; refine hK _ ?_; clear hK K) | (refine Go.Flo.fw_skip ?_ (fun K hK => ?_); (first | exact Go.Mix.wanted_tf rfl rfl rfl | exact Go.Mix.wanted_ft rfl rfl rfl); go_simp; refine hK _ ?_; clear hK K) | (refine Go.Flo.fw_any rfl ?_ (fun K hK => ?_); (first | exact Go.Mix.wanted_none rfl | exact Go.Mix.wanted_tt rfl rfl rfl | exact Go.Mix.wanted_ff rfl rfl rfl); go_simp; (try (go_ints; try go_simp)); refine hK _ ?_; clear hK K))
          (first | (refine Go.Flo.fw_calm rfl ?_ (fun K hK => ?_); (first | exact Go.Mix.wanted_none rfl | exact Go.Mix.wanted_tt rfl rfl rfl | exact Go.Mix.wanted_ff rfl rfl rfl); go_big_quiet_op; refine hK _ ?_; clear hK K) | (refine Go.Flo.fw_skip ?_ (fun K hK => ?_); (first | exact Go.Mix.wanted_tf rfl rfl rfl | exact Go.Mix.wanted_ft rfl rfl rfl); go_simp; refine hK _ ?_; clear hK K) | (refine Go.Flo.fw_any rfl ?_ (fun K hK => ?_); (first | exact Go.Mix.wanted_none rfl | exact Go.Mix.wanted_tt rfl rfl rfl | exact Go.Mix.wanted_ff rfl rfl rfl); go_simp; (try (go_ints; try go_simp)); refine hK _ ?_; clear hK K))
          (first | (refine Go.Flo.fw_calm rfl ?_ (fun K hK => ?_); (first | exact Go.Mix.wanted_none rfl | exact Go.Mix.wanted_tt rfl rfl rfl | exact Go.Mix.wanted_ff rfl rfl rfl); go_big_quiet_op; refine hK _ ?_; clear hK K) | (refine Go.Flo.fw_skip ?_ (fun K hK => ?_); (first | exact Go.Mix.wanted_tf rfl rfl rfl | exact Go.Mix.wanted_ft rfl rfl rfl); go_simp; refine hK _ ?_; clear hK K) | (refine Go.Flo.fw_any rfl ?_ (fun K hK => ?_); (first | exact Go.Mix.wanted_none rfl | exact Go.Mix.wanted_tt rfl rfl rfl | exact Go.Mix.wanted_ff rfl rfl rfl); go_simp; (try (go_ints; try go_simp)); refine hK _ ?_; clear hK K))
          (first | (refine Go.Flo.fw_calm rfl ?_ (fun K hK => ?_); (first | exact Go.Mix.wanted_none rfl | exact Go.Mix.wanted_tt rfl rfl rfl | exact Go.Mix.wanted_ff rfl rfl rfl); go_big_quiet_op; refine hK _ ?_; clear hK K) | (refine Go.Flo.fw_skip ?_ (fun K hK => ?_); (first | exact Go.Mix.wanted_tf rfl rfl rfl | exact Go.Mix.wanted_ft rfl rfl rfl); go_simp; refine hK _ ?_; clear hK K) | (refine Go.Flo.fw_any rfl ?_ (fun K hK => ?_); (first | exact Go.Mix.wanted_none rfl | exact Go.Mix.wanted_tt rfl rfl rfl | exact Go.Mix.wanted_ff rfl rfl rfl); go_simp; (try (go_ints; try go_simp)); refine hK _ ?_; clear hK K))
          (first | (refine Go.Flo.fw_calm rfl ?_ (fun K hK => ?_); (first | exact Go.Mix.wanted_none rfl | exact Go.Mix.wanted_tt rfl rfl rfl | exact Go.Mix.wanted_ff rfl rfl rfl); go_big_quiet_op; refine hK _ ?_; clear hK K) | (refine Go.Flo.fw_skip ?_ (fun K hK => ?_); (first | exact Go.Mix.wanted_tf rfl rfl rfl | exact Go.Mix.wanted_ft rfl rfl rfl); go_simp; refine hK _ ?_; clear hK K) | (refine Go.Flo.fw_any rfl ?_ (fun K hK => ?_); (first | exact Go.Mix.wanted_none rfl | exact Go.Mix.wanted_tt rfl rfl rfl | exact Go.Mix.wanted_ff rfl rfl rfl); go_simp; (try (go_ints; try go_simp)); refine hK _ ?_; clear hK K))
          (first | (refine Go.Flo.fw_calm rfl ?_ (fun K hK => ?_); (first | exact Go.Mix.wanted_none rfl | exact Go.Mix.wanted_tt rfl rfl rfl | exact Go.Mix.wanted_ff rfl rfl rfl); go_big_quiet_op; refine hK _ ?_; clear hK K) | (refine Go.Flo.fw_skip ?_ (fun K hK => ?_); (first | exact Go.Mix.wanted_tf rfl rfl rfl | exact Go.Mix.wanted_ft rfl rfl rfl); go_simp; refine hK _ ?_; clear hK K) | (refine Go.Flo.fw_any rfl ?_ (fun K hK => ?_); (first | exact Go.Mix.wanted_none rfl | exact Go.Mix.wanted_tt rfl rfl rfl | exact Go.Mix.wanted_ff rfl rfl rfl); go_simp; (try (go_ints; try go_simp)); refine hK _ ?_; clear hK K))
          (first | (refine Go.Flo.fw_calm rfl ?_ (fun K hK => ?_); (first | exact Go.Mix.wanted_none rfl | exact Go.Mix.wanted_tt rfl rfl rfl | exact Go.Mix.wanted_ff rfl rfl rfl); go_big_quiet_op; refine hK _ ?_; clear hK K) | (refine Go.Flo.fw_skip ?_ (fun K hK => ?_); (first | exact Go.Mix.wanted_tf rfl rfl rfl | exact Go.Mix.wanted_ft rfl rfl rfl); go_simp; refine hK _ ?_; clear hK K) | (refine Go.Flo.fw_any rfl ?_ (fun K hK => ?_); (first | exact Go.Mix.wanted_none rfl | exact Go.Mix.wanted_tt rfl rfl rfl | exact Go.Mix.wanted_ff rfl rfl rfl); go_simp; (try (go_ints; try go_simp)); refine hK _ ?_; clear hK K))
          (refine Go.Flo.fw_calm rfl ?_ (fun K hK => ?_); (first | exact Go.Mix.wanted_none rfl | exact Go.Mix.wanted_tt rfl rfl rfl | exact Go.Mix.wanted_ff rfl rfl rfl); refine Go.Flo.quiet_load_row 96 _ rfl _ rfl _ #[.int .u8 1, .int .i8 (A 0), .int .i8 (A 1), .int .i8 (A 2), .int .i8 (A 3), .int .i8 (A 4), .int .i8 (A 5), .int .i8 (o 0), .int .i8 (o 1), .int .i8 (o 2), .int .i8 (o 3), .int .i8 (o 4), .int .i8 (o 5)] _ (by rintro _ ⟨i, rfl⟩; exact ((HW.out i).block _ k19).trans e19) Try.underlying96 rfl size_tn ?_; go_simp; refine hK _ ?_; clear hK K)
          refine Go.Flo.fw_loud rfl ?_ rfl (by simp) (fun wv hwv hav K hK => ?_) (fun v hv K hK => ?_)
          · (first | exact Go.Mix.wanted_none rfl | exact Go.Mix.wanted_tt rfl rfl rfl | exact Go.Mix.wanted_ff rfl rfl rfl)
          · obtain ⟨iv, rfl⟩ := hwv
            have hbv := HW.out iv
            (first | go_big_op | go_simp)
            go_at_call 51
            refine (Active_any 1 A o _).mono ?_
            rintro e w' ⟨rfl, hb⟩
            rw [show actC 1 A o = A from rfl]
            exact hK _ _ (Go.Flo.owes_is _ rfl hb)
          obtain rfl := hv.is
          go_simp
          refine hK _ ?_
          clear hK K hv
          (refine Go.Flo.fw_calm rfl ?_ (fun K hK => ?_); (first | exact Go.Mix.wanted_none rfl | exact Go.Mix.wanted_tt rfl rfl rfl | exact Go.Mix.wanted_ff rfl rfl rfl); refine Go.Flo.quiet_load_row 67 _ rfl _ rfl _ #[.int .i8 (A 0), .int .i8 (A 1), .int .i8 (A 2), .int .i8 (A 3), .int .i8 (A 4), .int .i8 (A 5)] _ (by rintro _ ⟨i, rfl⟩; exact ((HW.out i).block _ k14).trans e14) Try.underlying67 rfl size_ch ?_; go_simp; refine hK _ ?_; clear hK K)
          have he := HEQ.out
          (first | (refine Go.Flo.fw_calm rfl ?_ (fun K hK => ?_); (first | exact Go.Mix.wanted_none rfl | exact Go.Mix.wanted_tt rfl rfl rfl | exact Go.Mix.wanted_ff rfl rfl rfl); go_big_quiet_op; refine hK _ ?_; clear hK K) | (refine Go.Flo.fw_skip ?_ (fun K hK => ?_); (first | exact Go.Mix.wanted_tf rfl rfl rfl | exact Go.Mix.wanted_ft rfl rfl rfl); go_simp; refine hK _ ?_; clear hK K) | (refine Go.Flo.fw_any rfl ?_ (fun K hK => ?_); (first | exact Go.Mix.wanted_none rfl | exact Go.Mix.wanted_tt rfl rfl rfl | exact Go.Mix.wanted_ff rfl rfl rfl); go_simp; (try (go_ints; try go_simp)); refine hK _ ?_; clear hK K))
          clear he
          (first | (refine Go.Flo.fw_calm rfl ?_ (fun K hK => ?_); (first | exact Go.Mix.wanted_none rfl | exact Go.Mix.wanted_tt rfl rfl rfl | exact Go.Mix.wanted_ff rfl rfl rfl); go_big_quiet_op; refine hK _ ?_; clear hK K) | (refine Go.Flo.fw_skip ?_ (fun K hK => ?_); (first | exact Go.Mix.wanted_tf rfl rfl rfl | exact Go.Mix.wanted_ft rfl rfl rfl); go_simp; refine hK _ ?_; clear hK K) | (refine Go.Flo.fw_any rfl ?_ (fun K hK => ?_); (first | exact Go.Mix.wanted_none rfl | exact Go.Mix.wanted_tt rfl rfl rfl | exact Go.Mix.wanted_ff rfl rfl rfl); go_simp; (try (go_ints; try go_simp)); refine hK _ ?_; clear hK K))
          (first | (refine Go.Flo.fw_calm rfl ?_ (fun K hK => ?_); (first | exact Go.Mix.wanted_none rfl | exact Go.Mix.wanted_tt rfl rfl rfl | exact Go.Mix.wanted_ff rfl rfl rfl); go_big_quiet_op; refine hK _ ?_; clear hK K) | (refine Go.Flo.fw_skip ?_ (fun K hK => ?_); (first | exact Go.Mix.wanted_tf rfl rfl rfl | exact Go.Mix.wanted_ft rfl rfl rfl); go_simp; refine hK _ ?_; clear hK K) | (refine Go.Flo.fw_any rfl ?_ (fun K hK => ?_); (first | exact Go.Mix.wanted_none rfl | exact Go.Mix.wanted_tt rfl rfl rfl | exact Go.Mix.wanted_ff rfl rfl rfl); go_simp; (try (go_ints; try go_simp)); refine hK _ ?_; clear hK K))
          (refine Go.Flo.fw_calm rfl ?_ (fun K hK => ?_); (first | exact Go.Mix.wanted_none rfl | exact Go.Mix.wanted_tt rfl rfl rfl | exact Go.Mix.wanted_ff rfl rfl rfl); refine Go.Flo.quiet_load_row 96 _ rfl _ rfl _ #[.int .u8 1, .int .i8 (A 0), .int .i8 (A 1), .int .i8 (A 2), .int .i8 (A 3), .int .i8 (A 4), .int .i8 (A 5), .int .i8 (o 0), .int .i8 (o 1), .int .i8 (o 2), .int .i8 (o 3), .int .i8 (o 4), .int .i8 (o 5)] _ (by rintro _ ⟨i, rfl⟩; exact ((HW.out i).block _ k19).trans e19) Try.underlying96 rfl size_tn ?_; go_simp; refine hK _ ?_; clear hK K)
          refine Go.Flo.fw_loud rfl ?_ rfl (by simp) (fun wv hwv hav K hK => ?_) (fun v hv K hK => ?_)
          · (first | exact Go.Mix.wanted_none rfl | exact Go.Mix.wanted_tt rfl rfl rfl | exact Go.Mix.wanted_ff rfl rfl rfl)
          · obtain ⟨iv, rfl⟩ := hwv
            have hbv := HW.out iv
            (first | go_big_op | go_simp)
            go_at_call 52
            refine (Busy_any 1 A o _).mono ?_
            rintro e w' ⟨rfl, hb⟩
            exact hK _ _ (Go.Flo.owes_is _ rfl hb)
          obtain rfl := hv.is
          go_simp
          refine hK _ ?_
          clear hK K hv
          (first | (refine Go.Flo.fw_calm rfl ?_ (fun K hK => ?_); (first | exact Go.Mix.wanted_none rfl | exact Go.Mix.wanted_tt rfl rfl rfl | exact Go.Mix.wanted_ff rfl rfl rfl); go_big_quiet_op; refine hK _ ?_; clear hK K) | (refine Go.Flo.fw_skip ?_ (fun K hK => ?_); (first | exact Go.Mix.wanted_tf rfl rfl rfl | exact Go.Mix.wanted_ft rfl rfl rfl); go_simp; refine hK _ ?_; clear hK K) | (refine Go.Flo.fw_any rfl ?_ (fun K hK => ?_); (first | exact Go.Mix.wanted_none rfl | exact Go.Mix.wanted_tt rfl rfl rfl | exact Go.Mix.wanted_ff rfl rfl rfl); go_simp; (try (go_ints; try go_simp)); refine hK _ ?_; clear hK K))
          (first | (refine Go.Flo.fw_calm rfl ?_ (fun K hK => ?_); (first | exact Go.Mix.wanted_none rfl | exact Go.Mix.wanted_tt rfl rfl rfl | exact Go.Mix.wanted_ff rfl rfl rfl); go_big_quiet_op; refine hK _ ?_; clear hK K) | (refine Go.Flo.fw_skip ?_ (fun K hK => ?_); (first | exact Go.Mix.wanted_tf rfl rfl rfl | exact Go.Mix.wanted_ft rfl rfl rfl); go_simp; refine hK _ ?_; clear hK K) | (refine Go.Flo.fw_any rfl ?_ (fun K hK => ?_); (first | exact Go.Mix.wanted_none rfl | exact Go.Mix.wanted_tt rfl rfl rfl | exact Go.Mix.wanted_ff rfl rfl rfl); go_simp; (try (go_ints; try go_simp)); refine hK _ ?_; clear hK K))
          have y0 : ∀ i, (W i).cell? ⟨g20, 0, none⟩ = some (.slice ya yl yc) := fun i => ((HW.out i).cell (p := ⟨g20, 0, none⟩) k20).trans (cell_of_row _ _ 0 _ _ _ e20)
          (first | (refine Go.Flo.fw_calm rfl ?_ (fun K hK => ?_); (first | exact Go.Mix.wanted_none rfl | exact Go.Mix.wanted_tt rfl rfl rfl | exact Go.Mix.wanted_ff rfl rfl rfl); go_big_quiet_op; refine hK _ ?_; clear hK K) | (refine Go.Flo.fw_skip ?_ (fun K hK => ?_); (first | exact Go.Mix.wanted_tf rfl rfl rfl | exact Go.Mix.wanted_ft rfl rfl rfl); go_simp; refine hK _ ?_; clear hK K) | (refine Go.Flo.fw_any rfl ?_ (fun K hK => ?_); (first | exact Go.Mix.wanted_none rfl | exact Go.Mix.wanted_tt rfl rfl rfl | exact Go.Mix.wanted_ff rfl rfl rfl); go_simp; (try (go_ints; try go_simp)); refine hK _ ?_; clear hK K))
          (first | (refine Go.Flo.fw_calm rfl ?_ (fun K hK => ?_); (first | exact Go.Mix.wanted_none rfl | exact Go.Mix.wanted_tt rfl rfl rfl | exact Go.Mix.wanted_ff rfl rfl rfl); go_big_quiet_op; refine hK _ ?_; clear hK K) | (refine Go.Flo.fw_skip ?_ (fun K hK => ?_); (first | exact Go.Mix.wanted_tf rfl rfl rfl | exact Go.Mix.wanted_ft rfl rfl rfl); go_simp; refine hK _ ?_; clear hK K) | (refine Go.Flo.fw_any rfl ?_ (fun K hK => ?_); (first | exact Go.Mix.wanted_none rfl | exact Go.Mix.wanted_tt rfl rfl rfl | exact Go.Mix.wanted_ff rfl rfl rfl); go_simp; (try (go_ints; try go_simp)); refine hK _ ?_; clear hK K))
          (refine Go.Flo.fw_calm rfl ?_ (fun K hK => ?_); (first | exact Go.Mix.wanted_none rfl | exact Go.Mix.wanted_tt rfl rfl rfl | exact Go.Mix.wanted_ff rfl rfl rfl); refine Go.Flo.quiet_load_row 67 _ rfl _ rfl _ #[.int .i8 (o 0), .int .i8 (o 1), .int .i8 (o 2), .int .i8 (o 3), .int .i8 (o 4), .int .i8 (o 5)] _ (by rintro _ ⟨i, rfl⟩; exact ((HW.out i).block _ k7).trans e7) Try.underlying67 rfl size_ch ?_; go_simp; refine hK _ ?_; clear hK K)
          refine Go.Flo.fw_loud rfl ?_ rfl (by simp) (fun wv hwv hav K hK => ?_) (fun v hv K hK => ?_)
          · (first | exact Go.Mix.wanted_none rfl | exact Go.Mix.wanted_tt rfl rfl rfl | exact Go.Mix.wanted_ff rfl rfl rfl)
          · obtain ⟨iv, rfl⟩ := hwv
            have hbv := HW.out iv
            (first | go_big_op | go_simp)
            go_at_call 56
            refine (rUnits_any o _ HC.out.2.2).mono ?_
            rintro e w' ⟨rfl, hb⟩
            rw [← HUO.out]
            exact hK _ _ (Go.Flo.owes_is _ rfl hb)
          obtain rfl := hv.is
          go_simp
          refine hK _ ?_
          clear hK K hv
          (first | (refine Go.Flo.fw_calm rfl ?_ (fun K hK => ?_); (first | exact Go.Mix.wanted_none rfl | exact Go.Mix.wanted_tt rfl rfl rfl | exact Go.Mix.wanted_ff rfl rfl rfl); go_big_quiet_op; refine hK _ ?_; clear hK K) | (refine Go.Flo.fw_skip ?_ (fun K hK => ?_); (first | exact Go.Mix.wanted_tf rfl rfl rfl | exact Go.Mix.wanted_ft rfl rfl rfl); go_simp; refine hK _ ?_; clear hK K) | (refine Go.Flo.fw_any rfl ?_ (fun K hK => ?_); (first | exact Go.Mix.wanted_none rfl | exact Go.Mix.wanted_tt rfl rfl rfl | exact Go.Mix.wanted_ff rfl rfl rfl); go_simp; (try (go_ints; try go_simp)); refine hK _ ?_; clear hK K))
          refine Go.Flo.fw_loud rfl ?_ rfl (by simp) (fun wv hwv hav K hK => ?_) (fun v hv K hK => ?_)
          · (first | exact Go.Mix.wanted_none rfl | exact Go.Mix.wanted_tt rfl rfl rfl | exact Go.Mix.wanted_ff rfl rfl rfl)
          · obtain ⟨iv, rfl⟩ := hwv
            have hbv := HW.out iv
            (first | go_big_op | go_simp)
            go_at_call 55
            refine (rLess_any uo pw _ huo1 hpw).mono ?_
            rintro e w' ⟨rfl, rfl⟩
            rw [show lessS uo pw = s by rw [HUO.out, HSL.out.1]]
            exact hK _ _ (Go.Flo.owes_is _ rfl (Below.refl _ _))
          obtain rfl := hv.is
          go_simp
          refine hK _ ?_
          clear hK K hv
          refine Go.Flo.fw_loud rfl ?_ rfl (by simp) (fun wv hwv hav K hK => ?_) (fun v hv K hK => ?_)
          · (first | exact Go.Mix.wanted_none rfl | exact Go.Mix.wanted_tt rfl rfl rfl | exact Go.Mix.wanted_ff rfl rfl rfl)
          · obtain ⟨iv, rfl⟩ := hwv
            have hbv := HW.out iv
            (first | go_big_op | go_simp)
            go_at_call 50
            refine (same_tn ya yl yc _ s _ hs1 HSL.out.2 (Nat.le_trans hsz hbv.size) (HE2.out.rd.below' hbv hsz)).mono ?_
            rintro e w' ⟨rfl, hb⟩
            exact hK _ _ (Go.Flo.owes_is _ rfl hb)
          obtain rfl := hv.is
          go_simp
          refine hK _ ?_
          clear hK K hv
          (repeat (first | (refine Go.Flo.fw_calm rfl ?_ (fun K hK => ?_); (first | exact Go.Mix.wanted_none rfl | exact Go.Mix.wanted_tt rfl rfl rfl | exact Go.Mix.wanted_ff rfl rfl rfl); go_big_quiet_op; refine hK _ ?_; clear hK K) | (refine Go.Flo.fw_skip ?_ (fun K hK => ?_); (first | exact Go.Mix.wanted_tf rfl rfl rfl | exact Go.Mix.wanted_ft rfl rfl rfl); go_simp; refine hK _ ?_; clear hK K) | (refine Go.Flo.fw_any rfl ?_ (fun K hK => ?_); (first | exact Go.Mix.wanted_none rfl | exact Go.Mix.wanted_tt rfl rfl rfl | exact Go.Mix.wanted_ff rfl rfl rfl); go_simp; (try (go_ints; try go_simp)); refine hK _ ?_; clear hK K)))
          refine Go.Flo.fw_nil ?_
          intro wz hwwz hfwz huwz
          refine Go.Flo.tw_nil ?_
          obtain ⟨iend, hiend⟩ := hwwz
          have hbwz := HW.out iend
          rw [← hiend] at hbwz
          clear hiend iend huwz
          have HB := Lib.hid (HE2.out.be.trans (hbwz.mono HE2.out.be.size))
          clear hfwz HJ HW hne hbwz e7 e14 e18 e19 e20 HE2 HEQ
          go_wp2_with fail
          go_ret
          exact ⟨rfl, HB.out⟩
        · have hge : (st : Int) % 5 < 2 := by have := HKE.out; omega
          have HAf := Lib.hid (show A = f by rw [HA.out]; unfold agA; rw [if_pos (by omega)])
          go_upto_region 17 with fail
          clear hge
          rw [← HAf.out] at h22
          skip
          have e7 := HE1.out.b7
          have e14 := HE1.out.b14
          have e18 := HE1.out.b18
          have e19 := HE1.out.b19
          have e20 := HE1.out.b20
          obtain ⟨l5, l6, l7, l14, l18, l19, l20⟩ := HE1.out.lt
          have hsz := HE1.out.sz
          have k7 : g7 < wk.heap.size := by omega
          have k14 : g14 < wk.heap.size := by omega
          have k18 : g18 < wk.heap.size := by omega
          have k19 : g19 < wk.heap.size := by omega
          have k20 : g20 < wk.heap.size := by omega
          have k22 := box_lt h22
          obtain ⟨uo, huo⟩ : ∃ uo, uo = unitsS o 6 := ⟨_, rfl⟩
          have huo1 : uo < 65536 := by rw [huo]; exact unitsS_lt o 6
          have HUO := Lib.hid huo
          have hs1 : s < 65536 := by rw [HSL.out.1]; exact lessS_lt (unitsS_lt o 6)
          clear l5 l6 l7 l14 l18 l19 l20 huo
          obtain ⟨I, W, hne, hWI, hIW⟩ := Go.Mix.family (fun v => Below wk.heap.size wk v) (Below.refl _ _)
          have HJ := Lib.hid hIW
          have HW := Lib.hid hWI
          clear hWI hIW
          refine Go.Flo.wp_region (fun w' => ∃ i, w' = W i) 38 [Go.Flo.Spec.is (.agg #[.int .i8 (A 0), .int .i8 (A 1), .int .i8 (A 2), .int .i8 (A 3), .int .i8 (A 4), .int .i8 (A 5)]), Go.Flo.Spec.is (.bool false), Go.Flo.Spec.is (.agg #[.int .i8 (A 0), .int .i8 (A 1), .int .i8 (A 2), .int .i8 (A 3), .int .i8 (A 4), .int .i8 (A 5)]), Go.Flo.Spec.is (.bool true), Go.Flo.Spec.is (.int .u16 (uo : Nat)), Go.Flo.Spec.is (.int .u16 (s : Nat)), Go.Flo.Spec.is (.bool true)] (by kernel_rfl) (by kernel_rfl) (by decide) (by rintro _ w' ⟨i, rfl⟩ hb; exact HJ.out _ ((HW.out i).trans (hb.mono (HW.out i).size))) (HJ.out _ (Below.refl _ _).drew) ?_
          simp only [Go.Flo.pair, Go.Mix.calm, List.take, List.drop, if_true, Bool.false_eq_true, if_false, Nat.reduceAdd, Nat.reduceSub]
          have he : ∀ w, (binOp .eql 67 (.agg #[.int .i8 (A 0), .int .i8 (A 1), .int .i8 (A 2), .int .i8 (A 3), .int .i8 (A 4), .int .i8 (A 5)]) (.agg #[.int .i8 (A 0), .int .i8 (A 1), .int .i8 (A 2), .int .i8 (A 3), .int .i8 (A 4), .int .i8 (A 5)])).run Try.prog w = .ok (.bool true) w := fun w => by rw [eqlCh hokA hokA, sameC_refl]
          have HEQ := Lib.hid he
          clear he
          (refine Go.Flo.fw_calm rfl ?_ (fun K hK => ?_); (first | exact Go.Mix.wanted_none rfl | exact Go.Mix.wanted_tt rfl rfl rfl | exact Go.Mix.wanted_ff rfl rfl rfl); refine Go.Flo.quiet_load_row 67 _ rfl _ rfl _ #[.int .i8 (A 0), .int .i8 (A 1), .int .i8 (A 2), .int .i8 (A 3), .int .i8 (A 4), .int .i8 (A 5)] _ (by rintro _ ⟨i, rfl⟩; exact ((HW.out i).block _ k14).trans e14) Try.underlying67 rfl size_ch ?_; go_simp; refine hK _ ?_; clear hK K)
          (refine Go.Flo.fw_calm rfl ?_ (fun K hK => ?_); (first | exact Go.Mix.wanted_none rfl | exact Go.Mix.wanted_tt rfl rfl rfl | exact Go.Mix.wanted_ff rfl rfl rfl); refine Go.Flo.quiet_load_row 67 _ rfl _ rfl _ #[.int .i8 (A 0), .int .i8 (A 1), .int .i8 (A 2), .int .i8 (A 3), .int .i8 (A 4), .int .i8 (A 5)] _ (by rintro _ ⟨i, rfl⟩; exact ((HW.out i).block _ k22).trans h22) Try.underlying67 rfl size_ch ?_; go_simp; refine hK _ ?_; clear hK K)
          have he := HEQ.out
          (first | (refine Go.Flo.fw_calm rfl ?_ (fun K hK => ?_); (first | exact Go.Mix.wanted_none rfl | exact Go.Mix.wanted_tt rfl rfl rfl | exact Go.Mix.wanted_ff rfl rfl rfl); go_big_quiet_op; refine hK _ ?_; clear hK K) | (refine Go.Flo.fw_skip ?_ (fun K hK => ?_); (first | exact Go.Mix.wanted_tf rfl rfl rfl | exact Go.Mix.wanted_ft rfl rfl rfl); go_simp; refine hK _ ?_; clear hK K) | (refine Go.Flo.fw_any rfl ?_ (fun K hK => ?_); (first | exact Go.Mix.wanted_none rfl | exact Go.Mix.wanted_tt rfl rfl rfl | exact Go.Mix.wanted_ff rfl rfl rfl); go_simp; (try (go_ints; try go_simp)); refine hK _ ?_; clear hK K))
          clear he
          (first | (refine Go.Flo.fw_calm rfl ?_ (fun K hK => ?_); (first | exact Go.Mix.wanted_none rfl | exact Go.Mix.wanted_tt rfl rfl rfl | exact Go.Mix.wanted_ff rfl rfl rfl); go_big_quiet_op; refine hK _ ?_; clear hK K) | (refine Go.Flo.fw_skip ?_ (fun K hK => ?_); (first | exact Go.Mix.wanted_tf rfl rfl rfl | exact Go.Mix.wanted_ft rfl rfl rfl); go_simp; refine hK _ ?_; clear hK K) | (refine Go.Flo.fw_any rfl ?_ (fun K hK => ?_); (first | exact Go.Mix.wanted_none rfl | exact Go.Mix.wanted_tt rfl rfl rfl | exact Go.Mix.wanted_ff rfl rfl rfl); go_simp; (try (go_ints; try go_simp)); refine hK _ ?_; clear hK K))
          (refine Go.Flo.fw_calm rfl ?_ (fun K hK => ?_); (first | exact Go.Mix.wanted_none rfl | exact Go.Mix.wanted_tt rfl rfl rfl | exact Go.Mix.wanted_ff rfl rfl rfl); refine Go.Flo.quiet_load_row 96 _ rfl _ rfl _ #[.int .u8 0, .int .i8 (A 0), .int .i8 (A 1), .int .i8 (A 2), .int .i8 (A 3), .int .i8 (A 4), .int .i8 (A 5), .int .i8 (A 0), .int .i8 (A 1), .int .i8 (A 2), .int .i8 (A 3), .int .i8 (A 4), .int .i8 (A 5)] _ (by rintro _ ⟨i, rfl⟩; exact ((HW.out i).block _ k18).trans e18) Try.underlying96 rfl size_tn ?_; go_simp; refine hK _ ?_; clear hK K)
          refine Go.Flo.fw_loud rfl ?_ rfl (by simp) (fun wv hwv hav K hK => ?_) (fun v hv K hK => ?_)
          · (first | exact Go.Mix.wanted_none rfl | exact Go.Mix.wanted_tt rfl rfl rfl | exact Go.Mix.wanted_ff rfl rfl rfl)
          · obtain ⟨iv, rfl⟩ := hwv
            have hbv := HW.out iv
            (first | go_big_op | go_simp)
            go_at_call 51
            refine (Active_any 0 A A _).mono ?_
            rintro e w' ⟨rfl, hb⟩
            rw [actC_same]
            exact hK _ _ (Go.Flo.owes_is _ rfl hb)
          obtain rfl := hv.is
          go_simp
          refine hK _ ?_
          clear hK K hv
          (refine Go.Flo.fw_calm rfl ?_ (fun K hK => ?_); (first | exact Go.Mix.wanted_none rfl | exact Go.Mix.wanted_tt rfl rfl rfl | exact Go.Mix.wanted_ff rfl rfl rfl); refine Go.Flo.quiet_load_row 67 _ rfl _ rfl _ #[.int .i8 (A 0), .int .i8 (A 1), .int .i8 (A 2), .int .i8 (A 3), .int .i8 (A 4), .int .i8 (A 5)] _ (by rintro _ ⟨i, rfl⟩; exact ((HW.out i).block _ k14).trans e14) Try.underlying67 rfl size_ch ?_; go_simp; refine hK _ ?_; clear hK K)
          have he := HEQ.out
          (first | (refine Go.Flo.fw_calm rfl ?_ (fun K hK => ?_); (first | exact Go.Mix.wanted_none rfl | exact Go.Mix.wanted_tt rfl rfl rfl | exact Go.Mix.wanted_ff rfl rfl rfl); go_big_quiet_op; refine hK _ ?_; clear hK K) | (refine Go.Flo.fw_skip ?_ (fun K hK => ?_); (first | exact Go.Mix.wanted_tf rfl rfl rfl | exact Go.Mix.wanted_ft rfl rfl rfl); go_simp; refine hK _ ?_; clear hK K) | (refine Go.Flo.fw_any rfl ?_ (fun K hK => ?_); (first | exact Go.Mix.wanted_none rfl | exact Go.Mix.wanted_tt rfl rfl rfl | exact Go.Mix.wanted_ff rfl rfl rfl); go_simp; (try (go_ints; try go_simp)); refine hK _ ?_; clear hK K))
          clear he
          (first | (refine Go.Flo.fw_calm rfl ?_ (fun K hK => ?_); (first | exact Go.Mix.wanted_none rfl | exact Go.Mix.wanted_tt rfl rfl rfl | exact Go.Mix.wanted_ff rfl rfl rfl); go_big_quiet_op; refine hK _ ?_; clear hK K) | (refine Go.Flo.fw_skip ?_ (fun K hK => ?_); (first | exact Go.Mix.wanted_tf rfl rfl rfl | exact Go.Mix.wanted_ft rfl rfl rfl); go_simp; refine hK _ ?_; clear hK K) | (refine Go.Flo.fw_any rfl ?_ (fun K hK => ?_); (first | exact Go.Mix.wanted_none rfl | exact Go.Mix.wanted_tt rfl rfl rfl | exact Go.Mix.wanted_ff rfl rfl rfl); go_simp; (try (go_ints; try go_simp)); refine hK _ ?_; clear hK K))
          (first | (refine Go.Flo.fw_calm rfl ?_ (fun K hK => ?_); (first | exact Go.Mix.wanted_none rfl | exact Go.Mix.wanted_tt rfl rfl rfl | exact Go.Mix.wanted_ff rfl rfl rfl); go_big_quiet_op; refine hK _ ?_; clear hK K) | (refine Go.Flo.fw_skip ?_ (fun K hK => ?_); (first | exact Go.Mix.wanted_tf rfl rfl rfl | exact Go.Mix.wanted_ft rfl rfl rfl); go_simp; refine hK _ ?_; clear hK K) | (refine Go.Flo.fw_any rfl ?_ (fun K hK => ?_); (first | exact Go.Mix.wanted_none rfl | exact Go.Mix.wanted_tt rfl rfl rfl | exact Go.Mix.wanted_ff rfl rfl rfl); go_simp; (try (go_ints; try go_simp)); refine hK _ ?_; clear hK K))
          (refine Go.Flo.fw_calm rfl ?_ (fun K hK => ?_); (first | exact Go.Mix.wanted_none rfl | exact Go.Mix.wanted_tt rfl rfl rfl | exact Go.Mix.wanted_ff rfl rfl rfl); refine Go.Flo.quiet_load_row 96 _ rfl _ rfl _ #[.int .u8 0, .int .i8 (A 0), .int .i8 (A 1), .int .i8 (A 2), .int .i8 (A 3), .int .i8 (A 4), .int .i8 (A 5), .int .i8 (A 0), .int .i8 (A 1), .int .i8 (A 2), .int .i8 (A 3), .int .i8 (A 4), .int .i8 (A 5)] _ (by rintro _ ⟨i, rfl⟩; exact ((HW.out i).block _ k18).trans e18) Try.underlying96 rfl size_tn ?_; go_simp; refine hK _ ?_; clear hK K)
          refine Go.Flo.fw_loud rfl ?_ rfl (by simp) (fun wv hwv hav K hK => ?_) (fun v hv K hK => ?_)
          · (first | exact Go.Mix.wanted_none rfl | exact Go.Mix.wanted_tt rfl rfl rfl | exact Go.Mix.wanted_ff rfl rfl rfl)
          · obtain ⟨iv, rfl⟩ := hwv
            have hbv := HW.out iv
            (first | go_big_op | go_simp)
            go_at_call 52
            refine (Busy_any 0 A A _).mono ?_
            rintro e w' ⟨rfl, hb⟩
            exact hK _ _ (Go.Flo.owes_is _ rfl hb)
          obtain rfl := hv.is
          go_simp
          refine hK _ ?_
          clear hK K hv
          (first | (refine Go.Flo.fw_calm rfl ?_ (fun K hK => ?_); (first | exact Go.Mix.wanted_none rfl | exact Go.Mix.wanted_tt rfl rfl rfl | exact Go.Mix.wanted_ff rfl rfl rfl); go_big_quiet_op; refine hK _ ?_; clear hK K) | (refine Go.Flo.fw_skip ?_ (fun K hK => ?_); (first | exact Go.Mix.wanted_tf rfl rfl rfl | exact Go.Mix.wanted_ft rfl rfl rfl); go_simp; refine hK _ ?_; clear hK K) | (refine Go.Flo.fw_any rfl ?_ (fun K hK => ?_); (first | exact Go.Mix.wanted_none rfl | exact Go.Mix.wanted_tt rfl rfl rfl | exact Go.Mix.wanted_ff rfl rfl rfl); go_simp; (try (go_ints; try go_simp)); refine hK _ ?_; clear hK K))
          (first | (refine Go.Flo.fw_calm rfl ?_ (fun K hK => ?_); (first | exact Go.Mix.wanted_none rfl | exact Go.Mix.wanted_tt rfl rfl rfl | exact Go.Mix.wanted_ff rfl rfl rfl); go_big_quiet_op; refine hK _ ?_; clear hK K) | (refine Go.Flo.fw_skip ?_ (fun K hK => ?_); (first | exact Go.Mix.wanted_tf rfl rfl rfl | exact Go.Mix.wanted_ft rfl rfl rfl); go_simp; refine hK _ ?_; clear hK K) | (refine Go.Flo.fw_any rfl ?_ (fun K hK => ?_); (first | exact Go.Mix.wanted_none rfl | exact Go.Mix.wanted_tt rfl rfl rfl | exact Go.Mix.wanted_ff rfl rfl rfl); go_simp; (try (go_ints; try go_simp)); refine hK _ ?_; clear hK K))
          (first | (refine Go.Flo.fw_calm rfl ?_ (fun K hK => ?_); (first | exact Go.Mix.wanted_none rfl | exact Go.Mix.wanted_tt rfl rfl rfl | exact Go.Mix.wanted_ff rfl rfl rfl); go_big_quiet_op; refine hK _ ?_; clear hK K) | (refine Go.Flo.fw_skip ?_ (fun K hK => ?_); (first | exact Go.Mix.wanted_tf rfl rfl rfl | exact Go.Mix.wanted_ft rfl rfl rfl); go_simp; refine hK _ ?_; clear hK K) | (refine Go.Flo.fw_any rfl ?_ (fun K hK => ?_); (first | exact Go.Mix.wanted_none rfl | exact Go.Mix.wanted_tt rfl rfl rfl | exact Go.Mix.wanted_ff rfl rfl rfl); go_simp; (try (go_ints; try go_simp)); refine hK _ ?_; clear hK K))
          (first | (refine Go.Flo.fw_calm rfl ?_ (fun K hK => ?_); (first | exact Go.Mix.wanted_none rfl | exact Go.Mix.wanted_tt rfl rfl rfl | exact Go.Mix.wanted_ff rfl rfl rfl); go_big_quiet_op; refine hK _ ?_; clear hK K) | (refine Go.Flo.fw_skip ?_ (fun K hK => ?_); (first | exact Go.Mix.wanted_tf rfl rfl rfl | exact Go.Mix.wanted_ft rfl rfl rfl); go_simp; refine hK _ ?_; clear hK K) | (refine Go.Flo.fw_any rfl ?_ (fun K hK => ?_); (first | exact Go.Mix.wanted_none rfl | exact Go.Mix.wanted_tt rfl rfl rfl | exact Go.Mix.wanted_ff rfl rfl rfl); go_simp; (try (go_ints; try go_simp)); refine hK _ ?_; clear hK K))
          (first | (refine Go.Flo.fw_calm rfl ?_ (fun K hK => ?_); (first | exact Go.Mix.wanted_none rfl | exact Go.Mix.wanted_tt rfl rfl rfl | exact Go.Mix.wanted_ff rfl rfl rfl); go_big_quiet_op; refine hK _ ?_; clear hK K) | (refine Go.Flo.fw_skip ?_ (fun K hK => ?_); (first | exact Go.Mix.wanted_tf rfl rfl rfl | exact Go.Mix.wanted_ft rfl rfl rfl); go_simp; refine hK _ ?_; clear hK K) | (refine Go.Flo.fw_any rfl ?_ (fun K hK => ?_); (first | exact Go.Mix.wanted_none rfl | exact Go.Mix.wanted_tt rfl rfl rfl | exact Go.Mix.wanted_ff rfl rfl rfl); go_simp; (try (go_ints; try go_simp)); refine hK _ ?_; clear hK K))
          (first | (refine Go.Flo.fw_calm rfl ?_ (fun K hK => ?_); (first | exact Go.Mix.wanted_none rfl | exact Go.Mix.wanted_tt rfl rfl rfl | exact Go.Mix.wanted_ff rfl rfl rfl); go_big_quiet_op; refine hK _ ?_; clear hK K) | (refine Go.Flo.fw_skip ?_ (fun K hK => ?_); (first | exact Go.Mix.wanted_tf rfl rfl rfl | exact Go.Mix.wanted_ft rfl rfl rfl); go_simp; refine hK _ ?_; clear hK K) | (refine Go.Flo.fw_any rfl ?_ (fun K hK => ?_); (first | exact Go.Mix.wanted_none rfl | exact Go.Mix.wanted_tt rfl rfl rfl | exact Go.Mix.wanted_ff rfl rfl rfl); go_simp; (try (go_ints; try go_simp)); refine hK _ ?_; clear hK K))
          (first | (refine Go.Flo.fw_calm rfl ?_ (fun K hK => ?_); (first | exact Go.Mix.wanted_none rfl | exact Go.Mix.wanted_tt rfl rfl rfl | exact Go.Mix.wanted_ff rfl rfl rfl); go_big_quiet_op; refine hK _ ?_; clear hK K) | (refine Go.Flo.fw_skip ?_ (fun K hK => ?_); (first | exact Go.Mix.wanted_tf rfl rfl rfl | exact Go.Mix.wanted_ft rfl rfl rfl); go_simp; refine hK _ ?_; clear hK K) | (refine Go.Flo.fw_any rfl ?_ (fun K hK => ?_); (first | exact Go.Mix.wanted_none rfl | exact Go.Mix.wanted_tt rfl rfl rfl | exact Go.Mix.wanted_ff rfl rfl rfl); go_simp; (try (go_ints; try go_simp)); refine hK _ ?_; clear hK K))
          (refine Go.Flo.fw_calm rfl ?_ (fun K hK => ?_); (first | exact Go.Mix.wanted_none rfl | exact Go.Mix.wanted_tt rfl rfl rfl | exact Go.Mix.wanted_ff rfl rfl rfl); refine Go.Flo.quiet_load_row 96 _ rfl _ rfl _ #[.int .u8 1, .int .i8 (A 0), .int .i8 (A 1), .int .i8 (A 2), .int .i8 (A 3), .int .i8 (A 4), .int .i8 (A 5), .int .i8 (o 0), .int .i8 (o 1), .int .i8 (o 2), .int .i8 (o 3), .int .i8 (o 4), .int .i8 (o 5)] _ (by rintro _ ⟨i, rfl⟩; exact ((HW.out i).block _ k19).trans e19) Try.underlying96 rfl size_tn ?_; go_simp; refine hK _ ?_; clear hK K)
          refine Go.Flo.fw_loud rfl ?_ rfl (by simp) (fun wv hwv hav K hK => ?_) (fun v hv K hK => ?_)
          · (first | exact Go.Mix.wanted_none rfl | exact Go.Mix.wanted_tt rfl rfl rfl | exact Go.Mix.wanted_ff rfl rfl rfl)
          · obtain ⟨iv, rfl⟩ := hwv
            have hbv := HW.out iv
            (first | go_big_op | go_simp)
            go_at_call 51
            refine (Active_any 1 A o _).mono ?_
            rintro e w' ⟨rfl, hb⟩
            rw [show actC 1 A o = A from rfl]
            exact hK _ _ (Go.Flo.owes_is _ rfl hb)
          obtain rfl := hv.is
          go_simp
          refine hK _ ?_
          clear hK K hv
          (refine Go.Flo.fw_calm rfl ?_ (fun K hK => ?_); (first | exact Go.Mix.wanted_none rfl | exact Go.Mix.wanted_tt rfl rfl rfl | exact Go.Mix.wanted_ff rfl rfl rfl); refine Go.Flo.quiet_load_row 67 _ rfl _ rfl _ #[.int .i8 (A 0), .int .i8 (A 1), .int .i8 (A 2), .int .i8 (A 3), .int .i8 (A 4), .int .i8 (A 5)] _ (by rintro _ ⟨i, rfl⟩; exact ((HW.out i).block _ k14).trans e14) Try.underlying67 rfl size_ch ?_; go_simp; refine hK _ ?_; clear hK K)
          have he := HEQ.out
          (first | (refine Go.Flo.fw_calm rfl ?_ (fun K hK => ?_); (first | exact Go.Mix.wanted_none rfl | exact Go.Mix.wanted_tt rfl rfl rfl | exact Go.Mix.wanted_ff rfl rfl rfl); go_big_quiet_op; refine hK _ ?_; clear hK K) | (refine Go.Flo.fw_skip ?_ (fun K hK => ?_); (first | exact Go.Mix.wanted_tf rfl rfl rfl | exact Go.Mix.wanted_ft rfl rfl rfl); go_simp; refine hK _ ?_; clear hK K) | (refine Go.Flo.fw_any rfl ?_ (fun K hK => ?_); (first | exact Go.Mix.wanted_none rfl | exact Go.Mix.wanted_tt rfl rfl rfl | exact Go.Mix.wanted_ff rfl rfl rfl); go_simp; (try (go_ints; try go_simp)); refine hK _ ?_; clear hK K))
          clear he
          (first | (refine Go.Flo.fw_calm rfl ?_ (fun K hK => ?_); (first | exact Go.Mix.wanted_none rfl | exact Go.Mix.wanted_tt rfl rfl rfl | exact Go.Mix.wanted_ff rfl rfl rfl); go_big_quiet_op; refine hK _ ?_; clear hK K) | (refine Go.Flo.fw_skip ?_ (fun K hK => ?_); (first | exact Go.Mix.wanted_tf rfl rfl rfl | exact Go.Mix.wanted_ft rfl rfl rfl); go_simp; refine hK _ ?_; clear hK K) | (refine Go.Flo.fw_any rfl ?_ (fun K hK => ?_); (first | exact Go.Mix.wanted_none rfl | exact Go.Mix.wanted_tt rfl rfl rfl | exact Go.Mix.wanted_ff rfl rfl rfl); go_simp; (try (go_ints; try go_simp)); refine hK _ ?_; clear hK K))
          (first | (refine Go.Flo.fw_calm rfl ?_ (fun K hK => ?_); (first | exact Go.Mix.wanted_none rfl | exact Go.Mix.wanted_tt rfl rfl rfl | exact Go.Mix.wanted_ff rfl rfl rfl); go_big_quiet_op; refine hK _ ?_; clear hK K) | (refine Go.Flo.fw_skip ?_ (fun K hK => ?_); (first | exact Go.Mix.wanted_tf rfl rfl rfl | exact Go.Mix.wanted_ft rfl rfl rfl); go_simp; refine hK _ ?_; clear hK K) | (refine Go.Flo.fw_any rfl ?_ (fun K hK => ?_); (first | exact Go.Mix.wanted_none rfl | exact Go.Mix.wanted_tt rfl rfl rfl | exact Go.Mix.wanted_ff rfl rfl rfl); go_simp; (try (go_ints; try go_simp)); refine hK _ ?_; clear hK K))
          (refine Go.Flo.fw_calm rfl ?_ (fun K hK => ?_); (first | exact Go.Mix.wanted_none rfl | exact Go.Mix.wanted_tt rfl rfl rfl | exact Go.Mix.wanted_ff rfl rfl rfl); refine Go.Flo.quiet_load_row 96 _ rfl _ rfl _ #[.int .u8 1, .int .i8 (A 0), .int .i8 (A 1), .int .i8 (A 2), .int .i8 (A 3), .int .i8 (A 4), .int .i8 (A 5), .int .i8 (o 0), .int .i8 (o 1), .int .i8 (o 2), .int .i8 (o 3), .int .i8 (o 4), .int .i8 (o 5)] _ (by rintro _ ⟨i, rfl⟩; exact ((HW.out i).block _ k19).trans e19) Try.underlying96 rfl size_tn ?_; go_simp; refine hK _ ?_; clear hK K)
          refine Go.Flo.fw_loud rfl ?_ rfl (by simp) (fun wv hwv hav K hK => ?_) (fun v hv K hK => ?_)
          · (first | exact Go.Mix.wanted_none rfl | exact Go.Mix.wanted_tt rfl rfl rfl | exact Go.Mix.wanted_ff rfl rfl rfl)
          · obtain ⟨iv, rfl⟩ := hwv
            have hbv := HW.out iv
            (first | go_big_op | go_simp)
            go_at_call 52
            refine (Busy_any 1 A o _).mono ?_
            rintro e w' ⟨rfl, hb⟩
            exact hK _ _ (Go.Flo.owes_is _ rfl hb)
          obtain rfl := hv.is
          go_simp
          refine hK _ ?_
          clear hK K hv
          (first | (refine Go.Flo.fw_calm rfl ?_ (fun K hK => ?_); (first | exact Go.Mix.wanted_none rfl | exact Go.Mix.wanted_tt rfl rfl rfl | exact Go.Mix.wanted_ff rfl rfl rfl); go_big_quiet_op; refine hK _ ?_; clear hK K) | (refine Go.Flo.fw_skip ?_ (fun K hK => ?_); (first | exact Go.Mix.wanted_tf rfl rfl rfl | exact Go.Mix.wanted_ft rfl rfl rfl); go_simp; refine hK _ ?_; clear hK K) | (refine Go.Flo.fw_any rfl ?_ (fun K hK => ?_); (first | exact Go.Mix.wanted_none rfl | exact Go.Mix.wanted_tt rfl rfl rfl | exact Go.Mix.wanted_ff rfl rfl rfl); go_simp; (try (go_ints; try go_simp)); refine hK _ ?_; clear hK K))
          (first | (refine Go.Flo.fw_calm rfl ?_ (fun K hK => ?_); (first | exact Go.Mix.wanted_none rfl | exact Go.Mix.wanted_tt rfl rfl rfl | exact Go.Mix.wanted_ff rfl rfl rfl); go_big_quiet_op; refine hK _ ?_; clear hK K) | (refine Go.Flo.fw_skip ?_ (fun K hK => ?_); (first | exact Go.Mix.wanted_tf rfl rfl rfl | exact Go.Mix.wanted_ft rfl rfl rfl); go_simp; refine hK _ ?_; clear hK K) | (refine Go.Flo.fw_any rfl ?_ (fun K hK => ?_); (first | exact Go.Mix.wanted_none rfl | exact Go.Mix.wanted_tt rfl rfl rfl | exact Go.Mix.wanted_ff rfl rfl rfl); go_simp; (try (go_ints; try go_simp)); refine hK _ ?_; clear hK K))
          have y0 : ∀ i, (W i).cell? ⟨g20, 0, none⟩ = some (.slice ya yl yc) := fun i => ((HW.out i).cell (p := ⟨g20, 0, none⟩) k20).trans (cell_of_row _ _ 0 _ _ _ e20)
          (first | (refine Go.Flo.fw_calm rfl ?_ (fun K hK => ?_); (first | exact Go.Mix.wanted_none rfl | exact Go.Mix.wanted_tt rfl rfl rfl | exact Go.Mix.wanted_ff rfl rfl rfl); go_big_quiet_op; refine hK _ ?_; clear hK K) | (refine Go.Flo.fw_skip ?_ (fun K hK => ?_); (first | exact Go.Mix.wanted_tf rfl rfl rfl | exact Go.Mix.wanted_ft rfl rfl rfl); go_simp; refine hK _ ?_; clear hK K) | (refine Go.Flo.fw_any rfl ?_ (fun K hK => ?_); (first | exact Go.Mix.wanted_none rfl | exact Go.Mix.wanted_tt rfl rfl rfl | exact Go.Mix.wanted_ff rfl rfl rfl); go_simp; (try (go_ints; try go_simp)); refine hK _ ?_; clear hK K))
          (first | (refine Go.Flo.fw_calm rfl ?_ (fun K hK => ?_); (first | exact Go.Mix.wanted_none rfl | exact Go.Mix.wanted_tt rfl rfl rfl | exact Go.Mix.wanted_ff rfl rfl rfl); go_big_quiet_op; refine hK _ ?_; clear hK K) | (refine Go.Flo.fw_skip ?_ (fun K hK => ?_); (first | exact Go.Mix.wanted_tf rfl rfl rfl | exact Go.Mix.wanted_ft rfl rfl rfl); go_simp; refine hK _ ?_; clear hK K) | (refine Go.Flo.fw_any rfl ?_ (fun K hK => ?_); (first | exact Go.Mix.wanted_none rfl | exact Go.Mix.wanted_tt rfl rfl rfl | exact Go.Mix.wanted_ff rfl rfl rfl); go_simp; (try (go_ints; try go_simp)); refine hK _ ?_; clear hK K))
          (refine Go.Flo.fw_calm rfl ?_ (fun K hK => ?_); (first | exact Go.Mix.wanted_none rfl | exact Go.Mix.wanted_tt rfl rfl rfl | exact Go.Mix.wanted_ff rfl rfl rfl); refine Go.Flo.quiet_load_row 67 _ rfl _ rfl _ #[.int .i8 (o 0), .int .i8 (o 1), .int .i8 (o 2), .int .i8 (o 3), .int .i8 (o 4), .int .i8 (o 5)] _ (by rintro _ ⟨i, rfl⟩; exact ((HW.out i).block _ k7).trans e7) Try.underlying67 rfl size_ch ?_; go_simp; refine hK _ ?_; clear hK K)
          refine Go.Flo.fw_loud rfl ?_ rfl (by simp) (fun wv hwv hav K hK => ?_) (fun v hv K hK => ?_)
          · (first | exact Go.Mix.wanted_none rfl | exact Go.Mix.wanted_tt rfl rfl rfl | exact Go.Mix.wanted_ff rfl rfl rfl)
          · obtain ⟨iv, rfl⟩ := hwv
            have hbv := HW.out iv
            (first | go_big_op | go_simp)
            go_at_call 56
            refine (rUnits_any o _ HC.out.2.2).mono ?_
            rintro e w' ⟨rfl, hb⟩
            rw [← HUO.out]
            exact hK _ _ (Go.Flo.owes_is _ rfl hb)
          obtain rfl := hv.is
          go_simp
          refine hK _ ?_
          clear hK K hv
          (first | (refine Go.Flo.fw_calm rfl ?_ (fun K hK => ?_); (first | exact Go.Mix.wanted_none rfl | exact Go.Mix.wanted_tt rfl rfl rfl | exact Go.Mix.wanted_ff rfl rfl rfl); go_big_quiet_op; refine hK _ ?_; clear hK K) | (refine Go.Flo.fw_skip ?_ (fun K hK => ?_); (first | exact Go.Mix.wanted_tf rfl rfl rfl | exact Go.Mix.wanted_ft rfl rfl rfl); go_simp; refine hK _ ?_; clear hK K) | (refine Go.Flo.fw_any rfl ?_ (fun K hK => ?_); (first | exact Go.Mix.wanted_none rfl | exact Go.Mix.wanted_tt rfl rfl rfl | exact Go.Mix.wanted_ff rfl rfl rfl); go_simp; (try (go_ints; try go_simp)); refine hK _ ?_; clear hK K))
          refine Go.Flo.fw_loud rfl ?_ rfl (by simp) (fun wv hwv hav K hK => ?_) (fun v hv K hK => ?_)
          · (first | exact Go.Mix.wanted_none rfl | exact Go.Mix.wanted_tt rfl rfl rfl | exact Go.Mix.wanted_ff rfl rfl rfl)
          · obtain ⟨iv, rfl⟩ := hwv
            have hbv := HW.out iv
            (first | go_big_op | go_simp)
            go_at_call 55
            refine (rLess_any uo pw _ huo1 hpw).mono ?_
            rintro e w' ⟨rfl, rfl⟩
            rw [show lessS uo pw = s by rw [HUO.out, HSL.out.1]]
            exact hK _ _ (Go.Flo.owes_is _ rfl (Below.refl _ _))
          obtain rfl := hv.is
          go_simp
          refine hK _ ?_
          clear hK K hv
          refine Go.Flo.fw_loud rfl ?_ rfl (by simp) (fun wv hwv hav K hK => ?_) (fun v hv K hK => ?_)
          · (first | exact Go.Mix.wanted_none rfl | exact Go.Mix.wanted_tt rfl rfl rfl | exact Go.Mix.wanted_ff rfl rfl rfl)
          · obtain ⟨iv, rfl⟩ := hwv
            have hbv := HW.out iv
            (first | go_big_op | go_simp)
            go_at_call 50
            refine (same_tn ya yl yc _ s _ hs1 HSL.out.2 (Nat.le_trans hsz hbv.size) (HE1.out.rd.below' hbv hsz)).mono ?_
            rintro e w' ⟨rfl, hb⟩
            exact hK _ _ (Go.Flo.owes_is _ rfl hb)
          obtain rfl := hv.is
          go_simp
          refine hK _ ?_
          clear hK K hv
          (repeat (first | (refine Go.Flo.fw_calm rfl ?_ (fun K hK => ?_); (first | exact Go.Mix.wanted_none rfl | exact Go.Mix.wanted_tt rfl rfl rfl | exact Go.Mix.wanted_ff rfl rfl rfl); go_big_quiet_op; refine hK _ ?_; clear hK K) | (refine Go.Flo.fw_skip ?_ (fun K hK => ?_); (first | exact Go.Mix.wanted_tf rfl rfl rfl | exact Go.Mix.wanted_ft rfl rfl rfl); go_simp; refine hK _ ?_; clear hK K) | (refine Go.Flo.fw_any rfl ?_ (fun K hK => ?_); (first | exact Go.Mix.wanted_none rfl | exact Go.Mix.wanted_tt rfl rfl rfl | exact Go.Mix.wanted_ff rfl rfl rfl); go_simp; (try (go_ints; try go_simp)); refine hK _ ?_; clear hK K)))
          refine Go.Flo.fw_nil ?_
          intro wz hwwz hfwz huwz
          refine Go.Flo.tw_nil ?_
          obtain ⟨iend, hiend⟩ := hwwz
          have hbwz := HW.out iend
          rw [← hiend] at hbwz
          clear hiend iend huwz
          have HB := Lib.hid (HE1.out.be.trans (hbwz.mono HE1.out.be.size))
          clear hfwz HJ HW hne hbwz e7 e14 e18 e19 e20 HE1 HEQ
          go_wp2_with fail
          go_ret
          exact ⟨rfl, HB.out⟩
end Go.Proofs.Ytboojcahflkkmaa
