/- CellNewest: the greatest number is told. -/
import Derived.Test.YtifjnpmkcgbniaaLaw06s
namespace Go.Proofs.Ytifjnpmkcgbniaa
open Go.RowKit Go.Own
set_option linter.unusedVariables false
set_option linter.unusedSimpArgs false

/-- The cell of a number that bears it. -/
def cellOf (P : List Nat) (n : Nat) : List Nat := mkCell n (P ++ numB n 4)
theorem cellOf_facts {P : List Nat} {n : Nat} (hP : bytes P) (hl : P.length ≤ 40) (hn : n < 4294967296) : (cellOf P n).length = P.length + 12 ∧ perr (cellOf P n) = 0 ∧ pseq (cellOf P n) = n ∧ bytes (cellOf P n) ∧ pdat (cellOf P n) = P ++ numB n 4 := by
  have e : (P ++ numB n 4).length = P.length + 4 := by rw [List.length_append, numB_len]
  have hb : bytes (P ++ numB n 4) := hP.append (numB_bytes _ _)
  exact ⟨by unfold cellOf; rw [mkCell_len, e], mkCell_err _ _ (by rw [e]; omega), mkCell_seq _ _ hn, mkCell_bytes hb, mkCell_dat _ _⟩
attribute [irreducible] cellOf
theorem sel3_map {α β : Type} (f : α → β) (a b c : α) : sel3 (f a) (f b) (f c) = fun i => f (sel3 a b c i) := by
  funext i; unfold sel3; split
  · rfl
  · split <;> rfl
theorem sel3_lt {x y z n : Nat} (hx : x < n) (hy : y < n) (hz : z < n) (i : Nat) : sel3 x y z i < n := by
  unfold sel3
  split
  · exact hx
  · split
    · exact hy
    · exact hz
/-- What a vote of such cells tells. -/
theorem newest3 {P : List Nat} (hP : bytes P) (hl : P.length ≤ 40) (ns : Nat → Nat) (hns : ∀ i, i < 3 → ns i < 4294967296) (top : Nat) (h1 : ∃ i, i < 3 ∧ ns i = top) (h2 : ∀ i, i < 3 → ns i ≤ top)
    (ls : Nat → List Nat) (hls : ∀ i, i < 3 → ls i = cellOf P (ns i)) : (vst ls 3).1 = 3 ∧ pseq (ls (vst ls 3).2) = top ∧ pdat (ls (vst ls 3).2) = P ++ numB top 4 := by
  have he : ∀ i, i < 3 → perr (ls i) = 0 ∧ pseq (ls i) = ns i ∧ pdat (ls i) = P ++ numB (ns i) 4 := fun i hi => by
    obtain ⟨_, a, b, _, c⟩ := cellOf_facts hP hl (hns i hi)
    rw [hls i hi]; exact ⟨a, b, c⟩
  have hc : (vst ls 3).1 = 3 := by
    simp [vst_cnt, vst, (he 0 (by omega)).1, (he 1 (by omega)).1, (he 2 (by omega)).1]
  have hv := vst_lt ls 3 (by omega)
  obtain ⟨_, hg⟩ := vst_good ls 3 (by omega)
  obtain ⟨i, hi, hit⟩ := h1
  have h3 := hg i hi (he i hi).1
  obtain ⟨j, hj⟩ : ∃ j, j = (vst ls 3).2 := ⟨_, rfl⟩
  rw [← hj] at hv h3 ⊢
  rw [(he i hi).2.1, (he j hv).2.1, hit] at h3
  have h4 := h2 j hv
  have h5 : ns j = top := by omega
  exact ⟨hc, by rw [(he j hv).2.1, h5], by rw [(he j hv).2.2, h5]⟩
theorem newest4 {P : List Nat} (hP : bytes P) (hl : P.length ≤ 40) (ns : Nat → Nat) (hns : ∀ i, i < 3 → ns i < 4294967296) (top : Nat) (h1 : ∃ i, i < 3 ∧ ns i = top) (h2 : ∀ i, i < 3 → ns i ≤ top)
    (ls : Nat → List Nat) (hls : ∀ i, i < 3 → ls (i + 1) = cellOf P (ns i)) (h0 : perr (ls 0) ≠ 0) : (vst ls 4).1 = 3 ∧ pseq (ls (vst ls 4).2) = top ∧ pdat (ls (vst ls 4).2) = P ++ numB top 4 := by
  have he : ∀ i, i < 3 → perr (ls (i + 1)) = 0 ∧ pseq (ls (i + 1)) = ns i ∧ pdat (ls (i + 1)) = P ++ numB (ns i) 4 := fun i hi => by
    obtain ⟨_, a, b, _, c⟩ := cellOf_facts hP hl (hns i hi)
    rw [hls i hi]; exact ⟨a, b, c⟩
  have hc : (vst ls 4).1 = 3 := by
    have e0 := (he 0 (by omega)).1
    have e1 := (he 1 (by omega)).1
    have e2 := (he 2 (by omega)).1
    simp only [Nat.zero_add, Nat.reduceAdd] at e0 e1 e2
    simp [vst_cnt, vst, e0, e1, e2, h0]
  have hv := vst_lt ls 4 (by omega)
  obtain ⟨hq, hg⟩ := vst_good ls 4 (by omega)
  obtain ⟨i, hi, hit⟩ := h1
  have h3 := hg (i + 1) (by omega) (he i hi).1
  obtain ⟨j, hj⟩ : ∃ j, j = (vst ls 4).2 := ⟨_, rfl⟩
  rw [← hj] at hv h3 hq ⊢
  have hj0 : j ≠ 0 := fun e => h0 (by rw [e] at hq; exact hq)
  obtain ⟨k, rfl⟩ : ∃ k, j = k + 1 := ⟨j - 1, by omega⟩
  have hk : k < 3 := by omega
  rw [(he i hi).2.1, (he k hk).2.1, hit] at h3
  have h4 := h2 k hk
  have h5 : ns k = top := by omega
  exact ⟨hc, by rw [(he k hk).2.1, h5], by rw [(he k hk).2.2, h5]⟩

theorem run_max3 {P : Program} (ats : Array TypeId) (ty : TypeId) (k : IntKind) (a b c : Nat) (w : World) : (Builtin.max_ ats ty #[.int k (a : Int), .int k (b : Int), .int k (c : Int)]).run P w = .ok (.int k ((max (max a b) c : Nat) : Int)) w := by
  have e2 : ∀ (x y : Nat) (w : World), (Builtin.max2 (.int k (x : Int)) (.int k (y : Int))).run P w = .ok (.int k ((max x y : Nat) : Int)) w := by
    intro x y w
    unfold Builtin.max2
    by_cases h : x < y
    · have e : max x y = y := by omega
      have e' : max (x : Int) (y : Int) = (y : Int) := by omega
      simp [e, e', h]
    · have e : max x y = x := by omega
      have e' : max (x : Int) (y : Int) = (x : Int) := by omega
      simp [e, e', h]
  simp [Builtin.max_, e2]

/-- A vote's result, told ahead. -/
def SpV (top : Nat) (D : List Nat) : Go.Flo.Spec :=
  ⟨fun v w => ∃ x c, v = .tuple #[.int .u32 (top : Nat), .slice x D.length c, .int .i64 0] ∧ Rd w.heap.size w x D.length c (bv D), fun v w w' hb ⟨x, c, hv, h⟩ => ⟨x, c, hv, rd_grow h hb⟩⟩
theorem owes_V {o : Oper} {top : Nat} {D : List Nat} {w w' : World} {x : Option Addr} {c m : Nat} (hm : Go.Flo.makes o = false) (hb : Below w.heap.size w w') (hl : D.length = m) (h : Rd w'.heap.size w' x m c (bv D)) : Go.Flo.owes o (SpV top D) w (.tuple #[.int .u32 (top : Nat), .slice x m c, .int .i64 0]) w' := by
  subst hl
  exact ⟨⟨x, c, rfl, h⟩, hb, fun g hg => by simp [Go.Flo.ownOf, hm] at hg⟩
theorem ex_V {C : World → Prop} {o : Oper} {top m : Nat} {D : List Nat} {v : Value} {F : Go.Flo.Facts} {G : Go.Flo.Used} (hl : D.length = m) (h : Go.Flo.Ex C o (SpV top D) F G v) : ∃ x c, v = .tuple #[.int .u32 (top : Nat), .slice x m c, .int .i64 0] := by
  subst hl
  obtain ⟨w, _, _, ⟨x, c, h1, _⟩, _⟩ := h
  exact ⟨x, c, h1⟩
theorem says_V {top m c : Nat} {D : List Nat} {x : Option Addr} {w : World} (h : (SpV top D).says (.tuple #[.int .u32 (top : Nat), .slice x m c, .int .i64 0]) w) : Rd w.heap.size w x m c (bv D) := by
  obtain ⟨x', c', h1, h2⟩ := h
  injection h1 with h1
  have e : (Value.slice x m c) = .slice x' D.length c' := by
    have := congrArg (fun a : Array Value => a[1]?) h1
    simpa using this
  injection e with e1 e2 e3
  rw [e1, e2, e3]; exact h2

/-- The cells as they are made. -/
def CellsR (B : Nat) (f : Nat → List Nat) (m k : Nat) (v : Value) (w : World) : Prop :=
  ∃ (g c : Nat → Nat), w.ownsRow B 23 1 v k ((List.range k).map fun i => .slice (some ⟨g i, 0, none⟩) m (c i)) ∧ ∀ i, i < k → w.ownsRow B 5 1 (.slice (some ⟨g i, 0, none⟩) m (c i)) m (bl (f i))
theorem CellsR.below {B m k b : Nat} {f : Nat → List Nat} {v : Value} {w w' : World} (h : CellsR B f m k v w) (hb : Below b w w') (hk : w.heap.size ≤ b) : CellsR B f m k v w' := by
  obtain ⟨g, c, h1, h2⟩ := h
  exact ⟨g, c, own_below h1 hb hk, fun i hi => own_below (h2 i hi) hb hk⟩
theorem CellsR.next {B m k gk ck : Nat} {f : Nat → List Nat} {w w3 w4 : World} {v v' : Value} {g c : Nat → Nat} {tmp : Obj} (hB : B ≤ w.heap.size)
    (h2 : w.ownsRow B 23 1 v k ((List.range k).map fun i => .slice (some ⟨g i, 0, none⟩) m (c i)))
    (h3 : ∀ i, i < k → w.ownsRow B 5 1 (.slice (some ⟨g i, 0, none⟩) m (c i)) m (bl (f i)))
    (hb : Below w.heap.size w w3) {b : Nat} (hBb : B ≤ b) (hk : w3.ownsRow b 5 1 (.slice (some ⟨gk, 0, none⟩) m ck) m (bl (f k)))
    (ho : w4.ownsRow B 23 1 v' (k + 1) (((List.range k).map fun i => .slice (some ⟨g i, 0, none⟩) m (c i)) ++ [.slice (some ⟨gk, 0, none⟩) m ck])) (hg : (w3.alloc tmp).grownBy w4 v.ownBlock) :
    CellsR B f m (k + 1) v' w4 := by
  have e2 := own_below h2 hb (Nat.le_refl _)
  have keep : ∀ {x : Value} {l : List Value}, w3.ownsRow B 5 1 x m l → w4.ownsRow B 5 1 x m l := by
    intro x l hx
    exact (hx.alloc tmp).kept hg (own_apart hx e2 (by decide))
  refine ⟨fun i => if i = k then gk else g i, fun i => if i = k then ck else c i, ?_, fun i hi => ?_⟩
  · rw [List.range_succ, List.map_append]
    have e : (List.range k).map (fun i => Value.slice (some ⟨if i = k then gk else g i, 0, none⟩) m (if i = k then ck else c i)) = (List.range k).map fun i => .slice (some ⟨g i, 0, none⟩) m (c i) := by
      apply List.map_congr_left
      intro i hi
      have : i ≠ k := by have := List.mem_range.1 hi; omega
      simp [this]
    rw [e]
    simpa using ho
  · by_cases hik : i = k
    · simp only [hik, if_true]
      exact keep (own_base hk hBb)
    · simp only [hik, if_false]
      exact keep (own_below (h3 i (by omega)) hb (Nat.le_refl _))

set_option maxRecDepth 100000 in
set_option maxHeartbeats 4000000 in
theorem walk_CellNewest (a b c : Int) (a0 : Option Addr) (len0 cap0 : Nat) (z : List Int) (tn : Int) (w : World) (wa : (Lit.int .u32 a).wf = true) (wb : (Lit.int .u32 b).wf = true) (wc : (Lit.int .u32 c).wf = true) (w0 : IsRow .u8 w a0 len0 cap0 z) (wt : (Lit.int .u8 tn).wf = true) :
    Calls Try.prog 6 #[.int .u32 a, .int .u32 b, .int .u32 c, .slice a0 len0 cap0, .int .u8 tn] w fun e w' => e = .returned (.bool true) ∧ Below w.heap.size w w' := by
  obtain ⟨i0, hi, hz0, hz1, hz2⟩ := info_parts info_row8
  obtain ⟨l0, hl0, hb0, hr0⟩ := isRow_rd w0
  obtain ⟨aa, ab⟩ := bounds_u32 wa
  obtain ⟨ba, bb⟩ := bounds_u32 wb
  obtain ⟨ca, cb⟩ := bounds_u32 wc
  obtain ⟨ta, tb⟩ := bounds_u8 wt
  obtain ⟨a, rfl⟩ := Int.eq_ofNat_of_zero_le aa
  obtain ⟨b, rfl⟩ := Int.eq_ofNat_of_zero_le ba
  obtain ⟨c, rfl⟩ := Int.eq_ofNat_of_zero_le ca
  obtain ⟨tn, rfl⟩ := Int.eq_ofNat_of_zero_le ta
  have HR0 := Lib.hid hr0
  have HL0 := Lib.hid hl0
  have h1 := hr0.le
  have h2 := hr0.top
  unfold maxLen at h2
  clear wa wb wc wt w0 hr0 hl0
  go_enter Try.func6, Try.ntmps6
  go_wp2_with (go_at_call 14; refine (awake06 _).mono ?_; rintro e w1 ⟨rfl, hb1⟩)
  go_at_call 15
  refine (Cut_any a0 len0 cap0 l0 40 _ HL0.out ((HR0.out.below hb1).mono hb1.size) (by omega)).mono ?_
  rintro e w2 ⟨v, rfl, hown, hb2⟩
  obtain ⟨P, hP⟩ : ∃ P, P = l0.take 40 := ⟨_, rfl⟩
  have hPb : bytes P := by rw [hP]; exact hb0.take 40
  obtain ⟨m, hm⟩ : ∃ m, m = min 40 len0 := ⟨_, rfl⟩
  have hPm : P.length = m := by rw [hP, hm]; exact bytes_take HL0.out
  have hm2 : m ≤ 40 := by omega
  rw [← hP, ← hm] at hown
  obtain ⟨pa, pc, rfl⟩ := own_form hown
  have hr := rd_of_own hown (fun i hi => bl_at P (by omega))
  have HB2 := Lib.hid (hb1.trans (hb2.mono hb1.size))
  have HPM := Lib.hid hPm
  have HR2 := Lib.hid hr
  clear hP hm hown hr hPm hb1 hb2 HR0 HL0 hb0 h1 h2
  go_wp2
  obtain ⟨ns, hns'⟩ : ∃ ns, ns = sel3 a b c := ⟨_, rfl⟩
  have hns : ∀ i, i < 3 → ns i < 4294967296 := by
    intro i _
    rw [hns']; unfold sel3
    split
    · omega
    · split <;> omega
  have hbx := heap_alloc_new w2 (.cells #[.int .u32 (a : Int), .int .u32 (b : Int), .int .u32 (c : Int)] 22)
  have hr3 := (rd_three hbx (lt_of_heap hbx)).same (g := fun i => .int .u32 ((ns i : Nat) : Int)) (fun i hi => by
    rw [hns']; unfold sel3
    by_cases h0 : i = 0
    · simp [h0]
    · by_cases h1 : i = 1 <;> simp [h0, h1])
  have hBB : Below w2.heap.size w2 (w2.alloc (.cells #[.int .u32 (a : Int), .int .u32 (b : Int), .int .u32 (c : Int)] 22)) := (Below.refl _ _).alloc (Nat.le_refl _) _
  obtain ⟨W0, hW0⟩ : ∃ W0, W0 = w2.alloc (.cells #[.int .u32 (a : Int), .int .u32 (b : Int), .int .u32 (c : Int)] 22) := ⟨_, rfl⟩
  obtain ⟨gL, hgL⟩ : ∃ gL, gL = w2.heap.size := ⟨_, rfl⟩
  have hRP : Rd W0.heap.size W0 pa m pc (bv P) := by rw [hW0]; exact rd_grow HR2.out hBB
  have hB0 : Below w.heap.size w W0 := by rw [hW0]; exact HB2.out.trans (hBB.mono HB2.out.size)
  rw [← hW0, ← hgL] at hr3
  rw [← hW0, ← hgL]
  have HRP := Lib.hid hRP
  have HB0 := Lib.hid hB0
  have HR3 := Lib.hid hr3
  have HNS := Lib.hid hns
  have HNE := Lib.hid hns'
  clear hW0 hgL hbx hBB hRP hB0 hr3 hns hns' HB2 HR2
  go_loopw [11, 34] (fun v i wr => ∃ k : Nat, k ≤ 3 ∧ i = .int .i64 k ∧ CellsR W0.heap.size (fun i => cellOf P (ns i)) (m + 12) k v wr ∧ Below W0.heap.size W0 wr) (fun _ i _ => 3 - (intOf i).toNat)
  case atStart => exact ⟨0, by omega, rfl, ⟨fun _ => 0, fun _ => 0, by simpa using World.ownsRow_nil _ _ _ _, fun i hi => absurd hi (by omega)⟩, Below.refl _ _⟩
  case round =>
    obtain ⟨k, hk, rfl, hN, hBB⟩ := hrel
    by_cases hlt : k < 3
    · obtain ⟨g, cc, hout, hin⟩ := hN
      obtain ⟨bL, oL, he, hbL, hcL⟩ := (HR3.out.below hBB).at hlt
      injection he with he
      injection he with he1 he2
      subst he1 he2
      rw [Nat.zero_add] at hcL
      have hnk := HNS.out k hlt
      obtain ⟨n, hn⟩ : ∃ n, n = ns k := ⟨_, rfl⟩
      rw [← hn] at hcL hnk
      have HN := Lib.hid hn
      have H2 := Lib.hid hout
      have H3 := Lib.hid hin
      have HBB := Lib.hid hBB
      have hs0 : W0.heap.size ≤ wr.heap.size := hBB.size
      clear hn hout hin hBB
      go_wp2_with fail
      go_at_call 28
      refine (Num_any n 4 _ (by omega) (by omega)).mono ?_
      rintro e w3 ⟨na, nc, rfl, hown3, hb3⟩
      have hq3 := Lib.hid (rd_of_own (f := bv (numB n 4)) hown3 (fun i hi => bl_at _ (by rw [numB_len]; exact hi)))
      have HB3 := Lib.hid hb3
      have hqp := Lib.hid (HRP.out.below (HBB.out.trans (hb3.mono hs0)))
      have hs3 : wr.heap.size ≤ w3.heap.size := hb3.size
      clear hown3 hb3
      go_wp2_with fail
      go_at_call 17
      have hh : (w3.alloc (.cells #[.slice pa m pc, .slice na 4 nc] 23)).heap[w3.heap.size]? = some (.cells #[.slice pa m pc, .slice na 4 nc] 23 (0, 0)) := heap_alloc_new _ _
      have hal : Below w3.heap.size w3 (w3.alloc (.cells #[.slice pa m pc, .slice na 4 nc] 23)) := (Below.refl _ _).alloc (Nat.le_refl _) _
      have hll : (P ++ numB n 4).length = m + 4 := by rw [List.length_append, numB_len, HPM.out]
      have HLL := Lib.hid hll
      refine (Join2 (n := w3.heap.size) (n' := w3.heap.size) HPM.out (numB_len _ _) hh ((hqp.out.mono (by omega)).below hal) (hq3.out.below hal) (by simp) (by simp) (by omega)).mono ?_
      rintro e w5 ⟨v5, rfl, hown5, hb5⟩
      obtain ⟨a5, c5, rfl⟩ := own_form hown5
      rw [HLL.out] at hown5 ⊢
      have hr5 := Lib.hid (rd_of_own (f := bv (P ++ numB n 4)) hown5 (fun j hj => bl_at _ (by rw [HLL.out]; exact hj)))
      have hbb : bytes (P ++ numB n 4) := hPb.append (numB_bytes _ _)
      have hb35 := hal.trans (hb5.mono (by simp))
      have HB5 := Lib.hid (HB3.out.trans (hb35.mono hs3))
      have hs5 : w3.heap.size ≤ w5.heap.size := hb35.size
      clear hh hal hll hown5 hb5 hb35 hq3 hqp HB3
      go_wp2_with fail
      go_at_call 16
      refine (cMake_any n a5 _ _ w5.heap.size (P ++ numB n 4) _ (by omega) HLL.out (Nat.le_refl _) hr5.out hbb).mono ?_
      rintro e w6 ⟨hb6, ⟨h, _⟩ | ⟨_, vk, rfl, hown⟩⟩
      · omega
      have hce : mkCell n (P ++ numB n 4) = (fun i => cellOf P (ns i)) k := by
        dsimp only; rw [← HN.out]; unfold cellOf; rfl
      rw [hce, show m + 4 + 8 = m + 12 by omega] at hown
      obtain ⟨gk, ck, rfl, hgk, hgl⟩ := own_some hown (by omega)
      have HB6 := Lib.hid (HB5.out.trans (hb6.mono (by omega)))
      have hout6 := own_below H2.out HB6.out (Nat.le_refl _)
      have H5 := Lib.hid hown
      have hs6 : w5.heap.size ≤ w6.heap.size := hb6.size
      clear hown hb6 hce hr5
      go_wp2_with (at_builtin; refine wpList_append_own _ rfl _ _ 31 rfl W0.heap.size 23 i0 (.slice none 0 0) 1 24 Try.underlying31 hi hz0 hz1 hz2 rfl (by decide) _ _ _ rfl (hout6.alloc _) ⟨w6.heap.size, 0, none⟩ 1 1 [.slice (some ⟨gk, 0, none⟩) (m + 12) ck] rfl rfl ?c1 ?c2 ?c3 ?c4 ?c5 ?_)
      case c1 => exact cell_one_new _ _ _
      case c2 => simp [Value.oneCell']
      case c3 => unfold maxLen; omega
      case c4 => omega
      case c5 => simp; omega
      intro v' w7 hown7 hgrow7 _
      have hN7 := CellsR.next hs0 H2.out H3.out HB6.out (by omega) H5.out hown7 hgrow7
      have hb7 : Below W0.heap.size W0 w7 := (((HBB.out.trans (HB6.out.mono hs0)).alloc (by omega) (.cells #[.slice (some ⟨gk, 0, none⟩) (m + 12) ck] 23)).grown hgrow7 (by simp; omega) (fun j hj => (hout6.lt j hj).1))
      have HN7 := Lib.hid hN7
      have HB7 := Lib.hid hb7
      clear hgrow7 hown7 hout6 hN7 hb7
      go_wp2
      go_roundw
      case rel => exact ⟨k + 1, by omega, by go_num, HN7.out, HB7.out⟩
      case measure => simp [intOf]; omega
    · obtain rfl : k = 3 := by omega
      obtain ⟨top, htop'⟩ : ∃ top, top = max (max a b) c := ⟨_, rfl⟩
      have hmx := fun w => run_max3 (P := Try.prog) #[22, 22, 22] 22 .u32 a b c w
      rw [← htop'] at hmx
      have htl : top < 4294967296 := by omega
      have ht1 : ∃ i, i < 3 ∧ ns i = top := by
        rw [HNE.out, htop']
        by_cases h1 : b ≤ a
        · by_cases h2 : c ≤ a
          · exact ⟨0, by omega, by show a = _; omega⟩
          · exact ⟨2, by omega, by show c = _; omega⟩
        · by_cases h2 : c ≤ b
          · exact ⟨1, by omega, by show b = _; omega⟩
          · exact ⟨2, by omega, by show c = _; omega⟩
      have ht2 : ∀ i, i < 3 → ns i ≤ top := by
        intro i _
        rw [HNE.out, htop']; unfold sel3
        split
        · omega
        · split <;> omega
      obtain ⟨x, hx⟩ : ∃ x, x = tn % 3 := ⟨_, rfl⟩
      have hxI : (tn : Int) % 3 = (x : Int) := by omega
      have hx3 : x < 3 := by omega
      have HT1 := Lib.hid ht1
      have HT2 := Lib.hid ht2
      obtain ⟨g, cc, hout, hin⟩ := hN
      obtain ⟨G, cap, rfl, hGb, hGl⟩ := own_some hout (by decide)
      have hcells : ∀ i, i < 3 → wr.cell? ⟨G, i, none⟩ = some (.slice (some ⟨g i, 0, none⟩) (m + 12) (cc i)) := fun i hi => by
        rw [hout.cellAt i (by omega)]; simp [hi]
      have hfac : ∀ i, i < 3 → (cellOf P (ns i)).length = m + 12 ∧ bytes (cellOf P (ns i)) ∧ perr (cellOf P (ns i)) = 0 := fun i hi => by
        obtain ⟨a1, a2, _, a4, _⟩ := cellOf_facts hPb (by rw [HPM.out]; omega) (HNS.out i hi)
        exact ⟨by rw [a1, HPM.out], a4, a2⟩
      have hrds : ∀ i, i < 3 → Rd wr.heap.size wr (some ⟨g i, 0, none⟩) (m + 12) (cc i) (bv (cellOf P (ns i))) := fun i hi => rd_of_own (hin i hi) (fun j hj => bl_at _ (by rw [(hfac i hi).1]; exact hj))
      have HC := Lib.hid hcells
      have HF := Lib.hid hfac
      have HRD := Lib.hid hrds
      have HBR := Lib.hid hBB
      clear htop' hx ht1 ht2 hout hin hcells hfac hrds hBB ta tb
      go_wp2
      clear hmx hxI
      obtain ⟨y1, hy1⟩ : ∃ y, y = x + 1 := ⟨_, rfl⟩
      obtain ⟨y2, hy2⟩ : ∃ y, y = x + 2 := ⟨_, rfl⟩
      obtain ⟨i1, hi1⟩ : ∃ i1, i1 = y1 % 3 := ⟨_, rfl⟩
      obtain ⟨i2, hi2⟩ : ∃ i2, i2 = y2 % 3 := ⟨_, rfl⟩
      have hi13 : i1 < 3 := by omega
      have hi23 : i2 < 3 := by omega
      have hperm : ∀ j, j < 3 → j = x ∨ j = i1 ∨ j = i2 := fun j hj => by omega
      have hA1 : IntKind.i64.wrap ((x : Int) + 1) = (y1 : Int) := by rw [wraps_i64_16 _ (by omega) (by omega)]; omega
      have hA2 : IntKind.i64.wrap ((x : Int) + 2) = (y2 : Int) := by rw [wraps_i64_16 _ (by omega) (by omega)]; omega
      have hA1' : (x : Int) + 1 = (y1 : Int) := by omega
      have hA2' : (x : Int) + 2 = (y2 : Int) := by omega
      have hB1 : (y1 : Int).tmod 3 = (i1 : Int) := by rw [hi1]; rfl
      have hB2 : (y2 : Int).tmod 3 = (i2 : Int) := by rw [hi2]; rfl
      have hB1' : (y1 : Int) % 3 = (i1 : Int) := by omega
      have hB2' : (y2 : Int) % 3 = (i2 : Int) := by omega
      obtain ⟨D, hD⟩ : ∃ D, D = P ++ numB top 4 := ⟨_, rfl⟩
      have hDl : D.length = m + 4 := by rw [hD, List.length_append, numB_len, HPM.out]
      have hDb : bytes D := by rw [hD]; exact hPb.append (numB_bytes _ _)
      have hV := newest3 hPb (by rw [HPM.out]; omega) (fun i => ns (sel3 x i1 i2 i)) (fun i hi => HNS.out _ (sel3_lt hx3 hi13 hi23 i)) top
        (by
          obtain ⟨j, hj, hjt⟩ := HT1.out
          rcases hperm j hj with rfl | rfl | rfl
          · exact ⟨0, by omega, hjt⟩
          · exact ⟨1, by omega, hjt⟩
          · exact ⟨2, by omega, hjt⟩)
        (fun i hi => HT2.out _ (sel3_lt hx3 hi13 hi23 i))
        (sel3 (cellOf P (ns x)) (cellOf P (ns i1)) (cellOf P (ns i2))) (fun i hi => congrFun (sel3_map (fun j => cellOf P (ns j)) x i1 i2) i)
      rw [← hD] at hV
      have HD := Lib.hid hD
      have HDL := Lib.hid hDl
      have HV := Lib.hid hV
      clear hy1 hy2 hi1 hi2 hperm hD hDl hV
      have hBs : W0.heap.size ≤ wr.heap.size := HBR.out.size
      obtain ⟨I, W, hne, hWI, hIW⟩ := Go.Mix.family (fun v => Below wr.heap.size wr v) (Below.refl _ _)
      have HJ := Lib.hid hIW
      have HW := Lib.hid hWI
      clear hWI hIW
      refine Go.Flo.wp_region (fun w' => ∃ i, w' = W i) 25 [Go.Flo.Spec.row wr.heap.size 3 #[.slice (some ⟨g x, 0, none⟩) (m + 12) (cc x), .slice (some ⟨g i1, 0, none⟩) (m + 12) (cc i1), .slice (some ⟨g i2, 0, none⟩) (m + 12) (cc i2)] 23, SpV top D] (by kernel_rfl) (by kernel_rfl) (by decide) (by rintro _ w' ⟨i, rfl⟩ hb; exact HJ.out _ ((HW.out i).trans (hb.mono (HW.out i).size))) (HJ.out _ (Below.refl _ _).drew) ?_
      simp only [Go.Flo.pair, Go.Mix.calm, List.take, List.drop, if_true, Bool.false_eq_true, if_false, Nat.reduceAdd, Nat.reduceSub]
      have e0 : ∀ i, (W i).cell? ⟨G, x, none⟩ = some (.slice (some ⟨g x, 0, none⟩) (m + 12) (cc x)) := fun i => ((HW.out i).cell hGl).trans (HC.out x hx3)
      have e1 : ∀ i, (W i).cell? ⟨G, i1, none⟩ = some (.slice (some ⟨g i1, 0, none⟩) (m + 12) (cc i1)) := fun i => ((HW.out i).cell hGl).trans (HC.out i1 hi13)
      have e2 : ∀ i, (W i).cell? ⟨G, i2, none⟩ = some (.slice (some ⟨g i2, 0, none⟩) (m + 12) (cc i2)) := fun i => ((HW.out i).cell hGl).trans (HC.out i2 hi23)
      (repeat (first | (refine Go.Flo.fw_calm rfl ?_ (fun K hK => ?_); (first | exact Go.Mix.wanted_none rfl | exact Go.Mix.wanted_tt rfl rfl rfl | exact Go.Mix.wanted_ff rfl rfl rfl); go_big_quiet_op; refine hK _ ?_; clear hK K) | (refine Go.Flo.fw_skip ?_ (fun K hK => ?_); (first | exact Go.Mix.wanted_tf rfl rfl rfl | exact Go.Mix.wanted_ft rfl rfl rfl); go_simp; refine hK _ ?_; clear hK K) | (refine Go.Flo.fw_any rfl ?_ (fun K hK => ?_); (first | exact Go.Mix.wanted_none rfl | exact Go.Mix.wanted_tt rfl rfl rfl | exact Go.Mix.wanted_ff rfl rfl rfl); go_simp; (try (go_ints; try go_simp)); refine hK _ ?_; clear hK K)))
      refine Go.Flo.fw_loud rfl ?_ rfl (by simp) (fun wv hwv hav K hK => ?_) (fun v hv K hK => ?_)
      · (first | exact Go.Mix.wanted_none rfl | exact Go.Mix.wanted_tt rfl rfl rfl | exact Go.Mix.wanted_ff rfl rfl rfl)
      · obtain ⟨iv, rfl⟩ := hwv
        (first | go_big_op | go_simp)
        refine hK _ _ (Go.Flo.owes_row (HW.out iv).size)
      obtain ⟨gm, hgm, rfl⟩ := hv.row
      go_simp
      refine hK _ ?_
      clear hK K hv
      (repeat (first | (refine Go.Flo.fw_calm rfl ?_ (fun K hK => ?_); (first | exact Go.Mix.wanted_none rfl | exact Go.Mix.wanted_tt rfl rfl rfl | exact Go.Mix.wanted_ff rfl rfl rfl); go_big_quiet_op; refine hK _ ?_; clear hK K) | (refine Go.Flo.fw_skip ?_ (fun K hK => ?_); (first | exact Go.Mix.wanted_tf rfl rfl rfl | exact Go.Mix.wanted_ft rfl rfl rfl); go_simp; refine hK _ ?_; clear hK K) | (refine Go.Flo.fw_any rfl ?_ (fun K hK => ?_); (first | exact Go.Mix.wanted_none rfl | exact Go.Mix.wanted_tt rfl rfl rfl | exact Go.Mix.wanted_ff rfl rfl rfl); go_simp; (try (go_ints; try go_simp)); refine hK _ ?_; clear hK K)))
      refine Go.Flo.fw_loud rfl ?_ rfl (by simp) (fun wv hwv hav K hK => ?_) (fun v hv K hK => ?_)
      · (first | exact Go.Mix.wanted_none rfl | exact Go.Mix.wanted_tt rfl rfl rfl | exact Go.Mix.wanted_ff rfl rfl rfl)
      · obtain ⟨iv, rfl⟩ := hwv
        have hbv := HW.out iv
        (first | go_big_op | go_simp)
        have hs := Go.Flo.says_row ((hav 78 (by decide +kernel)).2 rfl).1
        go_at_call 22
        refine (Vote3 (n := wr.heap.size) (HF.out x hx3).1 (HF.out i1 hi13).1 (HF.out i2 hi23).1 hs ((HRD.out x hx3).below hbv) ((HRD.out i1 hi13).below hbv) ((HRD.out i2 hi23).below hbv) hbv.size (HF.out x hx3).2.1 (HF.out i1 hi13).2.1 (HF.out i2 hi23).2.1 (by rw [(HF.out x hx3).1, (HF.out i1 hi13).1, (HF.out i2 hi23).1]; omega)).mono ?_
        rintro e w' ⟨hbb, hpo⟩
        obtain ⟨q1, q2, q3⟩ := HV.out
        rcases hpo with (⟨h, _⟩ | ⟨_, x9, c9, rfl, hr9⟩)
        · omega
        rw [q3, HDL.out] at hr9
        rw [q2, q3, HDL.out]
        exact hK _ _ (owes_V rfl hbb HDL.out hr9)
      obtain ⟨x9, c9, rfl⟩ := ex_V HDL.out hv
      go_simp
      refine hK _ ?_
      clear hK K hv
      (repeat (first | (refine Go.Flo.fw_calm rfl ?_ (fun K hK => ?_); (first | exact Go.Mix.wanted_none rfl | exact Go.Mix.wanted_tt rfl rfl rfl | exact Go.Mix.wanted_ff rfl rfl rfl); go_big_quiet_op; refine hK _ ?_; clear hK K) | (refine Go.Flo.fw_skip ?_ (fun K hK => ?_); (first | exact Go.Mix.wanted_tf rfl rfl rfl | exact Go.Mix.wanted_ft rfl rfl rfl); go_simp; refine hK _ ?_; clear hK K) | (refine Go.Flo.fw_any rfl ?_ (fun K hK => ?_); (first | exact Go.Mix.wanted_none rfl | exact Go.Mix.wanted_tt rfl rfl rfl | exact Go.Mix.wanted_ff rfl rfl rfl); go_simp; (try (go_ints; try go_simp)); refine hK _ ?_; clear hK K)))
      refine Go.Flo.fw_nil ?_
      intro ws hwws hfws huws
      refine Go.Flo.tw_nil ?_
      obtain ⟨iend, hiend⟩ := hwws
      have hbws := HW.out iend
      rw [← hiend] at hbws
      clear hiend iend huws
      have hsays := says_V ((hfws (some 79)).1.1.1.1.1.1.1.2 rfl).1
      have hbs : Below wr.heap.size wr ws := hbws
      have HSA := Lib.hid hsays
      have HBS := Lib.hid hbs
      have HC2 := Lib.hid (fun i hi => (hbs.cell (p := ⟨G, i, none⟩) hGl).trans (HC.out i hi))
      have HRD2 := Lib.hid (fun i hi => rd_grow (HRD.out i hi) hbs)
      have hGs : G < ws.heap.size := Nat.lt_of_lt_of_le hGl hbs.size
      have hBs2 : W0.heap.size ≤ ws.heap.size := Nat.le_trans hBs hbs.size
      clear hfws HJ HW hne e0 e1 e2 hsays hbs hbws HC HRD hA1 hA2 hA1' hA2' hB1 hB2 hB1' hB2' hi13 hi23 HV
      clear W I
      have hcx := HC2.out x hx3
      go_wp2_with fail
      go_at_call 17
      have hal : Below ws.heap.size ws (ws.alloc (.cells #[.slice (some ⟨g x, 0, none⟩) (m + 12) (cc x)] 23)) := (Below.refl _ _).alloc (Nat.le_refl _) _
      refine (Join1 (HF.out x hx3).1 (heap_alloc_new _ _) ((HRD2.out x hx3).below hal) (by simp) (by rw [(HF.out x hx3).1]; omega)).mono ?_
      rintro e w8 ⟨v8, rfl, hown8, hb8⟩
      obtain ⟨A, hA⟩ : ∃ A, A = cellOf P (ns x) := ⟨_, rfl⟩
      have hAl : A.length = m + 12 := by rw [hA]; exact (HF.out x hx3).1
      have hAb : bytes A := by rw [hA]; exact (HF.out x hx3).2.1
      have hAe : perr A = 0 := by rw [hA]; exact (HF.out x hx3).2.2
      rw [← hA, hAl] at hown8
      obtain ⟨gb, cb', rfl, hgb, hgb2⟩ := own_some hown8 (by omega)
      obtain ⟨M, hM⟩ : ∃ M, M = m + 12 := ⟨_, rfl⟩
      obtain ⟨q, hq⟩ : ∃ q, q = m + 11 := ⟨_, rfl⟩
      rw [← hM] at hown8
      have hqM : q < M := by omega
      have hMle : M ≤ 60 := by omega
      have hqI : (M : Int) - 1 = (q : Int) := by omega
      have hc8 := hown8.cellAt q (by omega)
      have hf8 := hown8.frozenAt q
      rw [bl_at _ (by omega)] at hc8
      unfold bv at hc8
      have hy := hAb.at q
      have hte := turned_err hAb hAe (i := q) (t := 1) (by omega) (by omega) (by omega)
      have hset := set_bl A q (A.getD q 0 ^^^ 1)
      have hxl : A.getD q 0 ^^^ 1 < 256 := Nat.xor_lt_two_pow (n := 8) hy (by omega)
      obtain ⟨y, hy'⟩ : ∃ y, y = A.getD q 0 := ⟨_, rfl⟩
      rw [← hy'] at hc8 hy hte hset hxl
      have hxor := xor8 y 1 hy (by omega)
      have hxor' : bits .xor .u8 (y : Int) 1 = ((y ^^^ 1 : Nat) : Int) := hxor
      have hEl : (A.set q (y ^^^ 1)).length = M := by rw [List.length_set]; omega
      have hEb : bytes (A.set q (y ^^^ 1)) := set_bytes hAb q hxl
      obtain ⟨E, hE⟩ : ∃ E, E = A.set q (y ^^^ 1) := ⟨_, rfl⟩
      rw [← hE] at hte hset hEl hEb
      have hb8' := hal.trans (hb8.mono (by simp))
      have HO8 := Lib.hid hown8
      have HSET := Lib.hid hset
      have HEL := Lib.hid hEl
      have HTE := Lib.hid hte
      have HB8 := Lib.hid hb8'
      have HMM := Lib.hid hM
      have hgs : ws.heap.size ≤ gb := by simp at hgb; omega
      have hs8 : ws.heap.size ≤ w8.heap.size := hb8'.size
      rw [← hM]
      clear hown8 hset hEl hte hb8' hb8 hal hM hq hA hAl hAb hAe hE hy' hxor hcx hgb
      go_wp2
      obtain ⟨hown9, hgrow9⟩ := HO8.out.stored q (.int .u8 ((y ^^^ 1 : Nat) : Int))
      rw [HSET.out] at hown9
      have hb89 : Below ws.heap.size w8 (w8.setCell ⟨gb, q, none⟩ (.int .u8 ((y ^^^ 1 : Nat) : Int))) := (Below.refl _ _).setCell (p := ⟨gb, q, none⟩) hgs _
      obtain ⟨w9, hw9⟩ : ∃ w9, w9 = w8.setCell ⟨gb, q, none⟩ (.int .u8 ((y ^^^ 1 : Nat) : Int)) := ⟨_, rfl⟩
      rw [← hw9] at hown9 hb89
      rw [← hw9]
      have hbs9 := HB8.out.trans hb89
      have HC3 := Lib.hid (fun i hi => (hbs9.cell (p := ⟨G, i, none⟩) hGs).trans (HC2.out i hi))
      have HRD3 := Lib.hid (fun i hi => rd_grow (HRD2.out i hi) hbs9)
      have HSA3 := Lib.hid (rd_grow HSA.out hbs9)
      have HRE := Lib.hid (rd_of_own (f := bv E) hown9 (fun j hj => bl_at _ (by rw [HEL.out]; exact hj)))
      have hG9 : G < w9.heap.size := Nat.lt_of_lt_of_le hGs hbs9.size
      have HB9 := Lib.hid (HBS.out.trans (hbs9.mono HBS.out.size))
      have hsw9 : wr.heap.size ≤ w9.heap.size := HB9.out.size
      clear hw9 hown9 hgrow9 hb89 hbs9 hc8 hf8 HC2 HRD2 HSA HO8 HB8 hxor'
      have hV := newest4 hPb (by rw [HPM.out]; omega) ns HNS.out top HT1.out HT2.out (sel4 E (cellOf P (ns 0)) (cellOf P (ns 1)) (cellOf P (ns 2))) (fun i hi => by
        have : i = 0 ∨ i = 1 ∨ i = 2 := by omega
        rcases this with rfl | rfl | rfl <;> rfl) HTE.out
      rw [← HD.out] at hV
      have HV := Lib.hid hV
      clear hV
      obtain ⟨I, W, hne, hWI, hIW⟩ := Go.Mix.family (fun v => Below w9.heap.size w9 v) (Below.refl _ _)
      have HJ := Lib.hid hIW
      have HW := Lib.hid hWI
      clear hWI hIW
      refine Go.Flo.wp_region (fun w' => ∃ i, w' = W i) 19 [Go.Flo.Spec.row w9.heap.size 4 #[.slice (some ⟨gb, 0, none⟩) M cb', .slice (some ⟨g 0, 0, none⟩) (m + 12) (cc 0), .slice (some ⟨g 1, 0, none⟩) (m + 12) (cc 1), .slice (some ⟨g 2, 0, none⟩) (m + 12) (cc 2)] 23, SpV top D] (by kernel_rfl) (by kernel_rfl) (by decide) (by rintro _ w' ⟨i, rfl⟩ hb; exact HJ.out _ ((HW.out i).trans (hb.mono (HW.out i).size))) (HJ.out _ (Below.refl _ _).drew) ?_
      simp only [Go.Flo.pair, Go.Mix.calm, List.take, List.drop, if_true, Bool.false_eq_true, if_false, Nat.reduceAdd, Nat.reduceSub]
      have e0 : ∀ i, (W i).cell? ⟨G, 0, none⟩ = some (.slice (some ⟨g 0, 0, none⟩) (m + 12) (cc 0)) := fun i => ((HW.out i).cell hG9).trans (HC3.out 0 (by omega))
      have e1 : ∀ i, (W i).cell? ⟨G, 1, none⟩ = some (.slice (some ⟨g 1, 0, none⟩) (m + 12) (cc 1)) := fun i => ((HW.out i).cell hG9).trans (HC3.out 1 (by omega))
      have e2 : ∀ i, (W i).cell? ⟨G, 2, none⟩ = some (.slice (some ⟨g 2, 0, none⟩) (m + 12) (cc 2)) := fun i => ((HW.out i).cell hG9).trans (HC3.out 2 (by omega))
      (repeat (first | (refine Go.Flo.fw_calm rfl ?_ (fun K hK => ?_); (first | exact Go.Mix.wanted_none rfl | exact Go.Mix.wanted_tt rfl rfl rfl | exact Go.Mix.wanted_ff rfl rfl rfl); go_big_quiet_op; refine hK _ ?_; clear hK K) | (refine Go.Flo.fw_skip ?_ (fun K hK => ?_); (first | exact Go.Mix.wanted_tf rfl rfl rfl | exact Go.Mix.wanted_ft rfl rfl rfl); go_simp; refine hK _ ?_; clear hK K) | (refine Go.Flo.fw_any rfl ?_ (fun K hK => ?_); (first | exact Go.Mix.wanted_none rfl | exact Go.Mix.wanted_tt rfl rfl rfl | exact Go.Mix.wanted_ff rfl rfl rfl); go_simp; (try (go_ints; try go_simp)); refine hK _ ?_; clear hK K)))
      refine Go.Flo.fw_loud rfl ?_ rfl (by simp) (fun wv hwv hav K hK => ?_) (fun v hv K hK => ?_)
      · (first | exact Go.Mix.wanted_none rfl | exact Go.Mix.wanted_tt rfl rfl rfl | exact Go.Mix.wanted_ff rfl rfl rfl)
      · obtain ⟨iv, rfl⟩ := hwv
        (first | go_big_op | go_simp)
        refine hK _ _ (Go.Flo.owes_row (HW.out iv).size)
      obtain ⟨gn, hgn, rfl⟩ := hv.row
      go_simp
      refine hK _ ?_
      clear hK K hv
      (repeat (first | (refine Go.Flo.fw_calm rfl ?_ (fun K hK => ?_); (first | exact Go.Mix.wanted_none rfl | exact Go.Mix.wanted_tt rfl rfl rfl | exact Go.Mix.wanted_ff rfl rfl rfl); go_big_quiet_op; refine hK _ ?_; clear hK K) | (refine Go.Flo.fw_skip ?_ (fun K hK => ?_); (first | exact Go.Mix.wanted_tf rfl rfl rfl | exact Go.Mix.wanted_ft rfl rfl rfl); go_simp; refine hK _ ?_; clear hK K) | (refine Go.Flo.fw_any rfl ?_ (fun K hK => ?_); (first | exact Go.Mix.wanted_none rfl | exact Go.Mix.wanted_tt rfl rfl rfl | exact Go.Mix.wanted_ff rfl rfl rfl); go_simp; (try (go_ints; try go_simp)); refine hK _ ?_; clear hK K)))
      refine Go.Flo.fw_loud rfl ?_ rfl (by simp) (fun wv hwv hav K hK => ?_) (fun v hv K hK => ?_)
      · (first | exact Go.Mix.wanted_none rfl | exact Go.Mix.wanted_tt rfl rfl rfl | exact Go.Mix.wanted_ff rfl rfl rfl)
      · obtain ⟨iv, rfl⟩ := hwv
        have hbv := HW.out iv
        (first | go_big_op | go_simp)
        have hs := Go.Flo.says_row ((hav 108 (by decide +kernel)).2 rfl).1
        have f0 := HF.out 0 (by omega)
        have f1 := HF.out 1 (by omega)
        have f2 := HF.out 2 (by omega)
        go_at_call 22
        refine (Vote4 (n := w9.heap.size) HEL.out f0.1 f1.1 f2.1 hs (HRE.out.below hbv) ((HRD3.out 0 (by omega)).below hbv) ((HRD3.out 1 (by omega)).below hbv) ((HRD3.out 2 (by omega)).below hbv) hbv.size hEb f0.2.1 f1.2.1 f2.2.1 (by rw [HEL.out, f0.1, f1.1, f2.1]; omega)).mono ?_
        rintro e w' ⟨hbb, hpo⟩
        obtain ⟨q1, q2, q3⟩ := HV.out
        rcases hpo with (⟨h, _⟩ | ⟨_, x9, c9, rfl, hr9⟩)
        · omega
        rw [q3, HDL.out] at hr9
        rw [q2, q3, HDL.out]
        exact hK _ _ (owes_V rfl hbb HDL.out hr9)
      obtain ⟨xa, ca', rfl⟩ := ex_V HDL.out hv
      go_simp
      refine hK _ ?_
      clear hK K hv
      (repeat (first | (refine Go.Flo.fw_calm rfl ?_ (fun K hK => ?_); (first | exact Go.Mix.wanted_none rfl | exact Go.Mix.wanted_tt rfl rfl rfl | exact Go.Mix.wanted_ff rfl rfl rfl); go_big_quiet_op; refine hK _ ?_; clear hK K) | (refine Go.Flo.fw_skip ?_ (fun K hK => ?_); (first | exact Go.Mix.wanted_tf rfl rfl rfl | exact Go.Mix.wanted_ft rfl rfl rfl); go_simp; refine hK _ ?_; clear hK K) | (refine Go.Flo.fw_any rfl ?_ (fun K hK => ?_); (first | exact Go.Mix.wanted_none rfl | exact Go.Mix.wanted_tt rfl rfl rfl | exact Go.Mix.wanted_ff rfl rfl rfl); go_simp; (try (go_ints; try go_simp)); refine hK _ ?_; clear hK K)))
      refine Go.Flo.fw_nil ?_
      intro wt hwwt hfwt huwt
      refine Go.Flo.tw_nil ?_
      obtain ⟨iend, hiend⟩ := hwwt
      have hbwt := HW.out iend
      rw [← hiend] at hbwt
      clear hiend iend huwt
      have hsays := says_V ((hfwt (some 109)).1.1.1.1.1.1.1.2 rfl).1
      have hbt : Below w9.heap.size w9 wt := hbwt
      have HSB := Lib.hid hsays
      have HSA4 := Lib.hid (rd_grow HSA3.out hbt)
      have HBT := Lib.hid (HBR.out.trans ((HB9.out.trans (hbt.mono HB9.out.size)).mono hBs))
      clear hfwt HJ HW hne e0 e1 e2 hsays hbt hbwt HC3 HRD3 HRE HV HSA3
      clear W I
      have hst : W0.heap.size ≤ wt.heap.size := HBT.out.size
      go_wp2_with fail
      go_at_call 28
      refine (Num_any top 4 _ (by omega) (by omega)).mono ?_
      rintro e wu ⟨na, nc, rfl, hownu, hbu⟩
      have hqu := Lib.hid (rd_of_own (f := bv (numB top 4)) hownu (fun i hi => bl_at _ (by rw [numB_len]; exact hi)))
      have HBU := Lib.hid (HBT.out.trans (hbu.mono hst))
      have HSAu := Lib.hid (rd_grow HSA4.out hbu)
      have HSBu := Lib.hid (rd_grow HSB.out hbu)
      have hqp := Lib.hid (HRP.out.below HBU.out)
      have hsu : W0.heap.size ≤ wu.heap.size := HBU.out.size
      clear hownu hbu HSA4 HSB HBT
      go_wp2_with fail
      go_at_call 17
      have hal : Below wu.heap.size wu (wu.alloc (.cells #[.slice pa m pc, .slice na 4 nc] 23)) := (Below.refl _ _).alloc (Nat.le_refl _) _
      have hll : (P ++ numB top 4).length = m + 4 := by rw [List.length_append, numB_len, HPM.out]
      refine (Join2 (n := wu.heap.size) (n' := wu.heap.size) HPM.out (numB_len _ _) (heap_alloc_new _ _) ((hqp.out.mono (by omega)).below hal) (hqu.out.below hal) (by simp) (by simp) (by omega)).mono ?_
      rintro e wv ⟨vj, rfl, hownj, hbj⟩
      obtain ⟨aj, cj, rfl⟩ := own_form hownj
      rw [← HD.out, HDL.out] at hownj
      rw [← HD.out, HDL.out]
      have hbuv := hal.trans (hbj.mono (by simp))
      have HRJ := Lib.hid (rd_of_own (f := bv D) hownj (fun j hj => bl_at _ (by rw [HDL.out]; exact hj)))
      have HSAv := Lib.hid (rd_grow HSAu.out hbuv)
      have HSBv := Lib.hid (rd_grow HSBu.out hbuv)
      have HBV := Lib.hid (HBU.out.trans (hbuv.mono hsu))
      clear hal hll hownj hbj hbuv hqu hqp HSAu HSBu
      go_wp2_with fail
      go_at_call 20
      refine (Same_any _ _ _ _ _ _ _ _ D D _ HDL.out HDL.out HSAv.out HRJ.out hDb hDb).mono ?_
      rintro e wx ⟨rfl, jx, rfl⟩
      simp only [decide_true]
      have hbx : Below wv.heap.size wv (wv.drewN jx) := below_drews _ _ _
      have HSAx := Lib.hid (rd_grow HSAv.out hbx)
      have HSBx := Lib.hid (rd_grow HSBv.out hbx)
      have HBX := Lib.hid (HBV.out.trans (below_drews _ wv jx))
      clear hbx HSAv HSBv HRJ
      go_wp2_with fail
      go_at_call 20
      refine (Same_any _ _ _ _ _ _ _ _ D D _ HDL.out HDL.out HSBx.out HSAx.out hDb hDb).mono ?_
      rintro e wz ⟨rfl, jz, rfl⟩
      simp only [decide_true]
      go_wp2
      go_ret
      exact ⟨rfl, HB0.out.trans ((HBV.out.trans (below_drews _ wv _)).mono HB0.out.size)⟩
end Go.Proofs.Ytifjnpmkcgbniaa
