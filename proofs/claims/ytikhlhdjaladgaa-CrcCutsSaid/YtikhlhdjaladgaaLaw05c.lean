/- CrcCuts -/
import Derived.Test.YtikhlhdjaladgaaLaw05
namespace Go.Proofs.Ytikhlhdjaladgaa
open Go.RowKit Go.Own
set_option linter.unusedVariables false
set_option linter.unusedSimpArgs false

theorem ret_true05c {b : Bool} (h : b = true) : Ending.returned (.bool b) = .returned (.bool true) := by rw [h]
theorem whole_right {l : List Nat} (h : bytes l) : rightB (whole l) = true := by
  have := Cr.sum_lt l h
  unfold rightB
  rw [whole_len, show l.length + 2 - 2 = l.length by omega, show l.length + 2 - 1 = l.length + 1 by omega]
  have e0 : (whole l).take l.length = l := by simp [whole]
  have e1 : (whole l).getD l.length 0 = Cr.sum l / 256 := by simp [whole, List.getD]
  have e2 : (whole l).getD (l.length + 1) 0 = Cr.sum l % 256 := by simp [whole, List.getD]
  rw [e0, e1, e2]
  simp
  omega
theorem whole_take (l : List Nat) : (whole l).take ((whole l).length - 2) = l := by
  rw [whole_len, show l.length + 2 - 2 = l.length by omega]; simp [whole]

theorem below_drewN (w : World) (j n : Nat) : Below n w (w.drewN j) := ⟨rfl, rfl, rfl, Nat.le_refl _, fun _ _ => rfl⟩
section
variable {P : Program} {ops : Array Oper}
theorem wpList_row_tt {rest : List Oper} {o : Oper} {a : Act} {w : World} {Q : Exit → Act → World → Prop} {gd d0 : Nat} (hgd : o.guard = some (gd, true)) (h2 : (ops[gd]?).bind (·.dst) = some d0) (h3 : a.tmps[d0]? = some (.bool true)) (ty : TypeId) (x : Operand) (ho : o.op = .load ty x)
    (g : Nat) (hx : a.eval x = .pointer (some ⟨g, 0, none⟩)) (t : TypeId) (cs : Array Value) (fr : Nat × Nat) (d : TypeDesc) (hg : w.heap[g]? = some (.cells cs t fr))
    (hu : P.underlying ty = some d) (hd : (match d with | .struct _ | .array _ _ => true | _ => false) = true) (hi : (P.info? ty).map (·.size) = some cs.size)
    (h : wpList P ops Q rest (a.put o.dst (.agg cs)) w) : wpList P ops Q (o :: rest) a w := by
  unfold wpList
  rw [if_pos (Go.Mix.wanted_tt hgd h2 h3)]
  exact .inl (wp_load_row ty x ho g hx t cs fr d hg hu hd hi h)
end
set_option maxRecDepth 100000 in
set_option maxHeartbeats 4000000 in
theorem walk_CrcCuts (a0 : Option Addr) (len0 cap0 : Nat) (z : List Int) (a1 : Option Addr) (len1 cap1 : Nat) (z1 : List Int) (w : World) (w0 : IsRow .u8 w a0 len0 cap0 z) (wr : IsRow .u8 w a1 len1 cap1 z1) :
    Calls Try.prog 4 #[.slice a0 len0 cap0, .slice a1 len1 cap1] w fun e w' => e = .returned (.bool true) ∧ Below w.heap.size w w' := by
  obtain ⟨l0, hl0, hb0, hr0⟩ := isRow_rd w0
  obtain ⟨k0, hk0, kb0, kr0⟩ := isRow_rd wr
  have hz := zero_tab
  have HR0 := Lib.hid hr0
  have HL0 := Lib.hid hl0
  have HKR0 := Lib.hid kr0
  have HKL0 := Lib.hid hk0
  have h1 := hr0.le
  have h2 := hr0.top
  have h3 := kr0.le
  have h4 := kr0.top
  unfold maxLen at h2 h4
  clear w0 wr hr0 hl0 kr0 hk0
  go_enter Try.func4, Try.ntmps4
  go_wp2_with (go_at_call 10; refine (awake05 _).mono ?_; rintro e w1 ⟨rfl, hb1⟩)
  go_at_call 11
  refine (Cut_any a0 len0 cap0 l0 200 _ HL0.out ((HR0.out.below hb1).mono hb1.size) (by omega)).mono ?_
  rintro e w2 ⟨v, rfl, hown, hb2⟩
  obtain ⟨l, hl⟩ : ∃ l, l = l0.take 200 := ⟨_, rfl⟩
  have hlb : bytes l := by rw [hl]; exact hb0.take 200
  obtain ⟨m, hm⟩ : ∃ m, m = min 200 len0 := ⟨_, rfl⟩
  have hlm : l.length = m := by rw [hl, hm]; exact bytes_take HL0.out
  have hm2 : m ≤ 200 := by omega
  rw [← hl, ← hm] at hown
  obtain ⟨a, c, rfl⟩ := own_form hown
  have hr := rd_of_own hown (fun i hi => bl_at l (by omega))
  have hB2 := hb1.trans (hb2.mono hb1.size)
  have hmc := hr.le
  have HLM := Lib.hid hlm
  have HR2 := Lib.hid hr
  clear hl hm hown hr hlm
  go_wp2_with fail
  go_at_call 11
  refine (Cut_any a1 len1 cap1 k0 20 _ HKL0.out ((HKR0.out.below hB2).mono hB2.size) (by omega)).mono ?_
  rintro e w3 ⟨v, rfl, hown, hb3⟩
  obtain ⟨k, hl⟩ : ∃ k, k = k0.take 20 := ⟨_, rfl⟩
  have hkb : bytes k := by rw [hl]; exact kb0.take 20
  obtain ⟨n, hm⟩ : ∃ n, n = min 20 len1 := ⟨_, rfl⟩
  have hlm : k.length = n := by rw [hl, hm]; exact bytes_take HKL0.out
  have hn2 : n ≤ 20 := by omega
  rw [← hl, ← hm] at hown
  obtain ⟨b, d, rfl⟩ := own_form hown
  have hr := rd_of_own hown (fun i hi => bl_at k (by omega))
  have hB3 := hB2.trans (hb3.mono hB2.size)
  have hnd := hr.le
  have HKM := Lib.hid hlm
  have HK3 := Lib.hid hr
  have HR3 := Lib.hid (rd_grow HR2.out hb3)
  clear hl hm hown hr hlm HR2 hb1 hb2 hb3 hB2
  go_wp2_with fail
  go_at_call 12
  refine (Make_any _).mono ?_
  rintro e w4 ⟨rfl, hb4⟩
  have hB4 := hB3.trans (hb4.mono hB3.size)
  have HR4 := Lib.hid (rd_grow HR3.out hb4)
  have HK4 := Lib.hid (rd_grow HK3.out hb4)
  clear HR3 HK3 hB3 hb4
  have hT := IsTab.new w4
  obtain ⟨gt, hgt⟩ : ∃ gt, gt = w4.heap.size := ⟨_, rfl⟩
  have hwl := whole_len l
  rw [HLM.out] at hwl
  have HWL := Lib.hid hwl
  have hwb := whole_bytes hlb
  clear hwl
  go_wp2_with (first | (refine wpList_store_row rfl 27 _ _ rfl w4.heap.size tabV rfl rfl 27 (rowV 0) (heap_alloc_new _ _) size_tab' (by rw [rowV_size, tabV_size]) tabV_one ?_; rw [World.setRow_alloc_new]) | (refine wpList_load_row rfl 27 _ rfl w4.heap.size rfl _ _ _ _ hT Try.underlying27 rfl size_tab' ?_))
  have hb5 : Below w4.heap.size w4 (w4.alloc (.cells tabV 27)) := (Below.refl _ _).alloc (Nat.le_refl _) _
  go_at_call 16
  refine (TAppend_any a m c _ l _ HLM.out (Nat.le_refl _) (rd_grow HR4.out hb5) hlb (by omega)).mono ?_
  rintro e w5 ⟨vq, rfl, hown, hb55⟩
  have hT5 := hT.below hb55 (by simp)
  have hb5 := hb5.trans (hb55.mono hb5.size)
  have hg5 : w4.heap.size < w5.heap.size := Nat.lt_of_lt_of_le (by simp) hb55.size
  obtain ⟨aq, cq, rfl⟩ := own_form hown
  have HQ5 := Lib.hid (rd_of_own (f := bv (whole l)) hown (fun i hi => bl_at _ (by rw [HWL.out]; exact hi)))
  have HR5 := Lib.hid (rd_grow HR4.out hb5)
  have HK5 := Lib.hid (rd_grow HK4.out hb5)
  have hB5 := hB4.trans (hb5.mono hB4.size)
  rw [← hgt] at hT5 hg5 ⊢
  clear hT hown hb55 hb5 HR4 HK4 hB4 hz hgt
  have hwr := whole_right hlb
  have hwt := whole_take l
  have HWR := Lib.hid hwr
  have HWT := Lib.hid hwt
  clear hwr hwt
  go_wp2_with (refine wpList_load_row rfl 27 _ rfl gt rfl _ _ _ _ hT5 Try.underlying27 rfl size_tab' ?_)
  go_at_call 17
  refine (TCut_any aq (m + 2) cq _ (whole l) _ HWL.out (Nat.le_refl _) HQ5.out hwb (by omega)).mono ?_
  rintro e w6 ⟨hb6, hx⟩
  obtain ⟨vx, rfl, hownx⟩ : ∃ v, e = .returned (.tuple #[v, .int .i64 0]) ∧ w6.ownsRow w5.heap.size 5 1 v m (bl l) := by
    rcases hx with ⟨h, _⟩ | ⟨_, h, _⟩ | ⟨_, _, v, h, ho⟩
    · rw [HWL.out] at h; omega
    · rw [HWR.out] at h; cases h
    · refine ⟨v, h, ?_⟩
      rw [HWT.out, HWL.out, show m + 2 - 2 = m by omega] at ho
      exact ho
  obtain ⟨ax, cx, rfl⟩ := own_form hownx
  have HX6 := Lib.hid (rd_of_own (f := bv l) hownx (fun i hi => bl_at _ (by rw [HLM.out]; exact hi)))
  have hT6 := hT5.below hb6 hg5
  have hg6 := Nat.lt_of_lt_of_le hg5 hb6.size
  have HQ6 := Lib.hid (rd_grow HQ5.out hb6)
  have HR6 := Lib.hid (rd_grow HR5.out hb6)
  have HK6 := Lib.hid (rd_grow HK5.out hb6)
  have hB6 := hB5.trans (hb6.mono hB5.size)
  clear hx hownx hT5 hg5 hb6 HQ5 HR5 HK5 hB5
  go_wp2_with (refine wpList_load_row rfl 27 _ rfl gt rfl _ _ _ _ hT6 Try.underlying27 rfl size_tab' ?_)
  go_at_call 17
  refine (TCut_any b n d _ k _ HKM.out (Nat.le_refl _) HK6.out hkb (by omega)).mono ?_
  rintro e w8 ⟨hb8, hx⟩
  have hT8 := hT6.below hb8 hg6
  have hg8 := Nat.lt_of_lt_of_le hg6 hb8.size
  have HQ8 := Lib.hid (rd_grow HQ6.out hb8)
  have HR8 := Lib.hid (rd_grow HR6.out hb8)
  have HK8 := Lib.hid (rd_grow HK6.out hb8)
  have HX8 := Lib.hid (rd_grow HX6.out hb8)
  have hB8 := hB6.trans (hb8.mono hB6.size)
  clear hT6 hg6 hb8 HQ6 HR6 HK6 HX6 hB6
  rcases hx with ⟨h, rfl⟩ | ⟨h2n, hrk, rfl⟩ | ⟨h2n, hrk, vy, rfl, howny⟩
  · rw [HKM.out] at h
    have hrk : rightB k = false := by unfold rightB; rw [HKM.out]; simp; omega
    have HRK := Lib.hid hrk
    have hd : decide ((n : Int) < 2) = true := by simp; omega
    clear hrk
    try go_wp2_with fail
    go_at_call 20
    refine (rAppend_any a m c _ l _ HLM.out (Nat.le_refl _) HR8.out hlb (by omega)).mono ?_
    rintro e w9 ⟨v, rfl, hown, hb9⟩
    obtain ⟨a5, c5, rfl⟩ := own_form hown
    have HA8 := Lib.hid (rd_of_own (f := bv (whole l)) hown (fun i hi => bl_at _ (by rw [HWL.out]; exact hi)))
    have HQ8 := Lib.hid (rd_grow HQ8.out hb9); have HR8 := Lib.hid (rd_grow HR8.out hb9); have HK8 := Lib.hid (rd_grow HK8.out hb9); have HX8 := Lib.hid (rd_grow HX8.out hb9); have hB8 := hB8.trans (hb9.mono hB8.size); have hT8 := hT8.below hb9 hg8; have hg8 := Nat.lt_of_lt_of_le hg8 hb9.size; skip; clear hb9
    clear hown
    go_wp2_with fail
    go_at_call 19
    refine (Same_any _ _ _ _ _ _ _ _ (whole l) (whole l) _ HWL.out HWL.out HQ8.out HA8.out hwb hwb).mono ?_
    rintro e w10 ⟨rfl, j, hw10⟩
    simp only [decide_true]
    have hb9 : Below w9.heap.size w9 w10 := by rw [hw10]; exact below_drewN _ _ _
    clear HA8 hw10
    have HQ8 := Lib.hid (rd_grow HQ8.out hb9); have HR8 := Lib.hid (rd_grow HR8.out hb9); have HK8 := Lib.hid (rd_grow HK8.out hb9); have HX8 := Lib.hid (rd_grow HX8.out hb9); have hB8 := hB8.trans (hb9.mono hB8.size); have hT8 := hT8.below hb9 hg8; have hg8 := Nat.lt_of_lt_of_le hg8 hb9.size; skip; clear hb9
    go_wp2_with (refine wpList_row_tt rfl rfl rfl 27 _ rfl gt rfl _ _ _ _ hT8 Try.underlying27 rfl size_tab' ?_)
    go_at_call 21
    refine (TRight_any _ _ _ _ (whole l) _ HWL.out (Nat.le_refl _) HQ8.out hwb).mono ?_
    rintro e w11 ⟨rfl, hb9⟩
    rw [HWR.out]
    have HQ8 := Lib.hid (rd_grow HQ8.out hb9); have HR8 := Lib.hid (rd_grow HR8.out hb9); have HK8 := Lib.hid (rd_grow HK8.out hb9); have HX8 := Lib.hid (rd_grow HX8.out hb9); have hB8 := hB8.trans (hb9.mono hB8.size); have hT8 := hT8.below hb9 hg8; have hg8 := Nat.lt_of_lt_of_le hg8 hb9.size; skip; clear hb9
    go_wp2_with fail
    go_at_call 19
    refine (Same_any _ _ _ _ _ _ _ _ l l _ HLM.out HLM.out HX8.out HR8.out hlb hlb).mono ?_
    rintro e w12 ⟨rfl, j, hw12⟩
    simp only [decide_true]
    have hb9 : Below w11.heap.size w11 w12 := by rw [hw12]; exact below_drewN _ _ _
    clear hw12
    have HQ8 := Lib.hid (rd_grow HQ8.out hb9); have HR8 := Lib.hid (rd_grow HR8.out hb9); have HK8 := Lib.hid (rd_grow HK8.out hb9); have HX8 := Lib.hid (rd_grow HX8.out hb9); have hB8 := hB8.trans (hb9.mono hB8.size); have hT8 := hT8.below hb9 hg8; have hg8 := Nat.lt_of_lt_of_le hg8 hb9.size; skip; clear hb9
    go_wp2_with (refine wpList_row_tt rfl rfl rfl 27 _ rfl gt rfl _ _ _ _ hT8 Try.underlying27 rfl size_tab' ?_)
    go_at_call 21
    refine (TRight_any _ _ _ _ k _ HKM.out (Nat.le_refl _) HK8.out hkb).mono ?_
    rintro e w13 ⟨rfl, hb9⟩
    rw [HRK.out]
    have HQ8 := Lib.hid (rd_grow HQ8.out hb9); have HR8 := Lib.hid (rd_grow HR8.out hb9); have HK8 := Lib.hid (rd_grow HK8.out hb9); have HX8 := Lib.hid (rd_grow HX8.out hb9); have hB8 := hB8.trans (hb9.mono hB8.size); have hT8 := hT8.below hb9 hg8; have hg8 := Nat.lt_of_lt_of_le hg8 hb9.size; skip; clear hb9
    go_wp2
    go_ret
    exact ⟨ret_true05c (by simp), hB8⟩
  · have HRK := Lib.hid hrk
    rw [HKM.out] at h2n
    have hd : decide ((n : Int) < 2) = false := by simp; omega
    clear hrk
    dsimp only
    go_wp2_with fail
    go_at_call 18
    refine (rRight_any _ _ _ _ k _ HKM.out (Nat.le_refl _) HK8.out hkb).mono ?_
    rintro e w8b ⟨rfl, hb9⟩
    rw [HRK.out]
    have HQ8 := Lib.hid (rd_grow HQ8.out hb9); have HR8 := Lib.hid (rd_grow HR8.out hb9); have HK8 := Lib.hid (rd_grow HK8.out hb9); have HX8 := Lib.hid (rd_grow HX8.out hb9); have hB8 := hB8.trans (hb9.mono hB8.size); have hT8 := hT8.below hb9 hg8; have hg8 := Nat.lt_of_lt_of_le hg8 hb9.size; skip; clear hb9
    try go_wp2_with fail
    go_at_call 20
    refine (rAppend_any a m c _ l _ HLM.out (Nat.le_refl _) HR8.out hlb (by omega)).mono ?_
    rintro e w9 ⟨v, rfl, hown, hb9⟩
    obtain ⟨a5, c5, rfl⟩ := own_form hown
    have HA8 := Lib.hid (rd_of_own (f := bv (whole l)) hown (fun i hi => bl_at _ (by rw [HWL.out]; exact hi)))
    have HQ8 := Lib.hid (rd_grow HQ8.out hb9); have HR8 := Lib.hid (rd_grow HR8.out hb9); have HK8 := Lib.hid (rd_grow HK8.out hb9); have HX8 := Lib.hid (rd_grow HX8.out hb9); have hB8 := hB8.trans (hb9.mono hB8.size); have hT8 := hT8.below hb9 hg8; have hg8 := Nat.lt_of_lt_of_le hg8 hb9.size; skip; clear hb9
    clear hown
    go_wp2_with fail
    go_at_call 19
    refine (Same_any _ _ _ _ _ _ _ _ (whole l) (whole l) _ HWL.out HWL.out HQ8.out HA8.out hwb hwb).mono ?_
    rintro e w10 ⟨rfl, j, hw10⟩
    simp only [decide_true]
    have hb9 : Below w9.heap.size w9 w10 := by rw [hw10]; exact below_drewN _ _ _
    clear HA8 hw10
    have HQ8 := Lib.hid (rd_grow HQ8.out hb9); have HR8 := Lib.hid (rd_grow HR8.out hb9); have HK8 := Lib.hid (rd_grow HK8.out hb9); have HX8 := Lib.hid (rd_grow HX8.out hb9); have hB8 := hB8.trans (hb9.mono hB8.size); have hT8 := hT8.below hb9 hg8; have hg8 := Nat.lt_of_lt_of_le hg8 hb9.size; skip; clear hb9
    go_wp2_with (refine wpList_row_tt rfl rfl rfl 27 _ rfl gt rfl _ _ _ _ hT8 Try.underlying27 rfl size_tab' ?_)
    go_at_call 21
    refine (TRight_any _ _ _ _ (whole l) _ HWL.out (Nat.le_refl _) HQ8.out hwb).mono ?_
    rintro e w11 ⟨rfl, hb9⟩
    rw [HWR.out]
    have HQ8 := Lib.hid (rd_grow HQ8.out hb9); have HR8 := Lib.hid (rd_grow HR8.out hb9); have HK8 := Lib.hid (rd_grow HK8.out hb9); have HX8 := Lib.hid (rd_grow HX8.out hb9); have hB8 := hB8.trans (hb9.mono hB8.size); have hT8 := hT8.below hb9 hg8; have hg8 := Nat.lt_of_lt_of_le hg8 hb9.size; skip; clear hb9
    go_wp2_with fail
    go_at_call 19
    refine (Same_any _ _ _ _ _ _ _ _ l l _ HLM.out HLM.out HX8.out HR8.out hlb hlb).mono ?_
    rintro e w12 ⟨rfl, j, hw12⟩
    simp only [decide_true]
    have hb9 : Below w11.heap.size w11 w12 := by rw [hw12]; exact below_drewN _ _ _
    clear hw12
    have HQ8 := Lib.hid (rd_grow HQ8.out hb9); have HR8 := Lib.hid (rd_grow HR8.out hb9); have HK8 := Lib.hid (rd_grow HK8.out hb9); have HX8 := Lib.hid (rd_grow HX8.out hb9); have hB8 := hB8.trans (hb9.mono hB8.size); have hT8 := hT8.below hb9 hg8; have hg8 := Nat.lt_of_lt_of_le hg8 hb9.size; skip; clear hb9
    go_wp2_with (refine wpList_row_tt rfl rfl rfl 27 _ rfl gt rfl _ _ _ _ hT8 Try.underlying27 rfl size_tab' ?_)
    go_at_call 21
    refine (TRight_any _ _ _ _ k _ HKM.out (Nat.le_refl _) HK8.out hkb).mono ?_
    rintro e w13 ⟨rfl, hb9⟩
    rw [HRK.out]
    have HQ8 := Lib.hid (rd_grow HQ8.out hb9); have HR8 := Lib.hid (rd_grow HR8.out hb9); have HK8 := Lib.hid (rd_grow HK8.out hb9); have HX8 := Lib.hid (rd_grow HX8.out hb9); have hB8 := hB8.trans (hb9.mono hB8.size); have hT8 := hT8.below hb9 hg8; have hg8 := Nat.lt_of_lt_of_le hg8 hb9.size; skip; clear hb9
    go_wp2
    go_ret
    exact ⟨ret_true05c (by simp), hB8⟩
  · have HRK := Lib.hid hrk
    rw [HKM.out] at h2n
    have hd : decide ((n : Int) < 2) = false := by simp; omega
    clear hrk
    obtain ⟨q, hq⟩ : ∃ q, n = q + 2 := ⟨n - 2, by omega⟩
    subst hq
    rw [HKM.out, show q + 2 - 2 = q by omega] at howny
    obtain ⟨ay, cy, rfl⟩ := own_form howny
    have hyl : (k.take q).length = q := by rw [List.length_take, HKM.out]; omega
    have HYL := Lib.hid hyl
    have HY8 := Lib.hid (rd_of_own (f := bv (k.take q)) howny (fun i hi => bl_at _ (by rw [hyl]; exact hi)))
    clear howny hyl
    dsimp only
    go_wp2_with fail
    go_at_call 18
    refine (rRight_any _ _ _ _ k _ HKM.out (Nat.le_refl _) HK8.out hkb).mono ?_
    rintro e w8b ⟨rfl, hb9⟩
    rw [HRK.out]
    have HQ8 := Lib.hid (rd_grow HQ8.out hb9); have HR8 := Lib.hid (rd_grow HR8.out hb9); have HK8 := Lib.hid (rd_grow HK8.out hb9); have HX8 := Lib.hid (rd_grow HX8.out hb9); have hB8 := hB8.trans (hb9.mono hB8.size); have hT8 := hT8.below hb9 hg8; have hg8 := Nat.lt_of_lt_of_le hg8 hb9.size; have HY8 := Lib.hid (rd_grow HY8.out hb9); clear hb9
    try go_wp2_with fail
    go_at_call 20
    refine (rAppend_any a m c _ l _ HLM.out (Nat.le_refl _) HR8.out hlb (by omega)).mono ?_
    rintro e w9 ⟨v, rfl, hown, hb9⟩
    obtain ⟨a5, c5, rfl⟩ := own_form hown
    have HA8 := Lib.hid (rd_of_own (f := bv (whole l)) hown (fun i hi => bl_at _ (by rw [HWL.out]; exact hi)))
    have HQ8 := Lib.hid (rd_grow HQ8.out hb9); have HR8 := Lib.hid (rd_grow HR8.out hb9); have HK8 := Lib.hid (rd_grow HK8.out hb9); have HX8 := Lib.hid (rd_grow HX8.out hb9); have hB8 := hB8.trans (hb9.mono hB8.size); have hT8 := hT8.below hb9 hg8; have hg8 := Nat.lt_of_lt_of_le hg8 hb9.size; have HY8 := Lib.hid (rd_grow HY8.out hb9); clear hb9
    clear hown
    go_wp2_with fail
    go_at_call 19
    refine (Same_any _ _ _ _ _ _ _ _ (whole l) (whole l) _ HWL.out HWL.out HQ8.out HA8.out hwb hwb).mono ?_
    rintro e w10 ⟨rfl, j, hw10⟩
    simp only [decide_true]
    have hb9 : Below w9.heap.size w9 w10 := by rw [hw10]; exact below_drewN _ _ _
    clear HA8 hw10
    have HQ8 := Lib.hid (rd_grow HQ8.out hb9); have HR8 := Lib.hid (rd_grow HR8.out hb9); have HK8 := Lib.hid (rd_grow HK8.out hb9); have HX8 := Lib.hid (rd_grow HX8.out hb9); have hB8 := hB8.trans (hb9.mono hB8.size); have hT8 := hT8.below hb9 hg8; have hg8 := Nat.lt_of_lt_of_le hg8 hb9.size; have HY8 := Lib.hid (rd_grow HY8.out hb9); clear hb9
    go_wp2_with (refine wpList_row_tt rfl rfl rfl 27 _ rfl gt rfl _ _ _ _ hT8 Try.underlying27 rfl size_tab' ?_)
    go_at_call 21
    refine (TRight_any _ _ _ _ (whole l) _ HWL.out (Nat.le_refl _) HQ8.out hwb).mono ?_
    rintro e w11 ⟨rfl, hb9⟩
    rw [HWR.out]
    have HQ8 := Lib.hid (rd_grow HQ8.out hb9); have HR8 := Lib.hid (rd_grow HR8.out hb9); have HK8 := Lib.hid (rd_grow HK8.out hb9); have HX8 := Lib.hid (rd_grow HX8.out hb9); have hB8 := hB8.trans (hb9.mono hB8.size); have hT8 := hT8.below hb9 hg8; have hg8 := Nat.lt_of_lt_of_le hg8 hb9.size; have HY8 := Lib.hid (rd_grow HY8.out hb9); clear hb9
    go_wp2_with fail
    go_at_call 19
    refine (Same_any _ _ _ _ _ _ _ _ l l _ HLM.out HLM.out HX8.out HR8.out hlb hlb).mono ?_
    rintro e w12 ⟨rfl, j, hw12⟩
    simp only [decide_true]
    have hb9 : Below w11.heap.size w11 w12 := by rw [hw12]; exact below_drewN _ _ _
    clear hw12
    have HQ8 := Lib.hid (rd_grow HQ8.out hb9); have HR8 := Lib.hid (rd_grow HR8.out hb9); have HK8 := Lib.hid (rd_grow HK8.out hb9); have HX8 := Lib.hid (rd_grow HX8.out hb9); have hB8 := hB8.trans (hb9.mono hB8.size); have hT8 := hT8.below hb9 hg8; have hg8 := Nat.lt_of_lt_of_le hg8 hb9.size; have HY8 := Lib.hid (rd_grow HY8.out hb9); clear hb9
    go_wp2_with (refine wpList_row_tt rfl rfl rfl 27 _ rfl gt rfl _ _ _ _ hT8 Try.underlying27 rfl size_tab' ?_)
    go_at_call 21
    refine (TRight_any _ _ _ _ k _ HKM.out (Nat.le_refl _) HK8.out hkb).mono ?_
    rintro e w13 ⟨rfl, hb9⟩
    rw [HRK.out]
    have HQ8 := Lib.hid (rd_grow HQ8.out hb9); have HR8 := Lib.hid (rd_grow HR8.out hb9); have HK8 := Lib.hid (rd_grow HK8.out hb9); have HX8 := Lib.hid (rd_grow HX8.out hb9); have hB8 := hB8.trans (hb9.mono hB8.size); have hT8 := hT8.below hb9 hg8; have hg8 := Nat.lt_of_lt_of_le hg8 hb9.size; have HY8 := Lib.hid (rd_grow HY8.out hb9); clear hb9
    have HK9 := Lib.hid ((HK8.out.first (k := q) (by omega)).same (g := bv (k.take q)) (fun i hi => by unfold bv; simp [List.getD, hi]))
    go_wp2_with fail
    go_at_call 19
    refine (Same_any _ _ _ _ _ _ _ _ (k.take q) (k.take q) _ HYL.out HYL.out HY8.out HK9.out (hkb.take q) (hkb.take q)).mono ?_
    rintro e w14 ⟨rfl, j, hw14⟩
    simp only [decide_true]
    have hb9 : Below w13.heap.size w13 w14 := by rw [hw14]; exact below_drewN _ _ _
    have hB8 := hB8.trans (hb9.mono hB8.size)
    clear hw14 hb9
    go_wp2
    go_ret
    exact ⟨ret_true05c (by simp), hB8⟩
end Go.Proofs.Ytikhlhdjaladgaa
