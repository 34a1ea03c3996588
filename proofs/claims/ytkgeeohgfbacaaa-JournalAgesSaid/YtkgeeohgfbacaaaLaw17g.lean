/- Layer 17: entries noted one by one. -/
import Derived.Test.YtkgeeohgfbacaaaLaw17
import Derived.Test.YtkgeeohgfbacaaaFrame
import Derived.Deep.CutBlock
import Derived.Deep.DeepCutAuto
import Derived.BigQuiet
namespace Go.Proofs.Ytkgeeohgfbacaaa
open Go.RowKit Go.Own Go.Shelf Go.Proofs.Ytkgeeohgfbacaaa.Je
set_option linter.unusedVariables false
set_option linter.unusedSimpArgs false
/-- The entries noted. -/
def agesL (ev : Nat) (n : Nat) : List En := (List.range n).map fun i => ⟨i + 1, i, ev, i % 4, i⟩
theorem agesL_len (ev n : Nat) : (agesL ev n).length = n := by simp [agesL]
theorem agesL_succ (ev n : Nat) : agesL ev (n + 1) = agesL ev n ++ [⟨n + 1, n, ev, n % 4, n⟩] := by simp [agesL, List.range_succ]
theorem agesL_getD (ev : Nat) {n i : Nat} (h : i < n) : (agesL ev n).getD i en0 = ⟨i + 1, i, ev, i % 4, i⟩ := by simp [agesL, List.getD, h]
theorem lastn_getD {n : Nat} {M : List En} {i : Nat} (h : i < min n M.length) : (lastn n M).getD i en0 = M.getD (M.length - min n M.length + i) en0 := by
  unfold lastn
  simp only [List.getD, List.getElem?_drop]
  congr 2
  omega
theorem last_ages (ev k n : Nat) (hk : 1 ≤ k) : (last (lastn k (agesL ev n))).q = n := by
  have hl := lastn_len k (agesL ev n)
  rw [agesL_len] at hl
  unfold last
  cases n with
  | zero =>
    have : lastn k (agesL ev 0) = [] := List.eq_nil_of_length_eq_zero (by rw [hl]; omega)
    rw [this]
    rfl
  | succ m =>
    rw [hl, lastn_getD (by rw [agesL_len]; omega), agesL_len, agesL_getD _ (by omega)]
    show _ + 1 = _
    omega
theorem next_ages (ev k n : Nat) (hk : 1 ≤ k) (hn : n < 1000) : nextE (lastn k (agesL ev n)) n ev (n % 4) n = ⟨n + 1, n, ev, n % 4, n⟩ := by
  unfold nextE
  rw [last_ages ev k n hk, Nat.mod_eq_of_lt (by omega), Nat.min_eq_left (by omega)]
theorem mem_ages {ev k n : Nat} {x : En} (h : x ∈ lastn k (agesL ev n)) : x.e = ev ∧ 1 ≤ x.q ∧ x.q ≤ n := by
  have := List.mem_of_mem_drop h
  simp only [agesL, List.mem_map, List.mem_range] at this
  obtain ⟨i, hi, rfl⟩ := this
  exact ⟨rfl, by simp, by show i + 1 ≤ n; omega⟩
set_option maxRecDepth 100000 in
set_option maxHeartbeats 4000000 in
theorem walk_JournalAges (a0 a1 a2 : Int) (w : World) (w0 : (Lit.int .u8 a0).wf = true) (w1 : (Lit.int .u8 a1).wf = true) (w2 : (Lit.int .u8 a2).wf = true) :
    Calls Try.prog 12 #[.int .u8 a0, .int .u8 a1, .int .u8 a2] w fun e w' => e = .returned (.bool true) ∧ Below w.heap.size w w' := by
  obtain ⟨p0, p1⟩ := bounds_u8 w0
  obtain ⟨p2, p3⟩ := bounds_u8 w1
  obtain ⟨p4, p5⟩ := bounds_u8 w2
  obtain ⟨r, rfl⟩ : ∃ m : Nat, a0 = m := ⟨a0.toNat, by omega⟩
  obtain ⟨n, rfl⟩ : ∃ m : Nat, a1 = m := ⟨a1.toNat, by omega⟩
  obtain ⟨ev, rfl⟩ : ∃ m : Nat, a2 = m := ⟨a2.toNat, by omega⟩
  clear w0 w1 w2
  go_enter Try.func12, Try.ntmps12
  go_wp2_with fail
  go_at_call 58
  refine (awake17 _).mono ?_
  rintro e w2 ⟨rfl, hb2⟩
  have HB2 := Lib.hid hb2
  clear hb2
  go_wp2_with fail
  obtain ⟨k, hk⟩ : ∃ k : Nat, k = 1 + r % 16 := ⟨_, rfl⟩
  rw [show (1 : Int) + (r : Int) % 16 = ((k : Nat) : Int) from by omega]
  have hk1 : 1 ≤ k := by omega
  have hk2 : k ≤ 16 := by omega
  clear hk
  go_at_call 59
  refine (jNew_ok k w2 hk1 hk2).mono ?_
  rintro e w3 ⟨gj, g, b, rfl, h3, hj, hg, hb, hb3⟩
  have H3 := Lib.hid (show JS w3 gj g b k (lastn k (agesL ev 0)) (0 - k) by
    have : lastn k (agesL ev 0) = [] := by simp [lastn, agesL]
    rw [this, Nat.zero_sub]
    exact h3)
  have HG := Lib.hid (And.intro (Nat.le_trans HB2.out.size hg) (Nat.le_trans HB2.out.size hb))
  have HB3 := Lib.hid (HB2.out.trans (hb3.mono HB2.out.size))
  clear h3 hj hg hb hb3 HB2
  go_wp2_with fail
  go_loopw [28] (fun i wr => ∃ j : Nat, j ≤ n ∧ i = .int .i64 (j : Nat) ∧ JS wr gj g b k (lastn k (agesL ev j)) (j - k) ∧ Below w.heap.size w wr) (fun i _ => n - (intOf i).toNat)
  case atStart => exact ⟨0, Nat.zero_le _, rfl, H3.out, HB3.out⟩
  case round =>
    clear H3 HB3
    obtain ⟨j, hj, rfl, hS, hB⟩ := hrel
    have HS := Lib.hid hS
    have HB := Lib.hid hB
    clear hS hB
    by_cases hlt : j < n
    · have hj1 : j < 255 := by omega
      go_wp2_with fail
      rw [show (j : Int) % 4 = ((j % 4 : Nat) : Int) from by omega]
      go_at_call 60
      refine (jNote j ev (j % 4) j HS.out).mono ?_
      rintro e w4 ⟨rfl, h4, k4⟩
      rw [next_ages ev k j hk1 (by omega), ← agesL_succ, agesL_len, show min (j - k + if k ≤ j then 1 else 0) 65535 = j + 1 - k by split <;> omega] at h4
      have H4 := Lib.hid h4
      have HB4 := Lib.hid (HB.out.trans (k4.below HG.out.1 HG.out.2 HB.out.size))
      clear h4 k4 HS HB
      go_wp2
      go_roundw
      case rel => exact ⟨j + 1, by omega, by go_num, H4.out, HB4.out⟩
      case measure => simp [intOf]; omega
    · obtain rfl : j = n := by omega
      clear hlt hj
      obtain ⟨L, hL⟩ : ∃ L, L = lastn k (agesL ev j) := ⟨_, rfl⟩
      obtain ⟨m, hm⟩ : ∃ m, m = min j k := ⟨_, rfl⟩
      have hLm : L.length = m := by rw [hL, lastn_len, agesL_len]; omega
      have hmem : ∀ x, x ∈ L → x.e = ev ∧ 1 ≤ x.q ∧ x.q ≤ j := fun x hx => mem_ages (by rw [← hL]; exact hx)
      have hat : ∀ i, i < m → L.getD i en0 = ⟨j - m + i + 1, j - m + i, ev, (j - m + i) % 4, j - m + i⟩ := fun i hi => by
        rw [hL, lastn_getD (by rw [agesL_len]; omega), agesL_len, show min k j = m by omega, agesL_getD _ (by omega)]
      have hc1 : (L.filter (fun x => decide (x.e = ev))).length = m := by
        rw [List.filter_eq_self.2 (fun x hx => by simp [(hmem x hx).1]), hLm]
      have hc2 : (L.filter (fun x => decide (x.e = (ev + 1) % 256))).length = 0 := by
        rw [List.filter_eq_nil_iff.2 (fun x hx => by have := (hmem x hx).1; simp; omega)]
        rfl
      have hc3 : (L.filter (fun x => decide (j < x.q))).length = 0 := by
        rw [List.filter_eq_nil_iff.2 (fun x hx => by have := (hmem x hx).2.2; simp; omega)]
        rfl
      have hc4 : (L.filter (fun x => decide (0 < x.q))).length = m := by
        rw [List.filter_eq_self.2 (fun x hx => by have := (hmem x hx).2.1; simp; omega), hLm]
      have hmn := fun (w : World) => run_minJ (P := Try.prog) #[3, 3] 3 .i64 (j : Nat) (k : Nat) w
      rw [show min (j : Int) (k : Int) = ((m : Nat) : Int) by omega] at hmn
      have hS := HS.out
      rw [← hL] at hS
      have hjm : j - k = j - m := by omega
      rw [hjm] at hS
      have hmj : m ≤ j := by omega
      have hm16 : m ≤ 16 := by omega
      have hev : IntKind.u8.wrap ((ev : Int) + 1) = (((ev + 1) % 256 : Nat) : Int) := by rw [IntKind.wrap_u8]; omega
      have hev2 : ((ev : Int) + 1) % 256 = (((ev + 1) % 256 : Nat) : Int) := by omega
      have hsub : (j : Int) - (m : Int) = ((j - m : Nat) : Int) := by omega
      have HS := Lib.hid hS
      have HLM := Lib.hid hLm
      have HC := Lib.hid (And.intro hc1 (And.intro hc2 (And.intro hc3 hc4)))
      have HAT := Lib.hid hat
      have HE := Lib.hid (And.intro hev (And.intro hev2 hsub))
      clear hL hm hLm hmem hat hc1 hc2 hc3 hc4 hS hjm hev hev2 hsub
      go_wp2_with fail
      go_at_call 63
      refine (jAll HS.out.jr).mono ?_
      rintro e w4 ⟨v, rfl, ho, hb⟩
      obtain ⟨a, c, rfl⟩ := own_form ho
      rw [HLM.out] at ho ⊢
      have HO := Lib.hid (own_baseE ho HB.out.size)
      have HS4 := Lib.hid (HS.out.below hb (Nat.le_refl _))
      have HB4 := Lib.hid (HB.out.trans (hb.mono HB.out.size))
      clear ho hb HS HB
      go_wp2_with fail
      go_at_call 67
      refine (jCount HS4.out.jr ev).mono ?_
      rintro e w5 ⟨rfl, hb⟩
      rw [HC.out.1]
      have HO5 := Lib.hid (own_below HO.out hb (Nat.le_refl _))
      have HS5 := Lib.hid (HS4.out.below hb (Nat.le_refl _))
      have HB5 := Lib.hid (HB4.out.trans (hb.mono HB4.out.size))
      clear hb HO HS4 HB4
      go_wp2_with fail
      rw [HE.out.2.1]
      go_at_call 67
      refine (jCount HS5.out.jr ((ev + 1) % 256)).mono ?_
      rintro e w6 ⟨rfl, hb⟩
      rw [HC.out.2.1]
      have HO6 := Lib.hid (own_below HO5.out hb (Nat.le_refl _))
      have HS6 := Lib.hid (HS5.out.below hb (Nat.le_refl _))
      have HB6 := Lib.hid (HB5.out.trans (hb.mono HB5.out.size))
      clear hb HO5 HS5 HB5
      go_wp2_with fail
      go_at_call 68
      refine (jSince HS6.out.jr j).mono ?_
      rintro e w7 ⟨v7, rfl, ho, hb⟩
      rw [HC.out.2.2.1] at ho
      obtain ⟨a7, c7, rfl⟩ := own_form ho
      have HO7 := Lib.hid (own_below HO6.out hb (Nat.le_refl _))
      have HS7 := Lib.hid (HS6.out.below hb (Nat.le_refl _))
      have HB7 := Lib.hid (HB6.out.trans (hb.mono HB6.out.size))
      clear hb ho HO6 HS6 HB6
      go_wp2_with fail
      go_at_call 68
      refine (jSince HS7.out.jr 0).mono ?_
      rintro e w8 ⟨v8, rfl, ho, hb⟩
      rw [HC.out.2.2.2] at ho
      obtain ⟨a8, c8, rfl⟩ := own_form ho
      have HO8 := Lib.hid (own_below HO7.out hb (Nat.le_refl _))
      have HS8 := Lib.hid (HS7.out.below hb (Nat.le_refl _))
      have HB8 := Lib.hid (HB7.out.trans (hb.mono HB7.out.size))
      clear hb ho HO7 HS7 HB7
      go_wp2_with fail
      go_at_call 66
      refine (jLost HS8.out.jr).mono ?_
      rintro e w9 ⟨rfl, rfl⟩
      rw [← HE.out.2.2]
      go_wp2_with fail
      clear hmn
      go_loopw [92] (fun i wr => ∃ q : Nat, q ≤ m ∧ i = .int .i64 (q : Nat) ∧ Below w8.heap.size w8 wr) (fun i _ => m - (intOf i).toNat)
      case atStart => exact ⟨0, Nat.zero_le _, rfl, Below.refl _ _⟩
      case round =>
        obtain ⟨q, hq, rfl, hB⟩ := hrel
        have HB9 := Lib.hid hB
        clear hB
        by_cases hlq : q < m
        · obtain ⟨ga, rfl, _, hgl, hcs⟩ := own_cell HO8.out HLM.out (by omega)
          have hx := hcs q hlq
          rw [HAT.out q hlq] at hx
          have hx9 := range_block hx (HB9.out.block ga hgl)
          obtain ⟨z, hz⟩ : ∃ z, z = j - m + q := ⟨_, rfl⟩
          rw [← hz] at hx9
          have q0 := hx9 0 _ rfl
          have q1 := hx9 1 _ rfl
          have q2 := hx9 2 _ rfl
          have q3 := hx9 3 _ rfl
          have q4 := hx9 4 _ rfl
          rw [Nat.add_zero] at q0
          have hzi : ((j : Int) - (m : Int)) + (q : Int) + 1 = ((z + 1 : Nat) : Int) := by omega
          clear hx hx9 hcs
          go_wp2
          go_roundw
          case rel => exact ⟨q + 1, by omega, by go_num, HB9.out.alloc HB9.out.size _⟩
          case measure => simp [intOf]; omega
        · go_wp2
          go_ret
          exact ⟨rfl, HB8.out.trans (HB9.out.mono HB8.out.size)⟩
end Go.Proofs.Ytkgeeohgfbacaaa
