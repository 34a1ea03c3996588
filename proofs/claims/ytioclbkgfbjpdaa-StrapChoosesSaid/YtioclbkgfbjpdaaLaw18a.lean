/- StrapAdmits. -/
import Derived.Test.YtioclbkgfbjpdaaLaw18m
namespace Go.Proofs.Ytioclbkgfbjpdaa
open Go.RowKit Go.Own Bs
set_option linter.unusedVariables false
set_option linter.unusedSimpArgs false
/-- How many bits: eight at a time. -/
def bits8 (x : Nat) : Nat := ((List.range 8).filter fun i => x.testBit i).length
theorem pop_bits : ∀ x, x < 256 → Lib.pop8 ((x : Nat) : Int) = ((bits8 x : Nat) : Int) := by decide +kernel
theorem filter_or {α : Type} (p q : α → Bool) : ∀ l : List α, (l.filter fun i => p i || q i).length ≤ (l.filter p).length + (l.filter q).length
  | [] => by simp
  | x :: l => by
    have := filter_or p q l
    simp only [List.filter_cons]
    cases p x <;> cases q x <;> simp <;> omega
theorem bits_or (x y : Nat) : bits8 (x ||| y) ≤ bits8 x + bits8 y := by
  unfold bits8
  simp only [Nat.testBit_or]
  exact filter_or _ _ _
def bits16 (s : Nat) : Nat := bits8 (s / 256) + bits8 (s % 256)
theorem cnt_bits {s : Nat} (h : s < 65536) : cntS s = ((bits16 s : Nat) : Int) := by
  unfold cntS bits16
  rw [pop_bits _ (by omega), pop_bits _ (by omega)]
  push_cast
  rfl
theorem bits16_or (s t : Nat) : bits16 (s ||| t) ≤ bits16 s + bits16 t := by
  unfold bits16
  have e1 : (s ||| t) / 256 = s / 256 ||| t / 256 := by
    rw [show 256 = 2 ^ 8 by rfl, ← Nat.shiftRight_eq_div_pow, ← Nat.shiftRight_eq_div_pow, ← Nat.shiftRight_eq_div_pow, Nat.shiftRight_or_distrib]
  have e2 : (s ||| t) % 256 = s % 256 ||| t % 256 := by
    rw [show 256 = 2 ^ 8 by rfl, Nat.or_mod_two_pow]
  rw [e1, e2]
  have h1 := bits_or (s / 256) (t / 256)
  have h2 := bits_or (s % 256) (t % 256)
  omega
theorem bits_one : ∀ k, k < 16 → bits16 (2 ^ k) ≤ 1 := by decide +kernel
theorem bits_bit1 (x : Int) : bits16 (bit1 x) ≤ 1 := by
  unfold bit1
  split
  · exact bits_one _ (by omega)
  · decide
theorem bits_units (c : Nat → Int) : ∀ k, bits16 (unitsS c k) ≤ k
  | 0 => by show bits16 0 ≤ 0; decide
  | k + 1 => by
    have h1 := bits_units c k
    have h2 := bits16_or (unitsS c k) (bit1 (c k))
    have h3 := bits_bit1 (c k)
    show bits16 (unitsS c k ||| bit1 (c k)) ≤ k + 1
    omega
theorem units_count (c : Nat → Int) : cntS (unitsS c 6) ≤ 6 := by
  rw [cnt_bits (unitsS_lt c 6)]
  have := bits_units c 6
  omega
theorem units_none : unitsS noneC 6 = 0 := by decide
theorem units_has (c : Nat → Int) {i : Nat} (hi : i < 6) (h0 : 0 ≤ c i) (h1 : c i < 16) : decide (unitsS c 6 &&& bit1 (c i) ≠ 0) = true := by
  have key : ∀ k, i < k → hasI (unitsS c k) (c i) = true := by
    obtain ⟨u, hu⟩ := Int.eq_ofNat_of_zero_le h0
    have hu16 : u < 16 := by omega
    intro k
    induction k with
    | zero => intro h; omega
    | succ k ih =>
      intro h2
      show hasI (unitsS c k ||| bit1 (c k)) (c i) = true
      rw [hu, hasI_nat, has_or _ _ _ hu16]
      rcases Nat.lt_or_ge i k with h3 | h3
      · have := ih h3
        rw [hu, hasI_nat] at this
        rw [this]; rfl
      · obtain rfl : i = k := by omega
        have e2 : bit1 (c i) = 2 ^ u := by
          rw [hu]
          unfold bit1
          rw [if_pos ⟨by omega, by omega⟩]
          simp
        have e3 : has (2 ^ u) u = true := by
          rw [has_div _ _ hu16, Nat.div_self (Nat.two_pow_pos u)]
          decide
        rw [e2, e3, Bool.or_true]
  exact key 6 hi
def anyS (c : Nat → Int) (D : List (List Nat)) : Bool := D.any fun x => sameC (chainC x) c
theorem anyS_snoc (c : Nat → Int) (D : List (List Nat)) (x : List Nat) : anyS c (D ++ [x]) = (anyS c D || sameC (chainC x) c) := by simp [anyS]
theorem any_is (l : List Nat) (lk : Nat → Nat) (c : Nat → Int) (bad : Nat) (h6 : l.length ≤ 6) : allB (passB l lk c bad) = anyS c (DD l lk bad) := by
  refine Bool.eq_iff_iff.2 ?_
  rw [admits_is l lk c bad h6]
  unfold anyS
  rw [List.any_eq_true]
  constructor
  · rintro ⟨x, hx, h⟩
    refine ⟨x, hx, ?_⟩
    unfold sameC
    rw [decide_eq_true_iff]
    exact ⟨h 0 (by omega), h 1 (by omega), h 2 (by omega), h 3 (by omega), h 4 (by omega), h 5 (by omega)⟩
  · rintro ⟨x, hx, h⟩
    unfold sameC at h
    rw [decide_eq_true_iff] at h
    obtain ⟨h0, h1, h2, h3, h4, h5⟩ := h
    refine ⟨x, hx, fun j hj => ?_⟩
    rcases (by omega : j = 0 ∨ j = 1 ∨ j = 2 ∨ j = 3 ∨ j = 4 ∨ j = 5) with rfl | rfl | rfl | rfl | rfl | rfl <;> assumption
theorem Bq.grown' {w W W' : World} {bs : List (Nat × Array Value × TypeId)} {base : Nat} {e : TypeId} {size n : Nat} {v : Value} {xs : List Value} (h : Bq w W bs) (ho : W.ownsRow base e size v n xs) (hb : w.heap.size ≤ base) (hg : W.grownBy W' v.ownBlock) (ht : ∀ x ∈ bs, x.2.2 ≠ e) : Bq w W' bs := h.app ho hb hg ht
theorem zil_at (l : List Int) (i : Nat) (h : i < l.length) : (zil l)[i]? = some (iv l i) := by simp [zil, iv, List.getD, h]
set_option maxRecDepth 100000 in
set_option maxHeartbeats 8000000 in
theorem walk_StrapAdmits (a0 : Option Addr) (len0 cap0 : Nat) (z0 z1 : List Int) (a2 : Int) (z3 z4 : List Int) (w : World) (w0 : IsRow .u16 w a0 len0 cap0 z0) (l1 : z1.length = 16) (w1 : ∀ x ∈ z1, (Lit.int .u16 x).wf = true) (w2 : (Lit.int .u16 a2).wf = true) (l3 : z3.length = 6) (w3 : ∀ x ∈ z3, (Lit.int .i8 x).wf = true) (l4 : z4.length = 6) (w4 : ∀ x ∈ z4, (Lit.int .i8 x).wf = true) :
    Calls Try.prog 7 #[.slice a0 len0 cap0, .agg (z1.map (Value.int .u16)).toArray, .int .u16 a2, .agg (z3.map (Value.int .i8)).toArray, .agg (z4.map (Value.int .i8)).toArray] w fun e w' => e = .returned (.bool true) ∧ Below w.heap.size w w' := by
  skip
  obtain ⟨z, hzl, hzv, hzr⟩ := isRow_u16S w0
  obtain ⟨lk, hlk, elk⟩ := lk_of l1 w1
  rw [elk]
  obtain ⟨hL6, hLv⟩ := layS_six hzv
  have HZR := Lib.hid hzr
  have HZV := Lib.hid hzv
  have HLK := Lib.hid hlk
  have hzm := zero_mp
  have hzr := zero_rm
  have hzc := zero_ch
  have hq := (Bq.nil w).new #[.int .u16 ((lk 0 : Nat) : Int), .int .u16 ((lk 1 : Nat) : Int), .int .u16 ((lk 2 : Nat) : Int), .int .u16 ((lk 3 : Nat) : Int), .int .u16 ((lk 4 : Nat) : Int), .int .u16 ((lk 5 : Nat) : Int), .int .u16 ((lk 6 : Nat) : Int), .int .u16 ((lk 7 : Nat) : Int), .int .u16 ((lk 8 : Nat) : Int), .int .u16 ((lk 9 : Nat) : Int), .int .u16 ((lk 10 : Nat) : Int), .int .u16 ((lk 11 : Nat) : Int), .int .u16 ((lk 12 : Nat) : Int), .int .u16 ((lk 13 : Nat) : Int), .int .u16 ((lk 14 : Nat) : Int), .int .u16 ((lk 15 : Nat) : Int)] 62
  clear w0 l1 w1 elk hzv hlk
  obtain ⟨c, hcok, ec⟩ := ch_ofS l3 w3
  obtain ⟨d, hdok, ed⟩ := ch_ofS l4 w4
  rw [ec, ed]
  obtain ⟨bad, rfl⟩ := Int.eq_ofNat_of_zero_le (bounds_u16 w2).1
  have hbad : bad < 65536 := by have := (bounds_u16 w2).2; omega
  have HCO := Lib.hid hcok
  have HDO := Lib.hid hdok
  have hq := (hq.new #[.int .i8 (c 0), .int .i8 (c 1), .int .i8 (c 2), .int .i8 (c 3), .int .i8 (c 4), .int .i8 (c 5)] 76).new #[.int .i8 (d 0), .int .i8 (d 1), .int .i8 (d 2), .int .i8 (d 3), .int .i8 (d 4), .int .i8 (d 5)] 76
  simp only [World.size_alloc] at hq
  clear w2 w4 l3 w3 ec hcok l4 ed hdok
  go_enter Try.func7, Try.ntmps7
  go_upto_region 1 with fail
  obtain ⟨w1, hw1⟩ : ∃ w1, w1 = ((w.alloc (.cells #[.int .u16 ((lk 0 : Nat) : Int), .int .u16 ((lk 1 : Nat) : Int), .int .u16 ((lk 2 : Nat) : Int), .int .u16 ((lk 3 : Nat) : Int), .int .u16 ((lk 4 : Nat) : Int), .int .u16 ((lk 5 : Nat) : Int), .int .u16 ((lk 6 : Nat) : Int), .int .u16 ((lk 7 : Nat) : Int), .int .u16 ((lk 8 : Nat) : Int), .int .u16 ((lk 9 : Nat) : Int), .int .u16 ((lk 10 : Nat) : Int), .int .u16 ((lk 11 : Nat) : Int), .int .u16 ((lk 12 : Nat) : Int), .int .u16 ((lk 13 : Nat) : Int), .int .u16 ((lk 14 : Nat) : Int), .int .u16 ((lk 15 : Nat) : Int)] 62)).alloc (.cells #[.int .i8 (c 0), .int .i8 (c 1), .int .i8 (c 2), .int .i8 (c 3), .int .i8 (c 4), .int .i8 (c 5)] 76)).alloc (.cells #[.int .i8 (d 0), .int .i8 (d 1), .int .i8 (d 2), .int .i8 (d 3), .int .i8 (d 4), .int .i8 (d 5)] 76) := ⟨_, rfl⟩
  obtain ⟨g9, hg9⟩ : ∃ b, b = w.heap.size + 1 + 1 := ⟨_, rfl⟩
  obtain ⟨g8, hg8⟩ : ∃ b, b = w.heap.size + 1 := ⟨_, rfl⟩
  rw [← hw1, ← hg9, ← hg8] at hq
  rw [← hw1, ← hg9, ← hg8]
  obtain ⟨g0, hg0⟩ : ∃ b, b = w.heap.size := ⟨_, rfl⟩
  rw [show (Value.pointer (some ⟨w.heap.size, 0, none⟩)) = .pointer (some ⟨g0, 0, none⟩) by rw [hg0]]
  have HQ1 := Lib.hid (show Bq w w1 [(g0, #[.int .u16 ((lk 0 : Nat) : Int), .int .u16 ((lk 1 : Nat) : Int), .int .u16 ((lk 2 : Nat) : Int), .int .u16 ((lk 3 : Nat) : Int), .int .u16 ((lk 4 : Nat) : Int), .int .u16 ((lk 5 : Nat) : Int), .int .u16 ((lk 6 : Nat) : Int), .int .u16 ((lk 7 : Nat) : Int), .int .u16 ((lk 8 : Nat) : Int), .int .u16 ((lk 9 : Nat) : Int), .int .u16 ((lk 10 : Nat) : Int), .int .u16 ((lk 11 : Nat) : Int), .int .u16 ((lk 12 : Nat) : Int), .int .u16 ((lk 13 : Nat) : Int), .int .u16 ((lk 14 : Nat) : Int), .int .u16 ((lk 15 : Nat) : Int)], 62), (g8, #[.int .i8 (c 0), .int .i8 (c 1), .int .i8 (c 2), .int .i8 (c 3), .int .i8 (c 4), .int .i8 (c 5)], 76), (g9, #[.int .i8 (d 0), .int .i8 (d 1), .int .i8 (d 2), .int .i8 (d 3), .int .i8 (d 4), .int .i8 (d 5)], 76)] by rw [hg0]; exact hq)
  clear hw1 hg8 hg9 hg0 hq
  skip
  go_wp2_with fail
  go_at_call 29
  refine (awake18 w1).mono ?_
  rintro e w2 ⟨rfl, hb⟩
  have HQ2 := Lib.hid (HQ1.out.step hb)
  clear hb HQ1
  have b0 := HQ2.out.of 0 rfl
  go_wp2_with (refine wpList_load_row rfl 62 _ rfl _ rfl _ _ _ _ b0 Try.underlying62 rfl (by exact size_lk) ?_; (try go_simp))
  go_at_call 30
  refine (lay_any a0 len0 cap0 w.heap.size z lk w2 hzl HZV.out HLK.out HQ2.out.be.size (HZR.out.below HQ2.out.be)).mono ?_
  rintro e w3 ⟨a1, c1, a2, c2, rfl, ho, hr, hb⟩
  obtain ⟨L, hL⟩ : ∃ L, L = (layS (z.take 6)).1 := ⟨_, rfl⟩
  rw [← hL] at ho hr hL6 hLv ⊢
  have HL := Lib.hid hL
  have HQ3 := Lib.hid (HQ2.out.step hb)
  have HO3 := Lib.hid ho
  have HR3 := Lib.hid hr
  have hs2 : w.heap.size ≤ w2.heap.size := HQ2.out.be.size
  clear hL hb b0 HQ2 ho hr
  obtain ⟨q1, q2, q3⟩ := HQ3.out.pair #[.slice none 0 0, .int .u16 0, .int .u16 0, .int .u16 0, .int .u16 0, .int .u16 0, .int .u16 0, .int .u16 0, .int .u16 0, .int .u16 0, .int .u16 0, .int .u16 0, .int .u16 0, .int .u16 0, .int .u16 0, .int .u16 0, .int .u16 0] #[.slice none 0 0, .int .u16 0, .int .u16 0, .int .u16 0, .int .u16 0, .int .u16 0, .int .u16 0, .int .u16 0, .int .u16 0, .int .u16 0, .int .u16 0, .int .u16 0, .int .u16 0, .int .u16 0, .int .u16 0, .int .u16 0, .int .u16 0] #[.slice a1 L.length c1, .int .u16 ((lk 0 : Nat) : Int), .int .u16 ((lk 1 : Nat) : Int), .int .u16 ((lk 2 : Nat) : Int), .int .u16 ((lk 3 : Nat) : Int), .int .u16 ((lk 4 : Nat) : Int), .int .u16 ((lk 5 : Nat) : Int), .int .u16 ((lk 6 : Nat) : Int), .int .u16 ((lk 7 : Nat) : Int), .int .u16 ((lk 8 : Nat) : Int), .int .u16 ((lk 9 : Nat) : Int), .int .u16 ((lk 10 : Nat) : Int), .int .u16 ((lk 11 : Nat) : Int), .int .u16 ((lk 12 : Nat) : Int), .int .u16 ((lk 13 : Nat) : Int), .int .u16 ((lk 14 : Nat) : Int), .int .u16 ((lk 15 : Nat) : Int)] #[.slice a2 L.length c2, .int .u16 ((lk 0 : Nat) : Int), .int .u16 ((lk 1 : Nat) : Int), .int .u16 ((lk 2 : Nat) : Int), .int .u16 ((lk 3 : Nat) : Int), .int .u16 ((lk 4 : Nat) : Int), .int .u16 ((lk 5 : Nat) : Int), .int .u16 ((lk 6 : Nat) : Int), .int .u16 ((lk 7 : Nat) : Int), .int .u16 ((lk 8 : Nat) : Int), .int .u16 ((lk 9 : Nat) : Int), .int .u16 ((lk 10 : Nat) : Int), .int .u16 ((lk 11 : Nat) : Int), .int .u16 ((lk 12 : Nat) : Int), .int .u16 ((lk 13 : Nat) : Int), .int .u16 ((lk 14 : Nat) : Int), .int .u16 ((lk 15 : Nat) : Int)] 65 69
  have o1 := own_keepZ HO3.out (((Below.refl w3.heap.size w3).alloc (Nat.le_refl _) (.cells #[.slice none 0 0, .int .u16 0, .int .u16 0, .int .u16 0, .int .u16 0, .int .u16 0, .int .u16 0, .int .u16 0, .int .u16 0, .int .u16 0, .int .u16 0, .int .u16 0, .int .u16 0, .int .u16 0, .int .u16 0, .int .u16 0, .int .u16 0] 65)).alloc (by simp) (.cells #[.slice none 0 0, .int .u16 0, .int .u16 0, .int .u16 0, .int .u16 0, .int .u16 0, .int .u16 0, .int .u16 0, .int .u16 0, .int .u16 0, .int .u16 0, .int .u16 0, .int .u16 0, .int .u16 0, .int .u16 0, .int .u16 0, .int .u16 0] 69))
  have r1 := HR3.out.kept (((Below.refl w3.heap.size w3).alloc (Nat.le_refl _) (.cells #[.slice none 0 0, .int .u16 0, .int .u16 0, .int .u16 0, .int .u16 0, .int .u16 0, .int .u16 0, .int .u16 0, .int .u16 0, .int .u16 0, .int .u16 0, .int .u16 0, .int .u16 0, .int .u16 0, .int .u16 0, .int .u16 0, .int .u16 0] 65)).alloc (by simp) (.cells #[.slice none 0 0, .int .u16 0, .int .u16 0, .int .u16 0, .int .u16 0, .int .u16 0, .int .u16 0, .int .u16 0, .int .u16 0, .int .u16 0, .int .u16 0, .int .u16 0, .int .u16 0, .int .u16 0, .int .u16 0, .int .u16 0, .int .u16 0] 69))
  obtain ⟨wA, hwA⟩ : ∃ xW, (w3.alloc (.cells #[.slice none 0 0, .int .u16 0, .int .u16 0, .int .u16 0, .int .u16 0, .int .u16 0, .int .u16 0, .int .u16 0, .int .u16 0, .int .u16 0, .int .u16 0, .int .u16 0, .int .u16 0, .int .u16 0, .int .u16 0, .int .u16 0, .int .u16 0] 65)).alloc (.cells #[.slice none 0 0, .int .u16 0, .int .u16 0, .int .u16 0, .int .u16 0, .int .u16 0, .int .u16 0, .int .u16 0, .int .u16 0, .int .u16 0, .int .u16 0, .int .u16 0, .int .u16 0, .int .u16 0, .int .u16 0, .int .u16 0, .int .u16 0] 69) = xW := ⟨_, rfl⟩
  rw [hwA] at q1 q2 q3 o1 r1
  have o2 := o1.kept (grown_rowS wA w3.heap.size #[.slice a1 L.length c1, .int .u16 ((lk 0 : Nat) : Int), .int .u16 ((lk 1 : Nat) : Int), .int .u16 ((lk 2 : Nat) : Int), .int .u16 ((lk 3 : Nat) : Int), .int .u16 ((lk 4 : Nat) : Int), .int .u16 ((lk 5 : Nat) : Int), .int .u16 ((lk 6 : Nat) : Int), .int .u16 ((lk 7 : Nat) : Int), .int .u16 ((lk 8 : Nat) : Int), .int .u16 ((lk 9 : Nat) : Int), .int .u16 ((lk 10 : Nat) : Int), .int .u16 ((lk 11 : Nat) : Int), .int .u16 ((lk 12 : Nat) : Int), .int .u16 ((lk 13 : Nat) : Int), .int .u16 ((lk 14 : Nat) : Int), .int .u16 ((lk 15 : Nat) : Int)]) (.inr (Ne.symm (box_apart q2 o1 (by decide))))
  have r2 := r1.box (grown_rowS wA w3.heap.size #[.slice a1 L.length c1, .int .u16 ((lk 0 : Nat) : Int), .int .u16 ((lk 1 : Nat) : Int), .int .u16 ((lk 2 : Nat) : Int), .int .u16 ((lk 3 : Nat) : Int), .int .u16 ((lk 4 : Nat) : Int), .int .u16 ((lk 5 : Nat) : Int), .int .u16 ((lk 6 : Nat) : Int), .int .u16 ((lk 7 : Nat) : Int), .int .u16 ((lk 8 : Nat) : Int), .int .u16 ((lk 9 : Nat) : Int), .int .u16 ((lk 10 : Nat) : Int), .int .u16 ((lk 11 : Nat) : Int), .int .u16 ((lk 12 : Nat) : Int), .int .u16 ((lk 13 : Nat) : Int), .int .u16 ((lk 14 : Nat) : Int), .int .u16 ((lk 15 : Nat) : Int)]) q2 (by decide) (by decide)
  obtain ⟨wB, hwB⟩ : ∃ xW, wA.setRow w3.heap.size #[.slice a1 L.length c1, .int .u16 ((lk 0 : Nat) : Int), .int .u16 ((lk 1 : Nat) : Int), .int .u16 ((lk 2 : Nat) : Int), .int .u16 ((lk 3 : Nat) : Int), .int .u16 ((lk 4 : Nat) : Int), .int .u16 ((lk 5 : Nat) : Int), .int .u16 ((lk 6 : Nat) : Int), .int .u16 ((lk 7 : Nat) : Int), .int .u16 ((lk 8 : Nat) : Int), .int .u16 ((lk 9 : Nat) : Int), .int .u16 ((lk 10 : Nat) : Int), .int .u16 ((lk 11 : Nat) : Int), .int .u16 ((lk 12 : Nat) : Int), .int .u16 ((lk 13 : Nat) : Int), .int .u16 ((lk 14 : Nat) : Int), .int .u16 ((lk 15 : Nat) : Int)] = xW := ⟨_, rfl⟩
  rw [hwB] at q1 q3 o2 r2
  have o3 := o2.kept (grown_rowS wB (w3.heap.size + 1) #[.slice a2 L.length c2, .int .u16 ((lk 0 : Nat) : Int), .int .u16 ((lk 1 : Nat) : Int), .int .u16 ((lk 2 : Nat) : Int), .int .u16 ((lk 3 : Nat) : Int), .int .u16 ((lk 4 : Nat) : Int), .int .u16 ((lk 5 : Nat) : Int), .int .u16 ((lk 6 : Nat) : Int), .int .u16 ((lk 7 : Nat) : Int), .int .u16 ((lk 8 : Nat) : Int), .int .u16 ((lk 9 : Nat) : Int), .int .u16 ((lk 10 : Nat) : Int), .int .u16 ((lk 11 : Nat) : Int), .int .u16 ((lk 12 : Nat) : Int), .int .u16 ((lk 13 : Nat) : Int), .int .u16 ((lk 14 : Nat) : Int), .int .u16 ((lk 15 : Nat) : Int)]) (.inr (Ne.symm (box_apart q3 o2 (by decide))))
  have r3 := r2.box (grown_rowS wB (w3.heap.size + 1) #[.slice a2 L.length c2, .int .u16 ((lk 0 : Nat) : Int), .int .u16 ((lk 1 : Nat) : Int), .int .u16 ((lk 2 : Nat) : Int), .int .u16 ((lk 3 : Nat) : Int), .int .u16 ((lk 4 : Nat) : Int), .int .u16 ((lk 5 : Nat) : Int), .int .u16 ((lk 6 : Nat) : Int), .int .u16 ((lk 7 : Nat) : Int), .int .u16 ((lk 8 : Nat) : Int), .int .u16 ((lk 9 : Nat) : Int), .int .u16 ((lk 10 : Nat) : Int), .int .u16 ((lk 11 : Nat) : Int), .int .u16 ((lk 12 : Nat) : Int), .int .u16 ((lk 13 : Nat) : Int), .int .u16 ((lk 14 : Nat) : Int), .int .u16 ((lk 15 : Nat) : Int)]) q3 (by decide) (by decide)
  obtain ⟨wC, hwC⟩ : ∃ xW, wB.setRow (w3.heap.size + 1) #[.slice a2 L.length c2, .int .u16 ((lk 0 : Nat) : Int), .int .u16 ((lk 1 : Nat) : Int), .int .u16 ((lk 2 : Nat) : Int), .int .u16 ((lk 3 : Nat) : Int), .int .u16 ((lk 4 : Nat) : Int), .int .u16 ((lk 5 : Nat) : Int), .int .u16 ((lk 6 : Nat) : Int), .int .u16 ((lk 7 : Nat) : Int), .int .u16 ((lk 8 : Nat) : Int), .int .u16 ((lk 9 : Nat) : Int), .int .u16 ((lk 10 : Nat) : Int), .int .u16 ((lk 11 : Nat) : Int), .int .u16 ((lk 12 : Nat) : Int), .int .u16 ((lk 13 : Nat) : Int), .int .u16 ((lk 14 : Nat) : Int), .int .u16 ((lk 15 : Nat) : Int)] = xW := ⟨_, rfl⟩
  rw [hwC] at q1 o3 r3
  clear o1 r1 o2 r2 HO3 HR3 HQ3
  go_upto_region 4 with (first | ((with_reducible show wpList _ _ _ (_ :: _) _ _); (try rw [hwA]); refine wpList_store_row rfl 65 _ _ rfl _ _ rfl rfl _ _ q2 (by exact size_mp) (by rfl) (by simp [Value.oneCell']) ?_; rw [hwB]) | ((with_reducible show wpList _ _ _ (_ :: _) _ _); refine wpList_store_row rfl 69 _ _ rfl _ _ rfl rfl _ _ q3 (by exact size_rm) (by rfl) (by simp [Value.oneCell']) ?_; rw [hwC]))
  obtain ⟨ga, hga⟩ : ∃ g, g = w3.heap.size := ⟨_, rfl⟩
  obtain ⟨gb, hgb⟩ : ∃ g, g = w3.heap.size + 1 := ⟨_, rfl⟩
  rw [← hgb, ← hga] at q1
  rw [← hgb, ← hga]
  have HQC := Lib.hid (show Bq w wC [(g0, #[.int .u16 ((lk 0 : Nat) : Int), .int .u16 ((lk 1 : Nat) : Int), .int .u16 ((lk 2 : Nat) : Int), .int .u16 ((lk 3 : Nat) : Int), .int .u16 ((lk 4 : Nat) : Int), .int .u16 ((lk 5 : Nat) : Int), .int .u16 ((lk 6 : Nat) : Int), .int .u16 ((lk 7 : Nat) : Int), .int .u16 ((lk 8 : Nat) : Int), .int .u16 ((lk 9 : Nat) : Int), .int .u16 ((lk 10 : Nat) : Int), .int .u16 ((lk 11 : Nat) : Int), .int .u16 ((lk 12 : Nat) : Int), .int .u16 ((lk 13 : Nat) : Int), .int .u16 ((lk 14 : Nat) : Int), .int .u16 ((lk 15 : Nat) : Int)], 62), (g8, #[.int .i8 (c 0), .int .i8 (c 1), .int .i8 (c 2), .int .i8 (c 3), .int .i8 (c 4), .int .i8 (c 5)], 76), (g9, #[.int .i8 (d 0), .int .i8 (d 1), .int .i8 (d 2), .int .i8 (d 3), .int .i8 (d 4), .int .i8 (d 5)], 76), (ga, #[.slice a1 L.length c1, .int .u16 ((lk 0 : Nat) : Int), .int .u16 ((lk 1 : Nat) : Int), .int .u16 ((lk 2 : Nat) : Int), .int .u16 ((lk 3 : Nat) : Int), .int .u16 ((lk 4 : Nat) : Int), .int .u16 ((lk 5 : Nat) : Int), .int .u16 ((lk 6 : Nat) : Int), .int .u16 ((lk 7 : Nat) : Int), .int .u16 ((lk 8 : Nat) : Int), .int .u16 ((lk 9 : Nat) : Int), .int .u16 ((lk 10 : Nat) : Int), .int .u16 ((lk 11 : Nat) : Int), .int .u16 ((lk 12 : Nat) : Int), .int .u16 ((lk 13 : Nat) : Int), .int .u16 ((lk 14 : Nat) : Int), .int .u16 ((lk 15 : Nat) : Int)], 65), (gb, #[.slice a2 L.length c2, .int .u16 ((lk 0 : Nat) : Int), .int .u16 ((lk 1 : Nat) : Int), .int .u16 ((lk 2 : Nat) : Int), .int .u16 ((lk 3 : Nat) : Int), .int .u16 ((lk 4 : Nat) : Int), .int .u16 ((lk 5 : Nat) : Int), .int .u16 ((lk 6 : Nat) : Int), .int .u16 ((lk 7 : Nat) : Int), .int .u16 ((lk 8 : Nat) : Int), .int .u16 ((lk 9 : Nat) : Int), .int .u16 ((lk 10 : Nat) : Int), .int .u16 ((lk 11 : Nat) : Int), .int .u16 ((lk 12 : Nat) : Int), .int .u16 ((lk 13 : Nat) : Int), .int .u16 ((lk 14 : Nat) : Int), .int .u16 ((lk 15 : Nat) : Int)], 69)] from q1)
  have HOC := Lib.hid o3
  have HRC := Lib.hid r3
  clear hga hgb q1 q2 q3 o3 r3 hwA hwB hwC hzm hzr
  have b2 := HQC.out.of 4 rfl
  (try simp only [Act.put])
  go_wp2_with ((with_reducible show wpList _ _ _ (_ :: _) _ _); refine wpList_load_row rfl 69 _ rfl _ rfl _ _ _ _ b2 Try.underlying69 rfl (by exact size_rm) ?_; (try go_simp))
  go_at_call 31
  refine (All_is w2.heap.size a2 c2 bad L lk wC HRC.out HLK.out hbad hL6 hLv).mono ?_
  rintro e w4 ⟨vA, rfl, hoA, hb⟩
  have hmem := fun x => @DD_mem L lk bad x
  have hany := any_is L lk c bad hL6
  have hEl : (DD L lk bad).length ≤ 16777216 := by rw [← findR_n L lk noneC bad]; exact findR_le L lk noneC bad hL6
  obtain ⟨D, hD⟩ : ∃ D, DD L lk bad = D := ⟨_, rfl⟩
  rw [hD] at hoA hmem hEl hany
  obtain ⟨aA, cA, rfl⟩ := own_formC hoA
  have HMEM := Lib.hid hmem
  have HANY := Lib.hid hany
  have HOA := Lib.hid hoA
  have HQ4 := Lib.hid (HQC.out.step hb)
  have HO4 := Lib.hid (own_keepZ HOC.out hb)
  clear b2 hb hoA hmem hD hany HQC HOC HRC
  have hz6 := zero_six
  obtain ⟨i0, hi, hz0, hz1, hz2⟩ := info_parts info_intZ
  go_wp2_with fail
  obtain ⟨wk, hwk⟩ : ∃ wk, wk = w4 := ⟨_, rfl⟩
  rw [← hwk] at HQ4 HO4 HOA ⊢
  clear hwk
  go_loopw [13, 33] (fun v i wr => ∃ m : Nat, m ≤ D.length ∧ i = .int .i64 (m : Nat) ∧ v = .bool (anyS c (D.take m)) ∧ Below wk.heap.size wk wr) (fun _ i _ => D.length - (intOf i).toNat)
  case atStart => exact ⟨0, Nat.zero_le _, rfl, rfl, Below.refl _ _⟩
  case round =>
    obtain ⟨m, hm, rfl, rfl, hb⟩ := hrel
    by_cases hml : m < D.length
    · obtain ⟨g, rfl, hgb, hgw, hrg⟩ := own_rangeC (own_keepZ HOA.out hb) rfl hml
      have hxm : D.getD m [] ∈ D := by rw [List.getD, List.getElem?_eq_getElem hml]; exact List.getElem_mem _
      have hsn := anyS_snoc c (D.take m) (D.getD m [])
      have hd : D.take m ++ [D.getD m []] = D.take (m + 1) := by
        rw [List.take_add_one, List.getElem?_eq_getElem hml]
        simp [List.getD, hml]
      rw [hd] at hsn
      have hxo := chain_ok (HMEM.out _ hxm).2
      obtain ⟨x, hx⟩ : ∃ x, chainC (D.getD m []) = x := ⟨_, rfl⟩
      rw [hx] at hrg hsn hxo
      obtain ⟨t, ht⟩ : ∃ t, anyS c (D.take m) = t := ⟨_, rfl⟩
      rw [ht] at hsn ⊢
      have he := eqlCh hxo HCO.out
      obtain ⟨s, hs⟩ : ∃ s, sameC x c = s := ⟨_, rfl⟩
      rw [hs] at hsn
      simp only [hs] at he
      have HS := Lib.hid hsn
      have HB := Lib.hid hb
      have hqn := (HQ4.out.step hb).new #[.int .i8 (x 0), .int .i8 (x 1), .int .i8 (x 2), .int .i8 (x 3), .int .i8 (x 4), .int .i8 (x 5)] 75
      have hal := (Below.refl wr.heap.size wr).alloc (Nat.le_refl _) (.cells #[.int .i8 (x 0), .int .i8 (x 1), .int .i8 (x 2), .int .i8 (x 3), .int .i8 (x 4), .int .i8 (x 5)] 75)
      have hB5 := Lib.hid (hb.trans (hal.mono hb.size))
      clear hsn hb hd hx hxm hgb hgw ht hs hal
      go_upto_region 8 with (first | ((with_reducible show wpList _ _ _ (_ :: _) _ _); refine wpList_load_mid rfl 75 _ rfl _ (m * 6) rfl (chl x) _ hrg Try.underlying75 rfl size_six ?_; rw [show (chl x).toArray = #[.int .i8 (x 0), .int .i8 (x 1), .int .i8 (x 2), .int .i8 (x 3), .int .i8 (x 4), .int .i8 (x 5)] from rfl]; (try go_simp)) | ((with_reducible show wpList _ _ _ (_ :: _) _ _); refine wpList_store_row rfl 75 _ _ rfl _ _ rfl rfl _ _ (heap_alloc_new _ _) (by exact size_six) (by rfl) (by simp [Value.oneCell']) ?_; rw [World.setRow_alloc_new]))
      obtain ⟨w5, hw5⟩ : ∃ w5, w5 = wr.alloc (.cells #[.int .i8 (x 0), .int .i8 (x 1), .int .i8 (x 2), .int .i8 (x 3), .int .i8 (x 4), .int .i8 (x 5)] 75) := ⟨_, rfl⟩
      obtain ⟨gx, hgx⟩ : ∃ g, g = wr.heap.size := ⟨_, rfl⟩
      rw [← hw5] at hqn hB5 ⊢
      rw [← hgx] at hqn ⊢
      have bx := hqn.of 5 rfl
      have b8 := hqn.of 1 rfl
      clear hw5 hgx hqn hrg HB
      (try simp only [Act.put])
      cases t
      · go_wp2_with (first | (refine wpLoadGT (by (first | exact Go.Mix.wanted_none rfl | exact Go.Mix.wanted_tt rfl rfl rfl | exact Go.Mix.wanted_ff rfl rfl rfl)) 75 _ rfl _ rfl _ _ _ _ bx Try.underlying75 rfl (by exact size_six) ?_; (try go_simp)) | (refine wpLoadGT (by (first | exact Go.Mix.wanted_none rfl | exact Go.Mix.wanted_tt rfl rfl rfl | exact Go.Mix.wanted_ff rfl rfl rfl)) 76 _ rfl _ rfl _ _ _ _ b8 Try.underlying76 rfl (by exact size_ch) ?_; (try go_simp)))
        go_roundw
        case rel => exact ⟨m + 1, by omega, by go_num, by rw [HS.out]; rfl, hB5.out⟩
        case measure => simp [intOf]; omega
      · clear bx b8 he
        go_wp2_with fail
        go_roundw
        case rel => exact ⟨m + 1, by omega, by go_num, by rw [HS.out]; rfl, hB5.out⟩
        case measure => simp [intOf]; omega
    · obtain rfl : m = D.length := by omega
      rw [List.take_of_length_le (Nat.le_refl _)]
      obtain ⟨R, hR⟩ : ∃ R, anyS c D = R := ⟨_, rfl⟩
      rw [hR]
      have HR := Lib.hid (HANY.out.trans hR)
      have HQ5 := Lib.hid (HQ4.out.step hb)
      have HO5 := Lib.hid (own_keepZ HO4.out hb)
      clear hb hR HQ4 HO4 HOA
      obtain ⟨wk2, hwk2⟩ : ∃ wk, wk = wr := ⟨_, rfl⟩
      rw [← hwk2] at HQ5 HO5 ⊢
      clear hwk2
      go_wp2_with fail
      go_loopw [16, 44] (fun v i wr => ∃ k : Nat, k ≤ 6 ∧ i = .int .i64 (k : Nat) ∧ wr.ownsRow wk2.heap.size 3 1 v (difL c d k).length (zil (difL c d k)) ∧ Below wk2.heap.size wk2 wr) (fun _ i _ => 6 - (intOf i).toNat)
      case atStart => exact ⟨0, Nat.zero_le _, rfl, World.ownsRow_nil _ _ _ _, Below.refl _ _⟩
      case round =>
        obtain ⟨k, hk, rfl, ho, hb⟩ := hrel
        by_cases hlt : k < 6
        · have HQ := Lib.hid (HQ5.out.step hb)
          have e1 := cell_of_row _ g8 k _ _ _ (HQ.out.of 1 rfl)
          rw [ch_cell c hlt] at e1
          have e2 := cell_of_row _ g9 k _ _ _ (HQ.out.of 2 rfl)
          rw [ch_cell d hlt] at e2
          have hsn := difL_snoc c d k
          have hdl := difL_len c d k
          have hbx := HCO.out k hlt
          have huh := units_has c hlt
          obtain ⟨x, hx⟩ : ∃ x, c k = x := ⟨_, rfl⟩
          obtain ⟨y, hy⟩ : ∃ y, d k = y := ⟨_, rfl⟩
          rw [hx] at e1 hsn hbx huh
          rw [hy] at e2 hsn
          have HX := Lib.hid hx
          have HUH := Lib.hid huh
          have HBd := Lib.hid (fun n => hb.trans ((bel_drewV wr n).mono hb.size))
          have HQd := Lib.hid (fun n => HQ.out.step (bel_drewV wr n))
          have HOd := Lib.hid (fun n => own_keepZ ho (bel_drewV wr n))
          clear hx hy ho hb HQ huh
          by_cases hxy : x = y
          · rw [if_neg (by simp [hxy])] at hsn
            have HS := Lib.hid hsn
            have hne : (x != y) = false := by simp [hxy]
            clear hsn hxy
            go_upto_region 14 with fail
            go_quiet (fail)
            obtain ⟨w6, hw6⟩ : ∃ w5, w5 = wr.drewN nq := ⟨_, rfl⟩
            have HQ6 := Lib.hid (HQd.out nq)
            have HO6 := Lib.hid (show (wr.drewN nq).ownsRow wk2.heap.size 3 1 _ (difL c d (k + 1)).length (zil (difL c d (k + 1))) by rw [HS.out]; exact HOd.out nq)
            have HB6 := Lib.hid (HBd.out nq)
            rw [← hw6] at HQ6 HO6 HB6 ⊢
            clear hw6 HQd HOd HBd e1 e2 HS
            skip
            have f1 := cell_of_row _ g8 k _ _ _ (HQ6.out.of 1 rfl)
            rw [ch_cell c hlt, HX.out] at f1
            rcases (by omega : x < 0 ∨ 0 ≤ x) with hx0 | hx0
            · have hx1 : ¬ (0 : Int) ≤ x := by omega
              have hx2 : decide ((0 : Int) ≤ x) = false := decide_eq_false hx1
              clear hx0
              go_wp2_with fail
              go_roundw
              case rel => exact ⟨k + 1, by omega, by go_num, HO6.out, HB6.out⟩
              case measure => simp [intOf]; omega
            · have hx2 : decide ((0 : Int) ≤ x) = true := decide_eq_true hx0
              rcases (by omega : x < 16 ∨ 16 ≤ x) with hx3 | hx3
              · have hx4 : decide (x < 16) = true := decide_eq_true hx3
                have b8 := HQ6.out.of 1 rfl
                go_wp2_with (refine wpLoadGT (by (first | exact Go.Mix.wanted_none rfl | exact Go.Mix.wanted_tt rfl rfl rfl | exact Go.Mix.wanted_ff rfl rfl rfl)) 76 _ rfl _ rfl _ _ _ _ b8 Try.underlying76 rfl (by exact size_ch) ?_; (try go_simp))
                go_at_call 37
                refine (Units_any c w6 HCO.out).mono ?_
                rintro e w7 ⟨rfl, hb7⟩
                have HB7 := Lib.hid (HB6.out.trans (hb7.mono HB6.out.size))
                have HO7 := Lib.hid (own_keepZ HO6.out hb7)
                clear hb7 b8 f1
                have hul := unitsS_lt c 6
                have hut := HUH.out hx0 hx3
                obtain ⟨u, hu⟩ : ∃ u, unitsS c 6 = u := ⟨_, rfl⟩
                rw [hu] at hul hut ⊢
                have HUT := Lib.hid hut
                clear hu hut
                go_wp2_with fail
                go_at_call 41
                refine (Has_any u x w7 hul).mono ?_
                rintro e w8 ⟨rfl, hb8⟩
                rw [HUT.out]
                have HB8 := Lib.hid (HB7.out.trans (hb8.mono HB7.out.size))
                have HO8 := Lib.hid (own_keepZ HO7.out hb8)
                clear hb8
                go_wp2_with fail
                go_roundw
                case rel => exact ⟨k + 1, by omega, by go_num, HO8.out, HB8.out⟩
                case measure => simp [intOf]; omega
              · have hx5 : ¬ x < 16 := by omega
                have hx4 : decide (x < 16) = false := decide_eq_false hx5
                clear hx3
                go_wp2_with fail
                go_roundw
                case rel => exact ⟨k + 1, by omega, by go_num, HO6.out, HB6.out⟩
                case measure => simp [intOf]; omega
          · rw [if_pos hxy] at hsn
            have HS := Lib.hid hsn
            have hne : (x != y) = true := by simp [hxy]
            clear hsn hxy
            go_upto_region 14 with fail
            go_quiet (fail)
            obtain ⟨w5, hw5⟩ : ∃ w5, w5 = wr.drewN nq := ⟨_, rfl⟩
            have HQ5' := Lib.hid (HQd.out nq)
            have HO5' := Lib.hid (HOd.out nq)
            have HB5' := Lib.hid (HBd.out nq)
            rw [← hw5] at HQ5' HO5' HB5' ⊢
            have hs5 := HB5'.out.size
            clear hw5 HQd HOd HBd e1 e2
            go_upto_region 15 with fail
            go_upto_region 16 with (at_builtin; refine wpList_append_own _ rfl _ _ 89 rfl wk2.heap.size 3 i0 (.int .i64 0) 1 8 Try.underlying89 hi hz0 hz1 hz2 rfl (by decide) _ _ _ rfl (HO5'.out.alloc _) ⟨w5.heap.size, 0, none⟩ 1 1 [.int .i64 ((k : Nat) : Int)] rfl rfl (int_new _ _) (by simp [Value.oneCell']) (by unfold maxLen; omega) (by omega) (by simp; omega) ?_; intro v6 w6 hown4 hgr4 _; have HO4' := Lib.hid hown4; have HQ6 := Lib.hid ((HQ5'.out.step ((Below.refl w5.heap.size w5).alloc (Nat.le_refl _) (.cells #[.int .i64 ((k : Nat) : Int)] 3))).grown' (HO5'.out.alloc _) (by have := HQ5.out.be.size; omega) hgr4 (by simp)); have HB6 := Lib.hid ((HB5'.out.alloc hs5 _).grown hgr4 (by simp; omega) (fun j hj => (HO5'.out.lt j hj).1)); clear hown4 hgr4)
            have HO6 := Lib.hid (show w6.ownsRow wk2.heap.size 3 1 _ (difL c d (k + 1)).length (zil (difL c d (k + 1))) by rw [HS.out, List.length_append, zil_snoc]; exact HO4'.out)
            clear HQ5' HO5' HB5' HO4' HS
            (try simp only [Act.put])
            skip
            have f1 := cell_of_row _ g8 k _ _ _ (HQ6.out.of 1 rfl)
            rw [ch_cell c hlt, HX.out] at f1
            rcases (by omega : x < 0 ∨ 0 ≤ x) with hx0 | hx0
            · have hx1 : ¬ (0 : Int) ≤ x := by omega
              have hx2 : decide ((0 : Int) ≤ x) = false := decide_eq_false hx1
              clear hx0
              go_wp2_with fail
              go_roundw
              case rel => exact ⟨k + 1, by omega, by go_num, HO6.out, HB6.out⟩
              case measure => simp [intOf]; omega
            · have hx2 : decide ((0 : Int) ≤ x) = true := decide_eq_true hx0
              rcases (by omega : x < 16 ∨ 16 ≤ x) with hx3 | hx3
              · have hx4 : decide (x < 16) = true := decide_eq_true hx3
                have b8 := HQ6.out.of 1 rfl
                go_wp2_with (refine wpLoadGT (by (first | exact Go.Mix.wanted_none rfl | exact Go.Mix.wanted_tt rfl rfl rfl | exact Go.Mix.wanted_ff rfl rfl rfl)) 76 _ rfl _ rfl _ _ _ _ b8 Try.underlying76 rfl (by exact size_ch) ?_; (try go_simp))
                go_at_call 37
                refine (Units_any c w6 HCO.out).mono ?_
                rintro e w7 ⟨rfl, hb7⟩
                have HB7 := Lib.hid (HB6.out.trans (hb7.mono HB6.out.size))
                have HO7 := Lib.hid (own_keepZ HO6.out hb7)
                clear hb7 b8 f1
                have hul := unitsS_lt c 6
                have hut := HUH.out hx0 hx3
                obtain ⟨u, hu⟩ : ∃ u, unitsS c 6 = u := ⟨_, rfl⟩
                rw [hu] at hul hut ⊢
                have HUT := Lib.hid hut
                clear hu hut
                go_wp2_with fail
                go_at_call 41
                refine (Has_any u x w7 hul).mono ?_
                rintro e w8 ⟨rfl, hb8⟩
                rw [HUT.out]
                have HB8 := Lib.hid (HB7.out.trans (hb8.mono HB7.out.size))
                have HO8 := Lib.hid (own_keepZ HO7.out hb8)
                clear hb8
                go_wp2_with fail
                go_roundw
                case rel => exact ⟨k + 1, by omega, by go_num, HO8.out, HB8.out⟩
                case measure => simp [intOf]; omega
              · have hx5 : ¬ x < 16 := by omega
                have hx4 : decide (x < 16) = false := decide_eq_false hx5
                clear hx3
                go_wp2_with fail
                go_roundw
                case rel => exact ⟨k + 1, by omega, by go_num, HO6.out, HB6.out⟩
                case measure => simp [intOf]; omega
        · obtain rfl : k = 6 := by omega
          have HQ6 := Lib.hid (HQ5.out.step hb)
          have HM6 := Lib.hid (own_keepZ HO5.out hb)
          have HO6 := Lib.hid ho
          clear ho hb HQ5 HO5
          obtain ⟨al, cl', rfl⟩ := own_form HO6.out
          have b8 := HQ6.out.of 1 rfl
          have b9 := HQ6.out.of 2 rfl
          go_wp2_with (first | ((with_reducible show wpList _ _ _ (_ :: _) _ _); refine wpList_load_row rfl 76 _ rfl _ rfl _ _ _ _ b8 Try.underlying76 rfl (by exact size_ch) ?_; (try go_simp)) | ((with_reducible show wpList _ _ _ (_ :: _) _ _); refine wpList_load_row rfl 76 _ rfl _ rfl _ _ _ _ b9 Try.underlying76 rfl (by exact size_ch) ?_; (try go_simp)))
          go_at_call 42
          refine (Differs_any c d wr).mono ?_
          rintro e w7 ⟨vg, rfl, hog, hb⟩
          obtain ⟨ag, cg, rfl⟩ := own_form hog
          have HQ7 := Lib.hid (HQ6.out.step hb)
          have HM7 := Lib.hid (own_keepZ HM6.out hb)
          have hrl : Rd w7.heap.size w7 al (difL c d 6).length cl' (iv (difL c d 6)) := rd_of_own (own_keepZ HO6.out hb) (fun i hi => zil_at _ i hi)
          have hrg : Rd w7.heap.size w7 ag (difL c d 6).length cg (iv (difL c d 6)) := rd_of_own hog (fun i hi => zil_at _ i hi)
          have hdl := difL_len c d 6
          obtain ⟨F, hF⟩ : ∃ F, difL c d 6 = F := ⟨_, rfl⟩
          rw [hF] at hrl hrg hdl ⊢
          obtain ⟨n, hn⟩ : ∃ n, F.length = n := ⟨_, rfl⟩
          rw [hn] at hrl hrg hdl ⊢
          have HRL := Lib.hid hrl
          have HRG := Lib.hid hrg
          clear hb hog b8 b9 HO6 HQ6 HM6 hrl hrg hF hn
          obtain ⟨wj, hwj⟩ : ∃ wk, wk = w7 := ⟨_, rfl⟩
          rw [← hwj] at HQ7 HM7 HRL HRG ⊢
          clear hwj
          go_wp2_with fail
          go_loopw [86] (fun v wr => ∃ k : Nat, k ≤ n ∧ v = .int .i64 (k : Nat) ∧ Below wj.heap.size wj wr) (fun v _ => n - (intOf v).toNat)
          case atStart => exact ⟨0, Nat.zero_le _, rfl, Below.refl _ _⟩
          case round =>
            obtain ⟨k, hk, rfl, hb⟩ := hrel
            by_cases hkn : k < n
            · obtain ⟨b1, o1, rfl, hl1, hc1⟩ := HRL.out.at hkn
              obtain ⟨b2, o2, rfl, hl2, hc2⟩ := HRG.out.at hkn
              have hc1 := (hb.cell (p := ⟨b1, o1 + k, none⟩) hl1).trans hc1
              have hc2 := (hb.cell (p := ⟨b2, o2 + k, none⟩) hl2).trans hc2
              unfold iv at hc1 hc2
              obtain ⟨x, hx⟩ : ∃ x, F.getD k 0 = x := ⟨_, rfl⟩
              rw [hx] at hc1 hc2
              have hne : (x != x) = false := by simp
              have HBd := Lib.hid (fun n => hb.trans ((bel_drewV wr n).mono hb.size))
              clear hb hx hl1 hl2
              go_upto_region 26 with fail
              go_quiet (fail)
              go_wp2_with fail
              go_roundw
              case rel => exact ⟨k + 1, by omega, by go_num, HBd.out _⟩
              case measure => simp [intOf]; omega
            · obtain rfl : k = n := by omega
              have HQ8 := Lib.hid (HQ7.out.step hb)
              have HM8 := Lib.hid (map_own (own_keepZ HM7.out hb) hLv HLK.out hL6)
              have ba := HQ8.out.of 3 rfl
              have b8 := HQ8.out.of 1 rfl
              clear hb HQ7 HM7
              go_wp2_with (first | ((with_reducible show wpList _ _ _ (_ :: _) _ _); refine wpList_load_row rfl 65 _ rfl _ rfl _ _ _ _ ba Try.underlying65 rfl (by exact size_mp) ?_; (try go_simp)) | ((with_reducible show wpList _ _ _ (_ :: _) _ _); refine wpList_load_row rfl 76 _ rfl _ rfl _ _ _ _ b8 Try.underlying76 rfl (by exact size_ch) ?_; (try go_simp)))
              go_at_call 36
              refine (Admits_any HM8.out c bad hbad HCO.out).mono ?_
              rintro e w9 ⟨rfl, hb⟩
              rw [HR.out]
              have HQ9 := Lib.hid (HQ8.out.step hb)
              have b8 := HQ9.out.of 1 rfl
              clear hb HQ8 HM8 ba
              go_wp2_with (refine wpLoadGT (by (first | exact Go.Mix.wanted_none rfl | exact Go.Mix.wanted_tt rfl rfl rfl | exact Go.Mix.wanted_ff rfl rfl rfl)) 76 _ rfl _ rfl _ _ _ _ b8 Try.underlying76 rfl (by exact size_ch) ?_; (try go_simp))
              go_at_call 37
              refine (Units_any c w9 HCO.out).mono ?_
              rintro e wa ⟨rfl, hb⟩
              have HQA := Lib.hid (HQ9.out.step hb)
              have hul := unitsS_lt c 6
              have hct := units_count c
              obtain ⟨u, hu⟩ : ∃ u, unitsS c 6 = u := ⟨_, rfl⟩
              rw [hu] at hul hct ⊢
              clear hb b8 hu HQ9
              go_wp2_with fail
              go_at_call 43
              refine (Count_any u wa hul).mono ?_
              rintro e wb ⟨rfl, hb⟩
              have hcc : Lib.pop8 ((u / 256 : Nat) : Int) + Lib.pop8 ((u % 256 : Nat) : Int) = cntS u := rfl
              rw [hcc]
              have HQB := Lib.hid (HQA.out.step hb)
              obtain ⟨y, hy⟩ : ∃ y, cntS u = y := ⟨_, rfl⟩
              rw [hy] at hct ⊢
              have hct2 : decide (y ≤ 6) = true := decide_eq_true hct
              clear hb hcc hy HQA
              go_wp2_with fail
              go_at_call 35
              refine (None_any wb).mono ?_
              rintro e wc ⟨rfl, hb⟩
              have HQC' := Lib.hid (HQB.out.step hb)
              clear hb HQB
              go_wp2_with fail
              go_at_call 37
              refine (Units_any noneC wc (fun _ _ => ⟨by unfold noneC; omega, by unfold noneC; omega⟩)).mono ?_
              rintro e wd ⟨rfl, hb⟩
              rw [units_none]
              have HQD := Lib.hid (HQC'.out.step hb)
              clear hb HQC'
              go_wp2_with fail
              go_ret
              exact ⟨by first | rfl | (cases R <;> rfl), HQD.out.be⟩
end Go.Proofs.Ytioclbkgfbjpdaa
