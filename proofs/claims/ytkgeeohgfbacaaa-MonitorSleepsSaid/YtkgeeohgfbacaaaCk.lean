/- Checks of one parameter: what the document says (pure), and the contracts of layer 15. -/
import Derived.Test.YtkgeeohgfbacaaaChecked
import Derived.WalkKit
import Derived.WalkSpells
import Derived.Outline
import Derived.Lib.Hide
import Derived.OpenShut
import Derived.Below
import Derived.Handy
import Derived.LoopTactic
import Derived.RegionTactic
import Derived.Deep.RegionWith
import Derived.BigQuiet
import Derived.Deep.QuietTactic
import Derived.Laws.ShiftsVarLaws
import Derived.Test.YtkgeeohgfbacaaaKeep
import Derived.Test.YtkgeeohgfbacaaaFrame
namespace Go.Proofs.Ytkgeeohgfbacaaa
open Go.RowKit Go.Own
set_option linter.unusedVariables false
set_option linter.unusedSimpArgs false
/-- A definition. -/
structure Df where
  k : Int
  p : Int
  l : Int
  h : Int
  m : Nat
  n : Nat
/-- Its fields are of their types. -/
structure Df.ok (d : Df) : Prop where
  k0 : 0 ≤ d.k
  k1 : d.k ≤ 255
  p0 : -9223372036854775808 ≤ d.p
  p1 : d.p ≤ 9223372036854775807
  l0 : -2147483648 ≤ d.l
  l1 : d.l ≤ 2147483647
  h0 : -2147483648 ≤ d.h
  h1 : d.h ≤ 2147483647
  m1 : d.m < 4294967296
  n1 : d.n < 4294967296
def Df.right (d : Df) : Bool := decide (d.k ≤ 2) && decide (0 ≤ d.p) && decide (d.p < 16) && decide (d.l ≤ d.h)
/-- The status of a number that ought to be from l to h. -/
def limOf (l h x : Int) : Int := if x < l then 2 else if h < x then 3 else 1
/-- A number's bits. -/
def u32 (x : Int) : Nat := (x % 4294967296).toNat
def expOf (m n a : Nat) : Int := if a &&& m = n &&& m then 1 else 4
def Df.look (d : Df) (now before : Int) (first : Bool) : Int :=
  if d.right = false ∨ (d.k = 2 ∧ first = true) then 0
  else if d.k = 1 then expOf d.m d.n (u32 now)
  else if d.k = 2 then limOf d.l d.h (now - before)
  else limOf d.l d.h now
theorem u32_lt (x : Int) : u32 x < 4294967296 := by unfold u32; omega
theorem u32_int (x : Int) : x % 4294967296 = ((u32 x : Nat) : Int) := by unfold u32; omega
theorem wraps_u32' (n : Int) (h0 : 0 ≤ n) (h1 : n < 2 ^ 32) : IntKind.u32.wrap n = n := by rw [IntKind.wrap_u32]; omega
theorem andNatK (k : IntKind) (j : Nat) (hj : j ≤ k.bits) (hk : ∀ n : Int, 0 ≤ n → n < 2 ^ j → k.wrap n = n) (a b : Nat) (ha : a < 2 ^ j) (hb : b < 2 ^ j) : bits .and k (a : Int) (b : Int) = ((a &&& b : Nat) : Int) := by
  have hp : 2 ^ j ≤ 2 ^ k.bits := Nat.pow_le_pow_right (by decide) hj
  have ha' : a % 2 ^ k.bits = a := Nat.mod_eq_of_lt (Nat.lt_of_lt_of_le ha hp)
  have hb' : b % 2 ^ k.bits = b := Nat.mod_eq_of_lt (Nat.lt_of_lt_of_le hb hp)
  simp only [bits, BitVec.ofInt_natCast, BitVec.toNat_and, BitVec.toNat_ofNat, ha', hb']
  exact hk _ (Int.natCast_nonneg _) (by exact_mod_cast Nat.lt_of_le_of_lt Nat.and_le_left ha)
theorem and32 (a b : Nat) (ha : a < 4294967296) (hb : b < 4294967296) : bits .and .u32 (a : Int) (b : Int) = ((a &&& b : Nat) : Int) := andNatK .u32 32 (by decide) wraps_u32' a b ha hb
theorem orNatK (k : IntKind) (j : Nat) (hj : j ≤ k.bits) (hk : ∀ n : Int, 0 ≤ n → n < 2 ^ j → k.wrap n = n) (a b : Nat) (ha : a < 2 ^ j) (hb : b < 2 ^ j) : bits .or k (a : Int) (b : Int) = ((a ||| b : Nat) : Int) := by
  have hp : 2 ^ j ≤ 2 ^ k.bits := Nat.pow_le_pow_right (by decide) hj
  have ha' : a % 2 ^ k.bits = a := Nat.mod_eq_of_lt (Nat.lt_of_lt_of_le ha hp)
  have hb' : b % 2 ^ k.bits = b := Nat.mod_eq_of_lt (Nat.lt_of_lt_of_le hb hp)
  simp only [bits, BitVec.ofInt_natCast, BitVec.toNat_or, BitVec.toNat_ofNat, ha', hb']
  exact hk _ (Int.natCast_nonneg _) (by exact_mod_cast Nat.or_lt_two_pow ha hb)
theorem orW32 (a b : Nat) (ha : a < 4294967296) (hb : b < 4294967296) : bits .or .u32 (a : Int) (b : Int) = ((a ||| b : Nat) : Int) := orNatK .u32 32 (by decide) wraps_u32' a b ha hb
theorem andnot32 (a b : Nat) (ha : a < 4294967296) (hb : b < 4294967296) : bits .andNot .u32 (a : Int) (b : Int) = ((a &&& (4294967295 - b) : Nat) : Int) := by
  have ha' : a % 4294967296 = a := Nat.mod_eq_of_lt ha
  have hb' : b % 4294967296 = b := Nat.mod_eq_of_lt hb
  have h1 : a &&& (4294967295 - b) < 4294967296 := Nat.lt_of_le_of_lt Nat.and_le_left ha
  simp only [bits, BitVec.ofInt_natCast, BitVec.toNat_and, BitVec.toNat_not, BitVec.toNat_ofNat]
  rw [show 2 ^ IntKind.u32.bits = 4294967296 from rfl, ha', hb', show 4294967296 - 1 - b = 4294967295 - b by omega, IntKind.wrap_u32]
  omega
theorem and_lt32 {a : Nat} (b : Nat) (h : a < 4294967296) : a &&& b < 4294967296 := Nat.lt_of_le_of_lt Nat.and_le_left h
/-- What isn't under the mask says nothing. -/
theorem mixed_and (a o m : Nat) (hm : m < 4294967296) : ((a &&& m) ||| (o &&& (4294967295 - m))) &&& m = a &&& m := by
  apply Nat.eq_of_testBit_eq
  intro i
  have h := Nat.testBit_two_pow_sub_succ (n := 32) (x := m) (by omega) i
  rw [show 2 ^ 32 - (m + 1) = 4294967295 - m by omega] at h
  simp only [Nat.testBit_and, Nat.testBit_or, h]
  cases m.testBit i <;> simp
/-- The same, bit by bit. -/
theorem bits_iff (a n m : Nat) (ha : a < 4294967296) : (a &&& m = n &&& m) ↔ ∀ i, m.testBit i = true → a.testBit i = n.testBit i := by
  constructor
  · intro h i hi
    have := congrArg (fun x => x.testBit i) h
    simpa [Nat.testBit_and, hi] using this
  · intro h
    apply Nat.eq_of_testBit_eq
    intro i
    rw [Nat.testBit_and, Nat.testBit_and]
    cases hm : m.testBit i with
    | false => simp
    | true => rw [h i hm]
theorem dcl {a b : Int} (h : a < b) : decide (b ≤ a) = false ∧ decide (a < b) = true := ⟨decide_eq_false (by omega), decide_eq_true h⟩
set_option maxRecDepth 100000 in
set_option maxHeartbeats 1000000 in
theorem Right_at (k p l h : Int) (m n : Nat) (t : Bool) (w : World) (ht : (Df.mk k p l h m n).right = t) : Calls Try.prog 147 #[.agg #[.int .u8 k, .int .i64 p, .int .i32 l, .int .i32 h, .int .u32 ((m : Nat) : Int), .int .u32 ((n : Nat) : Int)]] w fun e w' => e = .returned (.bool t) ∧ Below w.heap.size w w' := by
  subst ht
  by_cases h1 : k ≤ 2
  · by_cases h2 : 0 ≤ p
    · by_cases h3 : p < 16
      · have e : (Df.mk k p l h m n).right = decide (l ≤ h) := by simp [Df.right, h1, h2, h3]
        rw [e]
        clear e
        go_enter Try.func147, Try.ntmps147
        go_wp2
        go_ret
        exact ⟨rfl, by repeat' (first | (with_reducible exact Below.refl _ _) | (with_reducible assumption) | (with_reducible refine Below.setCell ?_ ?_ _) | (with_reducible refine Below.alloc ?_ ?_ _) | (with_reducible refine Below.drew ?_) | (with_reducible refine Below.drawsN ?_ _) | go_size)⟩
      · have e : (Df.mk k p l h m n).right = false := by simp [Df.right, h3]
        rw [e]
        clear e
        have : 16 ≤ p := by omega
        clear h3
        go_enter Try.func147, Try.ntmps147
        go_wp2
        go_ret
        exact ⟨rfl, by repeat' (first | (with_reducible exact Below.refl _ _) | (with_reducible assumption) | (with_reducible refine Below.setCell ?_ ?_ _) | (with_reducible refine Below.alloc ?_ ?_ _) | (with_reducible refine Below.drew ?_) | (with_reducible refine Below.drawsN ?_ _) | go_size)⟩
    · have e : (Df.mk k p l h m n).right = false := by simp [Df.right, h2]
      rw [e]
      clear e
      have : p < 0 := by omega
      clear h2
      go_enter Try.func147, Try.ntmps147
      go_wp2
      go_ret
      exact ⟨rfl, by repeat' (first | (with_reducible exact Below.refl _ _) | (with_reducible assumption) | (with_reducible refine Below.setCell ?_ ?_ _) | (with_reducible refine Below.alloc ?_ ?_ _) | (with_reducible refine Below.drew ?_) | (with_reducible refine Below.drawsN ?_ _) | go_size)⟩
  · have e : (Df.mk k p l h m n).right = false := by simp [Df.right, h1]
    rw [e]
    clear e
    have : 2 < k := by omega
    clear h1
    go_enter Try.func147, Try.ntmps147
    go_wp2
    go_ret
    exact ⟨rfl, by repeat' (first | (with_reducible exact Below.refl _ _) | (with_reducible assumption) | (with_reducible refine Below.setCell ?_ ?_ _) | (with_reducible refine Below.alloc ?_ ?_ _) | (with_reducible refine Below.drew ?_) | (with_reducible refine Below.drawsN ?_ _) | go_size)⟩
set_option maxRecDepth 100000 in
set_option maxHeartbeats 1000000 in
theorem limit_at (k p l h : Int) (m n : Nat) (x v : Int) (w : World) (l0 : -2147483648 ≤ l) (l1 : l ≤ 2147483647) (h0 : -2147483648 ≤ h) (h1 : h ≤ 2147483647) (hv : limOf l h x = v) : Calls Try.prog 163 #[.agg #[.int .u8 k, .int .i64 p, .int .i32 l, .int .i32 h, .int .u32 ((m : Nat) : Int), .int .u32 ((n : Nat) : Int)], .int .i64 x] w fun e w' => e = .returned (.int .u8 v) ∧ Below w.heap.size w w' := by
  subst hv
  unfold limOf
  by_cases g1 : x < l
  · rw [if_pos g1]
    go_enter Try.func163, Try.ntmps163
    go_wp2
    go_ret
    exact ⟨rfl, by repeat' (first | (with_reducible exact Below.refl _ _) | (with_reducible assumption) | (with_reducible refine Below.setCell ?_ ?_ _) | (with_reducible refine Below.alloc ?_ ?_ _) | (with_reducible refine Below.drew ?_) | (with_reducible refine Below.drawsN ?_ _) | go_size)⟩
  by_cases g2 : h < x
  · rw [if_neg g1, if_pos g2]
    have g3 : l ≤ x := by omega
    clear g1
    go_enter Try.func163, Try.ntmps163
    go_wp2
    go_ret
    exact ⟨rfl, by repeat' (first | (with_reducible exact Below.refl _ _) | (with_reducible assumption) | (with_reducible refine Below.setCell ?_ ?_ _) | (with_reducible refine Below.alloc ?_ ?_ _) | (with_reducible refine Below.drew ?_) | (with_reducible refine Below.drawsN ?_ _) | go_size)⟩
  · rw [if_neg g1, if_neg g2]
    have g3 : l ≤ x := by omega
    have g4 : x ≤ h := by omega
    clear g1 g2
    go_enter Try.func163, Try.ntmps163
    go_wp2
    go_ret
    exact ⟨rfl, by repeat' (first | (with_reducible exact Below.refl _ _) | (with_reducible assumption) | (with_reducible refine Below.setCell ?_ ?_ _) | (with_reducible refine Below.alloc ?_ ?_ _) | (with_reducible refine Below.drew ?_) | (with_reducible refine Below.drawsN ?_ _) | go_size)⟩
set_option maxRecDepth 100000 in
set_option maxHeartbeats 1000000 in
theorem expect_at (k p l h : Int) (m n a : Nat) (v : Int) (w : World) (hm : m < 4294967296) (hn : n < 4294967296) (ha : a < 4294967296) (hv : expOf m n a = v) : Calls Try.prog 162 #[.agg #[.int .u8 k, .int .i64 p, .int .i32 l, .int .i32 h, .int .u32 ((m : Nat) : Int), .int .u32 ((n : Nat) : Int)], .int .u32 (a : Int)] w fun e w' => e = .returned (.int .u8 v) ∧ Below w.heap.size w w' := by
  subst hv
  unfold expOf
  have e1 := and32 a m ha hm
  have e2 := and32 n m hn hm
  obtain ⟨c, hc⟩ : ∃ c, c = a &&& m := ⟨_, rfl⟩
  obtain ⟨d, hd⟩ : ∃ d, d = n &&& m := ⟨_, rfl⟩
  rw [← hc] at e1 ⊢
  rw [← hd] at e2 ⊢
  clear hc hd
  by_cases h1 : c = d
  · rw [if_pos h1]
    subst h1
    go_enter Try.func162, Try.ntmps162
    go_wp2
    go_ret
    exact ⟨rfl, by repeat' (first | (with_reducible exact Below.refl _ _) | (with_reducible assumption) | (with_reducible refine Below.setCell ?_ ?_ _) | (with_reducible refine Below.alloc ?_ ?_ _) | (with_reducible refine Below.drew ?_) | (with_reducible refine Below.drawsN ?_ _) | go_size)⟩
  · rw [if_neg h1]
    have h2 : ((c : Int) != (d : Int)) = true := by simp [bne]; omega
    clear h1
    go_enter Try.func162, Try.ntmps162
    go_wp2
    go_ret
    exact ⟨rfl, by repeat' (first | (with_reducible exact Below.refl _ _) | (with_reducible assumption) | (with_reducible refine Below.setCell ?_ ?_ _) | (with_reducible refine Below.alloc ?_ ?_ _) | (with_reducible refine Below.drew ?_) | (with_reducible refine Below.drawsN ?_ _) | go_size)⟩
/- a call whose post is 'e = v ∧ Below', then the end -/
set_option maxRecDepth 100000 in
set_option maxHeartbeats 2000000 in
theorem Look_at (k p l h : Int) (m n : Nat) (now before : Int) (first : Bool) (v : Int) (w : World) (hok : (Df.mk k p l h m n).ok) (n0 : -2147483648 ≤ now) (n1 : now ≤ 2147483647) (b0 : -2147483648 ≤ before) (b1 : before ≤ 2147483647) (hv : (Df.mk k p l h m n).look now before first = v) :
    Calls Try.prog 148 #[.agg #[.int .u8 k, .int .i64 p, .int .i32 l, .int .i32 h, .int .u32 ((m : Nat) : Int), .int .u32 ((n : Nat) : Int)], .int .i32 now, .int .i32 before, .bool first] w fun e w' => e = .returned (.int .u8 v) ∧ Below w.heap.size w w' := by
  cases hr : (Df.mk k p l h m n).right
  · have hv0 : v = 0 := by rw [← hv, Df.look, if_pos (.inl hr)]
    subst hv0
    have HR := Lib.hid hr
    clear hr hv
    skip
    have HK := Lib.hid hok
    have hb0 : Below w.heap.size w (w.alloc (.cells #[.int .u8 k, .int .i64 p, .int .i32 l, .int .i32 h, .int .u32 ((m : Nat) : Int), .int .u32 ((n : Nat) : Int)] 115)) := (Below.refl _ _).alloc (Nat.le_refl _) _
    have g0 := heap_alloc_new w (.cells #[.int .u8 k, .int .i64 p, .int .i32 l, .int .i32 h, .int .u32 ((m : Nat) : Int), .int .u32 ((n : Nat) : Int)] 115)
    go_enter Try.func148, Try.ntmps148
    go_wp2_with fail
    obtain ⟨g, hg⟩ : ∃ g, g = w.heap.size := ⟨_, rfl⟩
    obtain ⟨wa, hwa⟩ : ∃ wa, wa = w.alloc (.cells #[.int .u8 k, .int .i64 p, .int .i32 l, .int .i32 h, .int .u32 ((m : Nat) : Int), .int .u32 ((n : Nat) : Int)] 115) := ⟨_, rfl⟩
    rw [← hwa] at hb0 g0 ⊢
    rw [← hg] at g0 ⊢
    clear hwa hg
    go_at_call 147
    refine (Right_at k p l h m n _ _ HR.out).mono ?_
    rintro e w1 ⟨rfl, hb⟩
    have g1 := box_below g0 hb (box_lt g0)
    have hb1 := hb0.trans (hb.mono hb0.size)
    have c0 := cell_of_row _ _ 0 _ _ _ g1
    have c1 := cell_of_row _ _ 1 _ _ _ g1
    have c2 := cell_of_row _ _ 2 _ _ _ g1
    have c3 := cell_of_row _ _ 3 _ _ _ g1
    have c4 := cell_of_row _ _ 4 _ _ _ g1
    have c5 := cell_of_row _ _ 5 _ _ _ g1
    clear g0 hb hb0 g1
    go_wp2
    go_ret
    exact ⟨rfl, hb1⟩
  have HR := Lib.hid hr
  have hu := u32_int now
  have hul := u32_lt now
  obtain ⟨a, ha⟩ : ∃ a, a = u32 now := ⟨_, rfl⟩
  rw [← ha] at hu hul
  have hl := hok.l0
  have hl1 := hok.l1
  have hh := hok.h0
  have hh1 := hok.h1
  have hm1 := hok.m1
  have hn1 := hok.n1
  simp only at hl hl1 hh hh1 hm1 hn1
  by_cases hk2 : k = 2
  · subst hk2
    cases first
    · have hv1 : limOf l h (now - before) = v := by rw [← hv, Df.look, if_neg (by rw [hr]; simp)]; rfl
      have HV := Lib.hid hv1
      clear hr hv hv1
      skip
      have HK := Lib.hid hok
      have hb0 : Below w.heap.size w (w.alloc (.cells #[.int .u8 2, .int .i64 p, .int .i32 l, .int .i32 h, .int .u32 ((m : Nat) : Int), .int .u32 ((n : Nat) : Int)] 115)) := (Below.refl _ _).alloc (Nat.le_refl _) _
      have g0 := heap_alloc_new w (.cells #[.int .u8 2, .int .i64 p, .int .i32 l, .int .i32 h, .int .u32 ((m : Nat) : Int), .int .u32 ((n : Nat) : Int)] 115)
      go_enter Try.func148, Try.ntmps148
      go_wp2_with fail
      obtain ⟨g, hg⟩ : ∃ g, g = w.heap.size := ⟨_, rfl⟩
      obtain ⟨wa, hwa⟩ : ∃ wa, wa = w.alloc (.cells #[.int .u8 2, .int .i64 p, .int .i32 l, .int .i32 h, .int .u32 ((m : Nat) : Int), .int .u32 ((n : Nat) : Int)] 115) := ⟨_, rfl⟩
      rw [← hwa] at hb0 g0 ⊢
      rw [← hg] at g0 ⊢
      clear hwa hg
      go_at_call 147
      refine (Right_at 2 p l h m n _ _ HR.out).mono ?_
      rintro e w1 ⟨rfl, hb⟩
      have g1 := box_below g0 hb (box_lt g0)
      have hb1 := hb0.trans (hb.mono hb0.size)
      have c0 := cell_of_row _ _ 0 _ _ _ g1
      have c1 := cell_of_row _ _ 1 _ _ _ g1
      have c2 := cell_of_row _ _ 2 _ _ _ g1
      have c3 := cell_of_row _ _ 3 _ _ _ g1
      have c4 := cell_of_row _ _ 4 _ _ _ g1
      have c5 := cell_of_row _ _ 5 _ _ _ g1
      clear g0 hb hb0 g1
      go_wp2_with fail
      go_at_call 163
      refine (limit_at 2 p l h m n (now - before) v _ hl hl1 hh hh1 HV.out).mono ?_
      rintro e w2 ⟨rfl, hb2⟩
      have HB2 := Lib.hid (hb1.trans (hb2.mono hb1.size))
      clear hb1 hb2
      go_wp2
      go_ret
      exact ⟨rfl, HB2.out⟩
    · have hv0 : v = 0 := by rw [← hv, Df.look, if_pos (.inr ⟨rfl, rfl⟩)]
      subst hv0
      clear hr hv
      skip
      have HK := Lib.hid hok
      have hb0 : Below w.heap.size w (w.alloc (.cells #[.int .u8 2, .int .i64 p, .int .i32 l, .int .i32 h, .int .u32 ((m : Nat) : Int), .int .u32 ((n : Nat) : Int)] 115)) := (Below.refl _ _).alloc (Nat.le_refl _) _
      have g0 := heap_alloc_new w (.cells #[.int .u8 2, .int .i64 p, .int .i32 l, .int .i32 h, .int .u32 ((m : Nat) : Int), .int .u32 ((n : Nat) : Int)] 115)
      go_enter Try.func148, Try.ntmps148
      go_wp2_with fail
      obtain ⟨g, hg⟩ : ∃ g, g = w.heap.size := ⟨_, rfl⟩
      obtain ⟨wa, hwa⟩ : ∃ wa, wa = w.alloc (.cells #[.int .u8 2, .int .i64 p, .int .i32 l, .int .i32 h, .int .u32 ((m : Nat) : Int), .int .u32 ((n : Nat) : Int)] 115) := ⟨_, rfl⟩
      rw [← hwa] at hb0 g0 ⊢
      rw [← hg] at g0 ⊢
      clear hwa hg
      go_at_call 147
      refine (Right_at 2 p l h m n _ _ HR.out).mono ?_
      rintro e w1 ⟨rfl, hb⟩
      have g1 := box_below g0 hb (box_lt g0)
      have hb1 := hb0.trans (hb.mono hb0.size)
      have c0 := cell_of_row _ _ 0 _ _ _ g1
      have c1 := cell_of_row _ _ 1 _ _ _ g1
      have c2 := cell_of_row _ _ 2 _ _ _ g1
      have c3 := cell_of_row _ _ 3 _ _ _ g1
      have c4 := cell_of_row _ _ 4 _ _ _ g1
      have c5 := cell_of_row _ _ 5 _ _ _ g1
      clear g0 hb hb0 g1
      go_wp2
      go_ret
      exact ⟨rfl, hb1⟩
  by_cases hk1 : k = 1
  · subst hk1
    have hv1 : expOf m n a = v := by rw [← hv, Df.look, if_neg (by rw [hr]; simp), if_pos rfl, ha]
    have HV := Lib.hid hv1
    clear hr hv hv1 ha hk2
    skip
    have HK := Lib.hid hok
    have hb0 : Below w.heap.size w (w.alloc (.cells #[.int .u8 1, .int .i64 p, .int .i32 l, .int .i32 h, .int .u32 ((m : Nat) : Int), .int .u32 ((n : Nat) : Int)] 115)) := (Below.refl _ _).alloc (Nat.le_refl _) _
    have g0 := heap_alloc_new w (.cells #[.int .u8 1, .int .i64 p, .int .i32 l, .int .i32 h, .int .u32 ((m : Nat) : Int), .int .u32 ((n : Nat) : Int)] 115)
    go_enter Try.func148, Try.ntmps148
    go_wp2_with fail
    obtain ⟨g, hg⟩ : ∃ g, g = w.heap.size := ⟨_, rfl⟩
    obtain ⟨wa, hwa⟩ : ∃ wa, wa = w.alloc (.cells #[.int .u8 1, .int .i64 p, .int .i32 l, .int .i32 h, .int .u32 ((m : Nat) : Int), .int .u32 ((n : Nat) : Int)] 115) := ⟨_, rfl⟩
    rw [← hwa] at hb0 g0 ⊢
    rw [← hg] at g0 ⊢
    clear hwa hg
    go_at_call 147
    refine (Right_at 1 p l h m n _ _ HR.out).mono ?_
    rintro e w1 ⟨rfl, hb⟩
    have g1 := box_below g0 hb (box_lt g0)
    have hb1 := hb0.trans (hb.mono hb0.size)
    have c0 := cell_of_row _ _ 0 _ _ _ g1
    have c1 := cell_of_row _ _ 1 _ _ _ g1
    have c2 := cell_of_row _ _ 2 _ _ _ g1
    have c3 := cell_of_row _ _ 3 _ _ _ g1
    have c4 := cell_of_row _ _ 4 _ _ _ g1
    have c5 := cell_of_row _ _ 5 _ _ _ g1
    clear g0 hb hb0 g1
    go_wp2_with fail
    go_at_call 162
    refine (expect_at 1 p l h m n a v _ hm1 hn1 hul HV.out).mono ?_
    rintro e w2 ⟨rfl, hb2⟩
    have HB2 := Lib.hid (hb1.trans (hb2.mono hb1.size))
    clear hb1 hb2
    go_wp2
    go_ret
    exact ⟨rfl, HB2.out⟩
  · have hv1 : limOf l h now = v := by rw [← hv, Df.look, if_neg (by rw [hr]; simp [hk2]), if_neg hk1, if_neg hk2]
    have HV := Lib.hid hv1
    have e1 : (k == 1) = false := by simp [hk1]
    have e2 : (k == 2) = false := by simp [hk2]
    clear hr hv hv1 ha hk2 hk1
    skip
    have HK := Lib.hid hok
    have hb0 : Below w.heap.size w (w.alloc (.cells #[.int .u8 k, .int .i64 p, .int .i32 l, .int .i32 h, .int .u32 ((m : Nat) : Int), .int .u32 ((n : Nat) : Int)] 115)) := (Below.refl _ _).alloc (Nat.le_refl _) _
    have g0 := heap_alloc_new w (.cells #[.int .u8 k, .int .i64 p, .int .i32 l, .int .i32 h, .int .u32 ((m : Nat) : Int), .int .u32 ((n : Nat) : Int)] 115)
    go_enter Try.func148, Try.ntmps148
    go_wp2_with fail
    obtain ⟨g, hg⟩ : ∃ g, g = w.heap.size := ⟨_, rfl⟩
    obtain ⟨wa, hwa⟩ : ∃ wa, wa = w.alloc (.cells #[.int .u8 k, .int .i64 p, .int .i32 l, .int .i32 h, .int .u32 ((m : Nat) : Int), .int .u32 ((n : Nat) : Int)] 115) := ⟨_, rfl⟩
    rw [← hwa] at hb0 g0 ⊢
    rw [← hg] at g0 ⊢
    clear hwa hg
    go_at_call 147
    refine (Right_at k p l h m n _ _ HR.out).mono ?_
    rintro e w1 ⟨rfl, hb⟩
    have g1 := box_below g0 hb (box_lt g0)
    have hb1 := hb0.trans (hb.mono hb0.size)
    have c0 := cell_of_row _ _ 0 _ _ _ g1
    have c1 := cell_of_row _ _ 1 _ _ _ g1
    have c2 := cell_of_row _ _ 2 _ _ _ g1
    have c3 := cell_of_row _ _ 3 _ _ _ g1
    have c4 := cell_of_row _ _ 4 _ _ _ g1
    have c5 := cell_of_row _ _ 5 _ _ _ g1
    clear g0 hb hb0 g1
    go_wp2_with fail
    go_at_call 163
    refine (limit_at k p l h m n now v _ hl hl1 hh hh1 HV.out).mono ?_
    rintro e w2 ⟨rfl, hb2⟩
    have HB2 := Lib.hid (hb1.trans (hb2.mono hb1.size))
    clear hb1 hb2
    go_wp2
    go_ret
    exact ⟨rfl, HB2.out⟩
theorem lim_123 (l h x : Int) : limOf l h x = 1 ∨ limOf l h x = 2 ∨ limOf l h x = 3 := by
  unfold limOf
  split
  · exact .inr (.inl rfl)
  · split
    · exact .inr (.inr rfl)
    · exact .inl rfl
theorem exp_14 (m n a : Nat) : expOf m n a = 1 ∨ expOf m n a = 4 := by
  unfold expOf
  split
  · exact .inl rfl
  · exact .inr rfl
theorem Df.look_04 (d : Df) (now before : Int) (first : Bool) : 0 ≤ d.look now before first ∧ d.look now before first ≤ 4 := by
  unfold Df.look
  have h1 := lim_123 d.l d.h (now - before)
  have h2 := lim_123 d.l d.h now
  have h3 := exp_14 d.m d.n (u32 now)
  split
  · omega
  split
  · omega
  split <;> omega
/-- Does a status violate? -/
def vio (s : Int) : Bool := decide (s = 2) || decide (s = 3) || decide (s = 4)
set_option maxRecDepth 100000 in
set_option maxHeartbeats 1000000 in
theorem Vio_at (s : Int) (t : Bool) (w : World) (ht : vio s = t) : Calls Try.prog 110 #[.int .u8 s] w fun e w' => e = .returned (.bool t) ∧ w = w' := by
  subst ht
  by_cases h2 : s = 2
  · subst h2
    go_enter Try.func110, Try.ntmps110
    go_wp2
    go_ret
    exact ⟨rfl, rfl⟩
  by_cases h3 : s = 3
  · subst h3
    go_enter Try.func110, Try.ntmps110
    go_wp2
    go_ret
    exact ⟨rfl, rfl⟩
  by_cases h4 : s = 4
  · subst h4
    go_enter Try.func110, Try.ntmps110
    go_wp2
    go_ret
    exact ⟨rfl, rfl⟩
  · have e2 : (s == 2) = false := by simp [h2]
    have e3 : (s == 3) = false := by simp [h3]
    have e4 : (s == 4) = false := by simp [h4]
    rw [show vio s = false by simp [vio, h2, h3, h4]]
    clear h2 h3 h4
    go_enter Try.func110, Try.ntmps110
    go_wp2
    go_ret
    exact ⟨rfl, rfl⟩
theorem Df.ok_of {k p l h : Int} {m n : Nat} (a : 0 ≤ k) (b : k ≤ 255) (c : 0 ≤ p) (d : p < 16) (e : -2147483648 ≤ l) (f : l ≤ 2147483647) (g : -2147483648 ≤ h) (i : h ≤ 2147483647) (j : m < 4294967296) (o : n < 4294967296) : (Df.mk k p l h m n).ok :=
  ⟨a, b, by show _ ≤ p; omega, by show p ≤ _; omega, e, f, g, i, j, o⟩
theorem Df.right_of {k p l h : Int} {m n : Nat} (b : k ≤ 2) (c : 0 ≤ p) (d : p < 16) (e : l ≤ h) : (Df.mk k p l h m n).right = true := by simp [Df.right, b, c, d, e]
theorem look_lim {p l h : Int} {m n : Nat} {now before : Int} {first : Bool} (c : 0 ≤ p) (d : p < 16) (e : l ≤ h) : (Df.mk 0 p l h m n).look now before first = limOf l h now := by
  rw [Df.look, Df.right_of (by decide) c d e, if_neg (by simp), if_neg (show ¬ (0 : Int) = 1 by decide), if_neg (show ¬ (0 : Int) = 2 by decide)]
theorem look_delta {p l h : Int} {m n : Nat} {now before : Int} (c : 0 ≤ p) (d : p < 16) (e : l ≤ h) : (Df.mk 2 p l h m n).look now before false = limOf l h (now - before) := by
  rw [Df.look, Df.right_of (by decide) c d e, if_neg (by simp), if_neg (show ¬ (2 : Int) = 1 by decide), if_pos rfl]
theorem look_first {p l h : Int} {m n : Nat} {now before : Int} : (Df.mk 2 p l h m n).look now before true = 0 := by
  rw [Df.look, if_pos (.inr ⟨rfl, rfl⟩)]
theorem look_exp {p l h : Int} {m n : Nat} {now before : Int} {first : Bool} (c : 0 ≤ p) (d : p < 16) (e : l ≤ h) : (Df.mk 1 p l h m n).look now before first = expOf m n (u32 now) := by
  rw [Df.look, Df.right_of (by decide) c d e, if_neg (by simp), if_pos rfl]
theorem lim_in {l h x : Int} (a : l ≤ x) (b : x ≤ h) : limOf l h x = 1 := by rw [limOf, if_neg (by omega), if_neg (by omega)]
theorem lim_lo {l h x : Int} (a : x < l) : limOf l h x = 2 := by rw [limOf, if_pos a]
theorem lim_hi {l h x : Int} (a : l ≤ x) (b : h < x) : limOf l h x = 3 := by rw [limOf, if_neg (by omega), if_pos b]
theorem run_minC {P : Program} (ats : Array TypeId) (ty : TypeId) (k : IntKind) (a b : Int) (w : World) : (Builtin.min_ ats ty #[.int k a, .int k b]).run P w = .ok (.int k (min a b)) w := by
  have e2 : (Builtin.min2 (.int k a) (.int k b)).run P w = .ok (.int k (min a b)) w := by
    unfold Builtin.min2
    by_cases h : b < a
    · have e : min a b = b := by omega
      simp [e, h]
    · have e : min a b = a := by omega
      simp [e, h]
  simp [Builtin.min_, e2]
theorem run_maxC {P : Program} (ats : Array TypeId) (ty : TypeId) (k : IntKind) (a b : Int) (w : World) : (Builtin.max_ ats ty #[.int k a, .int k b]).run P w = .ok (.int k (max a b)) w := by
  have e2 : (Builtin.max2 (.int k a) (.int k b)).run P w = .ok (.int k (max a b)) w := by
    unfold Builtin.max2
    by_cases h : a < b
    · have e : max a b = b := by omega
      simp [e, h]
    · have e : max a b = a := by omega
      simp [e, h]
  simp [Builtin.max_, e2]
/-- Where a law on definitions stands: two blocks of its own. -/
structure CkSt (w wr : World) (g f : Nat) (A B : Array Value) (t u : TypeId) : Prop where
  be : Below w.heap.size w wr
  ba : wr.heap[g]? = some (.cells A t (0, 0))
  bb : wr.heap[f]? = some (.cells B u (0, 0))
theorem CkSt.step {w wr w' : World} {g f : Nat} {A B : Array Value} {t u : TypeId} (h : CkSt w wr g f A B t u) (hb : Below wr.heap.size wr w') : CkSt w w' g f A B t u :=
  ⟨h.be.trans (hb.mono h.be.size), box_below h.ba hb (box_lt h.ba), box_below h.bb hb (box_lt h.bb)⟩
end Go.Proofs.Ytkgeeohgfbacaaa
