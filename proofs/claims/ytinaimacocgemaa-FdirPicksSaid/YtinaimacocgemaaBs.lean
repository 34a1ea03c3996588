/- Sets of units: With, Has, only (as in Cel5, alone). -/
import Derived.Test.YtinaimacocgemaaChecked
import Derived.WalkKit
import Derived.WalkSpells
import Derived.Outline
import Derived.Lib.Hide
import Derived.OpenShut
import Derived.Below
import Derived.Handy
import Derived.LoopTactic
import Derived.Laws.ShiftsVarLaws
import Derived.Test.YtinaimacocgemaaKeep
import Derived.Test.YtinaimacocgemaaFrame
import Derived.Test.YtinaimacocgemaaRd
namespace Go.Proofs.Ytinaimacocgemaa.Bs
open Go.RowKit Go.Own
set_option linter.unusedVariables false
set_option linter.unusedSimpArgs false
theorem wraps_u16 (n : Int) (h0 : 0 ≤ n) (h1 : n < 2 ^ 16) : IntKind.u16.wrap n = n := by rw [IntKind.wrap_u16]; omega
theorem ret_int' {k : IntKind} {a b : Int} (h : a = b) : Value.int k a = Value.int k b := by rw [h]
theorem orNatJ (k : IntKind) (j : Nat) (hj : j ≤ k.bits) (hk : ∀ n : Int, 0 ≤ n → n < 2 ^ j → k.wrap n = n) (a b : Nat) (ha : a < 2 ^ j) (hb : b < 2 ^ j) : bits .or k (a : Int) (b : Int) = ((a ||| b : Nat) : Int) := by
  have hp : 2 ^ j ≤ 2 ^ k.bits := Nat.pow_le_pow_right (by decide) hj
  have ha' : a % 2 ^ k.bits = a := Nat.mod_eq_of_lt (Nat.lt_of_lt_of_le ha hp)
  have hb' : b % 2 ^ k.bits = b := Nat.mod_eq_of_lt (Nat.lt_of_lt_of_le hb hp)
  simp only [bits, BitVec.ofInt_natCast, BitVec.toNat_or, BitVec.toNat_ofNat, ha', hb']
  exact hk _ (Int.natCast_nonneg _) (by exact_mod_cast Nat.or_lt_two_pow ha hb)
theorem andNatJ (k : IntKind) (j : Nat) (hj : j ≤ k.bits) (hk : ∀ n : Int, 0 ≤ n → n < 2 ^ j → k.wrap n = n) (a b : Nat) (ha : a < 2 ^ j) (hb : b < 2 ^ j) : bits .and k (a : Int) (b : Int) = ((a &&& b : Nat) : Int) := by
  have hp : 2 ^ j ≤ 2 ^ k.bits := Nat.pow_le_pow_right (by decide) hj
  have ha' : a % 2 ^ k.bits = a := Nat.mod_eq_of_lt (Nat.lt_of_lt_of_le ha hp)
  have hb' : b % 2 ^ k.bits = b := Nat.mod_eq_of_lt (Nat.lt_of_lt_of_le hb hp)
  simp only [bits, BitVec.ofInt_natCast, BitVec.toNat_and, BitVec.toNat_ofNat, ha', hb']
  exact hk _ (Int.natCast_nonneg _) (by exact_mod_cast Nat.lt_of_le_of_lt Nat.and_le_left ha)
theorem or16 (a b : Nat) (ha : a < 65536) (hb : b < 65536) : bits .or .u16 (a : Int) (b : Int) = ((a ||| b : Nat) : Int) := orNatJ .u16 16 (by decide) wraps_u16 a b ha hb
theorem and16 (a b : Nat) (ha : a < 65536) (hb : b < 65536) : bits .and .u16 (a : Int) (b : Int) = ((a &&& b : Nat) : Int) := andNatJ .u16 16 (by decide) wraps_u16 a b ha hb
/-- A unit's own set. -/
def bit1 (i : Int) : Nat := if 0 ≤ i ∧ i < 16 then 2 ^ i.toNat else 0
theorem bit1_lt (i : Int) : bit1 i < 65536 := by
  unfold bit1
  split
  · exact Nat.lt_of_lt_of_le (Nat.pow_lt_pow_right (by decide) (show i.toNat < 16 by omega)) (by decide)
  · decide

def iv (l : List Int) : Nat → Value := fun i => .int .i64 (l.getD i 0)
/-- A set with some units. -/
def withS (s : Nat) (l : List Int) : Nat := l.foldl (fun s i => s ||| bit1 i) s
theorem withS_snoc (s : Nat) (l : List Int) (i : Int) : withS s (l ++ [i]) = withS s l ||| bit1 i := by simp [withS]
theorem withS_lt {s : Nat} (h : s < 65536) (l : List Int) : withS s l < 65536 := by
  induction l generalizing s with
  | nil => exact h
  | cons i l ih => exact ih (Nat.or_lt_two_pow (n := 16) h (bit1_lt i))
theorem takeI_succ (l : List Int) {k : Nat} (h : k < l.length) : l.take (k + 1) = l.take k ++ [l.getD k 0] := by
  rw [List.take_add_one, List.getElem?_eq_getElem h]
  simp [List.getD, h]

end Go.Proofs.Ytinaimacocgemaa.Bs
