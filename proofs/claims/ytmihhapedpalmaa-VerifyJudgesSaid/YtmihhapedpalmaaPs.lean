/- Commands and reports: what their bytes are. Of whatever program. -/
import Derived.Test.YtmihhapedpalmaaPk
namespace Go.Proofs.Ytmihhapedpalmaa
open Go.RowKit Go.Own
set_option linter.unusedVariables false
set_option linter.unusedSimpArgs false

def cmB (a s u c : Nat) (d : List Nat) : List Nat := [32 + a, s, u] ++ numB c 2 ++ d
def cmBad (a n : Nat) : Nat := if 15 < a then 1 else if 195 < n then 4 else 0
def cmErr (l : List Nat) : Nat := if l.length < 5 ∨ l.getD 0 0 / 16 ≠ 2 then 2 else if 200 < l.length then 4 else 0
def rpB (s u c t : Nat) (d : List Nat) : List Nat := [32, s, u] ++ numB c 2 ++ [0, 0] ++ numB t 4 ++ d
def rpBad (n : Nat) : Nat := if 189 < n then 4 else 0
def rpErr (l : List Nat) : Nat := if l.length < 11 ∨ l.getD 0 0 ≠ 32 ∨ l.getD 5 0 ≠ 0 ∨ l.getD 6 0 ≠ 0 then 2 else if 200 < l.length then 4 else 0
/-- Two bytes, four bytes, as a number. -/
def at2 (l : List Nat) (k : Nat) : Nat := l.getD k 0 * 256 + l.getD (k + 1) 0
def at4 (l : List Nat) (k : Nat) : Nat := ((l.getD k 0 * 256 + l.getD (k + 1) 0) * 256 + l.getD (k + 2) 0) * 256 + l.getD (k + 3) 0
theorem at2_lt {l : List Nat} (h : bytes l) (k : Nat) : at2 l k < 65536 := by
  have a := h.at k
  have b := h.at (k + 1)
  unfold at2; omega
theorem at4_lt {l : List Nat} (h : bytes l) (k : Nat) : at4 l k < 4294967296 := by
  have a := h.at k
  have b := h.at (k + 1)
  have c := h.at (k + 2)
  have d := h.at (k + 3)
  unfold at4; omega
theorem numB_two (c : Nat) : numB c 2 = [c / 256 % 256, c % 256] := by simp [numB]
theorem numB_four (c : Nat) : numB c 4 = [c / 16777216 % 256, c / 65536 % 256, c / 256 % 256, c % 256] := by simp [numB]
theorem cmB_cons (a s u c : Nat) (d : List Nat) : cmB a s u c d = (32 + a) :: s :: u :: (c / 256 % 256) :: (c % 256) :: d := by simp [cmB, numB_two]
theorem rpB_cons (s u c t : Nat) (d : List Nat) : rpB s u c t d = 32 :: s :: u :: (c / 256 % 256) :: (c % 256) :: 0 :: 0 :: (t / 16777216 % 256) :: (t / 65536 % 256) :: (t / 256 % 256) :: (t % 256) :: d := by simp [rpB, numB_two, numB_four]
theorem cmB_len (a s u c : Nat) (d : List Nat) : (cmB a s u c d).length = d.length + 5 := by simp [cmB_cons]
theorem rpB_len (s u c t : Nat) (d : List Nat) : (rpB s u c t d).length = d.length + 11 := by simp [rpB_cons]
theorem cmB_bytes {a s u c : Nat} {d : List Nat} (ha : a < 16) (hs : s < 256) (hu : u < 256) (hd : bytes d) : bytes (cmB a s u c d) := by
  refine bytes.append (bytes.append ?_ (numB_bytes _ _)) hd
  intro b hb
  simp at hb
  omega
theorem rpB_bytes {s u c t : Nat} {d : List Nat} (hs : s < 256) (hu : u < 256) (hd : bytes d) : bytes (rpB s u c t d) := by
  refine bytes.append (bytes.append (bytes.append (bytes.append ?_ (numB_bytes _ _)) ?_) (numB_bytes _ _)) hd
  · intro b hb
    simp at hb
    omega
  · intro b hb
    simp at hb
    omega
theorem cmB_err {a s u c : Nat} {d : List Nat} (ha : a < 16) (hd : d.length ≤ 195) : cmErr (cmB a s u c d) = 0 := by
  unfold cmErr
  rw [cmB_len, cmB_cons, if_neg (by simp; omega), if_neg (by omega)]
theorem rpB_err {s u c t : Nat} {d : List Nat} (hd : d.length ≤ 189) : rpErr (rpB s u c t d) = 0 := by
  unfold rpErr
  rw [rpB_len, rpB_cons, if_neg (by simp), if_neg (by omega)]
theorem cmB_drop (a s u c : Nat) (d : List Nat) : (cmB a s u c d).drop 5 = d := by simp [cmB_cons]
theorem rpB_drop (s u c t : Nat) (d : List Nat) : (rpB s u c t d).drop 11 = d := by simp [rpB_cons]
theorem cmB_at2 {a s u c : Nat} {d : List Nat} (hc : c < 65536) : at2 (cmB a s u c d) 3 = c := by
  simp [at2, cmB_cons]; omega
theorem rpB_at2 {s u c t : Nat} {d : List Nat} (hc : c < 65536) : at2 (rpB s u c t d) 3 = c := by
  simp [at2, rpB_cons]; omega
theorem rpB_at4 {s u c t : Nat} {d : List Nat} (ht : t < 4294967296) : at4 (rpB s u c t d) 7 = t := by
  simp [at4, rpB_cons]; omega
theorem cmErr_ok {l : List Nat} (h : cmErr l = 0) : 5 ≤ l.length ∧ l.length ≤ 200 ∧ l.getD 0 0 / 16 = 2 := by
  unfold cmErr at h
  split at h
  · cases h
  · split at h
    · cases h
    · omega
theorem rpErr_ok {l : List Nat} (h : rpErr l = 0) : 11 ≤ l.length ∧ l.length ≤ 200 ∧ l.getD 0 0 = 32 ∧ l.getD 5 0 = 0 ∧ l.getD 6 0 = 0 := by
  unfold rpErr at h
  split at h
  · cases h
  · split at h
    · cases h
    · omega
/-- One number, laid. -/
def lay1 (z : Int) (n : Nat) : List Nat := if z = 1 ∨ z = 2 ∨ z = 4 then numB n z.toNat else []
theorem lay1_len (z : Int) (n : Nat) : (lay1 z n).length ≤ 4 := by
  unfold lay1
  split
  · rw [numB_len]; omega
  · simp
theorem lay1_bytes (z : Int) (n : Nat) : bytes (lay1 z n) := by
  unfold lay1
  split
  · exact numB_bytes _ _
  · intro b hb; cases hb
theorem numB_at (n : Nat) : ∀ (z j : Nat), j < z → (numB n z).getD j 0 = n / 256 ^ (z - 1 - j) % 256
  | 0, j, h => by omega
  | z + 1, 0, h => by simp [numB]
  | z + 1, j + 1, h => by
    have := numB_at n z j (by omega)
    rw [show z + 1 - 1 - (j + 1) = z - 1 - j by omega, ← this]
    simp [numB]
theorem flat_len4 (ls : Nat → List Nat) (h : ∀ i, (ls i).length ≤ 4) : ∀ k, (flat ls k).length ≤ 4 * k
  | 0 => by simp [flat]
  | k + 1 => by
    rw [flat_succ, List.length_append]
    have := flat_len4 ls h k
    have := h k
    omega
theorem val_one4 (l : List Nat) (h : l.length = 4) : val l = at4 l 0 := by
  match l, h with
  | [a, b, c, d], _ => simp [val, at4]; omega
theorem val_one2 (l : List Nat) (h : l.length = 2) : val l = at2 l 0 := by
  match l, h with
  | [a, b], _ => simp [val, at2]; omega
theorem at2_seg (l : List Nat) (k : Nat) (h : k + 2 ≤ l.length) : val ((l.drop k).take 2) = at2 l k := by
  rw [val_one2 _ (by rw [List.length_take, List.length_drop]; omega)]
  simp [at2, List.getD, List.getElem?_take, List.getElem?_drop]
theorem at4_seg (l : List Nat) (k : Nat) (h : k + 4 ≤ l.length) : val ((l.drop k).take 4) = at4 l k := by
  rw [val_one4 _ (by rw [List.length_take, List.length_drop]; omega)]
  simp [at4, List.getD, List.getElem?_take, List.getElem?_drop]
theorem and240 : ∀ x, x < 256 → ((x - (x &&& 15) = 32) ↔ x / 16 = 2) := by decide +kernel
end Go.Proofs.Ytmihhapedpalmaa
