/- Space packets: what one is, and what is read of any bytes. -/
import Derived.Test.YtmihhapedpalmaaCelF
namespace Go.Proofs.Ytmihhapedpalmaa
open Go.RowKit Go.Own
set_option linter.unusedVariables false
set_option linter.unusedSimpArgs false

/-- The first six bytes of a packet; k is 1 of a command. -/
def pkHead (k a c n : Nat) : List Nat := [k * 16 + 8 + a / 256, a % 256, 192 + c / 256, c % 256, (n + 1) / 256, (n + 1) % 256]
def mkPkt (k a c : Nat) (d : List Nat) : List Nat := whole (pkHead k a c d.length ++ d)
def pkRight (a c n : Nat) : Nat := if 2047 < a ∨ 16383 < c then 1 else if 200 < n then 4 else 0
def pkFix (l : List Nat) : Bool := decide (l.getD 0 0 < 32 ∧ l.getD 0 0 / 8 % 2 = 1 ∧ 192 ≤ l.getD 2 0)
def pkErr (l : List Nat) : Nat := if l.length < 9 ∨ psize l + 7 ≠ l.length then 2 else if rightB l then (if pkFix l then (if 208 < l.length then 4 else 0) else 2) else 5
def pkK (l : List Nat) : Bool := decide (16 ≤ l.getD 0 0)
def pkA (l : List Nat) : Nat := (l.getD 0 0 * 256 + l.getD 1 0) % 2048
def pkC (l : List Nat) : Nat := (l.getD 2 0 * 256 + l.getD 3 0) % 16384

theorem pkHead_len (k a c n : Nat) : (pkHead k a c n).length = 6 := rfl
theorem pkHead_bytes {k a c n : Nat} (hk : k ≤ 1) (ha : a < 2048) (hc : c < 16384) (hn : n ≤ 1000) : bytes (pkHead k a c n) := by
  intro b hb
  simp only [pkHead, List.mem_cons, List.not_mem_nil, or_false] at hb
  rcases hb with rfl | rfl | rfl | rfl | rfl | rfl <;> omega
theorem mkPkt_len (k a c : Nat) (d : List Nat) : (mkPkt k a c d).length = d.length + 8 := by simp [mkPkt, whole_len, pkHead_len]; omega
theorem mkPkt_bytes {k a c : Nat} {d : List Nat} (hk : k ≤ 1) (ha : a < 2048) (hc : c < 16384) (hn : d.length ≤ 1000) (h : bytes d) : bytes (mkPkt k a c d) := whole_bytes ((pkHead_bytes hk ha hc hn).append h)
theorem mkPkt_cons (k a c : Nat) (d : List Nat) : mkPkt k a c d = (k * 16 + 8 + a / 256) :: (a % 256) :: (192 + c / 256) :: (c % 256) :: ((d.length + 1) / 256) :: ((d.length + 1) % 256) :: (d ++ [Cr.sum (pkHead k a c d.length ++ d) / 256, Cr.sum (pkHead k a c d.length ++ d) % 256]) := by
  unfold mkPkt whole
  rw [List.append_assoc]
  rfl
theorem mkPkt_size (k a c : Nat) (d : List Nat) : psize (mkPkt k a c d) = d.length + 1 := by
  rw [mkPkt_cons]
  simp only [psize, List.getD_cons_zero, List.getD_cons_succ]
  omega
theorem mkPkt_dat (k a c : Nat) (d : List Nat) : pdat (mkPkt k a c d) = d := by
  unfold pdat
  rw [mkPkt_len, mkPkt_cons]
  simp
theorem mkPkt_k (k a c : Nat) (d : List Nat) (hk : k ≤ 1) (ha : a < 2048) : pkK (mkPkt k a c d) = decide (k = 1) := by
  rw [mkPkt_cons]
  unfold pkK
  simp only [List.getD_cons_zero]
  rw [decide_eq_decide]
  omega
theorem mkPkt_a (k a c : Nat) (d : List Nat) (hk : k ≤ 1) (ha : a < 2048) : pkA (mkPkt k a c d) = a := by
  rw [mkPkt_cons]
  simp only [pkA, List.getD_cons_zero, List.getD_cons_succ]
  omega
theorem mkPkt_c (k a c : Nat) (d : List Nat) (hc : c < 16384) : pkC (mkPkt k a c d) = c := by
  rw [mkPkt_cons]
  simp only [pkC, List.getD_cons_zero, List.getD_cons_succ]
  omega
theorem mkPkt_fix (k a c : Nat) (d : List Nat) (hk : k ≤ 1) (ha : a < 2048) (hc : c < 16384) : pkFix (mkPkt k a c d) = true := by
  rw [mkPkt_cons]
  unfold pkFix
  simp only [List.getD_cons_zero, List.getD_cons_succ]
  rw [decide_eq_true_eq]
  omega
theorem mkPkt_err (k a c : Nat) (d : List Nat) (hk : k ≤ 1) (ha : a < 2048) (hc : c < 16384) (h : d.length ≤ 200) : pkErr (mkPkt k a c d) = if d.length = 0 then 2 else 0 := by
  unfold pkErr
  rw [mkPkt_len, mkPkt_size, mkPkt_fix k a c d hk ha hc, if_pos (show rightB (mkPkt k a c d) = true from rightB_whole _), if_pos rfl]
  by_cases h0 : d.length = 0
  · rw [if_pos (by omega), if_pos h0]
  · rw [if_neg (by omega), if_neg (by omega), if_neg h0]
theorem pkErr_lt (l : List Nat) : pkErr l < 6 := by unfold pkErr; split <;> (try split) <;> (try split) <;> (try split) <;> omega
/-- What a packet that can be read is. -/
theorem pkErr_ok {l : List Nat} (h : pkErr l = 0) : 9 ≤ l.length ∧ l.length ≤ 208 ∧ psize l + 7 = l.length ∧ rightB l = true ∧ pkFix l = true := by
  unfold pkErr at h
  split at h
  · omega
  · split at h
    · split at h
      · split at h
        · omega
        · refine ⟨?_, ?_, ?_, ?_, ?_⟩ <;> first | assumption | omega
      · omega
    · omega
theorem whole_of {l : List Nat} (h : bytes l) (h8 : 8 ≤ l.length) (h2 : rightB l = true) : whole (l.take 6 ++ pdat l) = l := by
  have hbody : l.take 6 ++ pdat l = l.take (l.length - 2) := by
    unfold pdat
    apply List.ext_getElem?
    intro i
    rw [List.getElem?_append]
    rw [show (l.take 6).length = 6 by rw [List.length_take]; omega]
    simp only [List.getElem?_take, List.getElem?_drop]
    by_cases h6 : i < 6
    · rw [if_pos h6, if_pos h6, if_pos (by omega)]
    · rw [if_neg h6]
      by_cases h8 : i < l.length - 2
      · rw [if_pos (by omega), if_pos h8, show 6 + (i - 6) = i by omega]
      · rw [if_neg (by omega), if_neg h8]
  unfold whole
  rw [hbody]
  have hx := h.at (l.length - 2)
  have hy := h.at (l.length - 1)
  unfold rightB at h2
  have h3 := of_decide_eq_true h2
  rw [h3.2]
  have e : l = l.take (l.length - 2) ++ [l.getD (l.length - 2) 0, l.getD (l.length - 1) 0] := by
    have := seg_two l (l.length - 2) (by omega)
    rw [show l.length - 2 + 1 = l.length - 1 by omega] at this
    rw [← this]
    have h3 : (l.drop (l.length - 2)).take 2 = l.drop (l.length - 2) := List.take_of_length_le (by rw [List.length_drop]; omega)
    rw [h3, List.take_append_drop]
  have e1 : (l.getD (l.length - 2) 0 * 256 + l.getD (l.length - 1) 0) / 256 = l.getD (l.length - 2) 0 := by omega
  have e2 : (l.getD (l.length - 2) 0 * 256 + l.getD (l.length - 1) 0) % 256 = l.getD (l.length - 1) 0 := by omega
  rw [e1, e2]
  exact e.symm
/-- A packet is just its bytes. -/
theorem mkPkt_of {l : List Nat} (h : bytes l) (he : pkErr l = 0) : mkPkt (if pkK l then 1 else 0) (pkA l) (pkC l) (pdat l) = l := by
  obtain ⟨h9, _, hs, hr, hf⟩ := pkErr_ok he
  have hd : (pdat l).length + 1 = psize l := by rw [pdat_len (by omega)]; omega
  have a := h.at 0
  have b := h.at 1
  have c := h.at 2
  have d := h.at 3
  have e := h.at 4
  have f := h.at 5
  have hhead : pkHead (if pkK l then 1 else 0) (pkA l) (pkC l) (pdat l).length = l.take 6 := by
    rw [take6 l (by omega)]
    unfold pkHead
    rw [hd]
    unfold pkFix at hf
    have hf := of_decide_eq_true hf
    unfold pkA pkC psize pkK
    simp only [List.cons.injEq, and_true, decide_eq_true_eq]
    split <;> refine ⟨?_, ?_, ?_, ?_, ?_, ?_⟩ <;> omega
  unfold mkPkt
  rw [hhead]
  exact whole_of h (by omega) hr
theorem pkA_lt (l : List Nat) : pkA l < 2048 := Nat.mod_lt _ (by decide)
theorem pkC_lt (l : List Nat) : pkC l < 16384 := Nat.mod_lt _ (by decide)
end Go.Proofs.Ytmihhapedpalmaa
