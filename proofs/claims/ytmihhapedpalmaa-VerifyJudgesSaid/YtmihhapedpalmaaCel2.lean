/- Contracts of layer 6 (cells), on: made and read; and the document's own. -/
import Derived.Test.YtmihhapedpalmaaCel
import Derived.Test.YtmihhapedpalmaaFloB
namespace Go.Proofs.Ytmihhapedpalmaa
open Go.RowKit Go.Own
set_option linter.unusedVariables false
set_option linter.unusedSimpArgs false

/-- A cell. -/
def mkHead (s n : Nat) : List Nat := numB s 4 ++ numB n 2
def mkCell (s : Nat) (p : List Nat) : List Nat := whole (mkHead s p.length ++ p)
theorem mkHead_eq (s n : Nat) : mkHead s n = [s / 16777216 % 256, s / 65536 % 256, s / 256 % 256, s % 256, n / 256 % 256, n % 256] := by
  simp [mkHead, numB]
theorem mkHead_len (s n : Nat) : (mkHead s n).length = 6 := by simp [mkHead, numB_len]
theorem mkHead_bytes (s n : Nat) : bytes (mkHead s n) := (numB_bytes s 4).append (numB_bytes n 2)
theorem mkBody_bytes {s : Nat} {p : List Nat} (h : bytes p) : bytes (mkHead s p.length ++ p) := (mkHead_bytes _ _).append h
theorem mkCell_len (s : Nat) (p : List Nat) : (mkCell s p).length = p.length + 8 := by simp [mkCell, whole_len, mkHead_len]; omega
theorem mkCell_bytes {s : Nat} {p : List Nat} (h : bytes p) : bytes (mkCell s p) := whole_bytes (mkBody_bytes h)
theorem rightB_whole (l : List Nat) : rightB (whole l) = true := by
  have h1 : (whole l).length = l.length + 2 := whole_len l
  have h2 : (whole l).take l.length = l := by simp [whole]
  have h3 : (whole l).getD l.length 0 = Cr.sum l / 256 := by simp [whole, List.getD]
  have h4 : (whole l).getD (l.length + 1) 0 = Cr.sum l % 256 := by simp [whole, List.getD]
  unfold rightB
  rw [h1, show l.length + 2 - 2 = l.length by omega, show l.length + 2 - 1 = l.length + 1 by omega, h2, h3, h4]
  simp
  omega
theorem mkCell_cons (s : Nat) (p : List Nat) : mkCell s p = (s / 16777216 % 256) :: (s / 65536 % 256) :: (s / 256 % 256) :: (s % 256) :: (p.length / 256 % 256) :: (p.length % 256) :: (p ++ [Cr.sum (mkHead s p.length ++ p) / 256, Cr.sum (mkHead s p.length ++ p) % 256]) := by
  unfold mkCell whole
  rw [show ∀ x y : Nat, (mkHead s p.length ++ p) ++ [x, y] = mkHead s p.length ++ (p ++ [x, y]) from fun x y => List.append_assoc .., mkHead_eq]
  rfl
theorem mkCell_seq (s : Nat) (p : List Nat) (h : s < 4294967296) : pseq (mkCell s p) = s := by
  rw [mkCell_cons]
  simp only [pseq, List.getD_cons_zero, List.getD_cons_succ]
  omega
theorem mkCell_size (s : Nat) (p : List Nat) (h : p.length < 65536) : psize (mkCell s p) = p.length := by
  rw [mkCell_cons]
  simp only [psize, List.getD_cons_zero, List.getD_cons_succ]
  omega
theorem mkCell_dat (s : Nat) (p : List Nat) : pdat (mkCell s p) = p := by
  unfold pdat
  rw [mkCell_len, mkCell_cons]
  simp
theorem mkCell_err (s : Nat) (p : List Nat) (h : p.length ≤ 200) : perr (mkCell s p) = 0 := by
  unfold perr
  rw [mkCell_len, mkCell_size s p (by omega), if_neg (by omega), if_pos (show rightB (mkCell s p) = true from rightB_whole _), if_neg (by omega)]

theorem owns_lit {P : Program} (w : World) (l : List Nat) (hm : l.length ≤ maxLen) : (w.alloc (.cells (bl l).toArray 5)).ownsRow w.heap.size 5 1 (.slice (some ⟨w.heap.size, 0, none⟩) l.length l.length) l.length (bl l) :=
  ⟨by simp [bl], .inr ⟨w.heap.size, l.length, _, rfl, Nat.le_refl _, heap_alloc_new w _, Nat.le_refl _, hm, by simp [bl], by rw [Nat.mul_one]; exact List.take_of_length_le (by simp [bl])⟩⟩

/-- What Parse hands back. -/
def ParsePost (w : World) (l : List Nat) (e : Ending) (w' : World) : Prop :=
  Below w.heap.size w w' ∧ ((perr l = 0 ∧ ∃ x c, e = .returned (.tuple #[.int .u32 (pseq l : Nat), .slice x (pdat l).length c, .int .i64 0]) ∧ Rd w'.heap.size w' x (pdat l).length c (bv (pdat l))) ∨
    (perr l ≠ 0 ∧ e = .returned (.tuple #[.int .u32 0, .slice none 0 0, .int .i64 (perr l : Nat)])))
theorem perr_lt (l : List Nat) : perr l < 6 := by unfold perr; split <;> (try split) <;> (try split) <;> omega
theorem pdat_le (l : List Nat) : (pdat l).length ≤ l.length := by simp [pdat]; omega

theorem rd_three {w : World} {g n : Nat} {u v x : Value} {t : TypeId} (h : w.heap[g]? = some (.cells #[u, v, x] t (0, 0))) (hg : g < n) : Rd n w (some ⟨g, 0, none⟩) 3 3 (fun i => if i = 0 then u else if i = 1 then v else x) :=
  ⟨Nat.le_refl _, by unfold maxLen; omega, fun h => (by cases h), fun _ => ⟨g, 0, rfl, hg, fun i hi => by
    have : i = 0 ∨ i = 1 ∨ i = 2 := by omega
    rcases this with rfl | rfl | rfl
    · exact cell_of_row w g 0 _ _ _ h
    · exact cell_of_row w g 1 _ _ _ h
    · exact cell_of_row w g 2 _ _ _ h⟩⟩
theorem flat_three (l m k : List Nat) : flat (fun i => if i = 0 then l else if i = 1 then m else k) 3 = l ++ m ++ k := by simp [flat, List.range_succ]
theorem Join3 {g : Nat} {a b d : Option Addr} {la lb ld ca cb cd n : Nat} {t : TypeId} {l m k : List Nat} {w : World} (hl : l.length = la) (hm : m.length = lb) (hk : k.length = ld) (h : w.heap[g]? = some (.cells #[.slice a la ca, .slice b lb cb, .slice d ld cd] t (0, 0))) (ra : Rd n w a la ca (bv l)) (rb : Rd n w b lb cb (bv m)) (rd : Rd n w d ld cd (bv k)) (hn : n ≤ w.heap.size) (hs : (l ++ m ++ k).length ≤ 140737488355328) :
    Calls Try.prog 29 #[.slice (some ⟨g, 0, none⟩) 3 3] w fun e w' => ∃ v, e = .returned v ∧ w'.ownsRow w.heap.size 5 1 v (l ++ m ++ k).length (bl (l ++ m ++ k)) ∧ Below w.heap.size w w' := by
  have hr := rd_three h (lt_of_heap h)
  subst hl hm hk
  have hr := hr.same (g := fun i => .slice ((fun i => if i = 0 then a else if i = 1 then b else d) i) ((fun i => if i = 0 then l else if i = 1 then m else k) i).length ((fun i => if i = 0 then ca else if i = 1 then cb else cd) i)) (fun i hi => by
    by_cases h0 : i = 0
    · simp [h0]
    · by_cases h1 : i = 1 <;> simp [h0, h1])
  have := Join_any (some ⟨g, 0, none⟩) 3 3 w.heap.size (fun i => if i = 0 then a else if i = 1 then b else d) (fun i => if i = 0 then ca else if i = 1 then cb else cd) (fun i => if i = 0 then l else if i = 1 then m else k) w (Nat.le_refl _) hr
    (fun i hi => by
      by_cases h0 : i = 0
      · simp only [h0, if_true]; exact ra.mono hn
      · by_cases h1 : i = 1
        · simp only [h0, if_false, h1, if_true]; exact rb.mono hn
        · simp only [h0, if_false, h1]; exact rd.mono hn) (by rw [flat_three]; exact hs)
  rw [flat_three] at this
  exact this

theorem seg_two (l : List Nat) (k : Nat) (h : k + 2 ≤ l.length) : (l.drop k).take 2 = [l.getD k 0, l.getD (k + 1) 0] := by
  apply List.ext_getElem?
  intro i
  rw [List.getElem?_take, List.getElem?_drop]
  match i with
  | 0 => simp [List.getD, show k < l.length by omega]
  | 1 => simp [List.getD, show k + 1 < l.length by omega]
  | i + 2 => rw [if_neg (by omega)]; rfl
theorem seg_four (l : List Nat) (h : 4 ≤ l.length) : l.take 4 = [l.getD 0 0, l.getD 1 0, l.getD 2 0, l.getD 3 0] := by
  match l with
  | a :: b :: c :: d :: r => rfl
theorem val_seq (l : List Nat) (h : 4 ≤ l.length) : val (l.take 4) = pseq l := by
  rw [seg_four l h]; simp [val, pseq]; omega
theorem val_size (l : List Nat) (h : 6 ≤ l.length) : val ((l.drop 4).take 2) = psize l := by
  rw [seg_two l 4 h]; simp [val, psize]; omega
end Go.Proofs.Ytmihhapedpalmaa
