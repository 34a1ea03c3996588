/- Layer 22: what the sort makes: the alarms level by level (pure). -/
import Derived.Test.YtinaimacocgemaaSrtc
import Derived.Sort.LotA
namespace Go.Proofs.Ytinaimacocgemaa
open Go.RowKit Go.Own Go.Sort
set_option linter.unusedVariables false
set_option linter.unusedSimpArgs false
def lev (n : Nat) (l : List Al) : List Al := l.filter (fun a => a.l == n)
def ordA (l : List Al) : List Al := lev 4 l ++ (lev 3 l ++ (lev 2 l ++ (lev 1 l ++ lev 0 l)))
theorem lt_cf (x y : Al) : ltOf cfA x y = decide (y.l < x.l) := by
  unfold ltOf cfA cmp8
  by_cases h : y.l < x.l
  · simp [h]
  · by_cases h2 : x.l < y.l <;> simp [h, h2]
theorem swoA : SWO (ltOf cfA) where
  irrefl x := by rw [lt_cf]; simp
  trans x y z h1 h2 := by rw [lt_cf] at *; simp at *; omega
  ntrans x y z h1 h2 := by rw [lt_cf] at *; simp at *; omega
theorem set_swap (p : Al → Bool) : ∀ (L : List Al) (j : Nat) (x y : Al), L[j]? = some x → L[j + 1]? = some y → (p x = false ∨ p y = false) → ((L.set (j + 1) x).set j y).filter p = L.filter p
  | [], j, x, y, h, _, _ => by simp at h
  | [a], j, x, y, _, h, _ => by simp at h
  | a :: b :: r, 0, x, y, h1, h2, h => by
    simp at h1 h2
    subst h1 h2
    simp only [List.set_cons_succ, List.set_cons_zero]
    rcases h with h | h
    · simp [List.filter_cons, h]
    · simp [List.filter_cons, h]
  | a :: b :: r, j + 1, x, y, h1, h2, h => by
    have ih := set_swap p (b :: r) j x y (by simpa using h1) (by simpa using h2) h
    rw [List.set_cons_succ, List.set_cons_succ, List.filter_cons, List.filter_cons, ih]
theorem lev_swp (n : Nat) (d : Array Al) (j : Nat) (hj : j + 1 < d.size) (h : ltOf cfA d[j + 1]! d[j]! = true) : lev n (swp d (j + 1) j).toList = lev n d.toList := by
  rw [lt_cf, decide_eq_true_eq] at h
  unfold lev swp
  rw [Array.toList_setIfInBounds, Array.toList_setIfInBounds]
  refine set_swap _ _ _ _ _ ?_ ?_ ?_
  · rw [Array.getElem?_toList, Array.getElem?_eq_getElem (by omega), getElem!_pos d j (by omega)]
  · rw [Array.getElem?_toList, Array.getElem?_eq_getElem (by omega), getElem!_pos d (j + 1) (by omega)]
  · by_cases e : d[j]!.l = n
    · right; simp; omega
    · left; simpa using e
theorem lev_inner (n a : Nat) : ∀ (j : Nat) (d : Array Al), j < d.size → lev n (insInner (ltOf cfA) a j d).toList = lev n d.toList
  | 0, d, _ => rfl
  | j + 1, d, hj => by
    unfold insInner
    split
    · rename_i h
      rw [Bool.and_eq_true] at h
      rw [lev_inner n a j _ (by simp [swp]; omega), lev_swp n d j hj h.2]
    · rfl
theorem inner_size (a : Nat) : ∀ (j : Nat) (d : Array Al), (insInner (ltOf cfA) a j d).size = d.size
  | 0, d => rfl
  | j + 1, d => by
    unfold insInner
    split
    · rw [inner_size a j]; simp [swp]
    · rfl
theorem lev_outer (n a b : Nat) : ∀ (m i : Nat) (d : Array Al), b - i = m → b ≤ d.size → lev n (insOuter (ltOf cfA) a b i d).toList = lev n d.toList
  | 0, i, d, hm, hb => by unfold insOuter; rw [if_neg (by omega)]
  | m + 1, i, d, hm, hb => by
    unfold insOuter
    rw [if_pos (by omega), lev_outer n a b m (i + 1) _ (by omega) (by rw [inner_size]; exact hb), lev_inner n a i d (by omega)]
theorem lev_srt (n : Nat) (d : Array Al) : lev n (srtA d).toList = lev n d.toList := lev_outer n 0 d.size _ _ d rfl (Nat.le_refl _)
theorem lev_none {n : Nat} {l : List Al} (h : ∀ x ∈ l, x.l ≠ n) : lev n l = [] := by
  unfold lev
  rw [List.filter_eq_nil_iff]
  intro x hx
  have := h x hx
  simp [this]
theorem lev_cons_eq (n : Nat) (a : Al) (l : List Al) (h : a.l = n) : lev n (a :: l) = a :: lev n l := by unfold lev; rw [List.filter_cons, if_pos (by simp [h])]
theorem lev_cons_ne (n : Nat) (a : Al) (l : List Al) (h : a.l ≠ n) : lev n (a :: l) = lev n l := by unfold lev; rw [List.filter_cons, if_neg (by simp [h])]
theorem ord_of_sorted : ∀ (l : List Al), (∀ x ∈ l, x.l < 5) → l.Pairwise (fun x y => y.l ≤ x.l) → ordA l = l
  | [], _, _ => rfl
  | a :: r, h5, hp => by
    have h1 : ∀ x, x ∈ r → x.l ≤ a.l := fun x hx => List.rel_of_pairwise_cons hp hx
    have ih := ord_of_sorted r (fun x hx => h5 x (List.mem_cons_of_mem _ hx)) (List.Pairwise.of_cons hp)
    have ha := h5 a (List.mem_cons_self ..)
    unfold ordA at ih ⊢
    rcases (by omega : a.l = 4 ∨ a.l = 3 ∨ a.l = 2 ∨ a.l = 1 ∨ a.l = 0) with e | e | e | e | e
    · rw [lev_cons_eq 4 a r e, lev_cons_ne 3 a r (by omega), lev_cons_ne 2 a r (by omega), lev_cons_ne 1 a r (by omega), lev_cons_ne 0 a r (by omega), List.cons_append, ih]
    · have z4 : lev 4 r = [] := lev_none (fun x hx => by have := h1 x hx; omega)
      rw [z4] at ih
      rw [lev_cons_ne 4 a r (by omega), z4, lev_cons_eq 3 a r e, lev_cons_ne 2 a r (by omega), lev_cons_ne 1 a r (by omega), lev_cons_ne 0 a r (by omega)]
      simp only [List.nil_append, List.cons_append] at ih ⊢
      rw [ih]
    · have z4 : lev 4 r = [] := lev_none (fun x hx => by have := h1 x hx; omega)
      have z3 : lev 3 r = [] := lev_none (fun x hx => by have := h1 x hx; omega)
      rw [z4, z3] at ih
      rw [lev_cons_ne 4 a r (by omega), z4, lev_cons_ne 3 a r (by omega), z3, lev_cons_eq 2 a r e, lev_cons_ne 1 a r (by omega), lev_cons_ne 0 a r (by omega)]
      simp only [List.nil_append, List.cons_append] at ih ⊢
      rw [ih]
    · have z4 : lev 4 r = [] := lev_none (fun x hx => by have := h1 x hx; omega)
      have z3 : lev 3 r = [] := lev_none (fun x hx => by have := h1 x hx; omega)
      have z2 : lev 2 r = [] := lev_none (fun x hx => by have := h1 x hx; omega)
      rw [z4, z3, z2] at ih
      rw [lev_cons_ne 4 a r (by omega), z4, lev_cons_ne 3 a r (by omega), z3, lev_cons_ne 2 a r (by omega), z2, lev_cons_eq 1 a r e, lev_cons_ne 0 a r (by omega)]
      simp only [List.nil_append, List.cons_append] at ih ⊢
      rw [ih]
    · have z4 : lev 4 r = [] := lev_none (fun x hx => by have := h1 x hx; omega)
      have z3 : lev 3 r = [] := lev_none (fun x hx => by have := h1 x hx; omega)
      have z2 : lev 2 r = [] := lev_none (fun x hx => by have := h1 x hx; omega)
      have z1 : lev 1 r = [] := lev_none (fun x hx => by have := h1 x hx; omega)
      rw [z4, z3, z2, z1] at ih
      rw [lev_cons_ne 4 a r (by omega), z4, lev_cons_ne 3 a r (by omega), z3, lev_cons_ne 2 a r (by omega), z2, lev_cons_ne 1 a r (by omega), z1, lev_cons_eq 0 a r e]
      simp only [List.nil_append] at ih ⊢
      rw [ih]
theorem srt_ord (d : Array Al) (h5 : ∀ x ∈ d.toList, x.l < 5) : (srtA d).toList = ordA d.toList := by
  obtain ⟨hp, hs⟩ := insertionSort_holds swoA d 0 d.size (Nat.zero_le _) (Nat.le_refl _)
  have e : ordA (srtA d).toList = ordA d.toList := by unfold ordA; simp only [lev_srt]
  rw [← e]
  refine (ord_of_sorted _ ?_ ?_).symm
  · intro x hx
    have h : x ∈ lev x.l (srtA d).toList := List.mem_filter.2 ⟨hx, by simp⟩
    rw [lev_srt] at h
    exact h5 x (List.mem_filter.1 h).1
  · rw [List.pairwise_iff_getElem]
    intro i j hi hj hij
    have hj' : j < d.size := by have := srtA_size d; simp at hj; omega
    have h := hs i j (Nat.zero_le _) hij hj'
    rw [lt_cf, decide_eq_false_iff_not] at h
    have ei : (Sort.insertionSort (ltOf cfA) d 0 d.size)[i]! = (srtA d).toList[i] := by
      show (srtA d)[i]! = _
      rw [getElem!_pos (srtA d) i (by simpa using hi), Array.getElem_toList]
    have ej : (Sort.insertionSort (ltOf cfA) d 0 d.size)[j]! = (srtA d).toList[j] := by
      show (srtA d)[j]! = _
      rw [getElem!_pos (srtA d) j (by simpa using hj), Array.getElem_toList]
    rw [ei, ej] at h
    omega
end Go.Proofs.Ytinaimacocgemaa
