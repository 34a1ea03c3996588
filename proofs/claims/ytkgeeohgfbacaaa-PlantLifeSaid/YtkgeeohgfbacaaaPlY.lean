/- Plants: what comes of units that are ordered on (pure). -/
import Derived.Test.YtkgeeohgfbacaaaPlX
import Derived.Test.YtkgeeohgfbacaaaPlT
namespace Go.Proofs.Ytkgeeohgfbacaaa
open Go.RowKit Go.Own
set_option linter.unusedVariables false
set_option linter.unusedSimpArgs false
theorem setN_congr {f g : Nat → Bool} : ∀ {n : Nat}, (∀ i, i < n → f i = g i) → setN f n = setN g n
  | 0, _ => rfl
  | n + 1, h => by
    unfold setN
    rw [h n (by omega), setN_congr (n := n) (fun i hi => h i (by omega))]
theorem bit1_nat {j : Nat} (h : j < 16) : Bs.bit1 (j : Nat) = 2 ^ j := by
  unfold Bs.bit1
  rw [if_pos (by omega)]
  simp
theorem bit1_bit (i : Int) (j : Nat) (hj : j < 16) : (Bs.bit1 i).testBit j = decide ((j : Int) = i) := by
  unfold Bs.bit1
  split
  · rename_i h
    rw [Nat.testBit_two_pow]
    by_cases e : i.toNat = j
    · simp [e]; omega
    · rw [decide_eq_false e, decide_eq_false (by omega)]
  · rw [Nat.zero_testBit, decide_eq_false (by omega)]
theorem withS_bit (l : List Int) (j : Nat) (hj : j < 16) : ∀ s : Nat, (Bs.withS s l).testBit j = (s.testBit j || decide ((j : Int) ∈ l)) := by
  induction l with
  | nil => intro s; simp [Bs.withS]
  | cons i l ih =>
    intro s
    have := ih (s ||| Bs.bit1 i)
    show (Bs.withS (s ||| Bs.bit1 i) l).testBit j = _
    rw [this, Nat.testBit_or, bit1_bit i j hj]
    by_cases h : (j : Int) = i
    · simp [h]
    · simp [h]
theorem setN_bit (f : Nat → Bool) (j : Nat) : ∀ n, n ≤ 16 → (setN f n).testBit j = (decide (j < n) && f j)
  | 0, _ => by simp [setN]
  | n + 1, h => by
    have ih := setN_bit f j n (by omega)
    unfold setN
    by_cases hj : j = n
    · subst hj
      split
      · rename_i hf
        rw [Nat.testBit_or, ih, bit1_nat (by omega), Nat.testBit_two_pow]
        simp [hf]
      · rename_i hf
        rw [ih]
        simp [hf]
    · have e : decide (j < n + 1) = decide (j < n) := by
        by_cases h2 : j < n
        · simp [h2]; omega
        · simp [h2]; omega
      rw [e]
      split
      · rw [Nat.testBit_or, ih, bit1_nat (by omega), Nat.testBit_two_pow, decide_eq_false (fun (e' : n = j) => hj e'.symm), Bool.or_false]
      · exact ih
theorem want_is (l : List Int) {m : Nat} (hm : m ≤ 16) : Bs.withS 0 l &&& (2 ^ m - 1) = setN (fun j => decide ((j : Int) ∈ l)) m := by
  apply Nat.eq_of_testBit_eq
  intro j
  rw [Nat.testBit_and, Nat.testBit_two_pow_sub_one, setN_bit _ _ _ hm]
  by_cases hj : j < m
  · rw [withS_bit l j (by omega), Nat.zero_testBit, Bool.false_or]
    simp [hj]
  · simp [hj]
theorem has_bit (x : Nat) {j : Nat} (h : j < 16) : Bs.has x j = x.testBit j := by
  unfold Bs.has
  rw [bit1_nat h]
  cases hb : x.testBit j
  · have : x &&& 2 ^ j = 0 := by
      apply Nat.eq_of_testBit_eq
      intro k
      rw [Nat.testBit_and, Nat.testBit_two_pow, Nat.zero_testBit]
      by_cases e : j = k
      · subst e; simp [hb]
      · simp [e]
    simp [this]
  · have : x &&& 2 ^ j ≠ 0 := fun e => by
      have h2 : (x &&& 2 ^ j).testBit j = true := by rw [Nat.testBit_and, Nat.testBit_two_pow, hb]; simp
      rw [e] at h2
      simp at h2
    simp [this]
def cnt8 (b : Nat) : Nat := ((List.range 8).filter (fun j => b.testBit j)).length
theorem pop8_cnt : ∀ b : Nat, b < 256 → Lib.pop8 (b : Int) = ((cnt8 b : Nat) : Int) := by decide +kernel
theorem upTo_mem {x m j : Nat} : j ∈ Bs.upTo x m ↔ j < m ∧ Bs.has x j = true := by simp [Bs.upTo]
theorem upTo_nodup (x m : Nat) : (Bs.upTo x m).Nodup := List.Nodup.sublist List.filter_sublist List.nodup_range
theorem count_is (x : Nat) (hx : x < 65536) : Lib.pop8 ((x / 256 : Nat) : Int) + Lib.pop8 ((x % 256 : Nat) : Int) = (((Bs.upTo x 16).length : Nat) : Int) := by
  rw [pop8_cnt _ (by omega), pop8_cnt _ (by omega)]
  have h16 : Bs.upTo x 16 = (List.range 8).filter (Bs.has x) ++ ((List.range 8).map (· + 8)).filter (Bs.has x) := by
    rw [← List.filter_append]
    rfl
  have e1 : (List.range 8).filter (Bs.has x) = (List.range 8).filter (fun j => (x % 256).testBit j) := by
    apply List.filter_congr
    intro j hj
    have hj8 : j < 8 := by simpa using hj
    rw [has_bit x (by omega), show (256 : Nat) = 2 ^ 8 from rfl, Nat.testBit_mod_two_pow]
    simp [hj8]
  have e2 : (((List.range 8).map (· + 8)).filter (Bs.has x)).length = ((List.range 8).filter (fun j => (x / 256).testBit j)).length := by
    rw [List.filter_map, List.length_map]
    congr 1
    apply List.filter_congr
    intro j hj
    have hj8 : j < 8 := by simpa using hj
    show Bs.has x (j + 8) = _
    rw [has_bit x (by omega), show (256 : Nat) = 2 ^ 8 from rfl, Nat.testBit_div_two_pow]
  rw [h16, List.length_append, e1, e2]
  unfold cnt8
  omega
/-- Some units have state c, the others are off. -/
structure LifeS (c : Int) (p : Pl) (m : Nat) (f : Nat → Bool) : Prop where
  n : p.n = m
  ok : p.Ok
  st : ∀ j, (p.u j).st
  on : ∀ j, j < m → f j = true → (p.u j).s = c
  off : ∀ j, j < m → f j = false → (p.u j).s = 0
theorem LifeS.pow {c : Int} {p : Pl} {m : Nat} {f : Nat → Bool} (h : LifeS c p m f) (hc : c = 1 ∨ c = 2) : setN (fun k => decide ((p.u k).s = 1) || decide ((p.u k).s = 2)) m = setN f m := by
  apply setN_congr
  intro i hi
  cases hf : f i with
  | true => rw [h.on i hi hf]; rcases hc with rfl | rfl <;> rfl
  | false => rw [h.off i hi hf]; rfl
theorem LifeS.wk2 {p : Pl} {m : Nat} {f : Nat → Bool} (h : LifeS 2 p m f) : setN (fun k => (p.u k).s == 2) m = setN f m := by
  apply setN_congr
  intro i hi
  cases hf : f i with
  | true => rw [h.on i hi hf]; rfl
  | false => rw [h.off i hi hf]; rfl
theorem LifeS.wk1 {p : Pl} {m : Nat} {f : Nat → Bool} (h : LifeS 1 p m f) : setN (fun k => (p.u k).s == 2) m = 0 := by
  apply setN_none
  intro i hi
  cases hf : f i with
  | true => rw [h.on i hi hf]; rfl
  | false => rw [h.off i hi hf]; rfl
theorem LifeS.lost {c : Int} {p : Pl} {m : Nat} {f : Nat → Bool} (h : LifeS c p m f) (hc : c = 1 ∨ c = 2) : setN (fun k => (p.u k).s == 3) m = 0 := by
  apply setN_none
  intro i hi
  cases hf : f i with
  | true => rw [h.on i hi hf]; rcases hc with rfl | rfl <;> rfl
  | false => rw [h.off i hi hf]; rfl
theorem hasB_all {j : Nat} (h : j < 16) : hasB 65535 j = true := by
  have : j = 0 ∨ j = 1 ∨ j = 2 ∨ j = 3 ∨ j = 4 ∨ j = 5 ∨ j = 6 ∨ j = 7 ∨ j = 8 ∨ j = 9 ∨ j = 10 ∨ j = 11 ∨ j = 12 ∨ j = 13 ∨ j = 14 ∨ j = 15 := by omega
  rcases this with rfl | rfl | rfl | rfl | rfl | rfl | rfl | rfl | rfl | rfl | rfl | rfl | rfl | rfl | rfl | rfl <;> decide +kernel
theorem LifeS.step {c : Int} {p : Pl} {m : Nat} {f : Nat → Bool} (h : LifeS c p m f) (hc : c = 1 ∨ c = 2) : LifeS 2 (p.stepped 65535 65535 p.n) m f := by
  have hn := h.n
  have h16 := h.ok.n
  have hu : ∀ j, j < m → (p.stepped 65535 65535 p.n).u j = uStep (p.u j) true true (p.tol j) := fun j hj => by
    show (if j < p.n then uStep (p.u j) (hasB 65535 j) (hasB 65535 j) (p.tol j) else p.u j) = _
    rw [if_pos (by omega), hasB_all (by omega)]
  refine ⟨hn, stepped_ok h.ok _ _ _, stepped_st p _ _ _ h.st, fun j hj hf => ?_, fun j hj hf => ?_⟩
  · rw [hu j hj]
    have := h.on j hj hf
    unfold uStep
    rcases hc with rfl | rfl
    · rw [if_pos this, if_pos rfl]
    · rw [if_neg (by omega), if_pos this]
      rfl
  · rw [hu j hj]
    have := h.off j hj hf
    unfold uStep
    rw [if_neg (by omega), if_neg (by omega)]
    exact this
/-- A new plant, with some units ordered on. -/
theorem life_new {p : Pl} {m : Nat} (hn : p.n = m) (hok : p.Ok) (h0 : ∀ j, p.u j = ⟨0, 0, 0⟩) (l : List Int) : LifeS 1 (ordAll true p l).1 m (fun j => decide ((j : Int) ∈ l)) := by
  have hst : ∀ j, (p.u j).st := fun j => by rw [h0 j]; exact .inl rfl
  have h := ordAll_is p true l hst
  have hok2 : (ordAll true p l).1.Ok := Pl.Ok.allA l [] hok
  refine ⟨h.n.trans hn, hok2, h.st hst, fun j hj hf => ?_, fun j hj hf => ?_⟩
  · rw [h.hit j ⟨by simpa using hf, by omega⟩, h0 j]
    rfl
  · rw [h.miss j (fun k => by simp at hf; exact hf k.1), h0 j]
theorem out_len (p : Pl) : ∀ (l : List Nat) (x : Pl × List Nat), l.Nodup → (∀ j, j ∈ l → j < x.1.n ∧ (x.1.u j).s ≠ 0) → ((l.map fun (i : Nat) => ((i : Nat) : Int)).foldl (ordStep false) x).2.length = x.2.length + l.length
  | [], x, _, _ => by simp
  | i :: l, x, hd, h => by
    have hi := h i (by simp)
    have hh : x.1.has ((i : Nat) : Int) = true := by simp [Pl.has]; omega
    have hs : ordStep false x ((i : Nat) : Int) = (x.1.set i (uOrd (x.1.u i) false (x.1.wt i)), x.2 ++ [i]) := by
      unfold ordStep
      rw [if_pos hh]
      simp only [Int.toNat_natCast]
      have : uCmd (x.1.u i) false = true := by unfold uCmd; simp [hi.2]
      rw [if_pos this]
    rw [List.map_cons, List.foldl_cons, hs]
    have hd2 := List.nodup_cons.1 hd
    rw [out_len p l _ hd2.2 (fun j hj => ?_)]
    · simp; omega
    · have := h j (by simp [hj])
      refine ⟨this.1, ?_⟩
      show ((if j = i then uOrd (x.1.u i) false (x.1.wt i) else x.1.u j)).s ≠ 0
      rw [if_neg (fun (e : j = i) => hd2.1 (by rw [← e]; exact hj))]
      exact this.2
/-- Then all are ordered off. -/
theorem life_off {p : Pl} {m x : Nat} {f : Nat → Bool} {l : List Int} (h : LifeS 2 p m f) (hx : setN f m = x) (hl : l = (Bs.upTo x 16).map fun (i : Nat) => ((i : Nat) : Int)) :
    (ordAll false p l).2.length = (Bs.upTo x 16).length ∧ (ordAll false p l).1.n = m ∧ ∀ j, j < m → ((ordAll false p l).1.u j).s = 0 := by
  have hm : m ≤ 16 := by have := h.ok.n; have := h.n; omega
  have hmem : ∀ j, j < 16 → (j ∈ Bs.upTo x 16 ↔ j < m ∧ f j = true) := fun j hj => by
    rw [upTo_mem, has_bit x hj, ← hx, setN_bit f j m hm]
    simp [hj]
  have hi := ordAll_is p false l h.st
  refine ⟨?_, hi.n.trans h.n, fun j hj => ?_⟩
  · have := out_len p (Bs.upTo x 16) (p, []) (upTo_nodup x 16) (fun j hj => by
      have hj16 := (upTo_mem.1 hj).1
      have := (hmem j hj16).1 hj
      refine ⟨by show j < p.n; rw [h.n]; exact this.1, ?_⟩
      show (p.u j).s ≠ 0
      rw [h.on j this.1 this.2]
      decide)
    rw [← hl] at this
    unfold ordAll
    rw [this]
    simp
  · cases hf : f j with
    | true =>
      rw [hi.hit j ⟨by rw [hl]; exact List.mem_map_of_mem ((hmem j (by omega)).2 ⟨hj, hf⟩), by rw [h.n]; exact hj⟩]
      rfl
    | false =>
      rw [hi.miss j (fun k => by
        have k1 := k.1
        rw [hl] at k1
        obtain ⟨i, h1, h2⟩ := List.mem_map.1 k1
        have : i = j := by omega
        subst this
        have := (hmem i (by omega)).1 h1
        rw [hf] at this
        cases this.2)]
      exact h.off j hj hf
end Go.Proofs.Ytkgeeohgfbacaaa
