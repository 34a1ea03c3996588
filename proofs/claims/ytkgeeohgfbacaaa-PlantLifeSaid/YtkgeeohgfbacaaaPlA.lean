/- What orders make of a plant, unit by unit (pure). -/
import Derived.Test.YtkgeeohgfbacaaaPlT
namespace Go.Proofs.Ytkgeeohgfbacaaa
open Go.RowKit Go.Own
set_option linter.unusedVariables false
set_option linter.unusedSimpArgs false
/-- A state that there is. -/
def Un.st (u : Un) : Prop := u.s = 0 ∨ u.s = 1 ∨ u.s = 2 ∨ u.s = 3
theorem uOrd_again (u : Un) (on : Bool) (wt : Int) (h : u.st) : uOrd (uOrd u on wt) on wt = uOrd u on wt ∧ uCmd (uOrd u on wt) on = false := by
  obtain ⟨s, l, b⟩ := u
  unfold Un.st at h
  simp only at h
  cases on
  · exact ⟨rfl, rfl⟩
  · rcases h with rfl | rfl | rfl | rfl <;> exact ⟨rfl, rfl⟩
theorem uOrd_st (u : Un) (on : Bool) (wt : Int) (h : u.st) : (uOrd u on wt).st := by
  obtain ⟨s, l, b⟩ := u
  unfold Un.st at h
  simp only at h
  cases on
  · exact .inl rfl
  · rcases h with rfl | rfl | rfl | rfl
    · exact .inr (.inl rfl)
    · exact .inr (.inl rfl)
    · exact .inr (.inr (.inl rfl))
    · exact .inr (.inl rfl)
theorem uCmd_ne (u : Un) (on : Bool) (wt : Int) (h : u.st) (hc : uCmd u on = true) : uOrd u on wt ≠ u := by
  obtain ⟨s, l, b⟩ := u
  unfold Un.st at h
  simp only at h
  intro e
  cases on
  · obtain ⟨e0, _, _⟩ := Un.inj (e.symm.trans (show uOrd ⟨s, l, b⟩ false wt = Un.mk 0 0 0 from rfl))
    subst e0
    cases hc
  · rcases h with rfl | rfl | rfl | rfl
    · obtain ⟨e0, _, _⟩ := Un.inj (e.symm.trans (show uOrd ⟨0, l, b⟩ true wt = Un.mk 1 wt 0 from rfl)); omega
    · cases hc
    · cases hc
    · obtain ⟨e0, _, _⟩ := Un.inj (e.symm.trans (show uOrd ⟨3, l, b⟩ true wt = Un.mk 1 wt 0 from rfl)); omega
theorem uStep_st (u : Un) (x y : Bool) (t : Int) (h : u.st) : (uStep u x y t).st := by
  unfold uStep
  split
  · split
    · exact .inr (.inr (.inl rfl))
    · split
      · exact .inr (.inr (.inr rfl))
      · exact .inr (.inl rfl)
  · split
    · split
      · exact .inr (.inr (.inl rfl))
      · split
        · exact .inr (.inr (.inr rfl))
        · exact .inr (.inr (.inl rfl))
    · exact h
/-- What is known behind some orders: x.1 the plant, x.2 the commands; L the numbers so far. -/
structure OrdIs (p : Pl) (on : Bool) (x : Pl × List Nat) (L : List Int) : Prop where
  n : x.1.n = p.n
  w : x.1.wt = p.wt
  t : x.1.tol = p.tol
  hit : ∀ j : Nat, ((j : Int) ∈ L ∧ j < p.n) → x.1.u j = uOrd (p.u j) on (p.wt j)
  miss : ∀ j : Nat, ¬ ((j : Int) ∈ L ∧ j < p.n) → x.1.u j = p.u j
  nodup : x.2.Nodup
  mem : ∀ j, j ∈ x.2 → ((j : Int) ∈ L ∧ j < p.n) ∧ uCmd (p.u j) on = true
theorem OrdIs.next {p : Pl} {on : Bool} {x : Pl × List Nat} {L : List Int} (h : OrdIs p on x L) (hst : ∀ j, (p.u j).st) (i : Int) : OrdIs p on (ordStep on x i) (L ++ [i]) := by
  have hw := h.w
  unfold ordStep
  cases hh : x.1.has i
  · rw [if_neg (by decide)]
    have hno : ∀ j : Nat, ((j : Int) ∈ L ++ [i] ∧ j < p.n) ↔ ((j : Int) ∈ L ∧ j < p.n) := by
      intro j
      constructor
      · rintro ⟨h1, h2⟩
        rcases List.mem_append.1 h1 with h1 | h1
        · exact ⟨h1, h2⟩
        · have e : (j : Int) = i := by simpa using h1
          subst e
          simp [Pl.has, h.n] at hh
          omega
      · rintro ⟨h1, h2⟩
        exact ⟨List.mem_append_left _ h1, h2⟩
    exact ⟨h.n, h.w, h.t, fun j hj => h.hit j ((hno j).1 hj), fun j hj => h.miss j (fun k => hj ((hno j).2 k)), h.nodup, fun j hj => ⟨(hno j).2 (h.mem j hj).1, (h.mem j hj).2⟩⟩
  · rw [if_pos rfl]
    obtain ⟨h0, h1⟩ : 0 ≤ i ∧ i < (x.1.n : Int) := by simpa [Pl.has] using hh
    obtain ⟨m, rfl⟩ := Int.eq_ofNat_of_zero_le h0
    have hm : m < p.n := by have := h.n; omega
    simp only [Int.toNat_natCast]
    have hum : uOrd (x.1.u m) on (x.1.wt m) = uOrd (p.u m) on (p.wt m) := by
      rw [hw]
      by_cases k : (m : Int) ∈ L
      · rw [h.hit m ⟨k, hm⟩, (uOrd_again _ _ _ (hst m)).1]
      · rw [h.miss m (fun e => k e.1)]
    have hset : ∀ j, (x.1.set m (uOrd (x.1.u m) on (x.1.wt m))).u j = if j = m then uOrd (p.u m) on (p.wt m) else x.1.u j := by
      intro j
      show (if j = m then uOrd (x.1.u m) on (x.1.wt m) else x.1.u j) = _
      rw [hum]
    refine ⟨h.n, h.w, h.t, fun j hj => ?_, fun j hj => ?_, ?_, ?_⟩
    · show (x.1.set m (uOrd (x.1.u m) on (x.1.wt m))).u j = _
      rw [hset]
      by_cases e : j = m
      · subst e; rw [if_pos rfl]
      · rw [if_neg e]
        refine h.hit j ⟨?_, hj.2⟩
        rcases List.mem_append.1 hj.1 with k | k
        · exact k
        · exact absurd (by simpa using k) (by omega)
    · show (x.1.set m (uOrd (x.1.u m) on (x.1.wt m))).u j = _
      rw [hset]
      have e : ¬ j = m := fun e => hj ⟨by rw [e]; simp, by omega⟩
      rw [if_neg e]
      exact h.miss j fun k => hj ⟨List.mem_append_left _ k.1, k.2⟩
    · show (if uCmd (x.1.u m) on = true then x.2 ++ [m] else x.2).Nodup
      split
      · rename_i hc
        rw [List.nodup_append]
        refine ⟨h.nodup, by simp, fun y hy z hz e => ?_⟩
        have hz : z = m := by simpa using hz
        rw [hz] at e
        subst e
        have := (h.mem y hy).1
        rw [h.hit y this] at hc
        rw [(uOrd_again _ _ _ (hst y)).2] at hc
        cases hc
      · exact h.nodup
    · intro j hj
      have hj' : j ∈ (if uCmd (x.1.u m) on = true then x.2 ++ [m] else x.2) := hj
      split at hj'
      · rename_i hc
        rcases List.mem_append.1 hj' with k | k
        · exact ⟨⟨List.mem_append_left _ (h.mem j k).1.1, (h.mem j k).1.2⟩, (h.mem j k).2⟩
        · have e : j = m := by simpa using k
          subst e
          refine ⟨⟨by simp, hm⟩, ?_⟩
          by_cases kk : (j : Int) ∈ L
          · rw [h.hit j ⟨kk, hm⟩, (uOrd_again _ _ _ (hst j)).2] at hc
            cases hc
          · rw [h.miss j (fun e => kk e.1)] at hc
            exact hc
      · exact ⟨⟨List.mem_append_left _ (h.mem j hj').1.1, (h.mem j hj').1.2⟩, (h.mem j hj').2⟩
theorem ordIs_fold {p : Pl} {on : Bool} (hst : ∀ j, (p.u j).st) : ∀ (l L : List Int) (x : Pl × List Nat), OrdIs p on x L → OrdIs p on (l.foldl (ordStep on) x) (L ++ l)
  | [], L, x, h => by simpa using h
  | i :: l, L, x, h => by
    have := ordIs_fold hst l (L ++ [i]) _ (h.next hst i)
    simpa [List.append_assoc] using this
theorem ordAll_is (p : Pl) (on : Bool) (l : List Int) (hst : ∀ j, (p.u j).st) : OrdIs p on (ordAll on p l) l := by
  have := ordIs_fold (on := on) hst l [] (p, []) ⟨rfl, rfl, rfl, fun j hj => by simp at hj, fun _ _ => rfl, by simp, fun j hj => by simp at hj⟩
  simpa [ordAll] using this
theorem OrdIs.st {p : Pl} {on : Bool} {x : Pl × List Nat} {L : List Int} (h : OrdIs p on x L) (hst : ∀ j, (p.u j).st) (j : Nat) : (x.1.u j).st := by
  by_cases k : (j : Int) ∈ L ∧ j < p.n
  · rw [h.hit j k]; exact uOrd_st _ _ _ (hst j)
  · rw [h.miss j k]; exact hst j
/-- The same orders once more. -/
theorem ordAll_again (p : Pl) (on : Bool) (l : List Int) (hst : ∀ j, (p.u j).st) : (ordAll on (ordAll on p l).1 l).2 = [] ∧ (ordAll on p l).1.cs = (ordAll on (ordAll on p l).1 l).1.cs := by
  have h1 := ordAll_is p on l hst
  have h2 := ordAll_is (ordAll on p l).1 on l (h1.st hst)
  have hu : ∀ j, (ordAll on (ordAll on p l).1 l).1.u j = (ordAll on p l).1.u j := by
    intro j
    by_cases k : (j : Int) ∈ l ∧ j < p.n
    · rw [h2.hit j ⟨k.1, by rw [h1.n]; exact k.2⟩, h1.w, h1.hit j k, (uOrd_again _ _ _ (hst j)).1]
    · rw [h2.miss j (fun e => k ⟨e.1, by have := e.2; rwa [h1.n] at this⟩)]
  refine ⟨?_, (Pl.ext_cs (fun i _ => (hu i).symm) (fun i _ => by rw [h2.w]) (fun i _ => by rw [h2.t]) h2.n.symm)⟩
  cases hx : (ordAll on (ordAll on p l).1 l).2 with
  | nil => rfl
  | cons j r =>
    exfalso
    have := h2.mem j (by rw [hx]; simp)
    rw [h1.n] at this
    rw [h1.hit j this.1, (uOrd_again _ _ _ (hst j)).2] at this
    cases this.2
theorem OrdIs.at_ {p : Pl} {on : Bool} {x : Pl × List Nat} {L : List Int} (h : OrdIs p on x L) (i : Int) (hi : i ∉ L) : x.1.at i = p.at i := by
  unfold Pl.at
  have : x.1.has i = p.has i := by unfold Pl.has; rw [h.n]
  rw [this]
  cases hh : p.has i
  · rfl
  · obtain ⟨h0, h1⟩ : 0 ≤ i ∧ i < (p.n : Int) := by simpa [Pl.has] using hh
    rw [if_pos rfl, if_pos rfl]
    exact h.miss _ fun k => hi (by have := k.1; rwa [Int.toNat_of_nonneg h0] at this)
theorem bit1_and {i j : Nat} (h : i ≠ j) : Bs.bit1 (i : Nat) &&& Bs.bit1 (j : Nat) = 0 := by
  unfold Bs.bit1
  split
  · split
    · simp only [Int.toNat_natCast]
      apply Nat.eq_of_testBit_eq
      intro k
      simp only [Nat.testBit_and, Nat.testBit_two_pow, Nat.zero_testBit]
      by_cases e1 : i = k
      · by_cases e2 : j = k
        · omega
        · simp [e2]
      · simp [e1]
    · simp
  · simp
/-- A unit that is none of these is not in their set. -/
theorem withS_and (l : List Nat) (s u : Nat) (hs : s &&& Bs.bit1 (u : Nat) = 0) (h : u ∉ l) : Bs.withS s (l.map fun (i : Nat) => ((i : Nat) : Int)) &&& Bs.bit1 (u : Nat) = 0 := by
  induction l generalizing s with
  | nil => exact hs
  | cons i l ih =>
    refine ih (s ||| Bs.bit1 (i : Nat)) ?_ (fun k => h (by simp [k]))
    rw [Nat.and_or_distrib_right, hs, bit1_and (fun e => h (by simp [e]))]
    rfl
theorem stepped_st (p : Pl) (a b k : Nat) (hst : ∀ j, (p.u j).st) (j : Nat) : ((p.stepped a b k).u j).st := by
  show (if j < k then uStep (p.u j) (hasB a j) (hasB b j) (p.tol j) else p.u j).st
  split
  · exact uStep_st _ _ _ _ (hst j)
  · exact hst j
theorem uStep_ok {u : Un} {t : Int} (hs : 0 ≤ u.s ∧ u.s ≤ 255) (hl : 0 ≤ u.l ∧ u.l ≤ 255) (hb : 0 ≤ u.b ∧ u.b ≤ 255) (ht : 0 ≤ t ∧ t ≤ 255) (x y : Bool) : (0 ≤ (uStep u x y t).s ∧ (uStep u x y t).s ≤ 255) ∧ (0 ≤ (uStep u x y t).l ∧ (uStep u x y t).l ≤ 255) ∧ (0 ≤ (uStep u x y t).b ∧ (uStep u x y t).b ≤ 255) := by
  unfold uStep
  split
  · split
    · refine ⟨?_, ?_, ?_⟩ <;> (dsimp only; omega)
    · split
      · refine ⟨?_, ?_, ?_⟩ <;> (dsimp only; omega)
      · refine ⟨?_, ?_, ?_⟩ <;> (dsimp only; omega)
  · split
    · split
      · refine ⟨?_, ?_, ?_⟩ <;> (dsimp only; omega)
      · split
        · refine ⟨?_, ?_, ?_⟩ <;> (dsimp only; omega)
        · refine ⟨?_, ?_, ?_⟩ <;> (dsimp only; omega)
    · unfold Un.tidy
      refine ⟨hs, ?_, ?_⟩
      · dsimp only
        split
        · exact hl
        · omega
      · dsimp only
        split
        · exact hb
        · omega
theorem stepped_ok {p : Pl} (h : p.Ok) (a b k : Nat) : (p.stepped a b k).Ok := by
  have hu : ∀ j, j < 16 → (p.stepped a b k).u j = p.u j ∨ (p.stepped a b k).u j = uStep (p.u j) (hasB a j) (hasB b j) (p.tol j) := by
    intro j _
    by_cases e : j < k
    · exact .inr (if_pos e)
    · exact .inl (if_neg e)
  refine ⟨h.n, fun j hj => ?_, fun j hj => ?_, fun j hj => ?_, h.w, h.t⟩
  · rcases hu j hj with e | e <;> rw [e]
    · exact h.s j hj
    · exact (uStep_ok (h.s j hj) (h.l j hj) (h.b j hj) (h.t j hj) _ _).1
  · rcases hu j hj with e | e <;> rw [e]
    · exact h.l j hj
    · exact (uStep_ok (h.s j hj) (h.l j hj) (h.b j hj) (h.t j hj) _ _).2.1
  · rcases hu j hj with e | e <;> rw [e]
    · exact h.b j hj
    · exact (uStep_ok (h.s j hj) (h.l j hj) (h.b j hj) (h.t j hj) _ _).2.2
theorem un_plain {s l b : Int} (hs : 0 ≤ s ∧ s ≤ 255) (hl : 0 ≤ l ∧ l ≤ 255) (hb : 0 ≤ b ∧ b ≤ 255) : Plain [.int .u8, .int .u8, .int .u8] [.int .u8 s, .int .u8 l, .int .u8 b] := ⟨⟨s, rfl, wf8 hs⟩, ⟨l, rfl, wf8 hl⟩, ⟨b, rfl, wf8 hb⟩, trivial⟩
theorem un_eql {s l b s' l' b' : Int} (hs : 0 ≤ s ∧ s ≤ 255) (hl : 0 ≤ l ∧ l ≤ 255) (hb : 0 ≤ b ∧ b ≤ 255) (hs' : 0 ≤ s' ∧ s' ≤ 255) (hl' : 0 ≤ l' ∧ l' ≤ 255) (hb' : 0 ≤ b' ∧ b' ≤ 255) (hne : Un.mk s l b ≠ Un.mk s' l' b') (w : World) :
    (binOp .eql 88 (.agg #[.int .u8 s, .int .u8 l, .int .u8 b]) (.agg #[.int .u8 s', .int .u8 l', .int .u8 b'])).run Try.prog w = .ok (.bool false) w := by
  obtain ⟨r, h, hi⟩ := eql_plain (P := Try.prog) (t := 88) (sh := [.int .u8, .int .u8, .int .u8]) (xs := #[.int .u8 s, .int .u8 l, .int .u8 b]) (ys := #[.int .u8 s', .int .u8 l', .int .u8 b']) (m := 9) (by omega) (by kernel_rfl) (by kernel_rfl) (by kernel_rfl) (by kernel_rfl) (un_plain hs hl hb) (un_plain hs' hl' hb') w
  rw [h]
  cases r
  · rfl
  · exfalso
    have e := hi.1 rfl
    simp at e
    exact hne (by rw [e.1, e.2.1, e.2.2])
theorem uOrd_okA {u : Un} {wt : Int} (hs : 0 ≤ u.s ∧ u.s ≤ 255) (hl : 0 ≤ u.l ∧ u.l ≤ 255) (hb : 0 ≤ u.b ∧ u.b ≤ 255) (hw : 0 ≤ wt ∧ wt ≤ 255) (on : Bool) : (0 ≤ (uOrd u on wt).s ∧ (uOrd u on wt).s ≤ 255) ∧ (0 ≤ (uOrd u on wt).l ∧ (uOrd u on wt).l ≤ 255) ∧ (0 ≤ (uOrd u on wt).b ∧ (uOrd u on wt).b ≤ 255) := by
  unfold uOrd uOff
  split
  · split
    · exact ⟨⟨by simp, by simp⟩, hw, ⟨by simp, by simp⟩⟩
    · unfold Un.tidy
      refine ⟨hs, ?_, ?_⟩
      · dsimp only
        split
        · exact hl
        · omega
      · dsimp only
        split
        · exact hb
        · omega
  · exact ⟨⟨by simp, by simp⟩, ⟨by simp, by simp⟩, ⟨by simp, by simp⟩⟩
theorem Pl.Ok.stepA {p : Pl} (h : p.Ok) (on : Bool) (out : List Nat) (i : Int) : (ordStep on (p, out) i).1.Ok := by
  unfold ordStep
  split
  · rename_i hh
    obtain ⟨h0, h1⟩ : 0 ≤ i ∧ i < (p.n : Int) := by simpa [Pl.has] using hh
    have hi : i.toNat < 16 := by have := h.n; omega
    have hu := uOrd_okA (h.s _ hi) (h.l _ hi) (h.b _ hi) (h.w _ hi) on
    refine ⟨h.n, fun j hj => ?_, fun j hj => ?_, fun j hj => ?_, h.w, h.t⟩
    · show 0 ≤ (if j = i.toNat then uOrd (p.u i.toNat) on (p.wt i.toNat) else p.u j).s ∧ (if j = i.toNat then uOrd (p.u i.toNat) on (p.wt i.toNat) else p.u j).s ≤ 255
      split
      · exact hu.1
      · exact h.s j hj
    · show 0 ≤ (if j = i.toNat then uOrd (p.u i.toNat) on (p.wt i.toNat) else p.u j).l ∧ (if j = i.toNat then uOrd (p.u i.toNat) on (p.wt i.toNat) else p.u j).l ≤ 255
      split
      · exact hu.2.1
      · exact h.l j hj
    · show 0 ≤ (if j = i.toNat then uOrd (p.u i.toNat) on (p.wt i.toNat) else p.u j).b ∧ (if j = i.toNat then uOrd (p.u i.toNat) on (p.wt i.toNat) else p.u j).b ≤ 255
      split
      · exact hu.2.2
      · exact h.b j hj
  · exact h
theorem Pl.Ok.allA {on : Bool} : ∀ (l : List Int) {p : Pl} (out : List Nat), p.Ok → (l.foldl (ordStep on) (p, out)).1.Ok
  | [], _, _, h => h
  | i :: l, p, out, h => Pl.Ok.allA l (ordStep on (p, out) i).2 (h.stepA on out i)
theorem ordAll_len (on : Bool) (p : Pl) (l : List Int) : (ordAll on p l).2.length ≤ l.length := by
  have := foldOrd_len on l (p, [])
  simpa [ordAll] using this
theorem takeZ_succ (l : List Int) {k : Nat} (h : k < l.length) : l.take (k + 1) = l.take k ++ [l.getD k 0] := by
  rw [List.take_add_one, List.getElem?_eq_getElem h]
  simp [List.getD, h]
theorem takeN_succ (l : List Nat) {k : Nat} (h : k < l.length) : l.take (k + 1) = l.take k ++ [l.getD k 0] := by
  rw [List.take_add_one, List.getElem?_eq_getElem h]
  simp [List.getD, h]
theorem nodup_take (l : List Nat) (hn : l.Nodup) {k : Nat} (h : k < l.length) : l.getD k 0 ∉ l.take k := by
  have e := List.take_append_drop k l
  rw [← e] at hn
  have := (List.nodup_append.1 hn).2.2
  intro hm
  refine this _ hm (l.getD k 0) ?_ rfl
  have e2 : l.getD k 0 = l[k] := by simp [List.getD, h]
  rw [e2, List.drop_eq_getElem_cons h]
  exact List.mem_cons_self ..
theorem getD_mem (l : List Nat) {k : Nat} (h : k < l.length) : l.getD k 0 ∈ l := by simp [List.getD, h]
end Go.Proofs.Ytkgeeohgfbacaaa
