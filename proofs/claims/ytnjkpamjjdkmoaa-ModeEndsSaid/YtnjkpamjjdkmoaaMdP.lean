/- Layer 24: modes, without a walk. -/
import Derived.Below
namespace Go.Proofs.Ytnjkpamjjdkmoaa
set_option linter.unusedVariables false
set_option linter.unusedSimpArgs false
/-- A mode, and what was counted. -/
structure Mo where
  m : Nat
  s : Nat
  c : Nat
  n : Nat
  d : Nat
deriving DecidableEq
/-- How long things last. -/
structure Cf where
  calm : Nat
  seen : Nat
  lost : Nat
  t : Nat → Nat
def upM (n most : Nat) : Nat := if n < most then n + 1 else n
def moZ : Mo := ⟨0, 0, 0, 0, 0⟩
def moS : Mo := ⟨2, 0, 0, 0, 0⟩
def cnt (a : Mo) (calm seen : Bool) : Mo := ⟨a.m, upM a.s 65535, if calm = true then upM a.c 255 else 0, if seen = true then upM a.n 255 else 0, if seen = true then 0 else upM a.d 255⟩
def stepM (a : Mo) (c : Cf) (calm seen safe : Bool) : Mo × Nat :=
  if safe = true ∧ 0 < a.m then (moZ, 1)
  else if a.m = 1 ∧ 0 < c.calm ∧ c.calm ≤ (cnt a calm seen).c then (moS, 2)
  else if a.m = 3 ∧ 0 < c.lost ∧ c.lost ≤ (cnt a calm seen).d then (moS, 4)
  else if (a.m = 1 ∨ (a.m = 2 ∧ (cnt a calm seen).n < c.seen)) ∧ 0 < c.t a.m ∧ c.t a.m ≤ (cnt a calm seen).s then (moZ, 3)
  else (cnt a calm seen, 0)
def Mo.Ok (a : Mo) : Prop := a.m < 4 ∧ a.s < 65536 ∧ a.c < 256 ∧ a.n < 256 ∧ a.d < 256
theorem upM_le {n most : Nat} (h : n ≤ most) : upM n most ≤ most := by unfold upM; split <;> omega
theorem cnt_ok {a : Mo} (h : a.Ok) (calm seen : Bool) : (cnt a calm seen).Ok := by
  obtain ⟨h1, h2, h3, h4, h5⟩ := h
  have k2 := upM_le (show a.s ≤ 65535 by omega)
  have k3 := upM_le (show a.c ≤ 255 by omega)
  have k4 := upM_le (show a.n ≤ 255 by omega)
  have k5 := upM_le (show a.d ≤ 255 by omega)
  refine ⟨h1, by show upM a.s 65535 < 65536; omega, ?_, ?_, ?_⟩ <;> simp only [cnt] <;> split <;> omega
theorem step_ok {a : Mo} (h : a.Ok) (c : Cf) (calm seen safe : Bool) : (stepM a c calm seen safe).1.Ok := by
  have hz : moZ.Ok := by unfold Mo.Ok moZ; decide
  have hs : moS.Ok := by unfold Mo.Ok moS; decide
  have hc := cnt_ok h calm seen
  unfold stepM
  split
  · exact hz
  split
  · exact hs
  split
  · exact hs
  split
  · exact hz
  · exact hc
/-- What a cycle can do to the mode. -/
theorem step_plays (a : Mo) (c : Cf) (calm seen safe : Bool) : (a.m = 0 → (stepM a c calm seen safe).1.m = 0) ∧ ((stepM a c calm seen safe).1.m = 3 → a.m = 3) ∧ (safe = true → (stepM a c calm seen safe).1.m = 0) ∧ ((stepM a c calm seen safe).2 ≠ 0 ↔ (stepM a c calm seen safe).1.m ≠ a.m) := by
  unfold stepM
  have hm : (cnt a calm seen).m = a.m := rfl
  split
  · rename_i h
    refine ⟨fun _ => rfl, fun h3 => by simp [moZ] at h3, fun _ => rfl, ?_⟩
    simp [moZ]; omega
  rename_i h0
  have hz : safe = true → a.m = 0 := fun hs => by
    rcases Nat.eq_zero_or_pos a.m with e | e
    · exact e
    · exact absurd ⟨hs, e⟩ h0
  split
  · rename_i h
    refine ⟨fun e => by omega, fun h3 => by simp [moS] at h3, fun hs => by have := hz hs; omega, ?_⟩
    simp [moS]; omega
  split
  · rename_i h
    refine ⟨fun e => by omega, fun h3 => by simp [moS] at h3, fun hs => by have := hz hs; omega, ?_⟩
    simp [moS]; omega
  split
  · rename_i h
    refine ⟨fun e => rfl, fun h3 => by simp [moZ] at h3, fun hs => rfl, ?_⟩
    simp [moZ]; omega
  · refine ⟨fun e => by rw [hm]; exact e, fun h3 => by rw [hm] at h3; exact h3, fun hs => by rw [hm]; exact hz hs, ?_⟩
    simp [hm]
/-- Safe, or the sun was seen as long as is asked. -/
def doneM (a : Mo) (c : Cf) : Prop := a.m = 0 ∨ (a.m = 2 ∧ c.seen ≤ a.n)
/-- How many cycles are left at most. -/
def leftM (a : Mo) (c : Cf) : Nat := if a.m = 1 then (c.t 1 - a.s) + c.t 2 else if a.m = 2 then c.t 2 - a.s else 0
/-- On the way: detumbling or searching, the timeout not reached. -/
def onM (a : Mo) (c : Cf) : Prop := (a.m = 1 ∧ a.s < c.t 1) ∨ (a.m = 2 ∧ a.s < c.t 2)
theorem step_left {a : Mo} {c : Cf} (calm seen : Bool) (h1 : 0 < c.t 1) (h2 : 0 < c.t 2) (ht1 : c.t 1 ≤ 60) (ht2 : c.t 2 ≤ 60) (h : onM a c) : doneM (stepM a c calm seen false).1 c ∨ (onM (stepM a c calm seen false).1 c ∧ leftM (stepM a c calm seen false).1 c < leftM a c) := by
  have hs : (cnt a calm seen).s = a.s + 1 := by
    show upM a.s 65535 = _
    unfold upM
    rcases h with h | h <;> rw [if_pos (by omega)]
  have hm : (cnt a calm seen).m = a.m := rfl
  unfold stepM
  rw [if_neg (by simp)]
  split
  · rename_i g
    right
    have e : a.m = 1 := g.1
    refine ⟨.inr ⟨rfl, h2⟩, ?_⟩
    unfold leftM
    rw [if_pos e, if_neg (by simp [moS]), if_pos (show (moS, 2).1.m = 2 from rfl)]
    rcases h with h | h
    · show c.t 2 - 0 < _; omega
    · omega
  split
  · rename_i g; rcases h with h | h <;> omega
  split
  · exact .inl (.inl rfl)
  · rename_i g1 g2 g3
    rcases h with h | h
    · have e := h.1
      right
      rw [e] at g3
      have h3 : ¬ c.t 1 ≤ a.s + 1 := fun hh => g3 ⟨.inl rfl, h1, by rw [hs]; exact hh⟩
      refine ⟨.inl ⟨by rw [hm, e], by rw [hs]; omega⟩, ?_⟩
      unfold leftM
      rw [hm, if_pos e, if_pos e, hs]
      omega
    · have e := h.1
      by_cases hd : c.seen ≤ (cnt a calm seen).n
      · exact .inl (.inr ⟨by rw [hm, e], hd⟩)
      · right
        rw [e] at g3
        have h3 : ¬ c.t 2 ≤ a.s + 1 := fun hh => g3 ⟨.inr ⟨rfl, by omega⟩, h2, by rw [hs]; exact hh⟩
        refine ⟨.inr ⟨by rw [hm, e], by rw [hs]; omega⟩, ?_⟩
        unfold leftM
        rw [hm, if_neg (by omega), if_pos e, if_neg (by omega), if_pos e, hs]
        omega
theorem on_left {a : Mo} {c : Cf} (h : onM a c) : 0 < leftM a c := by
  unfold leftM
  rcases h with h | h
  · rw [if_pos h.1]; omega
  · rw [if_neg (by omega), if_pos h.1]; omega
/-- What the ground may ask for. -/
def mayM (a : Mo) (c : Cf) (m : Nat) : Prop := (m = 1 ∧ a.m = 0) ∨ (m = 2 ∧ (a.m = 1 ∨ a.m = 3)) ∨ (m = 3 ∧ a.m = 2 ∧ c.seen ≤ a.n)
instance (a : Mo) (c : Cf) (m : Nat) : Decidable (mayM a c m) := by unfold mayM; exact inferInstance
/-- The errors' numbers are given: ea (no such mode), es (not from here). -/
def askM (ea es : Nat) (a : Mo) (c : Cf) (m : Nat) : Mo × Nat :=
  if m = 0 then (moZ, 0) else if 3 < m then (a, ea) else if m = a.m then (a, 0) else if mayM a c m then (⟨m, 0, 0, 0, 0⟩, 0) else (a, es)
theorem ask_ok {a : Mo} (h : a.Ok) (ea es : Nat) (c : Cf) (m : Nat) : (askM ea es a c m).1.Ok := by
  unfold askM
  split
  · unfold Mo.Ok moZ; decide
  split
  · exact h
  split
  · exact h
  split
  · exact ⟨by show m < 4; omega, by show 0 < 65536; decide, by show 0 < 256; decide, by show 0 < 256; decide, by show 0 < 256; decide⟩
  · exact h
theorem ask_err (ea es : Nat) (a : Mo) (c : Cf) (m : Nat) (h : (askM ea es a c m).2 ≠ 0) : (askM ea es a c m).1 = a := by
  unfold askM at h ⊢
  split
  · rename_i g; rw [if_pos g] at h; exact absurd rfl h
  rename_i g0
  rw [if_neg g0] at h
  split
  · rfl
  rename_i g1
  rw [if_neg g1] at h
  split
  · rfl
  rename_i g2
  rw [if_neg g2] at h
  split
  · rename_i g3; rw [if_pos g3] at h; exact absurd rfl h
  · rfl
theorem ask_may {ea es : Nat} (he : es ≠ 0) (a : Mo) (c : Cf) (m : Nat) (h0 : m ≠ 0) (h4 : m < 4) : ((askM ea es a c m).2 = 0 ↔ (m = a.m ∨ mayM a c m)) ∧ ((askM ea es a c m).2 = 0 → (askM ea es a c m).1.m = m) ∧ ((askM ea es a c m).2 ≠ 0 → (askM ea es a c m).1 = a ∧ (askM ea es a c m).2 = es) ∧ (m = a.m → (askM ea es a c m).1 = a) := by
  unfold askM
  rw [if_neg h0, if_neg (by omega)]
  by_cases e : m = a.m
  · rw [if_pos e]
    exact ⟨⟨fun _ => .inl e, fun _ => rfl⟩, fun _ => e.symm, fun h => absurd rfl h, fun _ => rfl⟩
  · rw [if_neg e]
    by_cases g : mayM a c m
    · rw [if_pos g]
      exact ⟨⟨fun _ => .inr g, fun _ => rfl⟩, fun _ => rfl, fun h => absurd rfl h, fun h => absurd h e⟩
    · rw [if_neg g]
      refine ⟨⟨fun h => absurd h he, fun h => ?_⟩, fun h => absurd h he, fun _ => ⟨rfl, rfl⟩, fun _ => rfl⟩
      rcases h with h | h
      · exact absurd h e
      · exact absurd h g
/-- Nominal is reached from nominal alone, or from the sun when the ground asks. -/
theorem ask_nominal {ea es : Nat} (a : Mo) (c : Cf) (m : Nat) (h : (askM ea es a c m).1.m = 3) : a.m = 3 ∨ m = 3 := by
  unfold askM at h
  split at h
  · simp [moZ] at h
  split at h
  · exact .inl h
  split at h
  · exact .inl h
  split at h
  · exact .inr h
  · exact .inl h
end Go.Proofs.Ytnjkpamjjdkmoaa
