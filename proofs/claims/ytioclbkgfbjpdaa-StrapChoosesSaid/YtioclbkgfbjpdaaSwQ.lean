/- Layer 18: the tables that the search makes, role by role from the last one (pure). -/
import Derived.Test.YtioclbkgfbjpdaaSwP
namespace Go.Proofs.Ytioclbkgfbjpdaa
open Bs
set_option linter.unusedVariables false
set_option linter.unusedSimpArgs false
/-- May a unit take a role? Is it linked? -/
def vOf (al : Nat → Nat) (r u : Nat) : Bool := has (al r) u
def lOf (lk : Nat → Nat) (p u : Nat) : Bool := has (lk p) u
/-- The ways from a place, once all behind it are known. -/
def placeP (al lk : Nat → Nat) (near : Nat → Int) (R r u : Nat) : Wy :=
  if vOf al r u = true ∧ 0 < (fromP (vOf al) (lOf lk) near (R - (r + 1)) (r + 1) (lOf lk u)).n then (fromP (vOf al) (lOf lk) near (R - (r + 1)) (r + 1) (lOf lk u)).with r u near else Wy.zero
theorem foldW_map (F : Nat → Nat → Wy) (r : Nat) (l : List Nat) : foldW F r l = sumW (l.map (F r)) := by
  unfold foldW sumW
  rw [List.foldl_map]
/-- A table that knows role r tells its ways. -/
theorem fromW_fromP {F : Nat → Nat → Wy} {al lk : Nat → Nat} {near : Nat → Int} {R r : Nat} (hr : r ≤ R) (h : r < R → ∀ u, u < 16 → F r u = placeP al lk near R r u) (s : Nat) : fromW F R r s = fromP (vOf al) (lOf lk) near (R - r) r (has s) := by
  by_cases e : r = R
  · subst e
    unfold fromW
    rw [if_pos rfl, Nat.sub_self]
    rfl
  · have hlt : r < R := by omega
    unfold fromW
    rw [if_neg e, foldW_map, show R - r = (R - (r + 1)) + 1 by omega]
    show _ = sumW (((List.range 16).filter (has s)).map fun u => _)
    congr 1
    refine List.map_congr_left fun u hu => ?_
    have hu16 : u < 16 := List.mem_range.1 (List.mem_filter.1 hu).1
    rw [h hlt u hu16]
    rfl
/-- One unit more. -/
def unitStep (lk : Nat → Nat) (near : Nat → Int) (R r : Nat) (F : Nat → Nat → Wy) (u : Nat) : Nat → Nat → Wy :=
  if 0 < (fromW F R (r + 1) (lk u)).n then updW F r u ((fromW F R (r + 1) (lk u)).with r u near) else F
def roleStep (lk : Nat → Nat) (near : Nat → Int) (R r : Nat) (F : Nat → Nat → Wy) (us : List Nat) : Nat → Nat → Wy := us.foldl (unitStep lk near R r) F
theorem fromW_congr {F G : Nat → Nat → Wy} {R r : Nat} (h : ∀ u, F r u = G r u) (s : Nat) : fromW F R r s = fromW G R r s := by
  unfold fromW
  split
  · rfl
  · rw [foldW_map, foldW_map, List.map_congr_left fun u _ => h u]
theorem unitStep_other {lk : Nat → Nat} {near : Nat → Int} {R r : Nat} {F : Nat → Nat → Wy} {u r' u' : Nat} (h : ¬ (r' = r ∧ u' = u)) : unitStep lk near R r F u r' u' = F r' u' := by
  unfold unitStep
  split
  · simp only [updW, if_neg h]
  · rfl
theorem roleStep_other {lk : Nat → Nat} {near : Nat → Int} {R r r' : Nat} (hr : r' ≠ r) : ∀ (us : List Nat) (F : Nat → Nat → Wy) (u' : Nat), roleStep lk near R r F us r' u' = F r' u'
  | [], _, _ => rfl
  | u :: us, F, u' => by
    show roleStep lk near R r (unitStep lk near R r F u) us r' u' = _
    rw [roleStep_other hr us, unitStep_other (fun h => hr h.1)]
theorem roleStep_at {lk : Nat → Nat} {near : Nat → Int} {R r : Nat} : ∀ (us : List Nat) (F : Nat → Nat → Wy) (u : Nat), us.Nodup → F r u = Wy.zero → roleStep lk near R r F us r u = if u ∈ us ∧ 0 < (fromW F R (r + 1) (lk u)).n then (fromW F R (r + 1) (lk u)).with r u near else Wy.zero
  | [], F, u, _, hz => by simpa [roleStep] using hz
  | v :: us, F, u, hn, hz => by
    obtain ⟨hv, hn'⟩ := List.nodup_cons.1 hn
    have hcg : ∀ s, fromW (unitStep lk near R r F v) R (r + 1) s = fromW F R (r + 1) s := fun s => fromW_congr (fun u' => unitStep_other (fun h => by omega)) s
    show roleStep lk near R r (unitStep lk near R r F v) us r u = _
    by_cases e : u = v
    · subst e
      have hnot : ∀ (us : List Nat) (G : Nat → Nat → Wy), u ∉ us → roleStep lk near R r G us r u = G r u := by
        intro us
        induction us with
        | nil => intro G _; rfl
        | cons x us ih =>
          intro G hx
          show roleStep lk near R r (unitStep lk near R r G x) us r u = _
          rw [ih _ (fun h => hx (by simp [h])), unitStep_other (fun h => hx (by simp [h.2]))]
      rw [hnot us _ hv]
      unfold unitStep
      by_cases hp : 0 < (fromW F R (r + 1) (lk u)).n
      · rw [if_pos hp, if_pos ⟨by simp, hp⟩]
        simp [updW]
      · rw [if_neg hp, if_neg (fun h => hp h.2)]
        exact hz
    · rw [roleStep_at us _ u hn' (by rw [unitStep_other (fun h => e h.2)]; exact hz), hcg]
      simp [e]
/-- The tables, role by role from the last one. -/
def tabW (al lk : Nat → Nat) (near : Nat → Int) (R : Nat) : Nat → Nat → Nat → Wy
  | 0 => fun _ _ => Wy.zero
  | k + 1 => roleStep lk near R (R - (k + 1)) (tabW al lk near R k) (upTo (al (R - (k + 1))) 16)
theorem upTo_nodup (s : Nat) : (upTo s 16).Nodup := List.Nodup.sublist (List.filter_sublist) List.nodup_range
theorem upTo_mem {s u : Nat} (h : u < 16) : u ∈ upTo s 16 ↔ has s u = true := by
  unfold upTo
  rw [List.mem_filter, List.mem_range]
  exact ⟨fun h => h.2, fun h' => ⟨h, h'⟩⟩
theorem tabW_at (al lk : Nat → Nat) (near : Nat → Int) (R : Nat) : ∀ k, k ≤ R → (∀ r u, r < R - k → tabW al lk near R k r u = Wy.zero) ∧ ∀ r u, R - k ≤ r → r < R → u < 16 → tabW al lk near R k r u = placeP al lk near R r u
  | 0, _ => ⟨fun _ _ _ => rfl, fun r u h1 h2 _ => by omega⟩
  | k + 1, hk => by
    obtain ⟨hz, hp⟩ := tabW_at al lk near R k (by omega)
    refine ⟨fun r u hr => ?_, fun r u h1 h2 hu => ?_⟩
    · show roleStep lk near R (R - (k + 1)) _ _ r u = _
      rw [roleStep_other (by omega)]
      exact hz r u (by omega)
    · show roleStep lk near R (R - (k + 1)) _ _ r u = _
      by_cases e : r = R - (k + 1)
      · subst e
        rw [roleStep_at _ _ _ (upTo_nodup _) (hz _ _ (by omega))]
        rw [fromW_fromP (al := al) (lk := lk) (near := near) (by omega) (fun h u hu => hp _ u (by omega) h hu)]
        unfold placeP
        have hm : u ∈ upTo (al (R - (k + 1))) 16 ↔ vOf al (R - (k + 1)) u = true := upTo_mem hu
        simp only [hm]
        rfl
      · rw [roleStep_other e]
        exact hp r u (by omega) h2 hu
/-- What the search finds. -/
theorem found (al lk : Nat → Nat) (near : Nat → Int) (R s : Nat) : fromW (tabW al lk near R R) R 0 s = fromP (vOf al) (lOf lk) near R 0 (has s) := by
  rw [fromW_fromP (al := al) (lk := lk) (near := near) (Nat.zero_le _) (fun h u hu => (tabW_at al lk near R R (Nat.le_refl _)).2 0 u (by omega) h hu)]
  rfl
end Go.Proofs.Ytioclbkgfbjpdaa
