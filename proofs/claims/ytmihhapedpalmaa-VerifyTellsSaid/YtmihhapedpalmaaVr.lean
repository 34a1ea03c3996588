/- Layer 12: rows of kinds that come in; the law's table of them. -/
import Derived.Test.YtmihhapedpalmaaVfT
import Derived.Test.YtmihhapedpalmaaFlat
import Derived.Test.YtmihhapedpalmaaKeep
namespace Go.Proofs.Ytmihhapedpalmaa
open Go.RowKit Go.Own Go.Maps
set_option linter.unusedVariables false
set_option linter.unusedSimpArgs false
/-- A row: a kind, and how many bytes it has. -/
structure Rw where
  s : Nat
  u : Nat
  p : Int
  q : Int
def rw0 : Rw := ⟨0, 0, 0, 0⟩
def Rw.cs (r : Rw) : List Value := [.int .u8 (r.s : Nat), .int .u8 (r.u : Nat), .int .i64 r.p, .int .i64 r.q]
theorem Rw.len (r : Rw) : r.cs.length = 4 := rfl
def rwl (l : List Rw) : List Value := l.flatMap Rw.cs
theorem rwl_len (l : List Rw) : (rwl l).length = l.length * 4 := by
  induction l with
  | nil => rfl
  | cons x r ih => simp only [rwl, List.flatMap_cons, List.length_append, Rw.len, List.length_cons] at ih ⊢; omega
theorem rwl_at (l : List Rw) : ∀ (i : Nat), i < l.length → ∀ j, j < 4 → (rwl l)[i * 4 + j]? = (l.getD i rw0).cs[j]? := by
  induction l with
  | nil => intro i hi; simp at hi
  | cons x r ih =>
    intro i hi j hj
    have e : rwl (x :: r) = x.cs ++ rwl r := by simp [rwl]
    rw [e]
    rcases Nat.eq_zero_or_pos i with h0 | h0
    · subst h0
      rw [List.getElem?_append_left (by rw [Rw.len]; omega)]
      simp
    · obtain ⟨k, rfl⟩ : ∃ k, i = k + 1 := ⟨i - 1, by omega⟩
      rw [List.getElem?_append_right (by rw [Rw.len]; omega), Rw.len, show (k + 1) * 4 + j - 4 = k * 4 + j by omega, ih k (by simpa using hi) j hj]
      simp
/-- What a row may be. -/
def RwOk (l : List Rw) : Prop := ∀ r ∈ l, r.s < 256 ∧ r.u < 256
theorem RwOk.at {l : List Rw} (h : RwOk l) {k : Nat} (hk : k < l.length) : (l.getD k rw0).s < 256 ∧ (l.getD k rw0).u < 256 := by
  refine h _ ?_
  unfold List.getD
  rw [List.getElem?_eq_getElem hk]
  exact List.getElem_mem _
/-- Rows in memory. -/
structure RwS (lo n : Nat) (w : World) (a : Option Addr) (cap : Nat) (l : List Rw) : Prop where
  le : l.length ≤ cap
  top : cap ≤ maxLen
  at_ : 0 < l.length → ∃ b off, a = some ⟨b, off, none⟩ ∧ lo ≤ b ∧ b < n ∧ ∀ i, i < l.length → ∀ j v, (l.getD i rw0).cs[j]? = some v → w.cell? ⟨b, off + i * 4 + j, none⟩ = some v
theorem RwS.below {lo n : Nat} {w w' : World} {a : Option Addr} {cap k : Nat} {l : List Rw} (h : RwS lo n w a cap l) (hb : Below k w w') (hk : n ≤ k) : RwS lo n w' a cap l :=
  ⟨h.le, h.top, fun hl => by
    obtain ⟨b, off, e, hlo, hlt, hc⟩ := h.at_ hl
    exact ⟨b, off, e, hlo, hlt, fun i hi j v hv => (hb.cell (p := ⟨b, off + i * 4 + j, none⟩) (Nat.lt_of_lt_of_le hlt hk)).trans (hc i hi j v hv)⟩⟩
theorem fit_consV {w : World} {k : Leaf} {ks : List Leaf} {cs : List Value} (h : Fit w (k :: ks) cs) : ∃ v vs, cs = v :: vs ∧ k.fits w v ∧ Fit w ks vs := by
  cases cs with
  | nil => exact h.elim
  | cons v vs => exact ⟨v, vs, rfl, h.1, h.2⟩
theorem fit_nilV {w : World} {cs : List Value} (h : Fit w [] cs) : cs = [] := by
  cases cs with
  | nil => rfl
  | cons v vs => exact h.elim
theorem rws_flat {w : World} {a : Option Addr} {len cap m : Nat} (h : IsFlat [.int .u8, .int .u8, .int .i64, .int .i64] w a len cap) (hm : m ≤ len) : ∃ l : List Rw, l.length = m ∧ RwOk l ∧ RwS 0 w.heap.size w a cap l := by
  obtain ⟨h1, h2, _, h4⟩ := h
  by_cases h0 : 0 < len
  · obtain ⟨b, off, e, hb, hx⟩ := h4 h0
    have each : ∀ i, i < len → ∃ r : Rw, (r.s < 256 ∧ r.u < 256) ∧ ∀ j v, r.cs[j]? = some v → w.cell? ⟨b, off + i * 4 + j, none⟩ = some v := by
      intro i hi
      obtain ⟨cs, hf, hc⟩ := hx i hi
      obtain ⟨_, v1, rfl, ⟨z0, rfl, k0⟩, h1⟩ := fit_consV hf
      obtain ⟨_, v2, rfl, ⟨z1, rfl, k1⟩, h2⟩ := fit_consV h1
      obtain ⟨_, v3, rfl, ⟨z2, rfl, k2⟩, h3⟩ := fit_consV h2
      obtain ⟨_, v4, rfl, ⟨z3, rfl, k3⟩, h4⟩ := fit_consV h3
      obtain rfl := fit_nilV h4
      have b0 := bounds_u8 k0
      have b1 := bounds_u8 k1
      obtain ⟨s, rfl⟩ := Int.eq_ofNat_of_zero_le b0.1
      obtain ⟨u, rfl⟩ := Int.eq_ofNat_of_zero_le b1.1
      exact ⟨⟨s, u, z2, z3⟩, ⟨show s < 256 by omega, show u < 256 by omega⟩, hc⟩
    have ex : ∃ f : Nat → Rw, ∀ i, i < len → ((f i).s < 256 ∧ (f i).u < 256) ∧ ∀ j v, (f i).cs[j]? = some v → w.cell? ⟨b, off + i * 4 + j, none⟩ = some v :=
      ⟨fun i => if hi : i < len then Classical.choose (each i hi) else rw0, fun i hi => by simp only [dif_pos hi]; exact Classical.choose_spec (each i hi)⟩
    obtain ⟨f, hf⟩ := ex
    have hg : ∀ i, i < m → ((List.range m).map f).getD i rw0 = f i := fun i hi => by simp [List.getD, hi]
    refine ⟨(List.range m).map f, by simp, fun r hr => ?_, ⟨by simp; omega, h2, fun _ => ⟨b, off, e, Nat.zero_le _, hb, fun i hi j v hv => ?_⟩⟩⟩
    · obtain ⟨i, hi, rfl⟩ := List.mem_map.1 hr
      exact (hf i (by have := List.mem_range.1 hi; omega)).1
    · have hi' : i < m := by simpa using hi
      rw [hg i hi'] at hv
      exact (hf i (by omega)).2 j v hv
  · exact ⟨[], by simp; omega, fun r hr => absurd hr (by simp), ⟨Nat.zero_le _, h2, fun h => absurd h (by simp)⟩⟩
theorem rws_own {w : World} {base m : Nat} {a : Option Addr} {c : Nat} {l : List Rw} (h : w.ownsRow base 84 4 (.slice a m c) m (rwl l)) (hl : l.length = m) : RwS base w.heap.size w a c l := by
  rcases h.2 with ⟨hv, hx⟩ | ⟨g, cap, cur, hv, hb, hg, hn, hm, hs, ht⟩
  · injection hv with h1 h2 h3
    refine ⟨by omega, by rw [h3]; exact Nat.zero_le _, fun h => by omega⟩
  · simp only [Value.slice.injEq] at hv
    obtain ⟨rfl, _, rfl⟩ := hv
    refine ⟨by omega, hm, fun _ => ⟨g, 0, rfl, hb, box_lt hg, fun i hi j v hv => ?_⟩⟩
    have hj : j < 4 := (List.getElem?_eq_some_iff.1 hv).1
    rw [cell_of_row w g (0 + i * 4 + j) _ _ _ hg]
    have e := rwl_at l i hi j hj
    rw [hv, ← ht, List.getElem?_take, if_pos (by omega)] at e
    simpa using e
theorem RwS.kept {lo n b : Nat} {w w' : World} {a : Option Addr} {cap : Nat} {l : List Rw} (h : RwS lo n w a cap l) (hg : w.grownBy w' (some b)) (hn : n ≤ w.heap.size) (hb : b < lo) : RwS lo n w' a cap l :=
  ⟨h.le, h.top, fun hl => by
    obtain ⟨x, off, e, hlo, hlt, hc⟩ := h.at_ hl
    exact ⟨x, off, e, hlo, hlt, fun i hi j v hv => (World.cell?_of_block (a := ⟨x, off + i * 4 + j, none⟩) (hg.block x (by omega) (fun e => by injection e with e; omega))).trans (hc i hi j v hv)⟩⟩
/-- The table of some rows: the last one of a kind counts. -/
def tabL (l : List Rw) : Nat → Nat → Option (Int × Int) := l.foldl (fun T r => updT T r.s r.u (r.p, r.q)) (fun _ _ => none)
theorem tabL_snoc (l : List Rw) (r : Rw) : tabL (l ++ [r]) = updT (tabL l) r.s r.u (r.p, r.q) := by simp [tabL]
theorem tabL_some (l : List Rw) (s u : Nat) : (tabL l s u).isSome = true ↔ ∃ r ∈ l, r.s = s ∧ r.u = u := by
  have k : ∀ (l : List Rw) (T : Nat → Nat → Option (Int × Int)), (l.foldl (fun T r => updT T r.s r.u (r.p, r.q)) T s u).isSome = true ↔ (∃ r ∈ l, r.s = s ∧ r.u = u) ∨ (T s u).isSome = true := by
    intro l
    induction l with
    | nil => intro T; simp
    | cons x l ih =>
      intro T
      rw [List.foldl_cons, ih]
      unfold updT
      by_cases e : s = x.s ∧ u = x.u
      · rw [if_pos e]
        simp [e.1, e.2]
      · rw [if_neg e]
        constructor
        · rintro (⟨r, hr, h1, h2⟩ | h)
          · exact .inl ⟨r, by simp [hr], h1, h2⟩
          · exact .inr h
        · rintro (⟨r, hr, h1, h2⟩ | h)
          · rcases List.mem_cons.1 hr with rfl | hr
            · exact absurd ⟨h1.symm, h2.symm⟩ e
            · exact .inl ⟨r, hr, h1, h2⟩
          · exact .inr h
  have := k l (fun _ _ => none)
  simpa [tabL] using this
theorem tabL_knows {l : List Rw} (h : RwOk l) (s : Nat) : KnowsT (tabL l) s ↔ ∃ r ∈ l, r.s = s := by
  unfold KnowsT
  constructor
  · rintro ⟨u, hu, hs⟩
    obtain ⟨r, hr, h1, _⟩ := (tabL_some l s u).1 hs
    exact ⟨r, hr, h1⟩
  · rintro ⟨r, hr, h1⟩
    exact ⟨r.u, (h r hr).2, (tabL_some l s r.u).2 ⟨r, hr, h1, rfl⟩⟩
end Go.Proofs.Ytmihhapedpalmaa
