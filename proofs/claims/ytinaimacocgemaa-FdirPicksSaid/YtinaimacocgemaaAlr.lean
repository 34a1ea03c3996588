/- Layer 22: rows of alarms. -/
import Derived.Test.YtinaimacocgemaaSrtd
import Derived.Test.YtinaimacocgemaaFlat
import Derived.Test.YtinaimacocgemaaKeep
import Derived.Test.YtinaimacocgemaaFd4
import Derived.Test.YtinaimacocgemaaLaw22
namespace Go.Proofs.Ytinaimacocgemaa
open Go.RowKit Go.Own
set_option linter.unusedVariables false
set_option linter.unusedSimpArgs false
def al0 : Al := ⟨0, 0, 0⟩
def alrl (l : List Al) : List Value := l.flatMap Al.cs
theorem alrl_len (l : List Al) : (alrl l).length = l.length * 3 := by
  induction l with
  | nil => rfl
  | cons x r ih => simp only [alrl, List.flatMap_cons, List.length_append, Al.len, List.length_cons] at ih ⊢; omega
theorem alrl_at (l : List Al) : ∀ (i : Nat), i < l.length → ∀ j, j < 3 → (alrl l)[i * 3 + j]? = (l.getD i al0).cs[j]? := by
  induction l with
  | nil => intro i hi; simp at hi
  | cons x r ih =>
    intro i hi j hj
    have e : alrl (x :: r) = x.cs ++ alrl r := by simp [alrl]
    rw [e]
    rcases Nat.eq_zero_or_pos i with h0 | h0
    · subst h0
      rw [List.getElem?_append_left (by rw [Al.len]; omega)]
      simp
    · obtain ⟨k, rfl⟩ : ∃ k, i = k + 1 := ⟨i - 1, by omega⟩
      rw [List.getElem?_append_right (by rw [Al.len]; omega), Al.len, show (k + 1) * 3 + j - 3 = k * 3 + j by omega, ih k (by simpa using hi) j hj]
      simp
/-- What a row may be. -/
def AlOk (l : List Al) : Prop := ∀ r ∈ l, r.l < 256 ∧ r.e < 256 ∧ (Lit.int .i64 r.u).wf = true
theorem AlOk.at {l : List Al} (h : AlOk l) {k : Nat} (hk : k < l.length) : (l.getD k al0).l < 256 ∧ (l.getD k al0).e < 256 ∧ (Lit.int .i64 (l.getD k al0).u).wf = true := by
  refine h _ ?_
  unfold List.getD
  rw [List.getElem?_eq_getElem hk]
  exact List.getElem_mem _
/-- Rows in memory. -/
structure AlS (lo n : Nat) (w : World) (a : Option Addr) (cap : Nat) (l : List Al) : Prop where
  le : l.length ≤ cap
  top : cap ≤ maxLen
  at_ : 0 < l.length → ∃ b off, a = some ⟨b, off, none⟩ ∧ lo ≤ b ∧ b < n ∧ ∀ i, i < l.length → ∀ j v, (l.getD i al0).cs[j]? = some v → w.cell? ⟨b, off + i * 3 + j, none⟩ = some v
theorem AlS.below {lo n : Nat} {w w' : World} {a : Option Addr} {cap k : Nat} {l : List Al} (h : AlS lo n w a cap l) (hb : Below k w w') (hk : n ≤ k) : AlS lo n w' a cap l :=
  ⟨h.le, h.top, fun hl => by
    obtain ⟨b, off, e, hlo, hlt, hc⟩ := h.at_ hl
    exact ⟨b, off, e, hlo, hlt, fun i hi j v hv => (hb.cell (p := ⟨b, off + i * 3 + j, none⟩) (Nat.lt_of_lt_of_le hlt hk)).trans (hc i hi j v hv)⟩⟩
theorem fit_consV {w : World} {k : Leaf} {ks : List Leaf} {cs : List Value} (h : Fit w (k :: ks) cs) : ∃ v vs, cs = v :: vs ∧ k.fits w v ∧ Fit w ks vs := by
  cases cs with
  | nil => exact h.elim
  | cons v vs => exact ⟨v, vs, rfl, h.1, h.2⟩
theorem fit_nilV {w : World} {cs : List Value} (h : Fit w [] cs) : cs = [] := by
  cases cs with
  | nil => rfl
  | cons v vs => exact h.elim
theorem als_flat {w : World} {a : Option Addr} {len cap m : Nat} (h : IsFlat [.int .u8, .int .i64, .int .u8] w a len cap) (hm : m ≤ len) : ∃ l : List Al, l.length = m ∧ AlOk l ∧ AlS 0 w.heap.size w a cap l := by
  obtain ⟨h1, h2, _, h4⟩ := h
  by_cases h0 : 0 < len
  · obtain ⟨b, off, e, hb, hx⟩ := h4 h0
    have each : ∀ i, i < len → ∃ r : Al, (r.l < 256 ∧ r.e < 256 ∧ (Lit.int .i64 r.u).wf = true) ∧ ∀ j v, r.cs[j]? = some v → w.cell? ⟨b, off + i * 3 + j, none⟩ = some v := by
      intro i hi
      obtain ⟨cs, hf, hc⟩ := hx i hi
      obtain ⟨_, v1, rfl, ⟨z0, rfl, k0⟩, h1⟩ := fit_consV hf
      obtain ⟨_, v2, rfl, ⟨z1, rfl, k1⟩, h2⟩ := fit_consV h1
      obtain ⟨_, v3, rfl, ⟨z2, rfl, k2⟩, h3⟩ := fit_consV h2
      obtain rfl := fit_nilV h3
      have b0 := bounds_u8 k0
      have b2 := bounds_u8 k2
      obtain ⟨s, rfl⟩ := Int.eq_ofNat_of_zero_le b0.1
      obtain ⟨u, rfl⟩ := Int.eq_ofNat_of_zero_le b2.1
      exact ⟨⟨s, z1, u⟩, ⟨show s < 256 by omega, show u < 256 by omega, k1⟩, hc⟩
    have ex : ∃ f : Nat → Al, ∀ i, i < len → ((f i).l < 256 ∧ (f i).e < 256 ∧ (Lit.int .i64 (f i).u).wf = true) ∧ ∀ j v, (f i).cs[j]? = some v → w.cell? ⟨b, off + i * 3 + j, none⟩ = some v :=
      ⟨fun i => if hi : i < len then Classical.choose (each i hi) else al0, fun i hi => by simp only [dif_pos hi]; exact Classical.choose_spec (each i hi)⟩
    obtain ⟨f, hf⟩ := ex
    have hg : ∀ i, i < m → ((List.range m).map f).getD i al0 = f i := fun i hi => by simp [List.getD, hi]
    refine ⟨(List.range m).map f, by simp, fun r hr => ?_, ⟨by simp; omega, h2, fun _ => ⟨b, off, e, Nat.zero_le _, hb, fun i hi j v hv => ?_⟩⟩⟩
    · obtain ⟨i, hi, rfl⟩ := List.mem_map.1 hr
      exact (hf i (by have := List.mem_range.1 hi; omega)).1
    · have hi' : i < m := by simpa using hi
      rw [hg i hi'] at hv
      exact (hf i (by omega)).2 j v hv
  · exact ⟨[], by simp; omega, fun r hr => absurd hr (by simp), ⟨Nat.zero_le _, h2, fun h => absurd h (by simp)⟩⟩
theorem als_own {w : World} {base m : Nat} {a : Option Addr} {c : Nat} {l : List Al} {t : TypeId} (h : w.ownsRow base t 3 (.slice a m c) m (alrl l)) (hl : l.length = m) : AlS base w.heap.size w a c l := by
  rcases h.2 with ⟨hv, hx⟩ | ⟨g, cap, cur, hv, hb, hg, hn, hm, hs, ht⟩
  · injection hv with h1 h2 h3
    refine ⟨by omega, by rw [h3]; exact Nat.zero_le _, fun h => by omega⟩
  · simp only [Value.slice.injEq] at hv
    obtain ⟨rfl, _, rfl⟩ := hv
    refine ⟨by omega, hm, fun _ => ⟨g, 0, rfl, hb, box_lt hg, fun i hi j v hv => ?_⟩⟩
    have hj : j < 3 := (List.getElem?_eq_some_iff.1 hv).1
    rw [cell_of_row w g (0 + i * 3 + j) _ _ _ hg]
    have e := alrl_at l i hi j hj
    rw [hv, ← ht, List.getElem?_take, if_pos (by omega)] at e
    simpa using e
theorem AlS.kept {lo n b : Nat} {w w' : World} {a : Option Addr} {cap : Nat} {l : List Al} (h : AlS lo n w a cap l) (hg : w.grownBy w' (some b)) (hn : n ≤ w.heap.size) (hb : b < lo) : AlS lo n w' a cap l :=
  ⟨h.le, h.top, fun hl => by
    obtain ⟨x, off, e, hlo, hlt, hc⟩ := h.at_ hl
    exact ⟨x, off, e, hlo, hlt, fun i hi j v hv => (World.cell?_of_block (a := ⟨x, off + i * 3 + j, none⟩) (hg.block x (by omega) (fun e => by injection e with e; omega))).trans (hc i hi j v hv)⟩⟩
end Go.Proofs.Ytinaimacocgemaa
