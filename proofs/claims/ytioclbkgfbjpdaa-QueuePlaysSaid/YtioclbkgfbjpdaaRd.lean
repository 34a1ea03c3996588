/- What a slice reads as, whatever its address. Of whatever program. -/
import Derived.WalkKit
import Derived.Below
import Derived.Laws.AppendOwn
import Derived.Laws.AppendOwnNone
import Derived.Laws.Rows
namespace Go.Own
open Go.RowKit
set_option linter.unusedVariables false

/-- The slice (a, len, cap) holds f 0, .., f (len - 1), in a block below n. -/
structure Rd (n : Nat) (w : World) (a : Option Addr) (len cap : Nat) (f : Nat → Value) : Prop where
  le : len ≤ cap
  top : cap ≤ maxLen
  nil_ : a = none → cap = 0
  row : 0 < len → ∃ b off, a = some ⟨b, off, none⟩ ∧ b < n ∧ ∀ i, i < len → w.cell? ⟨b, off + i, none⟩ = some (f i)

variable {n n' : Nat} {w w' : World} {a : Option Addr} {len cap : Nat} {f g : Nat → Value}

theorem Rd.none_ (n : Nat) (w : World) (f : Nat → Value) : Rd n w none 0 0 f := ⟨Nat.le_refl _, Nat.zero_le _, fun _ => rfl, fun h => absurd h (by omega)⟩
theorem Rd.at (h : Rd n w a len cap f) {k : Nat} (hk : k < len) : ∃ b off, a = some ⟨b, off, none⟩ ∧ b < n ∧ w.cell? ⟨b, off + k, none⟩ = some (f k) := by
  obtain ⟨b, off, e, hb, hc⟩ := h.row (by omega)
  exact ⟨b, off, e, hb, hc k hk⟩
theorem Rd.keep (h : Rd n w a len cap f) (hk : ∀ p : Addr, p.block < n → w'.cell? p = w.cell? p) : Rd n w' a len cap f :=
  ⟨h.le, h.top, h.nil_, fun hl => by
    obtain ⟨b, off, e, hb, hc⟩ := h.row hl
    exact ⟨b, off, e, hb, fun i hi => (hk _ hb).trans (hc i hi)⟩⟩
theorem Rd.below (h : Rd n w a len cap f) (hb : Below n w w') : Rd n w' a len cap f := h.keep fun _ hp => hb.cell hp
theorem Rd.below' {m : Nat} (h : Rd n w a len cap f) (hb : Below m w w') (hm : n ≤ m) : Rd n w' a len cap f := h.below (hb.mono hm)
theorem Rd.mono (h : Rd n w a len cap f) (hn : n ≤ n') : Rd n' w a len cap f :=
  ⟨h.le, h.top, h.nil_, fun hl => by
    obtain ⟨b, off, e, hb, hc⟩ := h.row hl
    exact ⟨b, off, e, by omega, hc⟩⟩
theorem Rd.same (h : Rd n w a len cap f) (hf : ∀ i, i < len → f i = g i) : Rd n w a len cap g :=
  ⟨h.le, h.top, h.nil_, fun hl => by
    obtain ⟨b, off, e, hb, hc⟩ := h.row hl
    exact ⟨b, off, e, hb, fun i hi => (hc i hi).trans (by rw [hf i hi])⟩⟩
/-- The first k, by whatever address. -/
theorem Rd.first (h : Rd n w a len cap f) {k : Nat} (hk : k ≤ len) : Rd n w a k cap f :=
  ⟨Nat.le_trans hk h.le, h.top, h.nil_, fun hl => by
    obtain ⟨b, off, e, hb, hc⟩ := h.row (by omega)
    exact ⟨b, off, e, hb, fun i hi => hc i (by omega)⟩⟩
/-- 's[:k]', as the model has its address. -/
theorem Rd.upto (h : Rd n w a len cap f) {k : Nat} (hk : k ≤ len) : Rd n w (if cap = 0 then a else a.map (·.add 0)) k cap f := by
  have e : (if cap = 0 then a else a.map (·.add 0)) = a := by
    split
    · rfl
    · cases a <;> simp [Addr.add]
  rw [e]
  exact h.first hk
/-- 's[k:]'. -/
theorem Rd.rest (h : Rd n w a len cap f) {k : Nat} (hk : k ≤ len) : Rd n w (if cap = k then a else a.map (·.add k)) (len - k) (cap - k) (fun i => f (k + i)) := by
  have hle := h.le
  have htop := h.top
  refine ⟨by omega, by omega, fun hn => ?_, fun hl => ?_⟩
  · split at hn
    · rename_i e; have := h.nil_ hn; omega
    · have : a = none := by cases a <;> simp at hn ⊢
      have := h.nil_ this; omega
  · obtain ⟨b, off, rfl, hb, hc⟩ := h.row (by omega)
    rw [if_neg (by omega)]
    refine ⟨b, off + k, ?_, hb, fun i hi => by rw [Nat.add_assoc]; exact hc (k + i) (by omega)⟩
    simp only [Option.map_some, Addr.add]
    split
    · rename_i e; subst e; rfl
    · rfl

/-- A row that came in. -/
theorem rd_of_row {k : IntKind} {zs : List Int} {x : Addr} (hl : len ≤ cap) (hm : cap ≤ maxLen) (hz : len ≤ zs.length) (hc : ∀ i, i < zs.length → w.cell? (x.add i) = some (.int k (zs.getD i 0))) :
    Rd w.heap.size w (some x) len cap (fun i => .int k (zs.getD i 0)) := by
  refine ⟨hl, hm, fun h => (by cases h), fun h => ?_⟩
  have h0 := hc 0 (by omega)
  obtain ⟨b, off, spot⟩ := x
  have hspot : spot = none := by simpa [Addr.add] using World.cell?_spot h0
  subst hspot
  refine ⟨b, off, rfl, ?_, fun i hi => ?_⟩
  · have := World.block_lt_of_cell? w _ h0
    simpa [Addr.add] using this
  · have := hc i (by omega)
    rw [← this]
    congr 1
    unfold Addr.add
    split
    · rename_i e; subst e; rfl
    · rfl

theorem own_form {base : Nat} {e : TypeId} {v : Value} {m : Nat} {xs : List Value} (h : w.ownsRow base e 1 v m xs) : ∃ a c, v = .slice a m c := by
  rcases h.2 with ⟨rfl, hx⟩ | ⟨g, cap, cur, rfl, _⟩
  · subst hx
    exact ⟨none, 0, rfl⟩
  · exact ⟨_, _, rfl⟩
theorem rd_of_own {base : Nat} {e : TypeId} {m c : Nat} {xs : List Value} (h : w.ownsRow base e 1 (.slice a m c) m xs) (hf : ∀ i, i < m → xs[i]? = some (f i)) : Rd w.heap.size w a m c f := by
  rcases h.2 with ⟨hv, hx⟩ | ⟨g, cap, cur, hv, hb, hg, hn, hm, hs, ht⟩
  · injection hv with h1 h2 h3
    subst h1 h2 h3
    exact Rd.none_ _ _ _
  · injection hv with h1 h2 h3
    subst h1 h3
    refine ⟨hn, hm, fun h => (by cases h), fun hl => ⟨g, 0, rfl, ?_, fun i hi => ?_⟩⟩
    · rcases Nat.lt_or_ge g w.heap.size with h' | h'
      · exact h'
      · rw [Array.getElem?_eq_none h'] at hg; cases hg
    · rw [Nat.zero_add, ← hf i hi]
      exact World.ownsRow.cellAt (w := w) (base := base) (e := e) (size := 1) h i (by omega)

section
variable {P : Program}
/-- Append of whatever reads, to a row of the call's own. -/
theorem wpList_app {ops : Array Oper} {rest : List Oper} {o : Oper} {ac : Act} {Q : Exit → Act → World → Prop} (hgd : o.guard = none) (s x : Operand) (t : TypeId)
    (ho : o.op = .call { callee := .builtin .append, args := #[s, x], argTypes := #[t, t] })
    (base : Nat) (e : TypeId) (i : TypeInfo) (z : Value) (bytes : Nat) (ht : P.underlying t = some (.slice e)) (hi : P.info? e = some i) (hz : i.zero = some z)
    (hsize : i.size = 1) (hby : i.bytes = bytes) (hzs : z.cells.size = 1)
    (v : Value) (m : Nat) (xs : List Value) (hs : ac.eval s = v) (hown : w.ownsRow base e 1 v m xs)
    (hx : ac.eval x = .slice a len cap) (hr : Rd n w a len cap f) (h1 : ∀ i, (f i).oneCell' = true)
    (h63 : m + len ≤ maxLen) (hbytes : (m + len) * bytes ≤ 140737488355328) (hbase : base ≤ w.heap.size)
    (h : ∀ v' w', w'.ownsRow base e 1 v' (m + len) (xs ++ (List.range len).map f) → w.grownBy w' v.ownBlock → wpList P ops Q rest (ac.put o.dst v') w') : wpList P ops Q (o :: rest) ac w := by
  have fin : ∀ u ∈ (List.range len).map f, u.oneCell' = true := by
    intro u hu
    obtain ⟨j, _, rfl⟩ := List.mem_map.1 hu
    exact h1 j
  cases a with
  | none =>
    have hc := hr.nil_ rfl
    have hl := hr.le
    obtain rfl : cap = 0 := hc
    obtain rfl : len = 0 := by omega
    refine wpList_append_own_none hgd s x t ho base e i 1 ht hi v m xs hs hown hx ?_
    refine h v w (by simpa using hown) (World.grownBy.refl w _)
  | some ad =>
    refine wpList_append_own w hgd s x t ho base e i z 1 bytes ht hi hz hsize hby hzs (by omega) v m xs hs hown ad len cap ((List.range len).map f) hx (by simp) ?_ fin h63 hbytes hbase (fun v' w' h2 h3 _ => h v' w' h2 h3)
    intro j u hj
    have hjl : j < len := by
      have := (List.getElem?_eq_some_iff.1 hj).1
      simpa using this
    obtain ⟨b, off, he, hb, hc⟩ := hr.at hjl
    injection he with he
    subst he
    have hadd : (⟨b, off, none⟩ : Addr).add j = ⟨b, off + j, none⟩ := by
      unfold Addr.add
      split
      · rename_i e; subst e; rfl
      · rfl
    rw [hadd, hc, ← hj]
    simp [hjl]
end
end Go.Own
