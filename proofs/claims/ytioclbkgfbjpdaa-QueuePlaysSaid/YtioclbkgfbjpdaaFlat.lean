/- What comes in as data without pointers: structs and arrays of numbers, bools, texts, slices of numbers; and slices of such. -/
import Derived.Test.YtioclbkgfbjpdaaFrame
import Derived.Test.YtioclbkgfbjpdaaAgg
import Derived.Deep.Slices
namespace Go.Proofs.Ytioclbkgfbjpdaa
open Go.RowKit Go.ChangeShapes Go.WideShapes Go.Deep
set_option linter.unusedVariables false
set_option linter.unusedSimpArgs false
/-- A cell of such data. -/
inductive Leaf where
  | bool
  | int (k : IntKind)
  | row (k : IntKind)
  | str
def Leaf.fits (w : World) : Leaf → Value → Prop
  | .bool, v => ∃ t : Bool, v = .bool t
  | .int k, v => ∃ z : Int, v = .int k z ∧ (Lit.int k z).wf = true
  | .row k, v => ∃ a len cap zs, v = .slice a len cap ∧ IsRow k w a len cap zs
  | .str, v => ∃ s : ByteArray, v = .string s ∧ s.size ≤ maxLen
/-- The cells, one behind the other. -/
def Fit (w : World) : List Leaf → List Value → Prop
  | [], [] => True
  | k :: ks, v :: vs => k.fits w v ∧ Fit w ks vs
  | _, _ => False
theorem Fit.append {w : World} : ∀ {a b : List Leaf} {x y : List Value}, Fit w a x → Fit w b y → Fit w (a ++ b) (x ++ y)
  | [], _, [], _, _, h => h
  | _ :: _, _, _ :: _, _, h, k => ⟨h.1, Fit.append h.2 k⟩
  | [], _, _ :: _, _, h, _ => h.elim
  | _ :: _, _, [], _, h, _ => h.elim
theorem Fit.len {w : World} : ∀ {a : List Leaf} {x : List Value}, Fit w a x → x.length = a.length
  | [], [], _ => rfl
  | _ :: _, _ :: _, h => by simp [Fit.len h.2]
  | [], _ :: _, h => h.elim
  | _ :: _, [], h => h.elim
def leavesF (P : Program) (rec : TypeId → Option (List Leaf)) : List Field → List Leaf → Option (List Leaf)
  | [], acc => some acc
  | f :: fs, acc => match rec f.type with
    | some l => if f.offset = acc.length ∧ P.cellsOf f.type = l.length then leavesF P rec fs (acc ++ l) else none
    | none => none
/-- What a type's cells are; none: it is no such type. -/
def leaves (P : Program) : Nat → TypeId → Option (List Leaf)
  | 0, _ => none
  | n + 1, t => match P.underlying t with
    | some .bool => some [.bool]
    | some (.int k) => some [.int k]
    | some .string => some [.str]
    | some (.slice e) => match P.underlying e with
      | some (.int k) => if P.cellsOf e = 1 then some [.row k] else none
      | _ => none
    | some (.struct fs) => match leavesF P (leaves P n) fs.toList [] with
      | some l => if P.cellsOf t = l.length then some l else none
      | none => none
    | some (.array m e) => match leaves P n e with
      | some l => if P.cellsOf e = l.length ∧ P.cellsOf t = m * l.length then some (List.replicate m l).flatten else none
      | none => none
    | _ => none
section
variable {H : Type} {enc : TypeId × Value → H} {P : Program} {w : World}
theorem leavesF_fit {rec : TypeId → Option (List Leaf)} {cs : List Value} : ∀ (fs : List Field) (acc sh : List Leaf), leavesF P rec fs acc = some sh → Fit w acc (cs.take acc.length) →
    (∀ f ∈ fs, ∀ l, rec f.type = some l → P.cellsOf f.type = l.length → Fit w l ((cs.drop f.offset).take (P.cellsOf f.type))) → Fit w sh (cs.take sh.length)
  | [], acc, sh, h, hf, _ => by
    simp only [leavesF, Option.some.injEq] at h
    subst h
    exact hf
  | f :: fs, acc, sh, h, hf, hall => by
    simp only [leavesF] at h
    cases hr : rec f.type with
    | none => rw [hr] at h; cases h
    | some l =>
      rw [hr] at h
      simp only at h
      split at h
      · rename_i hc
        refine leavesF_fit fs (acc ++ l) sh h ?_ (fun g hg => hall g (List.mem_cons_of_mem _ hg))
        have h1 := hall f (List.mem_cons_self ..) l hr hc.2
        rw [hc.1, hc.2] at h1
        rw [List.length_append, List.take_add]
        exact hf.append h1
      · cases h
theorem rep_fit {l : List Leaf} {cs : List Value} : ∀ (m : Nat), (∀ i, i < m → Fit w l ((cs.drop (i * l.length)).take l.length)) → Fit w (List.replicate m l).flatten (cs.take (m * l.length))
  | 0, _ => by simp [Fit]
  | m + 1, h => by
    have h1 := rep_fit m (fun i hi => h i (by omega))
    have h2 := h m (by omega)
    rw [List.replicate_succ', List.flatten_append, Nat.add_mul, Nat.one_mul, List.take_add]
    simp only [List.flatten_cons, List.flatten_nil, List.append_nil]
    exact h1.append h2
theorem trod_fit : ∀ (n : Nat) (t : TypeId) (sh : List Leaf) (m : Nat) (cs : List Value) (x : DataW H × List MemPlace), leaves P n t = some sh → DataW.trod enc P w 0 (fun _ => true) true m t cs = some x → Fit w sh cs
  | 0, _, _, _, _, _, h, _ => by simp [leaves] at h
  | n + 1, t, sh, m, cs, x, h, hx => by
    unfold leaves at h
    split at h
    · rename_i ht
      cases h
      obtain ⟨b, rfl, _⟩ := DataW.trod_bool ht hx
      exact ⟨⟨b, rfl⟩, trivial⟩
    · rename_i k ht
      cases h
      obtain ⟨z, rfl, _, hw⟩ := DataW.trod_int ht hx
      exact ⟨⟨z, rfl, hw⟩, trivial⟩
    · rename_i ht
      cases h
      obtain ⟨s, rfl, _, hw⟩ := DataW.trod_string ht hx
      exact ⟨⟨s, rfl, hw⟩, trivial⟩
    · rename_i e ht
      split at h
      · rename_i k he
        split at h
        · rename_i hc
          cases h
          rcases open_ints ht he hc hx with ⟨hcs, _⟩ | ⟨y, l, c, zs, hcs, _, hl, hm, hz, _, hcell, hwz⟩
          · subst hcs
            exact ⟨⟨none, 0, 0, [], rfl, .inl ⟨rfl, rfl, rfl, rfl⟩⟩, trivial⟩
          · subst hcs
            exact ⟨⟨some y, l, c, zs, rfl, .inr ⟨_, rfl, hl, hm, by simpa using hz, hcell, hwz⟩⟩, trivial⟩
        · cases h
      · cases h
    · rename_i fs ht
      split at h
      · rename_i l hl
        split at h
        · rename_i hc
          cases h
          obtain ⟨xs, k, rfl, _, hlen, hxl, hel⟩ := DataW.trod_struct ht hx
          have := leavesF_fit (w := w) (cs := cs) fs.toList [] sh hl (by simp [Fit]) (fun f hf l hl hc => by
            obtain ⟨i, hi, hfi⟩ := List.mem_iff_getElem.1 hf
            have h1 := hel i f (by rw [← hfi]; simp)
            have hil : i < xs.length := by simp at hi; omega
            rw [List.getElem?_eq_getElem hil] at h1
            exact trod_fit n f.type l k _ _ hl h1)
          rwa [List.take_of_length_le (by omega)] at this
        · cases h
      · cases h
    · rename_i q e ht
      split at h
      · rename_i l hl
        split at h
        · rename_i hc
          cases h
          obtain ⟨xs, k, rfl, _, hlen, hxl, hel⟩ := DataW.trod_array ht hx
          have := rep_fit (w := w) (l := l) (cs := cs) q (fun i hi => by
            have h1 := hel i hi
            rw [List.getElem?_eq_getElem (by omega)] at h1
            rw [hc.1] at h1
            exact trod_fit n e l k _ _ hl h1)
          rwa [List.take_of_length_le (by omega)] at this
        · cases h
      · cases h
    · cases h
/-- A struct, an array that came in. -/
theorem open_flat {r : Reach} {b : Nat} {t : TypeId} {v : Value} {d : DataW H} {ps : List MemPlace} {sh : List Leaf} (hl : leaves P 9 t = some sh) (hs : (match P.underlying t with | some (.struct _) | some (.array _ _) => true | _ => false) = true)
    (hv : Value.okWide P w r b t v) (h : DataW.Trod enc P w 0 (fun _ => true) true t v d ps) : ∃ cs : List Value, v = .agg cs.toArray ∧ Fit w sh cs := by
  obtain ⟨m, hm⟩ := h
  have hf := trod_fit 9 t sh m _ _ hl hm
  unfold Value.okWide at hv
  split at hs
  · rename_i fs ht
    rw [ht] at hv
    obtain ⟨cs, rfl, _⟩ := hv
    exact ⟨cs.toList, by simp, hf⟩
  · rename_i k e ht
    rw [ht] at hv
    obtain ⟨cs, rfl, _⟩ := hv
    exact ⟨cs.toList, by simp, hf⟩
  · cases hs
/-- A slice of such that came in. -/
def IsFlat (sh : List Leaf) (w : World) (a : Option Addr) (len cap : Nat) : Prop :=
  len ≤ cap ∧ cap ≤ maxLen ∧ (a = none → cap = 0) ∧ (0 < len → ∃ b off, a = some ⟨b, off, none⟩ ∧ b < w.heap.size ∧ ∀ i, i < len → ∃ cs, Fit w sh cs ∧ ∀ j v, cs[j]? = some v → w.cell? ⟨b, off + i * sh.length + j, none⟩ = some v)
theorem flat_add (x : Addr) (i j : Nat) : (x.add i).add j = x.add (i + j) := by
  unfold Addr.add
  split <;> split <;> simp_all [Nat.add_assoc]
theorem isFlat_of {t e : TypeId} {a : Option Addr} {len cap : Nat} {d : DataW H} {ps : List MemPlace} {sh : List Leaf} (ht : P.underlying t = some (.slice e)) (hl : leaves P 9 e = some sh) (hn : P.cellsOf e = sh.length) (hp : 0 < sh.length)
    (h : DataW.Trod enc P w 0 (fun _ => true) true t (.slice a len cap) d ps) : IsFlat sh w a len cap := by
  obtain ⟨fuel, hf⟩ := h
  rcases open_slice ht hf with ⟨hcs, _⟩ | ⟨x, l, c, m, n, D, Pl, hcs, hb, hle, hm, hmm, _, hx⟩
  · simp [Value.cells] at hcs
    obtain ⟨rfl, rfl, rfl⟩ := hcs
    exact ⟨Nat.le_refl _, Nat.zero_le _, fun _ => rfl, fun h => by omega⟩
  · simp [Value.cells] at hcs
    obtain ⟨rfl, rfl, rfl⟩ := hcs
    simp only [if_true] at hmm
    obtain rfl := hmm
    refine ⟨hle, hm, fun h => (by cases h), fun h0 => ?_⟩
    have each : ∀ i, i < m → ∃ cs, Fit w sh cs ∧ ∀ j v, cs[j]? = some v → w.cell? (x.add (i * sh.length + j)) = some v := by
      intro i hi
      obtain ⟨cs', h1, h2⟩ := hx i hi
      rw [hn] at h1
      obtain ⟨_, hlen, hcell⟩ := World.cells?_some h1
      refine ⟨cs', trod_fit 9 e sh n _ _ hl h2, fun j v hj => ?_⟩
      have hjl : j < cs'.length := (List.getElem?_eq_some_iff.1 hj).1
      have := hcell j (by omega)
      rw [flat_add] at this
      rw [this]
      exact hj
    obtain ⟨cs0, hf0, hc0⟩ := each 0 (by omega)
    have hl0 := hf0.len
    have hx0 := hc0 0 _ (List.getElem?_eq_getElem (by omega))
    obtain ⟨b, off, spot⟩ := x
    have hspot : spot = none := by simpa [Addr.add] using World.cell?_spot hx0
    subst hspot
    have hbl : b < w.heap.size := by
      have := World.block_lt_of_cell? w _ hx0
      simpa [Addr.add] using this
    refine ⟨b, off, rfl, hbl, fun i hi => ?_⟩
    obtain ⟨cs, k1, k2⟩ := each i (by omega)
    refine ⟨cs, k1, fun j v hj => ?_⟩
    have := k2 j v hj
    unfold Addr.add at this
    split at this
    · rename_i e0
      have : i * sh.length + j = 0 := by simpa using e0
      simp_all [Nat.add_assoc]
    · simpa [Nat.add_assoc] using this
end
end Go.Proofs.Ytioclbkgfbjpdaa
