/- == of data without pointers: two such are equal just if their cells are. -/
import Derived.Test.YtioclbkgfbjpdaaFlat
import Derived.DeepKeys
import Derived.ChangeKeysEq
import Derived.Laws.StructEq
namespace Go.Proofs.Ytioclbkgfbjpdaa
open Go.RowKit Go.ChangeShapes Go.WideShapes
set_option linter.unusedVariables false
set_option linter.unusedSimpArgs false
/-- A cell that is a number or a bool. -/
def Leaf.plain : Leaf → Value → Prop
  | .bool, v => ∃ t : Bool, v = .bool t
  | .int k, v => ∃ z : Int, v = .int k z ∧ (Lit.int k z).wf = true
  | _, _ => False
def litOf : Value → Lit
  | .bool t => .bool t
  | .int k z => .int k z
  | _ => .bool false
def Plain : List Leaf → List Value → Prop
  | [], [] => True
  | k :: ks, v :: vs => k.plain v ∧ Plain ks vs
  | _, _ => False
theorem Plain.len : ∀ {a : List Leaf} {x : List Value}, Plain a x → x.length = a.length
  | [], [], _ => rfl
  | _ :: _, _ :: _, h => by simp [Plain.len h.2]
  | [], _ :: _, h => h.elim
  | _ :: _, [], h => h.elim
theorem Plain.split : ∀ {a b : List Leaf} {x : List Value}, Plain (a ++ b) x → Plain a (x.take a.length) ∧ Plain b (x.drop a.length)
  | [], _, _, h => ⟨trivial, h⟩
  | _ :: _, _, [], h => h.elim
  | _ :: _, _, _ :: _, h => by
    have := Plain.split h.2
    exact ⟨⟨h.1, this.1⟩, this.2⟩
theorem Plain.inj : ∀ {sh : List Leaf} {x y : List Value}, Plain sh x → Plain sh y → x.map litOf = y.map litOf → x = y
  | [], [], [], _, _, _ => rfl
  | k :: ks, v :: vs, u :: us, h, h', e => by
    simp only [List.map_cons, List.cons.injEq] at e
    have e2 := Plain.inj h.2 h'.2 e.2
    have e1 : v = u := by
      have h1 := h.1
      have h2 := h'.1
      cases k <;> simp only [Leaf.plain] at h1 h2
      · obtain ⟨t, rfl⟩ := h1
        obtain ⟨t', rfl⟩ := h2
        have := e.1
        simp only [litOf, Lit.bool.injEq] at this
        rw [this]
      · obtain ⟨t, rfl, _⟩ := h1
        obtain ⟨t', rfl, _⟩ := h2
        have := e.1
        simp only [litOf, Lit.int.injEq] at this
        rw [this.2]
    rw [e1, e2]
  | [], _ :: _, _, h, _, _ => h.elim
  | [], [], _ :: _, _, h, _ => h.elim
  | _ :: _, [], _, h, _, _ => h.elim
  | _ :: _, _ :: _, [], _, h, _ => h.elim
section
variable {P : Program}
theorem lits_fields {d : Nat} {rec : TypeId → Option (List Leaf)} {cs : List Value} : ∀ (fs : List Field) (acc sh : List Leaf), leavesF P rec fs acc = some sh → Plain sh cs →
    (∀ f ∈ fs, ∀ l xs, rec f.type = some l → Plain l xs → P.keyLits d f.type xs = some (xs.map litOf)) →
    ∃ ps, (fs.mapM fun f => P.keyLits d f.type ((cs.drop f.offset).take (P.cellsOf f.type))) = some ps ∧ ps.flatten = (cs.drop acc.length).map litOf
  | [], acc, sh, h, hp, _ => by
    simp only [leavesF, Option.some.injEq] at h
    subst h
    have := hp.len
    exact ⟨[], by simp, by simp [List.drop_eq_nil_of_le (show cs.length ≤ acc.length by omega)]⟩
  | f :: fs, acc, sh, h, hp, hall => by
    simp only [leavesF] at h
    cases hr : rec f.type with
    | none => rw [hr] at h; cases h
    | some l =>
      rw [hr] at h
      simp only at h
      split at h
      · rename_i hc
        obtain ⟨ps, h1, h2⟩ := lits_fields fs (acc ++ l) sh h hp (fun g hg => hall g (List.mem_cons_of_mem _ hg))
        obtain ⟨rest, hsh⟩ : ∃ rest, sh = (acc ++ l) ++ rest := leavesF_pre fs (acc ++ l) sh h
        rw [hsh, List.append_assoc] at hp
        have hpl := (Plain.split (Plain.split hp).2).1
        have h3 := hall f (List.mem_cons_self ..) l _ hr hpl
        refine ⟨((cs.drop acc.length).take l.length).map litOf :: ps, ?_, ?_⟩
        · simp only [List.mapM_cons, hc.1, hc.2, h3, h1]
          rfl
        · rw [List.flatten_cons, h2, List.length_append, ← List.map_append, ← List.drop_drop, List.take_append_drop]
      · cases h
where
  leavesF_pre {rec : TypeId → Option (List Leaf)} : ∀ (fs : List Field) (acc sh : List Leaf), leavesF P rec fs acc = some sh → ∃ rest, sh = acc ++ rest
  | [], acc, sh, h => by
    simp only [leavesF, Option.some.injEq] at h
    exact ⟨[], by simp [h]⟩
  | f :: fs, acc, sh, h => by
    simp only [leavesF] at h
    cases hr : rec f.type with
    | none => rw [hr] at h; cases h
    | some l =>
      rw [hr] at h
      simp only at h
      split at h
      · obtain ⟨rest, e⟩ := leavesF_pre fs (acc ++ l) sh h
        exact ⟨l ++ rest, by rw [e, List.append_assoc]⟩
      · cases h
theorem lits_items {d : Nat} {e : TypeId} {l : List Leaf} (he : ∀ xs, Plain l xs → P.keyLits d e xs = some (xs.map litOf)) : ∀ (m : Nat) (cs : List Value), Plain (List.replicate m l).flatten cs →
    ∃ ps, ((List.range m).mapM fun i => P.keyLits d e ((cs.drop (i * l.length)).take l.length)) = some ps ∧ ps.flatten = cs.map litOf
  | 0, cs, h => by
    have := h.len
    simp at this
    exact ⟨[], by simp, by simp [this]⟩
  | m + 1, cs, h => by
    rw [List.replicate_succ, List.flatten_cons] at h
    obtain ⟨h1, h2⟩ := Plain.split h
    obtain ⟨ps, h3, h4⟩ := lits_items he m _ h2
    refine ⟨(cs.take l.length).map litOf :: ps, ?_, ?_⟩
    · rw [List.range_succ_eq_map, List.mapM_cons]
      simp only [Nat.zero_mul, List.drop_zero, he _ h1, List.mapM_map]
      have : (fun i => P.keyLits d e ((cs.drop ((i + 1) * l.length)).take l.length)) = fun i => P.keyLits d e (((cs.drop l.length).drop (i * l.length)).take l.length) := by
        funext i
        rw [List.drop_drop, Nat.add_mul, Nat.one_mul, Nat.add_comm]
      simp only [Nat.succ_eq_add_one, Function.comp_def, this, h3]
      rfl
    · rw [List.flatten_cons, h4, ← List.map_append, List.take_append_drop]
theorem lits_plain : ∀ (n m : Nat) (t : TypeId) (sh : List Leaf) (cs : List Value), leaves P n t = some sh → P.keyTypeAt m t = true → Plain sh cs → P.keyLits n t cs = some (cs.map litOf)
  | 0, _, _, _, _, h, _, _ => by simp [leaves] at h
  | n + 1, 0, _, _, _, _, h, _ => by simp [Program.keyTypeAt] at h
  | n + 1, m + 1, t, sh, cs, h, hk, hp => by
    unfold leaves at h
    unfold Program.keyTypeAt at hk
    unfold Program.keyLits
    split at h
    · rename_i ht
      cases h
      match cs, hp with
      | [v], ⟨⟨b, hv⟩, _⟩ => subst hv; simp [ht, litOf]
    · rename_i k ht
      cases h
      match cs, hp with
      | [v], ⟨⟨b, hv, hw⟩, _⟩ => subst hv; simp [ht, litOf, hw]
    · rename_i ht
      cases h
      match cs, hp with
      | [v], ⟨hf, _⟩ => exact hf.elim
    · rename_i e ht
      rw [ht] at hk
      cases hk
    · rename_i fs ht
      split at h
      · rename_i l hl
        split at h
        · rename_i hc
          cases h
          rw [ht] at hk
          simp only [Bool.and_eq_true, Array.all_eq_true'] at hk
          obtain ⟨ps, h1, h2⟩ := lits_fields (d := n) (cs := cs) fs.toList [] sh hl hp (fun f hf l xs hl hx => lits_plain n m f.type l xs hl ((hk.1.1 f (by simpa using hf)).2) hx)
          have hlen := hp.len
          simp only [ht]
          rw [if_pos ⟨by rw [hlen, hc], by
            rw [Array.all_eq_true']
            intro f hf
            exact (hk.1.1 f hf).1⟩, h1]
          simp only [Option.map_some, Option.some.injEq]
          simpa using h2
        · cases h
      · cases h
    · rename_i q e ht
      split at h
      · rename_i l hl
        split at h
        · rename_i hc
          cases h
          rw [ht] at hk
          simp only at hk
          obtain ⟨ps, h1, h2⟩ := lits_items (d := n) (e := e) (l := l) (fun xs hx => lits_plain n m e l xs hl hk hx) q cs hp
          have hlen := hp.len
          simp only [ht]
          rw [if_pos (by rw [hlen, hc.2]; simp), hc.1, h1]
          simp only [Option.map_some, Option.some.injEq]
          exact h2
        · cases h
      · cases h
    · cases h
theorem eql_plain {t : TypeId} {sh : List Leaf} {xs ys : Array Value} {m : Nat} (hm : 10000 = (10000 - m) + m) (hl : leaves P 9 t = some sh) (hk : P.keyTypeAt m t = true) (hs : (match P.underlying t with | some (.struct _) => true | _ => false) = true)
    (hc : P.cellsOf t = sh.length) (hx : Plain sh xs.toList) (hy : Plain sh ys.toList) (w : World) : ∃ r : Bool, (binOp .eql t (.agg xs) (.agg ys)).run P w = .ok (.bool r) w ∧ (r = true ↔ xs = ys) := by
  have hf : ∀ zs : Array Value, Plain sh zs.toList → (Value.agg zs).formed P t = true := by
    intro zs hz
    have hzl := hz.len
    unfold Value.formed
    split at hs
    · rename_i fs e
      simp [e, hc]
      simpa using hzl
    · cases hs
  obtain ⟨r, hr, hi⟩ := run_equalIn_deep (P := P) (10000 - m) m t hk w 9 9 (.agg xs) (.agg ys) _ _ (hf xs hx) (hf ys hy) (lits_plain 9 m t sh _ hl hk hx) (lits_plain 9 m t sh _ hl hk hy)
  rw [← hm] at hr
  refine ⟨r, by rw [run_eql_struct, hr]; rfl, hi.trans ⟨fun h => ?_, fun h => by rw [h]⟩⟩
  have := hx.inj hy h
  exact Array.toList_inj.1 this
end
end Go.Proofs.Ytioclbkgfbjpdaa
