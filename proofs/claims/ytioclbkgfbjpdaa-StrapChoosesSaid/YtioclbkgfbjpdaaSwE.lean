/- Layer 18: equal chains (the same as in layer 20's text, for a seat without turns). -/
import Derived.Test.YtioclbkgfbjpdaaTn2
import Derived.Test.YtioclbkgfbjpdaaFlatEq
namespace Go.Proofs.Ytioclbkgfbjpdaa
open Go.RowKit Go.Own Go.ChangeShapes Go.WideShapes Bs
set_option linter.unusedVariables false
set_option linter.unusedSimpArgs false
section
variable {P : Program}
theorem eqi_plain {t : TypeId} {sh : List Leaf} {xs ys : Array Value} {m : Nat} (hm : 10000 = (10000 - m) + m) (hl : leaves P 9 t = some sh) (hk : P.keyTypeAt m t = true) (hs : (match P.underlying t with | some (.struct _) | some (.array _ _) => true | _ => false) = true)
    (hc : P.cellsOf t = sh.length) (hx : Plain sh xs.toList) (hy : Plain sh ys.toList) (w : World) : ∃ r : Bool, (Op.equalIn 10000 t (.agg xs) (.agg ys)).run P w = .ok r w ∧ (r = true ↔ xs = ys) := by
  have hf : ∀ zs : Array Value, Plain sh zs.toList → (Value.agg zs).formed P t = true := by
    intro zs hz
    have hzl := hz.len
    unfold Value.formed
    split at hs
    · rename_i fs e
      simp [e, hc]
      simpa using hzl
    · rename_i n q e
      simp [e, hc]
      simpa using hzl
    · cases hs
  obtain ⟨r, hr, hi⟩ := run_equalIn_deep (P := P) (10000 - m) m t hk w 9 9 (.agg xs) (.agg ys) _ _ (hf xs hx) (hf ys hy) (lits_plain 9 m t sh _ hl hk hx) (lits_plain 9 m t sh _ hl hk hy)
  rw [← hm] at hr
  refine ⟨r, hr, hi.trans ⟨fun h => ?_, fun h => by rw [h]⟩⟩
  have := hx.inj hy h
  exact Array.toList_inj.1 this
theorem wpLoadGT {ops : Array Oper} {rest : List Oper} {o : Oper} {a : Act} {w : World} {Q : Exit → Act → World → Prop} (hwt : Region.wanted o (yielded ops a.tmps) = true) (ty : TypeId) (x : Operand) (ho : o.op = .load ty x)
    (g : Nat) (hx : a.eval x = .pointer (some ⟨g, 0, none⟩)) (t : TypeId) (cs : Array Value) (fr : Nat × Nat) (d : TypeDesc) (hg : w.heap[g]? = some (.cells cs t fr))
    (hu : P.underlying ty = some d) (hd : (match d with | .struct _ | .array _ _ => true | _ => false) = true) (hi : (P.info? ty).map (·.size) = some cs.size)
    (h : wpList P ops Q rest (a.put o.dst (.agg cs)) w) : wpList P ops Q (o :: rest) a w := by
  unfold wpList
  rw [if_pos hwt]
  exact .inl (wp_load_row ty x ho g hx t cs fr d hg hu hd hi h)
end
theorem wf_i8 {z : Int} (h0 : -128 ≤ z) (h1 : z < 128) : (Lit.int .i8 z).wf = true := by
  have e1 : IntKind.i8.min = -128 := by decide
  have e2 : IntKind.i8.max = 127 := by decide
  simp [Lit.wf, e1, e2]
  omega
def chSh : List Leaf := [Leaf.int .i8, Leaf.int .i8, Leaf.int .i8, Leaf.int .i8, Leaf.int .i8, Leaf.int .i8]
theorem ch_plain {c : Nat → Int} (h : ChOk c) : Plain chSh (#[.int .i8 (c 0), .int .i8 (c 1), .int .i8 (c 2), .int .i8 (c 3), .int .i8 (c 4), .int .i8 (c 5)] : Array Value).toList :=
  have k : ∀ i, i < 6 → (Lit.int .i8 (c i)).wf = true := fun i hi => wf_i8 (h i hi).1 (h i hi).2
  ⟨⟨_, rfl, k 0 (by omega)⟩, ⟨_, rfl, k 1 (by omega)⟩, ⟨_, rfl, k 2 (by omega)⟩, ⟨_, rfl, k 3 (by omega)⟩, ⟨_, rfl, k 4 (by omega)⟩, ⟨_, rfl, k 5 (by omega)⟩, trivial⟩
def sameC (c d : Nat → Int) : Bool := decide (c 0 = d 0 ∧ c 1 = d 1 ∧ c 2 = d 2 ∧ c 3 = d 3 ∧ c 4 = d 4 ∧ c 5 = d 5)
theorem sameC_iff (c d : Nat → Int) : sameC c d = true ↔ (#[.int .i8 (c 0), .int .i8 (c 1), .int .i8 (c 2), .int .i8 (c 3), .int .i8 (c 4), .int .i8 (c 5)] : Array Value) = #[.int .i8 (d 0), .int .i8 (d 1), .int .i8 (d 2), .int .i8 (d 3), .int .i8 (d 4), .int .i8 (d 5)] := by
  unfold sameC
  rw [decide_eq_true_iff]
  constructor
  · rintro ⟨h0, h1, h2, h3, h4, h5⟩
    rw [h0, h1, h2, h3, h4, h5]
  · intro h
    simpa using h
theorem sameC_refl (c : Nat → Int) : sameC c c = true := (sameC_iff c c).2 rfl
theorem eqCh {c d : Nat → Int} (hc : ChOk c) (hd : ChOk d) (w : World) : (Op.equalIn 10000 76 (.agg #[.int .i8 (c 0), .int .i8 (c 1), .int .i8 (c 2), .int .i8 (c 3), .int .i8 (c 4), .int .i8 (c 5)]) (.agg #[.int .i8 (d 0), .int .i8 (d 1), .int .i8 (d 2), .int .i8 (d 3), .int .i8 (d 4), .int .i8 (d 5)])).run Try.prog w = .ok (sameC c d) w := by
  obtain ⟨r, h, hi⟩ := eqi_plain (P := Try.prog) (t := 76) (sh := chSh) (m := 9) (by omega) (by kernel_rfl) (by kernel_rfl) (by kernel_rfl) (by kernel_rfl) (ch_plain hc) (ch_plain hd) w
  rw [h]
  have e : r = sameC c d := by
    have := sameC_iff c d
    cases r <;> cases hs : sameC c d <;> simp_all
  rw [e]
theorem eqlCh {c d : Nat → Int} (hc : ChOk c) (hd : ChOk d) (w : World) : (binOp .eql 76 (.agg #[.int .i8 (c 0), .int .i8 (c 1), .int .i8 (c 2), .int .i8 (c 3), .int .i8 (c 4), .int .i8 (c 5)]) (.agg #[.int .i8 (d 0), .int .i8 (d 1), .int .i8 (d 2), .int .i8 (d 3), .int .i8 (d 4), .int .i8 (d 5)])).run Try.prog w = .ok (.bool (sameC c d)) w := by
  rw [run_eql_struct, eqCh hc hd]; rfl
theorem neqCh {c d : Nat → Int} (hc : ChOk c) (hd : ChOk d) (w : World) : (binOp .neq 76 (.agg #[.int .i8 (c 0), .int .i8 (c 1), .int .i8 (c 2), .int .i8 (c 3), .int .i8 (c 4), .int .i8 (c 5)]) (.agg #[.int .i8 (d 0), .int .i8 (d 1), .int .i8 (d 2), .int .i8 (d 3), .int .i8 (d 4), .int .i8 (d 5)])).run Try.prog w = .ok (.bool (!sameC c d)) w := by
  rw [run_neq_struct, eqCh hc hd]; rfl
end Go.Proofs.Ytioclbkgfbjpdaa
