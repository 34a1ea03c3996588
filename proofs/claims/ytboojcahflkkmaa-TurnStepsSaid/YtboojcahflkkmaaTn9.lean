/- Layer 20: equal chains, equal turns; what comes in; two boxes for two results. -/
import Derived.Test.YtboojcahflkkmaaTn8
import Derived.Test.YtboojcahflkkmaaFlatEq
namespace Go.Proofs.Ytboojcahflkkmaa
open Go.RowKit Go.Own Go.ChangeShapes Go.WideShapes Bs
set_option linter.unusedVariables false
set_option linter.unusedSimpArgs false
section
variable {P : Program}
theorem eqi_plain {t : TypeId} {sh : List Leaf} {xs ys : Array Value} {m : Nat} (hm : 10000 = (10000 - m) + m) (hl : leaves P 9 t = some sh) (hk : P.keyTypeAt m t = true) (hs : (match P.underlying t with | some (.struct _) | some (.array _ _) => true | _ => false) = true)
    (hc : P.cellsOf t = sh.length) (hx : Plain sh xs.toList) (hy : Plain sh ys.toList) (w : World) : ∃ r : Bool, (Op.equalIn 10000 t (.agg xs) (.agg ys)).run P w = .ok r w ∧ (r = true ↔ xs = ys) := by
  have hf : ∀ zs : Array Value, Plain sh zs.toList → (Value.agg zs).formed P t = true := by
    intro zs hz
    have hzl := hz.len
    unfold Value.formed
    split at hs
    · rename_i fs e
      simp [e, hc]
      simpa using hzl
    · rename_i n q e
      simp [e, hc]
      simpa using hzl
    · cases hs
  obtain ⟨r, hr, hi⟩ := run_equalIn_deep (P := P) (10000 - m) m t hk w 9 9 (.agg xs) (.agg ys) _ _ (hf xs hx) (hf ys hy) (lits_plain 9 m t sh _ hl hk hx) (lits_plain 9 m t sh _ hl hk hy)
  rw [← hm] at hr
  refine ⟨r, hr, hi.trans ⟨fun h => ?_, fun h => by rw [h]⟩⟩
  have := hx.inj hy h
  exact Array.toList_inj.1 this
theorem wpLoadGT {ops : Array Oper} {rest : List Oper} {o : Oper} {a : Act} {w : World} {Q : Exit → Act → World → Prop} (hwt : Region.wanted o (yielded ops a.tmps) = true) (ty : TypeId) (x : Operand) (ho : o.op = .load ty x)
    (g : Nat) (hx : a.eval x = .pointer (some ⟨g, 0, none⟩)) (t : TypeId) (cs : Array Value) (fr : Nat × Nat) (d : TypeDesc) (hg : w.heap[g]? = some (.cells cs t fr))
    (hu : P.underlying ty = some d) (hd : (match d with | .struct _ | .array _ _ => true | _ => false) = true) (hi : (P.info? ty).map (·.size) = some cs.size)
    (h : wpList P ops Q rest (a.put o.dst (.agg cs)) w) : wpList P ops Q (o :: rest) a w := by
  unfold wpList
  rw [if_pos hwt]
  exact .inl (wp_load_row ty x ho g hx t cs fr d hg hu hd hi h)
end
theorem wf_i8 {z : Int} (h0 : -128 ≤ z) (h1 : z < 128) : (Lit.int .i8 z).wf = true := by
  have e1 : IntKind.i8.min = -128 := by decide
  have e2 : IntKind.i8.max = 127 := by decide
  simp [Lit.wf, e1, e2]
  omega
def chSh : List Leaf := [Leaf.int .i8, Leaf.int .i8, Leaf.int .i8, Leaf.int .i8, Leaf.int .i8, Leaf.int .i8]
theorem ch_plain {c : Nat → Int} (h : ChOk c) : Plain chSh (#[.int .i8 (c 0), .int .i8 (c 1), .int .i8 (c 2), .int .i8 (c 3), .int .i8 (c 4), .int .i8 (c 5)] : Array Value).toList :=
  have k : ∀ i, i < 6 → (Lit.int .i8 (c i)).wf = true := fun i hi => wf_i8 (h i hi).1 (h i hi).2
  ⟨⟨_, rfl, k 0 (by omega)⟩, ⟨_, rfl, k 1 (by omega)⟩, ⟨_, rfl, k 2 (by omega)⟩, ⟨_, rfl, k 3 (by omega)⟩, ⟨_, rfl, k 4 (by omega)⟩, ⟨_, rfl, k 5 (by omega)⟩, trivial⟩
def sameC (c d : Nat → Int) : Bool := decide (c 0 = d 0 ∧ c 1 = d 1 ∧ c 2 = d 2 ∧ c 3 = d 3 ∧ c 4 = d 4 ∧ c 5 = d 5)
theorem sameC_iff (c d : Nat → Int) : sameC c d = true ↔ (#[.int .i8 (c 0), .int .i8 (c 1), .int .i8 (c 2), .int .i8 (c 3), .int .i8 (c 4), .int .i8 (c 5)] : Array Value) = #[.int .i8 (d 0), .int .i8 (d 1), .int .i8 (d 2), .int .i8 (d 3), .int .i8 (d 4), .int .i8 (d 5)] := by
  unfold sameC
  rw [decide_eq_true_iff]
  constructor
  · rintro ⟨h0, h1, h2, h3, h4, h5⟩
    rw [h0, h1, h2, h3, h4, h5]
  · intro h
    simpa using h
theorem sameC_refl (c : Nat → Int) : sameC c c = true := (sameC_iff c c).2 rfl
theorem eqCh {c d : Nat → Int} (hc : ChOk c) (hd : ChOk d) (w : World) : (Op.equalIn 10000 67 (.agg #[.int .i8 (c 0), .int .i8 (c 1), .int .i8 (c 2), .int .i8 (c 3), .int .i8 (c 4), .int .i8 (c 5)]) (.agg #[.int .i8 (d 0), .int .i8 (d 1), .int .i8 (d 2), .int .i8 (d 3), .int .i8 (d 4), .int .i8 (d 5)])).run Try.prog w = .ok (sameC c d) w := by
  obtain ⟨r, h, hi⟩ := eqi_plain (P := Try.prog) (t := 67) (sh := chSh) (m := 9) (by omega) (by kernel_rfl) (by kernel_rfl) (by kernel_rfl) (by kernel_rfl) (ch_plain hc) (ch_plain hd) w
  rw [h]
  have e : r = sameC c d := by
    have := sameC_iff c d
    cases r <;> cases hs : sameC c d <;> simp_all
  rw [e]
theorem eqlCh {c d : Nat → Int} (hc : ChOk c) (hd : ChOk d) (w : World) : (binOp .eql 67 (.agg #[.int .i8 (c 0), .int .i8 (c 1), .int .i8 (c 2), .int .i8 (c 3), .int .i8 (c 4), .int .i8 (c 5)]) (.agg #[.int .i8 (d 0), .int .i8 (d 1), .int .i8 (d 2), .int .i8 (d 3), .int .i8 (d 4), .int .i8 (d 5)])).run Try.prog w = .ok (.bool (sameC c d)) w := by
  rw [run_eql_struct, eqCh hc hd]; rfl
theorem neqCh {c d : Nat → Int} (hc : ChOk c) (hd : ChOk d) (w : World) : (binOp .neq 67 (.agg #[.int .i8 (c 0), .int .i8 (c 1), .int .i8 (c 2), .int .i8 (c 3), .int .i8 (c 4), .int .i8 (c 5)]) (.agg #[.int .i8 (d 0), .int .i8 (d 1), .int .i8 (d 2), .int .i8 (d 3), .int .i8 (d 4), .int .i8 (d 5)])).run Try.prog w = .ok (.bool (!sameC c d)) w := by
  rw [run_neq_struct, eqCh hc hd]; rfl
def tnSh : List Leaf := Leaf.int .u8 :: (chSh ++ chSh)
theorem tn_plain {p : Int} {f t : Nat → Int} (hp : 0 ≤ p ∧ p < 256) (hf : ChOk f) (ht : ChOk t) : Plain tnSh (#[.int .u8 p, .int .i8 (f 0), .int .i8 (f 1), .int .i8 (f 2), .int .i8 (f 3), .int .i8 (f 4), .int .i8 (f 5), .int .i8 (t 0), .int .i8 (t 1), .int .i8 (t 2), .int .i8 (t 3), .int .i8 (t 4), .int .i8 (t 5)] : Array Value).toList :=
  have k : ∀ i, i < 6 → (Lit.int .i8 (f i)).wf = true := fun i hi => wf_i8 (hf i hi).1 (hf i hi).2
  have l : ∀ i, i < 6 → (Lit.int .i8 (t i)).wf = true := fun i hi => wf_i8 (ht i hi).1 (ht i hi).2
  have q : (Lit.int .u8 p).wf = true := by
    have e1 : IntKind.u8.min = 0 := by decide
    have e2 : IntKind.u8.max = 255 := by decide
    simp [Lit.wf, e1, e2]
    omega
  ⟨⟨_, rfl, q⟩, ⟨_, rfl, k 0 (by omega)⟩, ⟨_, rfl, k 1 (by omega)⟩, ⟨_, rfl, k 2 (by omega)⟩, ⟨_, rfl, k 3 (by omega)⟩, ⟨_, rfl, k 4 (by omega)⟩, ⟨_, rfl, k 5 (by omega)⟩, ⟨_, rfl, l 0 (by omega)⟩, ⟨_, rfl, l 1 (by omega)⟩, ⟨_, rfl, l 2 (by omega)⟩, ⟨_, rfl, l 3 (by omega)⟩, ⟨_, rfl, l 4 (by omega)⟩, ⟨_, rfl, l 5 (by omega)⟩, trivial⟩
theorem eqTn {p : Int} {f t : Nat → Int} (hp : 0 ≤ p ∧ p < 256) (hf : ChOk f) (ht : ChOk t) (w : World) : (Op.equalIn 10000 96 (.agg #[.int .u8 p, .int .i8 (f 0), .int .i8 (f 1), .int .i8 (f 2), .int .i8 (f 3), .int .i8 (f 4), .int .i8 (f 5), .int .i8 (t 0), .int .i8 (t 1), .int .i8 (t 2), .int .i8 (t 3), .int .i8 (t 4), .int .i8 (t 5)]) (.agg #[.int .u8 p, .int .i8 (f 0), .int .i8 (f 1), .int .i8 (f 2), .int .i8 (f 3), .int .i8 (f 4), .int .i8 (f 5), .int .i8 (t 0), .int .i8 (t 1), .int .i8 (t 2), .int .i8 (t 3), .int .i8 (t 4), .int .i8 (t 5)])).run Try.prog w = .ok true w := by
  obtain ⟨r, h, hi⟩ := eqi_plain (P := Try.prog) (t := 96) (sh := tnSh) (m := 9) (by omega) (by kernel_rfl) (by kernel_rfl) (by kernel_rfl) (by kernel_rfl) (tn_plain hp hf ht) (tn_plain hp hf ht) w
  rw [h, hi.2 rfl]
theorem eqTr {p : Int} {f t : Nat → Int} (hp : 0 ≤ p ∧ p < 256) (hf : ChOk f) (ht : ChOk t) (w : World) : (Op.equalIn 10000 102 (.agg #[.int .u8 p, .int .i8 (f 0), .int .i8 (f 1), .int .i8 (f 2), .int .i8 (f 3), .int .i8 (f 4), .int .i8 (f 5), .int .i8 (t 0), .int .i8 (t 1), .int .i8 (t 2), .int .i8 (t 3), .int .i8 (t 4), .int .i8 (t 5)]) (.agg #[.int .u8 p, .int .i8 (f 0), .int .i8 (f 1), .int .i8 (f 2), .int .i8 (f 3), .int .i8 (f 4), .int .i8 (f 5), .int .i8 (t 0), .int .i8 (t 1), .int .i8 (t 2), .int .i8 (t 3), .int .i8 (t 4), .int .i8 (t 5)])).run Try.prog w = .ok true w := by
  obtain ⟨r, h, hi⟩ := eqi_plain (P := Try.prog) (t := 102) (sh := tnSh) (m := 9) (by omega) (by kernel_rfl) (by kernel_rfl) (by kernel_rfl) (by kernel_rfl) (tn_plain hp hf ht) (tn_plain hp hf ht) w
  rw [h, hi.2 rfl]
theorem eqlTn {p : Int} {f t : Nat → Int} (hp : 0 ≤ p ∧ p < 256) (hf : ChOk f) (ht : ChOk t) (w : World) : (binOp .eql 96 (.agg #[.int .u8 p, .int .i8 (f 0), .int .i8 (f 1), .int .i8 (f 2), .int .i8 (f 3), .int .i8 (f 4), .int .i8 (f 5), .int .i8 (t 0), .int .i8 (t 1), .int .i8 (t 2), .int .i8 (t 3), .int .i8 (t 4), .int .i8 (t 5)]) (.agg #[.int .u8 p, .int .i8 (f 0), .int .i8 (f 1), .int .i8 (f 2), .int .i8 (f 3), .int .i8 (f 4), .int .i8 (f 5), .int .i8 (t 0), .int .i8 (t 1), .int .i8 (t 2), .int .i8 (t 3), .int .i8 (t 4), .int .i8 (t 5)])).run Try.prog w = .ok (.bool true) w := by rw [run_eql_struct, eqTn hp hf ht]; rfl
theorem neqTn {p : Int} {f t : Nat → Int} (hp : 0 ≤ p ∧ p < 256) (hf : ChOk f) (ht : ChOk t) (w : World) : (binOp .neq 96 (.agg #[.int .u8 p, .int .i8 (f 0), .int .i8 (f 1), .int .i8 (f 2), .int .i8 (f 3), .int .i8 (f 4), .int .i8 (f 5), .int .i8 (t 0), .int .i8 (t 1), .int .i8 (t 2), .int .i8 (t 3), .int .i8 (t 4), .int .i8 (t 5)]) (.agg #[.int .u8 p, .int .i8 (f 0), .int .i8 (f 1), .int .i8 (f 2), .int .i8 (f 3), .int .i8 (f 4), .int .i8 (f 5), .int .i8 (t 0), .int .i8 (t 1), .int .i8 (t 2), .int .i8 (t 3), .int .i8 (t 4), .int .i8 (t 5)])).run Try.prog w = .ok (.bool false) w := by rw [run_neq_struct, eqTn hp hf ht]; rfl
theorem neqTr {p : Int} {f t : Nat → Int} (hp : 0 ≤ p ∧ p < 256) (hf : ChOk f) (ht : ChOk t) (w : World) : (binOp .neq 102 (.agg #[.int .u8 p, .int .i8 (f 0), .int .i8 (f 1), .int .i8 (f 2), .int .i8 (f 3), .int .i8 (f 4), .int .i8 (f 5), .int .i8 (t 0), .int .i8 (t 1), .int .i8 (t 2), .int .i8 (t 3), .int .i8 (t 4), .int .i8 (t 5)]) (.agg #[.int .u8 p, .int .i8 (f 0), .int .i8 (f 1), .int .i8 (f 2), .int .i8 (f 3), .int .i8 (f 4), .int .i8 (f 5), .int .i8 (t 0), .int .i8 (t 1), .int .i8 (t 2), .int .i8 (t 3), .int .i8 (t 4), .int .i8 (t 5)])).run Try.prog w = .ok (.bool false) w := by rw [run_neq_struct, eqTr hp hf ht]; rfl
/-- Two results in two new boxes. -/
theorem pairBox (w : World) (C D : Array Value) :
    ((w.alloc (.cells #[.int .u8 0, .int .i8 0, .int .i8 0, .int .i8 0, .int .i8 0, .int .i8 0, .int .i8 0, .int .i8 0, .int .i8 0, .int .i8 0, .int .i8 0, .int .i8 0, .int .i8 0] 96)).alloc (.cells #[.slice none 0 0, .slice none 0 0, .bool false, .int .u16 0] 98)).heap[w.heap.size]? = some (.cells #[.int .u8 0, .int .i8 0, .int .i8 0, .int .i8 0, .int .i8 0, .int .i8 0, .int .i8 0, .int .i8 0, .int .i8 0, .int .i8 0, .int .i8 0, .int .i8 0, .int .i8 0] 96 (0, 0)) ∧
    (((w.alloc (.cells #[.int .u8 0, .int .i8 0, .int .i8 0, .int .i8 0, .int .i8 0, .int .i8 0, .int .i8 0, .int .i8 0, .int .i8 0, .int .i8 0, .int .i8 0, .int .i8 0, .int .i8 0] 96)).alloc (.cells #[.slice none 0 0, .slice none 0 0, .bool false, .int .u16 0] 98)).setRow w.heap.size C).heap[w.heap.size + 1]? = some (.cells #[.slice none 0 0, .slice none 0 0, .bool false, .int .u16 0] 98 (0, 0)) ∧
    ((((w.alloc (.cells #[.int .u8 0, .int .i8 0, .int .i8 0, .int .i8 0, .int .i8 0, .int .i8 0, .int .i8 0, .int .i8 0, .int .i8 0, .int .i8 0, .int .i8 0, .int .i8 0, .int .i8 0] 96)).alloc (.cells #[.slice none 0 0, .slice none 0 0, .bool false, .int .u16 0] 98)).setRow w.heap.size C).setRow (w.heap.size + 1) D).heap[w.heap.size]? = some (.cells C 96 (0, 0)) ∧
    ((((w.alloc (.cells #[.int .u8 0, .int .i8 0, .int .i8 0, .int .i8 0, .int .i8 0, .int .i8 0, .int .i8 0, .int .i8 0, .int .i8 0, .int .i8 0, .int .i8 0, .int .i8 0, .int .i8 0] 96)).alloc (.cells #[.slice none 0 0, .slice none 0 0, .bool false, .int .u16 0] 98)).setRow w.heap.size C).setRow (w.heap.size + 1) D).heap[w.heap.size + 1]? = some (.cells D 98 (0, 0)) ∧
    Below w.heap.size w ((((w.alloc (.cells #[.int .u8 0, .int .i8 0, .int .i8 0, .int .i8 0, .int .i8 0, .int .i8 0, .int .i8 0, .int .i8 0, .int .i8 0, .int .i8 0, .int .i8 0, .int .i8 0, .int .i8 0] 96)).alloc (.cells #[.slice none 0 0, .slice none 0 0, .bool false, .int .u16 0] 98)).setRow w.heap.size C).setRow (w.heap.size + 1) D) := by
  obtain ⟨h1, h2⟩ := al2T w (.cells #[.int .u8 0, .int .i8 0, .int .i8 0, .int .i8 0, .int .i8 0, .int .i8 0, .int .i8 0, .int .i8 0, .int .i8 0, .int .i8 0, .int .i8 0, .int .i8 0, .int .i8 0] 96) (.cells #[.slice none 0 0, .slice none 0 0, .bool false, .int .u16 0] 98)
  have hb : Below w.heap.size w ((w.alloc (.cells #[.int .u8 0, .int .i8 0, .int .i8 0, .int .i8 0, .int .i8 0, .int .i8 0, .int .i8 0, .int .i8 0, .int .i8 0, .int .i8 0, .int .i8 0, .int .i8 0, .int .i8 0] 96)).alloc (.cells #[.slice none 0 0, .slice none 0 0, .bool false, .int .u16 0] 98)) := by repeat' (first | (with_reducible exact Below.refl _ _) | (with_reducible assumption) | (with_reducible refine Below.setCell ?_ ?_ _) | (with_reducible refine Below.alloc ?_ ?_ _) | (with_reducible refine Below.drew ?_) | (with_reducible refine Below.drawsN ?_ _) | go_size)
  have h3 := (setRow_other ((w.alloc (.cells #[.int .u8 0, .int .i8 0, .int .i8 0, .int .i8 0, .int .i8 0, .int .i8 0, .int .i8 0, .int .i8 0, .int .i8 0, .int .i8 0, .int .i8 0, .int .i8 0, .int .i8 0] 96)).alloc (.cells #[.slice none 0 0, .slice none 0 0, .bool false, .int .u16 0] 98)) w.heap.size (w.heap.size + 1) C (by omega)).trans h2
  exact ⟨h1, h3, (setRow_other _ (w.heap.size + 1) w.heap.size D (by omega)).trans (setRow_heap _ _ _ _ _ _ h1), setRow_heap _ _ _ _ _ _ h3, bel_rowS (bel_rowS hb (Nat.le_refl _) C) (by omega) D⟩
theorem Next_det {p : Int} {f t : Nat → Int} {wk ls : Nat} {x : Nx} (w : World) (hf : ChOk f) (ht : ChOk t) (hwk : wk < 65536) (hls : ls < 65536) (h : nxtR p f t wk ls = x) : Calls Try.prog 47 #[.agg #[.int .u8 p, .int .i8 (f 0), .int .i8 (f 1), .int .i8 (f 2), .int .i8 (f 3), .int .i8 (f 4), .int .i8 (f 5), .int .i8 (t 0), .int .i8 (t 1), .int .i8 (t 2), .int .i8 (t 3), .int .i8 (t 4), .int .i8 (t 5)], .int .u16 (wk : Nat), .int .u16 (ls : Nat)] w (NxPost w x) := by
  rw [← h]
  exact Next_tn p f t wk ls w hf ht hwk hls
theorem ch_of {z : List Int} (h : z.length = 6) (hw : ∀ x ∈ z, (Lit.int .i8 x).wf = true) : ∃ c : Nat → Int, ChOk c ∧ (z.map (Value.int .i8)).toArray = #[.int .i8 (c 0), .int .i8 (c 1), .int .i8 (c 2), .int .i8 (c 3), .int .i8 (c 4), .int .i8 (c 5)] := by
  match z, h, hw with
  | [a, b, c, d, e, f], _, hw =>
    have k : ∀ x ∈ [a, b, c, d, e, f], -128 ≤ x ∧ x < 128 := fun x hx => by have := bounds_i8 (hw x hx); omega
    refine ⟨fun i => [a, b, c, d, e, f].getD i 0, fun i hi => ?_, rfl⟩
    have hh : i = 0 ∨ i = 1 ∨ i = 2 ∨ i = 3 ∨ i = 4 ∨ i = 5 := by omega
    rcases hh with rfl | rfl | rfl | rfl | rfl | rfl
    · exact k a (by simp)
    · exact k b (by simp)
    · exact k c (by simp)
    · exact k d (by simp)
    · exact k e (by simp)
    · exact k f (by simp)
end Go.Proofs.Ytboojcahflkkmaa
