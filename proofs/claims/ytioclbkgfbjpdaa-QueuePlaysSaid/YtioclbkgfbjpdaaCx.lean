/- Layer 8: contexts: what one is; the default one; one more switch-over; a reset. -/
import Derived.Test.YtioclbkgfbjpdaaLaw05
import Derived.Laws.ResultCell
import Derived.Deep.WholeRow
namespace Go.Proofs.Ytioclbkgfbjpdaa
open Go.RowKit Go.Own
set_option linter.unusedVariables false
set_option linter.unusedSimpArgs false

/-- A context. -/
@[ext] structure Cx where
  f : Int
  i : Int
  r0 : Int
  r1 : Int
  r2 : Int
  r3 : Int
  r4 : Int
  r5 : Int
  c0 : Int
  c1 : Int
  c2 : Int
  c3 : Int
  c4 : Int
  c5 : Int
  m : Int
  n : Int
  x : Bool
  h : Int
  deriving DecidableEq
def Cx.v (c : Cx) : Value := .agg #[.int .u16 c.f, .int .u16 c.i, .int .u8 c.r0, .int .u8 c.r1, .int .u8 c.r2, .int .u8 c.r3, .int .u8 c.r4, .int .u8 c.r5, .int .i8 c.c0, .int .i8 c.c1, .int .i8 c.c2, .int .i8 c.c3, .int .i8 c.c4, .int .i8 c.c5, .int .u8 c.m, .int .u16 c.n, .bool c.x, .int .u8 c.h]
def cxDef : Cx := ⟨0, 0, 0, 0, 0, 0, 0, 0, -1, -1, -1, -1, -1, -1, 0, 0, false, 0⟩
def cxZero : Cx := ⟨0, 0, 0, 0, 0, 0, 0, 0, 0, 0, 0, 0, 0, 0, 0, 0, false, 0⟩
theorem setRow_alloc2_new (w : World) (A : Obj) (c c' : Array Value) (t : TypeId) : ((w.alloc A).alloc (.cells c t)).setRow (w.heap.size + 1) c' = (w.alloc A).alloc (.cells c' t) := by
  have e : (w.alloc A).heap.size = w.heap.size + 1 := by simp
  rw [← e]
  exact World.setRow_alloc_new _ _ _ _
theorem setRow_alloc_old (w : World) (A : Obj) (g : Nat) (c' : Array Value) (h : g < w.heap.size) : (w.alloc A).setRow g c' = (w.setRow g c').alloc A := by
  simp only [World.setRow, World.alloc]
  congr 1
  apply Array.ext_getElem?
  intro i
  simp only [Array.getElem?_modify, Array.getElem?_push, Array.size_modify]
  by_cases hi : i = w.heap.size
  · subst hi
    simp; omega
  · by_cases hg : g = i
    · subst hg; simp [hi]
    · simp [hi, hg]
theorem setRow_alloc2_old (w : World) (B : Obj) (c c' : Array Value) (t : TypeId) : ((w.alloc (.cells c t)).alloc B).setRow w.heap.size c' = (w.alloc (.cells c' t)).alloc B := by
  rw [setRow_alloc_old _ _ _ _ (by simp), World.setRow_alloc_new]
/-- In which ranges its parts lie. -/
structure Cx.Ok (c : Cx) : Prop where
  f : 0 ≤ c.f ∧ c.f < 65536
  i : 0 ≤ c.i ∧ c.i < 65536
  r0 : 0 ≤ c.r0 ∧ c.r0 < 256
  r1 : 0 ≤ c.r1 ∧ c.r1 < 256
  r2 : 0 ≤ c.r2 ∧ c.r2 < 256
  r3 : 0 ≤ c.r3 ∧ c.r3 < 256
  r4 : 0 ≤ c.r4 ∧ c.r4 < 256
  r5 : 0 ≤ c.r5 ∧ c.r5 < 256
  c0 : -128 ≤ c.c0 ∧ c.c0 < 128
  c1 : -128 ≤ c.c1 ∧ c.c1 < 128
  c2 : -128 ≤ c.c2 ∧ c.c2 < 128
  c3 : -128 ≤ c.c3 ∧ c.c3 < 128
  c4 : -128 ≤ c.c4 ∧ c.c4 < 128
  c5 : -128 ≤ c.c5 ∧ c.c5 < 128
  m : 0 ≤ c.m ∧ c.m < 256
  n : 0 ≤ c.n ∧ c.n < 65536
  h : 0 ≤ c.h ∧ c.h < 256
/-- How often a role was switched over. -/
def Cx.r (c : Cx) (k : Int) : Int := if k = 0 then c.r0 else if k = 1 then c.r1 else if k = 2 then c.r2 else if k = 3 then c.r3 else if k = 4 then c.r4 else c.r5
def Cx.setR (c : Cx) (k x : Int) : Cx := ⟨c.f, c.i, if k = 0 then x else c.r0, if k = 1 then x else c.r1, if k = 2 then x else c.r2, if k = 3 then x else c.r3, if k = 4 then x else c.r4, if k = 5 then x else c.r5, c.c0, c.c1, c.c2, c.c3, c.c4, c.c5, c.m, c.n, c.x, c.h⟩
/-- May a role be switched over once more? -/
def Cx.can (c : Cx) (k most : Int) : Bool := decide (0 ≤ k ∧ k < 6 ∧ c.r k < min most 255)
/-- A result in a variable, and one in a slot. -/
theorem results_cell_tmp2 {P : Program} {fn : Func} {p u : Tmp} {ty : TypeId} (h : fn.results = #[.cell p ty, .tmp u]) (tmps : Array Value) (w : World) (g : Nat) (t : TypeId) (cs : Array Value) (fr : Nat × Nat) {d : TypeDesc}
    (hp : tmps.getD p undef = .pointer (some ⟨g, 0, none⟩)) (hg : w.heap[g]? = some (.cells cs t fr))
    (hu : P.underlying ty = some d) (hd : (match d with | .struct _ | .array _ _ => true | _ => false) = true) (hi : (P.info? ty).map (·.size) = some cs.size) :
    (results fn tmps).run P w = .ok (.tuple #[.agg cs, tmps.getD u undef]) w := by
  rw [results_cell_tmp h]
  have hp' : tmps[p]?.getD undef = .pointer (some ⟨g, 0, none⟩) := by simpa using hp
  simp [hp', asAddr, run_loadVar_row w g t ty cs fr d hg hu hd hi]
theorem run_minI {P : Program} (ats : Array TypeId) (ty : TypeId) (k : IntKind) (a b : Int) (w : World) : (Builtin.min_ ats ty #[.int k a, .int k b]).run P w = .ok (.int k (min a b)) w := by
  have e2 : (Builtin.min2 (.int k a) (.int k b)).run P w = .ok (.int k (min a b)) w := by
    unfold Builtin.min2
    by_cases h : b < a
    · have e : min a b = b := by omega
      simp [e, h]
    · have e : min a b = a := by omega
      simp [e, h]
  simp [Builtin.min_, e2]
theorem run_maxI {P : Program} (ats : Array TypeId) (ty : TypeId) (k : IntKind) (a b : Int) (w : World) : (Builtin.max_ ats ty #[.int k a, .int k b]).run P w = .ok (.int k (max a b)) w := by
  have e2 : (Builtin.max2 (.int k a) (.int k b)).run P w = .ok (.int k (max a b)) w := by
    unfold Builtin.max2
    by_cases h : a < b
    · have e : max a b = b := by omega
      simp [e, h]
    · have e : max a b = a := by omega
      simp [e, h]
  simp [Builtin.max_, e2]
/-- Is a role's count below a bound? -/
def Cx.lt (c : Cx) (k q : Int) : Bool := decide (c.r k < q)
end Go.Proofs.Ytioclbkgfbjpdaa
