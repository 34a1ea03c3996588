/- Layer 8: contexts: what one is; the default one; one more switch-over; a reset. -/
import Derived.Test.YtiaaafjpnijphaaLaw05
import Derived.Laws.ResultCell
import Derived.Deep.WholeRow
namespace Go.Proofs.Ytiaaafjpnijphaa
open Go.RowKit Go.Own
set_option linter.unusedVariables false
set_option linter.unusedSimpArgs false

/-- A context. -/
@[ext] structure Cx where
  f : Int
  i : Int
  r0 : Int
  r1 : Int
  r2 : Int
  r3 : Int
  r4 : Int
  r5 : Int
  c0 : Int
  c1 : Int
  c2 : Int
  c3 : Int
  c4 : Int
  c5 : Int
  m : Int
  n : Int
  x : Bool
  h : Int
  deriving DecidableEq
def Cx.v (c : Cx) : Value := .agg #[.int .u16 c.f, .int .u16 c.i, .int .u8 c.r0, .int .u8 c.r1, .int .u8 c.r2, .int .u8 c.r3, .int .u8 c.r4, .int .u8 c.r5, .int .i8 c.c0, .int .i8 c.c1, .int .i8 c.c2, .int .i8 c.c3, .int .i8 c.c4, .int .i8 c.c5, .int .u8 c.m, .int .u16 c.n, .bool c.x, .int .u8 c.h]
def cxDef : Cx := ⟨0, 0, 0, 0, 0, 0, 0, 0, -1, -1, -1, -1, -1, -1, 0, 0, false, 0⟩
def cxZero : Cx := ⟨0, 0, 0, 0, 0, 0, 0, 0, 0, 0, 0, 0, 0, 0, 0, 0, false, 0⟩
theorem zero_cx (w : World) : (zeroValue 131).run Try.prog w = .ok (.agg #[.int .u16 cxZero.f, .int .u16 cxZero.i, .int .u8 cxZero.r0, .int .u8 cxZero.r1, .int .u8 cxZero.r2, .int .u8 cxZero.r3, .int .u8 cxZero.r4, .int .u8 cxZero.r5, .int .i8 cxZero.c0, .int .i8 cxZero.c1, .int .i8 cxZero.c2, .int .i8 cxZero.c3, .int .i8 cxZero.c4, .int .i8 cxZero.c5, .int .u8 cxZero.m, .int .u16 cxZero.n, .bool cxZero.x, .int .u8 cxZero.h]) w := by kernel_rfl
theorem size_cx : (Try.prog.info? 131).map (·.size) = some 18 := by kernel_rfl
theorem setRow_alloc2_new (w : World) (A : Obj) (c c' : Array Value) (t : TypeId) : ((w.alloc A).alloc (.cells c t)).setRow (w.heap.size + 1) c' = (w.alloc A).alloc (.cells c' t) := by
  have e : (w.alloc A).heap.size = w.heap.size + 1 := by simp
  rw [← e]
  exact World.setRow_alloc_new _ _ _ _
theorem setRow_alloc_old (w : World) (A : Obj) (g : Nat) (c' : Array Value) (h : g < w.heap.size) : (w.alloc A).setRow g c' = (w.setRow g c').alloc A := by
  simp only [World.setRow, World.alloc]
  congr 1
  apply Array.ext_getElem?
  intro i
  simp only [Array.getElem?_modify, Array.getElem?_push, Array.size_modify]
  by_cases hi : i = w.heap.size
  · subst hi
    simp; omega
  · by_cases hg : g = i
    · subst hg; simp [hi]
    · simp [hi, hg]
theorem setRow_alloc2_old (w : World) (B : Obj) (c c' : Array Value) (t : TypeId) : ((w.alloc (.cells c t)).alloc B).setRow w.heap.size c' = (w.alloc (.cells c' t)).alloc B := by
  rw [setRow_alloc_old _ _ _ _ (by simp), World.setRow_alloc_new]
set_option maxRecDepth 100000 in
set_option maxHeartbeats 2000000 in
theorem Default_any (w : World) : Calls Try.prog 66 #[] w fun e w' => e = .returned (.agg #[.int .u16 cxDef.f, .int .u16 cxDef.i, .int .u8 cxDef.r0, .int .u8 cxDef.r1, .int .u8 cxDef.r2, .int .u8 cxDef.r3, .int .u8 cxDef.r4, .int .u8 cxDef.r5, .int .i8 cxDef.c0, .int .i8 cxDef.c1, .int .i8 cxDef.c2, .int .i8 cxDef.c3, .int .i8 cxDef.c4, .int .i8 cxDef.c5, .int .u8 cxDef.m, .int .u16 cxDef.n, .bool cxDef.x, .int .u8 cxDef.h]) ∧ Below w.heap.size w w' := by
  go_enter Try.func66, Try.ntmps66
  go_wp2
  refine wp_loop_rounds 7 ?_
  repeat any_goals (rw [rounds_succ]; go_wp2_with (first | (refine wpList_load_row rfl 131 _ rfl _ rfl _ _ _ _ (by (first | exact heap_alloc2_new _ _ _ | exact heap_alloc2_old _ _ _ | exact heap_alloc_new _ _ | assumption)) Try.underlying131 rfl (by exact size_cx) ?_; (try go_simp)) | (refine wpList_store_row rfl 131 _ _ rfl _ _ rfl rfl _ _ (by (first | exact heap_alloc2_new _ _ _ | exact heap_alloc2_old _ _ _ | exact heap_alloc_new _ _ | assumption)) (by exact size_cx) (by rfl) (by simp [Value.oneCell']) ?_; (first | rw [setRow_alloc2_new] | rw [setRow_alloc2_old] | rw [World.setRow_alloc_new] | skip); (try go_simp))))
  refine bodyPost_ret (results_cell_row rfl _ _ _ _ _ _ _ rfl (heap_alloc2_old _ _ _) Try.underlying131 rfl size_cx) rfl ?_
  exact ⟨rfl, by repeat' (first | (with_reducible exact Below.refl _ _) | (with_reducible assumption) | (with_reducible refine Below.setCell ?_ ?_ _) | (with_reducible refine Below.alloc ?_ ?_ _) | (with_reducible refine Below.drew ?_) | (with_reducible refine Below.drawsN ?_ _) | go_size)⟩
/-- In which ranges its parts lie. -/
structure Cx.Ok (c : Cx) : Prop where
  f : 0 ≤ c.f ∧ c.f < 65536
  i : 0 ≤ c.i ∧ c.i < 65536
  r0 : 0 ≤ c.r0 ∧ c.r0 < 256
  r1 : 0 ≤ c.r1 ∧ c.r1 < 256
  r2 : 0 ≤ c.r2 ∧ c.r2 < 256
  r3 : 0 ≤ c.r3 ∧ c.r3 < 256
  r4 : 0 ≤ c.r4 ∧ c.r4 < 256
  r5 : 0 ≤ c.r5 ∧ c.r5 < 256
  c0 : -128 ≤ c.c0 ∧ c.c0 < 128
  c1 : -128 ≤ c.c1 ∧ c.c1 < 128
  c2 : -128 ≤ c.c2 ∧ c.c2 < 128
  c3 : -128 ≤ c.c3 ∧ c.c3 < 128
  c4 : -128 ≤ c.c4 ∧ c.c4 < 128
  c5 : -128 ≤ c.c5 ∧ c.c5 < 128
  m : 0 ≤ c.m ∧ c.m < 256
  n : 0 ≤ c.n ∧ c.n < 65536
  h : 0 ≤ c.h ∧ c.h < 256
/-- How often a role was switched over. -/
def Cx.r (c : Cx) (k : Int) : Int := if k = 0 then c.r0 else if k = 1 then c.r1 else if k = 2 then c.r2 else if k = 3 then c.r3 else if k = 4 then c.r4 else c.r5
def Cx.setR (c : Cx) (k x : Int) : Cx := ⟨c.f, c.i, if k = 0 then x else c.r0, if k = 1 then x else c.r1, if k = 2 then x else c.r2, if k = 3 then x else c.r3, if k = 4 then x else c.r4, if k = 5 then x else c.r5, c.c0, c.c1, c.c2, c.c3, c.c4, c.c5, c.m, c.n, c.x, c.h⟩
/-- May a role be switched over once more? -/
def Cx.can (c : Cx) (k most : Int) : Bool := decide (0 ≤ k ∧ k < 6 ∧ c.r k < min most 255)
/-- A result in a variable, and one in a slot. -/
theorem results_cell_tmp2 {P : Program} {fn : Func} {p u : Tmp} {ty : TypeId} (h : fn.results = #[.cell p ty, .tmp u]) (tmps : Array Value) (w : World) (g : Nat) (t : TypeId) (cs : Array Value) (fr : Nat × Nat) {d : TypeDesc}
    (hp : tmps.getD p undef = .pointer (some ⟨g, 0, none⟩)) (hg : w.heap[g]? = some (.cells cs t fr))
    (hu : P.underlying ty = some d) (hd : (match d with | .struct _ | .array _ _ => true | _ => false) = true) (hi : (P.info? ty).map (·.size) = some cs.size) :
    (results fn tmps).run P w = .ok (.tuple #[.agg cs, tmps.getD u undef]) w := by
  rw [results_cell_tmp h]
  have hp' : tmps[p]?.getD undef = .pointer (some ⟨g, 0, none⟩) := by simpa using hp
  simp [hp', asAddr, run_loadVar_row w g t ty cs fr d hg hu hd hi]
set_option maxRecDepth 100000 in
set_option maxHeartbeats 2000000 in
theorem Again_no (c : Cx) (k most : Int) (w : World) (h : k < 0 ∨ 6 ≤ k) : Calls Try.prog 105 #[.agg #[.int .u16 c.f, .int .u16 c.i, .int .u8 c.r0, .int .u8 c.r1, .int .u8 c.r2, .int .u8 c.r3, .int .u8 c.r4, .int .u8 c.r5, .int .i8 c.c0, .int .i8 c.c1, .int .i8 c.c2, .int .i8 c.c3, .int .i8 c.c4, .int .i8 c.c5, .int .u8 c.m, .int .u16 c.n, .bool c.x, .int .u8 c.h], .int .i64 k, .int .i64 most] w fun e w' => e = .returned (.tuple #[.agg #[.int .u16 c.f, .int .u16 c.i, .int .u8 c.r0, .int .u8 c.r1, .int .u8 c.r2, .int .u8 c.r3, .int .u8 c.r4, .int .u8 c.r5, .int .i8 c.c0, .int .i8 c.c1, .int .i8 c.c2, .int .i8 c.c3, .int .i8 c.c4, .int .i8 c.c5, .int .u8 c.m, .int .u16 c.n, .bool c.x, .int .u8 c.h], .bool false]) ∧ Below w.heap.size w w' := by
  rcases h with h | h
  · go_enter Try.func105, Try.ntmps105
    go_wp2_with (first | (refine wpList_load_row rfl 131 _ rfl _ rfl _ _ _ _ (by (first | exact heap_alloc2_new _ _ _ | exact heap_alloc2_old _ _ _ | exact heap_alloc_new _ _ | assumption)) Try.underlying131 rfl (by exact size_cx) ?_; (try go_simp)) | (refine wpList_store_row rfl 131 _ _ rfl _ _ rfl rfl _ _ (by (first | exact heap_alloc2_new _ _ _ | exact heap_alloc2_old _ _ _ | exact heap_alloc_new _ _ | assumption)) (by exact size_cx) (by rfl) (by simp [Value.oneCell']) ?_; (first | rw [setRow_alloc2_new] | rw [setRow_alloc2_old] | rw [World.setRow_alloc_new] | skip); (try go_simp)))
    refine bodyPost_ret (results_cell_tmp2 rfl _ _ _ _ _ _ rfl (heap_alloc2_new _ _ _) Try.underlying131 rfl size_cx) rfl ?_

    exact ⟨rfl, by repeat' (first | (with_reducible exact Below.refl _ _) | (with_reducible assumption) | (with_reducible refine Below.setCell ?_ ?_ _) | (with_reducible refine Below.alloc ?_ ?_ _) | (with_reducible refine Below.drew ?_) | (with_reducible refine Below.drawsN ?_ _) | go_size)⟩
  · have h0 : ¬ k < 0 := by omega
    go_enter Try.func105, Try.ntmps105
    go_wp2_with (first | (refine wpList_load_row rfl 131 _ rfl _ rfl _ _ _ _ (by (first | exact heap_alloc2_new _ _ _ | exact heap_alloc2_old _ _ _ | exact heap_alloc_new _ _ | assumption)) Try.underlying131 rfl (by exact size_cx) ?_; (try go_simp)) | (refine wpList_store_row rfl 131 _ _ rfl _ _ rfl rfl _ _ (by (first | exact heap_alloc2_new _ _ _ | exact heap_alloc2_old _ _ _ | exact heap_alloc_new _ _ | assumption)) (by exact size_cx) (by rfl) (by simp [Value.oneCell']) ?_; (first | rw [setRow_alloc2_new] | rw [setRow_alloc2_old] | rw [World.setRow_alloc_new] | skip); (try go_simp)))
    refine bodyPost_ret (results_cell_tmp2 rfl _ _ _ _ _ _ rfl (heap_alloc2_new _ _ _) Try.underlying131 rfl size_cx) rfl ?_

    exact ⟨rfl, by repeat' (first | (with_reducible exact Below.refl _ _) | (with_reducible assumption) | (with_reducible refine Below.setCell ?_ ?_ _) | (with_reducible refine Below.alloc ?_ ?_ _) | (with_reducible refine Below.drew ?_) | (with_reducible refine Below.drawsN ?_ _) | go_size)⟩
theorem run_minI {P : Program} (ats : Array TypeId) (ty : TypeId) (k : IntKind) (a b : Int) (w : World) : (Builtin.min_ ats ty #[.int k a, .int k b]).run P w = .ok (.int k (min a b)) w := by
  have e2 : (Builtin.min2 (.int k a) (.int k b)).run P w = .ok (.int k (min a b)) w := by
    unfold Builtin.min2
    by_cases h : b < a
    · have e : min a b = b := by omega
      simp [e, h]
    · have e : min a b = a := by omega
      simp [e, h]
  simp [Builtin.min_, e2]
theorem run_maxI {P : Program} (ats : Array TypeId) (ty : TypeId) (k : IntKind) (a b : Int) (w : World) : (Builtin.max_ ats ty #[.int k a, .int k b]).run P w = .ok (.int k (max a b)) w := by
  have e2 : (Builtin.max2 (.int k a) (.int k b)).run P w = .ok (.int k (max a b)) w := by
    unfold Builtin.max2
    by_cases h : a < b
    · have e : max a b = b := by omega
      simp [e, h]
    · have e : max a b = a := by omega
      simp [e, h]
  simp [Builtin.max_, e2]
/-- Is a role's count below a bound? -/
def Cx.lt (c : Cx) (k q : Int) : Bool := decide (c.r k < q)
set_option maxRecDepth 100000 in
set_option maxHeartbeats 4000000 in
theorem Again_in (c : Cx) (k most q : Int) (w : World) (hok : c.Ok) (h0 : 0 ≤ k) (h6 : k < 6) (hq : q = min most 255) :
    (c.r k < q ∧ Calls Try.prog 105 #[.agg #[.int .u16 c.f, .int .u16 c.i, .int .u8 c.r0, .int .u8 c.r1, .int .u8 c.r2, .int .u8 c.r3, .int .u8 c.r4, .int .u8 c.r5, .int .i8 c.c0, .int .i8 c.c1, .int .i8 c.c2, .int .i8 c.c3, .int .i8 c.c4, .int .i8 c.c5, .int .u8 c.m, .int .u16 c.n, .bool c.x, .int .u8 c.h], .int .i64 k, .int .i64 most] w fun e w' => e = .returned (.tuple #[.agg #[.int .u16 (c.setR k (c.r k + 1)).f, .int .u16 (c.setR k (c.r k + 1)).i, .int .u8 (c.setR k (c.r k + 1)).r0, .int .u8 (c.setR k (c.r k + 1)).r1, .int .u8 (c.setR k (c.r k + 1)).r2, .int .u8 (c.setR k (c.r k + 1)).r3, .int .u8 (c.setR k (c.r k + 1)).r4, .int .u8 (c.setR k (c.r k + 1)).r5, .int .i8 (c.setR k (c.r k + 1)).c0, .int .i8 (c.setR k (c.r k + 1)).c1, .int .i8 (c.setR k (c.r k + 1)).c2, .int .i8 (c.setR k (c.r k + 1)).c3, .int .i8 (c.setR k (c.r k + 1)).c4, .int .i8 (c.setR k (c.r k + 1)).c5, .int .u8 (c.setR k (c.r k + 1)).m, .int .u16 (c.setR k (c.r k + 1)).n, .bool (c.setR k (c.r k + 1)).x, .int .u8 (c.setR k (c.r k + 1)).h], .bool true]) ∧ Below w.heap.size w w') ∨
    (¬ c.r k < q ∧ Calls Try.prog 105 #[.agg #[.int .u16 c.f, .int .u16 c.i, .int .u8 c.r0, .int .u8 c.r1, .int .u8 c.r2, .int .u8 c.r3, .int .u8 c.r4, .int .u8 c.r5, .int .i8 c.c0, .int .i8 c.c1, .int .i8 c.c2, .int .i8 c.c3, .int .i8 c.c4, .int .i8 c.c5, .int .u8 c.m, .int .u16 c.n, .bool c.x, .int .u8 c.h], .int .i64 k, .int .i64 most] w fun e w' => e = .returned (.tuple #[.agg #[.int .u16 c.f, .int .u16 c.i, .int .u8 c.r0, .int .u8 c.r1, .int .u8 c.r2, .int .u8 c.r3, .int .u8 c.r4, .int .u8 c.r5, .int .i8 c.c0, .int .i8 c.c1, .int .i8 c.c2, .int .i8 c.c3, .int .i8 c.c4, .int .i8 c.c5, .int .u8 c.m, .int .u16 c.n, .bool c.x, .int .u8 c.h], .bool false]) ∧ Below w.heap.size w w') := by
  have hmin := fun (w : World) => run_minI (P := Try.prog) #[3, 3] 3 .i64 most 255 w
  rw [← hq] at hmin
  have hq2 : q ≤ 255 := by omega
  have hk : k = 0 ∨ k = 1 ∨ k = 2 ∨ k = 3 ∨ k = 4 ∨ k = 5 := by omega
  clear hq
  rcases hk with rfl | rfl | rfl | rfl | rfl | rfl
  · have hr := hok.r0
    have e : c.r 0 = c.r0 := rfl
    by_cases hlt : c.r0 < q
    · have hwr : IntKind.u8.wrap (c.r0 + 1) = c.r0 + 1 := by rw [IntKind.wrap_u8]; omega
      have hge : ¬ (q ≤ c.r0) := by omega
      refine .inl ⟨by rw [e]; exact hlt, ?_⟩
      rw [e]
      go_enter Try.func105, Try.ntmps105
      go_wp2_with (first | (refine wpList_load_row rfl 131 _ rfl _ rfl _ _ _ _ (by (first | exact heap_alloc2_new _ _ _ | exact heap_alloc2_old _ _ _ | exact heap_alloc_new _ _ | assumption)) Try.underlying131 rfl (by exact size_cx) ?_; (try go_simp)) | (refine wpList_store_row rfl 131 _ _ rfl _ _ rfl rfl _ _ (by (first | exact heap_alloc2_new _ _ _ | exact heap_alloc2_old _ _ _ | exact heap_alloc_new _ _ | assumption)) (by exact size_cx) (by rfl) (by simp [Value.oneCell']) ?_; (first | rw [setRow_alloc2_new] | rw [setRow_alloc2_old] | rw [World.setRow_alloc_new] | skip); (try go_simp)))
      refine bodyPost_ret (results_cell_tmp2 rfl _ _ _ _ _ _ rfl (heap_alloc2_new _ _ _) Try.underlying131 rfl size_cx) rfl ?_

      exact ⟨rfl, by repeat' (first | (with_reducible exact Below.refl _ _) | (with_reducible assumption) | (with_reducible refine Below.setCell ?_ ?_ _) | (with_reducible refine Below.alloc ?_ ?_ _) | (with_reducible refine Below.drew ?_) | (with_reducible refine Below.drawsN ?_ _) | go_size)⟩
    · have hge : q ≤ c.r0 := by omega
      refine .inr ⟨by rw [e]; exact hlt, ?_⟩
      go_enter Try.func105, Try.ntmps105
      go_wp2_with (first | (refine wpList_load_row rfl 131 _ rfl _ rfl _ _ _ _ (by (first | exact heap_alloc2_new _ _ _ | exact heap_alloc2_old _ _ _ | exact heap_alloc_new _ _ | assumption)) Try.underlying131 rfl (by exact size_cx) ?_; (try go_simp)) | (refine wpList_store_row rfl 131 _ _ rfl _ _ rfl rfl _ _ (by (first | exact heap_alloc2_new _ _ _ | exact heap_alloc2_old _ _ _ | exact heap_alloc_new _ _ | assumption)) (by exact size_cx) (by rfl) (by simp [Value.oneCell']) ?_; (first | rw [setRow_alloc2_new] | rw [setRow_alloc2_old] | rw [World.setRow_alloc_new] | skip); (try go_simp)))
      refine bodyPost_ret (results_cell_tmp2 rfl _ _ _ _ _ _ rfl (heap_alloc2_new _ _ _) Try.underlying131 rfl size_cx) rfl ?_

      exact ⟨rfl, by repeat' (first | (with_reducible exact Below.refl _ _) | (with_reducible assumption) | (with_reducible refine Below.setCell ?_ ?_ _) | (with_reducible refine Below.alloc ?_ ?_ _) | (with_reducible refine Below.drew ?_) | (with_reducible refine Below.drawsN ?_ _) | go_size)⟩
  · have hr := hok.r1
    have e : c.r 1 = c.r1 := rfl
    by_cases hlt : c.r1 < q
    · have hwr : IntKind.u8.wrap (c.r1 + 1) = c.r1 + 1 := by rw [IntKind.wrap_u8]; omega
      have hge : ¬ (q ≤ c.r1) := by omega
      refine .inl ⟨by rw [e]; exact hlt, ?_⟩
      rw [e]
      go_enter Try.func105, Try.ntmps105
      go_wp2_with (first | (refine wpList_load_row rfl 131 _ rfl _ rfl _ _ _ _ (by (first | exact heap_alloc2_new _ _ _ | exact heap_alloc2_old _ _ _ | exact heap_alloc_new _ _ | assumption)) Try.underlying131 rfl (by exact size_cx) ?_; (try go_simp)) | (refine wpList_store_row rfl 131 _ _ rfl _ _ rfl rfl _ _ (by (first | exact heap_alloc2_new _ _ _ | exact heap_alloc2_old _ _ _ | exact heap_alloc_new _ _ | assumption)) (by exact size_cx) (by rfl) (by simp [Value.oneCell']) ?_; (first | rw [setRow_alloc2_new] | rw [setRow_alloc2_old] | rw [World.setRow_alloc_new] | skip); (try go_simp)))
      refine bodyPost_ret (results_cell_tmp2 rfl _ _ _ _ _ _ rfl (heap_alloc2_new _ _ _) Try.underlying131 rfl size_cx) rfl ?_

      exact ⟨rfl, by repeat' (first | (with_reducible exact Below.refl _ _) | (with_reducible assumption) | (with_reducible refine Below.setCell ?_ ?_ _) | (with_reducible refine Below.alloc ?_ ?_ _) | (with_reducible refine Below.drew ?_) | (with_reducible refine Below.drawsN ?_ _) | go_size)⟩
    · have hge : q ≤ c.r1 := by omega
      refine .inr ⟨by rw [e]; exact hlt, ?_⟩
      go_enter Try.func105, Try.ntmps105
      go_wp2_with (first | (refine wpList_load_row rfl 131 _ rfl _ rfl _ _ _ _ (by (first | exact heap_alloc2_new _ _ _ | exact heap_alloc2_old _ _ _ | exact heap_alloc_new _ _ | assumption)) Try.underlying131 rfl (by exact size_cx) ?_; (try go_simp)) | (refine wpList_store_row rfl 131 _ _ rfl _ _ rfl rfl _ _ (by (first | exact heap_alloc2_new _ _ _ | exact heap_alloc2_old _ _ _ | exact heap_alloc_new _ _ | assumption)) (by exact size_cx) (by rfl) (by simp [Value.oneCell']) ?_; (first | rw [setRow_alloc2_new] | rw [setRow_alloc2_old] | rw [World.setRow_alloc_new] | skip); (try go_simp)))
      refine bodyPost_ret (results_cell_tmp2 rfl _ _ _ _ _ _ rfl (heap_alloc2_new _ _ _) Try.underlying131 rfl size_cx) rfl ?_

      exact ⟨rfl, by repeat' (first | (with_reducible exact Below.refl _ _) | (with_reducible assumption) | (with_reducible refine Below.setCell ?_ ?_ _) | (with_reducible refine Below.alloc ?_ ?_ _) | (with_reducible refine Below.drew ?_) | (with_reducible refine Below.drawsN ?_ _) | go_size)⟩
  · have hr := hok.r2
    have e : c.r 2 = c.r2 := rfl
    by_cases hlt : c.r2 < q
    · have hwr : IntKind.u8.wrap (c.r2 + 1) = c.r2 + 1 := by rw [IntKind.wrap_u8]; omega
      have hge : ¬ (q ≤ c.r2) := by omega
      refine .inl ⟨by rw [e]; exact hlt, ?_⟩
      rw [e]
      go_enter Try.func105, Try.ntmps105
      go_wp2_with (first | (refine wpList_load_row rfl 131 _ rfl _ rfl _ _ _ _ (by (first | exact heap_alloc2_new _ _ _ | exact heap_alloc2_old _ _ _ | exact heap_alloc_new _ _ | assumption)) Try.underlying131 rfl (by exact size_cx) ?_; (try go_simp)) | (refine wpList_store_row rfl 131 _ _ rfl _ _ rfl rfl _ _ (by (first | exact heap_alloc2_new _ _ _ | exact heap_alloc2_old _ _ _ | exact heap_alloc_new _ _ | assumption)) (by exact size_cx) (by rfl) (by simp [Value.oneCell']) ?_; (first | rw [setRow_alloc2_new] | rw [setRow_alloc2_old] | rw [World.setRow_alloc_new] | skip); (try go_simp)))
      refine bodyPost_ret (results_cell_tmp2 rfl _ _ _ _ _ _ rfl (heap_alloc2_new _ _ _) Try.underlying131 rfl size_cx) rfl ?_

      exact ⟨rfl, by repeat' (first | (with_reducible exact Below.refl _ _) | (with_reducible assumption) | (with_reducible refine Below.setCell ?_ ?_ _) | (with_reducible refine Below.alloc ?_ ?_ _) | (with_reducible refine Below.drew ?_) | (with_reducible refine Below.drawsN ?_ _) | go_size)⟩
    · have hge : q ≤ c.r2 := by omega
      refine .inr ⟨by rw [e]; exact hlt, ?_⟩
      go_enter Try.func105, Try.ntmps105
      go_wp2_with (first | (refine wpList_load_row rfl 131 _ rfl _ rfl _ _ _ _ (by (first | exact heap_alloc2_new _ _ _ | exact heap_alloc2_old _ _ _ | exact heap_alloc_new _ _ | assumption)) Try.underlying131 rfl (by exact size_cx) ?_; (try go_simp)) | (refine wpList_store_row rfl 131 _ _ rfl _ _ rfl rfl _ _ (by (first | exact heap_alloc2_new _ _ _ | exact heap_alloc2_old _ _ _ | exact heap_alloc_new _ _ | assumption)) (by exact size_cx) (by rfl) (by simp [Value.oneCell']) ?_; (first | rw [setRow_alloc2_new] | rw [setRow_alloc2_old] | rw [World.setRow_alloc_new] | skip); (try go_simp)))
      refine bodyPost_ret (results_cell_tmp2 rfl _ _ _ _ _ _ rfl (heap_alloc2_new _ _ _) Try.underlying131 rfl size_cx) rfl ?_

      exact ⟨rfl, by repeat' (first | (with_reducible exact Below.refl _ _) | (with_reducible assumption) | (with_reducible refine Below.setCell ?_ ?_ _) | (with_reducible refine Below.alloc ?_ ?_ _) | (with_reducible refine Below.drew ?_) | (with_reducible refine Below.drawsN ?_ _) | go_size)⟩
  · have hr := hok.r3
    have e : c.r 3 = c.r3 := rfl
    by_cases hlt : c.r3 < q
    · have hwr : IntKind.u8.wrap (c.r3 + 1) = c.r3 + 1 := by rw [IntKind.wrap_u8]; omega
      have hge : ¬ (q ≤ c.r3) := by omega
      refine .inl ⟨by rw [e]; exact hlt, ?_⟩
      rw [e]
      go_enter Try.func105, Try.ntmps105
      go_wp2_with (first | (refine wpList_load_row rfl 131 _ rfl _ rfl _ _ _ _ (by (first | exact heap_alloc2_new _ _ _ | exact heap_alloc2_old _ _ _ | exact heap_alloc_new _ _ | assumption)) Try.underlying131 rfl (by exact size_cx) ?_; (try go_simp)) | (refine wpList_store_row rfl 131 _ _ rfl _ _ rfl rfl _ _ (by (first | exact heap_alloc2_new _ _ _ | exact heap_alloc2_old _ _ _ | exact heap_alloc_new _ _ | assumption)) (by exact size_cx) (by rfl) (by simp [Value.oneCell']) ?_; (first | rw [setRow_alloc2_new] | rw [setRow_alloc2_old] | rw [World.setRow_alloc_new] | skip); (try go_simp)))
      refine bodyPost_ret (results_cell_tmp2 rfl _ _ _ _ _ _ rfl (heap_alloc2_new _ _ _) Try.underlying131 rfl size_cx) rfl ?_

      exact ⟨rfl, by repeat' (first | (with_reducible exact Below.refl _ _) | (with_reducible assumption) | (with_reducible refine Below.setCell ?_ ?_ _) | (with_reducible refine Below.alloc ?_ ?_ _) | (with_reducible refine Below.drew ?_) | (with_reducible refine Below.drawsN ?_ _) | go_size)⟩
    · have hge : q ≤ c.r3 := by omega
      refine .inr ⟨by rw [e]; exact hlt, ?_⟩
      go_enter Try.func105, Try.ntmps105
      go_wp2_with (first | (refine wpList_load_row rfl 131 _ rfl _ rfl _ _ _ _ (by (first | exact heap_alloc2_new _ _ _ | exact heap_alloc2_old _ _ _ | exact heap_alloc_new _ _ | assumption)) Try.underlying131 rfl (by exact size_cx) ?_; (try go_simp)) | (refine wpList_store_row rfl 131 _ _ rfl _ _ rfl rfl _ _ (by (first | exact heap_alloc2_new _ _ _ | exact heap_alloc2_old _ _ _ | exact heap_alloc_new _ _ | assumption)) (by exact size_cx) (by rfl) (by simp [Value.oneCell']) ?_; (first | rw [setRow_alloc2_new] | rw [setRow_alloc2_old] | rw [World.setRow_alloc_new] | skip); (try go_simp)))
      refine bodyPost_ret (results_cell_tmp2 rfl _ _ _ _ _ _ rfl (heap_alloc2_new _ _ _) Try.underlying131 rfl size_cx) rfl ?_

      exact ⟨rfl, by repeat' (first | (with_reducible exact Below.refl _ _) | (with_reducible assumption) | (with_reducible refine Below.setCell ?_ ?_ _) | (with_reducible refine Below.alloc ?_ ?_ _) | (with_reducible refine Below.drew ?_) | (with_reducible refine Below.drawsN ?_ _) | go_size)⟩
  · have hr := hok.r4
    have e : c.r 4 = c.r4 := rfl
    by_cases hlt : c.r4 < q
    · have hwr : IntKind.u8.wrap (c.r4 + 1) = c.r4 + 1 := by rw [IntKind.wrap_u8]; omega
      have hge : ¬ (q ≤ c.r4) := by omega
      refine .inl ⟨by rw [e]; exact hlt, ?_⟩
      rw [e]
      go_enter Try.func105, Try.ntmps105
      go_wp2_with (first | (refine wpList_load_row rfl 131 _ rfl _ rfl _ _ _ _ (by (first | exact heap_alloc2_new _ _ _ | exact heap_alloc2_old _ _ _ | exact heap_alloc_new _ _ | assumption)) Try.underlying131 rfl (by exact size_cx) ?_; (try go_simp)) | (refine wpList_store_row rfl 131 _ _ rfl _ _ rfl rfl _ _ (by (first | exact heap_alloc2_new _ _ _ | exact heap_alloc2_old _ _ _ | exact heap_alloc_new _ _ | assumption)) (by exact size_cx) (by rfl) (by simp [Value.oneCell']) ?_; (first | rw [setRow_alloc2_new] | rw [setRow_alloc2_old] | rw [World.setRow_alloc_new] | skip); (try go_simp)))
      refine bodyPost_ret (results_cell_tmp2 rfl _ _ _ _ _ _ rfl (heap_alloc2_new _ _ _) Try.underlying131 rfl size_cx) rfl ?_

      exact ⟨rfl, by repeat' (first | (with_reducible exact Below.refl _ _) | (with_reducible assumption) | (with_reducible refine Below.setCell ?_ ?_ _) | (with_reducible refine Below.alloc ?_ ?_ _) | (with_reducible refine Below.drew ?_) | (with_reducible refine Below.drawsN ?_ _) | go_size)⟩
    · have hge : q ≤ c.r4 := by omega
      refine .inr ⟨by rw [e]; exact hlt, ?_⟩
      go_enter Try.func105, Try.ntmps105
      go_wp2_with (first | (refine wpList_load_row rfl 131 _ rfl _ rfl _ _ _ _ (by (first | exact heap_alloc2_new _ _ _ | exact heap_alloc2_old _ _ _ | exact heap_alloc_new _ _ | assumption)) Try.underlying131 rfl (by exact size_cx) ?_; (try go_simp)) | (refine wpList_store_row rfl 131 _ _ rfl _ _ rfl rfl _ _ (by (first | exact heap_alloc2_new _ _ _ | exact heap_alloc2_old _ _ _ | exact heap_alloc_new _ _ | assumption)) (by exact size_cx) (by rfl) (by simp [Value.oneCell']) ?_; (first | rw [setRow_alloc2_new] | rw [setRow_alloc2_old] | rw [World.setRow_alloc_new] | skip); (try go_simp)))
      refine bodyPost_ret (results_cell_tmp2 rfl _ _ _ _ _ _ rfl (heap_alloc2_new _ _ _) Try.underlying131 rfl size_cx) rfl ?_

      exact ⟨rfl, by repeat' (first | (with_reducible exact Below.refl _ _) | (with_reducible assumption) | (with_reducible refine Below.setCell ?_ ?_ _) | (with_reducible refine Below.alloc ?_ ?_ _) | (with_reducible refine Below.drew ?_) | (with_reducible refine Below.drawsN ?_ _) | go_size)⟩
  · have hr := hok.r5
    have e : c.r 5 = c.r5 := rfl
    by_cases hlt : c.r5 < q
    · have hwr : IntKind.u8.wrap (c.r5 + 1) = c.r5 + 1 := by rw [IntKind.wrap_u8]; omega
      have hge : ¬ (q ≤ c.r5) := by omega
      refine .inl ⟨by rw [e]; exact hlt, ?_⟩
      rw [e]
      go_enter Try.func105, Try.ntmps105
      go_wp2_with (first | (refine wpList_load_row rfl 131 _ rfl _ rfl _ _ _ _ (by (first | exact heap_alloc2_new _ _ _ | exact heap_alloc2_old _ _ _ | exact heap_alloc_new _ _ | assumption)) Try.underlying131 rfl (by exact size_cx) ?_; (try go_simp)) | (refine wpList_store_row rfl 131 _ _ rfl _ _ rfl rfl _ _ (by (first | exact heap_alloc2_new _ _ _ | exact heap_alloc2_old _ _ _ | exact heap_alloc_new _ _ | assumption)) (by exact size_cx) (by rfl) (by simp [Value.oneCell']) ?_; (first | rw [setRow_alloc2_new] | rw [setRow_alloc2_old] | rw [World.setRow_alloc_new] | skip); (try go_simp)))
      refine bodyPost_ret (results_cell_tmp2 rfl _ _ _ _ _ _ rfl (heap_alloc2_new _ _ _) Try.underlying131 rfl size_cx) rfl ?_

      exact ⟨rfl, by repeat' (first | (with_reducible exact Below.refl _ _) | (with_reducible assumption) | (with_reducible refine Below.setCell ?_ ?_ _) | (with_reducible refine Below.alloc ?_ ?_ _) | (with_reducible refine Below.drew ?_) | (with_reducible refine Below.drawsN ?_ _) | go_size)⟩
    · have hge : q ≤ c.r5 := by omega
      refine .inr ⟨by rw [e]; exact hlt, ?_⟩
      go_enter Try.func105, Try.ntmps105
      go_wp2_with (first | (refine wpList_load_row rfl 131 _ rfl _ rfl _ _ _ _ (by (first | exact heap_alloc2_new _ _ _ | exact heap_alloc2_old _ _ _ | exact heap_alloc_new _ _ | assumption)) Try.underlying131 rfl (by exact size_cx) ?_; (try go_simp)) | (refine wpList_store_row rfl 131 _ _ rfl _ _ rfl rfl _ _ (by (first | exact heap_alloc2_new _ _ _ | exact heap_alloc2_old _ _ _ | exact heap_alloc_new _ _ | assumption)) (by exact size_cx) (by rfl) (by simp [Value.oneCell']) ?_; (first | rw [setRow_alloc2_new] | rw [setRow_alloc2_old] | rw [World.setRow_alloc_new] | skip); (try go_simp)))
      refine bodyPost_ret (results_cell_tmp2 rfl _ _ _ _ _ _ rfl (heap_alloc2_new _ _ _) Try.underlying131 rfl size_cx) rfl ?_

      exact ⟨rfl, by repeat' (first | (with_reducible exact Below.refl _ _) | (with_reducible assumption) | (with_reducible refine Below.setCell ?_ ?_ _) | (with_reducible refine Below.alloc ?_ ?_ _) | (with_reducible refine Below.drew ?_) | (with_reducible refine Below.drawsN ?_ _) | go_size)⟩
end Go.Proofs.Ytiaaafjpnijphaa
