/- Layer 8: a context that came in, opened. -/
import Derived.Test.YtiaaafjpnijphaaAgg
import Derived.Test.YtiaaafjpnijphaaCx
namespace Go.Proofs.Ytiaaafjpnijphaa
open Go.ChangeShapes Go.WideShapes Go.ChangeAt Go.RowKit
set_option linter.unusedVariables false
section
variable {H : Type} {enc : TypeId × Value → H} {P : Program} {w : World} {base : Nat} {spare : Nat → Bool} {held : Bool}
theorem open_aggW {r : Reach} {b : Nat} {t : TypeId} {fs : Array Field} {v : Value} {d : DataW H} {ps : List MemPlace} {n : Nat} (ht : P.underlying t = some (.struct fs)) (hn : P.cellsOf t = n) (hv : Value.okWide P w r b t v) (h : DataW.Trod enc P w base spare held t v d ps) :
    ∃ cs : Array Value, v = .agg cs ∧ cs.size = n ∧ ∀ (i : Nat) (f : Field) (o k : Nat), fs[i]? = some f → f.offset = o → P.cellsOf f.type = k → ∃ x m, DataW.trod enc P w base spare held m f.type ((cs.toList.drop o).take k) = some x := by
  unfold Value.okWide at hv
  rw [ht] at hv
  obtain ⟨cs, rfl, hs, _⟩ := hv
  rw [hn] at hs
  obtain ⟨fuel, hf⟩ := h
  obtain ⟨xs, m, rfl, _, _, hx, hel⟩ := DataW.trod_struct ht hf
  refine ⟨cs, rfl, hs, fun i f o k hi ho hc => ?_⟩
  subst ho
  have h1 := hel i f hi
  have hil : i < fs.size := (Array.getElem?_eq_some_iff.1 hi).1
  have hy : xs[i]? = some (xs[i]'(by omega)) := List.getElem?_eq_getElem (by omega)
  rw [hc, hy] at h1
  simp only [Value.cells] at h1
  exact ⟨_, _, h1⟩
theorem cell_int {t : TypeId} {k : IntKind} {m : Nat} {l : List Value} {x : DataW H × List MemPlace} {o : Nat} (ht : P.underlying t = some (.int k)) (ho : o < l.length)
    (h : DataW.trod enc P w base spare held m t ((l.drop o).take 1) = some x) : ∃ z, l[o]? = some (.int k z) ∧ (Lit.int k z).wf = true := by
  have hd : (l.drop o).take 1 = [l[o]] := by rw [List.drop_eq_getElem_cons ho]; rfl
  rw [hd] at h
  obtain ⟨z, hz, _, hwf⟩ := DataW.trod_int ht h
  simp at hz
  exact ⟨z, by rw [List.getElem?_eq_getElem ho, hz], hwf⟩
theorem cell_bool {t : TypeId} {m : Nat} {l : List Value} {x : DataW H × List MemPlace} {o : Nat} (ht : P.underlying t = some .bool) (ho : o < l.length)
    (h : DataW.trod enc P w base spare held m t ((l.drop o).take 1) = some x) : ∃ z, l[o]? = some (.bool z) := by
  have hd : (l.drop o).take 1 = [l[o]] := by rw [List.drop_eq_getElem_cons ho]; rfl
  rw [hd] at h
  obtain ⟨z, hz, _⟩ := DataW.trod_bool ht h
  simp at hz
  exact ⟨z, by rw [List.getElem?_eq_getElem ho, hz]⟩
theorem cells_arr {t e : TypeId} {k : IntKind} {n m : Nat} {l : List Value} {x : DataW H × List MemPlace} {o : Nat} (ht : P.underlying t = some (.array n e)) (he : P.underlying e = some (.int k)) (hce : P.cellsOf e = 1) (ho : o + n ≤ l.length)
    (h : DataW.trod enc P w base spare held m t ((l.drop o).take n) = some x) : ∀ i, i < n → ∃ z, l[o + i]? = some (.int k z) ∧ (Lit.int k z).wf = true := by
  obtain ⟨ys, m, rfl, _, _, hys, hel⟩ := DataW.trod_array ht h
  rw [hce] at hel
  simp only [Nat.mul_one] at hel
  intro i hi
  have h1 := hel i hi
  have hy : ys[i]? = some (ys[i]'(by omega)) := List.getElem?_eq_getElem (by omega)
  rw [hy] at h1
  obtain ⟨z, hz, hw⟩ := cell_int (l := (l.drop o).take n) (o := i) he (by simp; omega) h1
  refine ⟨z, ?_, hw⟩
  rw [List.getElem?_take, if_pos hi, List.getElem?_drop] at hz
  exact hz
end
set_option maxRecDepth 100000 in
theorem open_cx {H : Type} {enc : TypeId × Value → H} {w : World} {base : Nat} {spare : Nat → Bool} {held : Bool} {r : Reach} {b : Nat} {v : Value} {d : DataW H} {ps : List MemPlace}
    (hv : Value.okWide Try.prog w r b 131 v) (h : DataW.Trod enc Try.prog w base spare held 131 v d ps) : ∃ c : Cx, v = .agg #[.int .u16 c.f, .int .u16 c.i, .int .u8 c.r0, .int .u8 c.r1, .int .u8 c.r2, .int .u8 c.r3, .int .u8 c.r4, .int .u8 c.r5, .int .i8 c.c0, .int .i8 c.c1, .int .i8 c.c2, .int .i8 c.c3, .int .i8 c.c4, .int .i8 c.c5, .int .u8 c.m, .int .u16 c.n, .bool c.x, .int .u8 c.h] ∧ c.Ok := by
  obtain ⟨cs, rfl, hs, fd⟩ := open_aggW (n := 18) Try.underlying131 (by kernel_rfl) hv h
  have hl : cs.toList.length = 18 := by simpa using hs
  obtain ⟨_, _, t0⟩ := fd 0 _ 0 1 rfl rfl (by kernel_rfl)
  obtain ⟨_, _, t1⟩ := fd 1 _ 1 1 rfl rfl (by kernel_rfl)
  obtain ⟨_, _, t2⟩ := fd 2 _ 2 6 rfl rfl (by kernel_rfl)
  obtain ⟨_, _, t3⟩ := fd 3 _ 8 6 rfl rfl (by kernel_rfl)
  obtain ⟨_, _, t4⟩ := fd 4 _ 14 1 rfl rfl (by kernel_rfl)
  obtain ⟨_, _, t5⟩ := fd 5 _ 15 1 rfl rfl (by kernel_rfl)
  obtain ⟨_, _, t6⟩ := fd 6 _ 16 1 rfl rfl (by kernel_rfl)
  obtain ⟨_, _, t7⟩ := fd 7 _ 17 1 rfl rfl (by kernel_rfl)
  obtain ⟨f, e0, w0⟩ := cell_int Try.underlying86 (by omega) t0
  obtain ⟨i, e1, w1⟩ := cell_int Try.underlying86 (by omega) t1
  have a2 := cells_arr Try.underlying128 Try.underlying5 (by kernel_rfl) (by omega) t2
  have a3 := cells_arr Try.underlying100 Try.underlying99 (by kernel_rfl) (by omega) t3
  obtain ⟨m, e4, w4⟩ := cell_int Try.underlying5 (by omega) t4
  obtain ⟨n, e5, w5⟩ := cell_int Try.underlying50 (by omega) t5
  obtain ⟨x, e6⟩ := cell_bool Try.underlying4 (by omega) t6
  obtain ⟨hh, e7, w7⟩ := cell_int Try.underlying5 (by omega) t7
  obtain ⟨r0, p0, u0⟩ := a2 0 (by omega)
  obtain ⟨r1, p1, u1⟩ := a2 1 (by omega)
  obtain ⟨r2, p2, u2⟩ := a2 2 (by omega)
  obtain ⟨r3, p3, u3⟩ := a2 3 (by omega)
  obtain ⟨r4, p4, u4⟩ := a2 4 (by omega)
  obtain ⟨r5, p5, u5⟩ := a2 5 (by omega)
  obtain ⟨c0, q0, v0⟩ := a3 0 (by omega)
  obtain ⟨c1, q1, v1⟩ := a3 1 (by omega)
  obtain ⟨c2, q2, v2⟩ := a3 2 (by omega)
  obtain ⟨c3, q3, v3⟩ := a3 3 (by omega)
  obtain ⟨c4, q4, v4⟩ := a3 4 (by omega)
  obtain ⟨c5, q5, v5⟩ := a3 5 (by omega)
  obtain rfl : cs = #[.int .u16 (⟨f, i, r0, r1, r2, r3, r4, r5, c0, c1, c2, c3, c4, c5, m, n, x, hh⟩ : Cx).f, .int .u16 (⟨f, i, r0, r1, r2, r3, r4, r5, c0, c1, c2, c3, c4, c5, m, n, x, hh⟩ : Cx).i, .int .u8 (⟨f, i, r0, r1, r2, r3, r4, r5, c0, c1, c2, c3, c4, c5, m, n, x, hh⟩ : Cx).r0, .int .u8 (⟨f, i, r0, r1, r2, r3, r4, r5, c0, c1, c2, c3, c4, c5, m, n, x, hh⟩ : Cx).r1, .int .u8 (⟨f, i, r0, r1, r2, r3, r4, r5, c0, c1, c2, c3, c4, c5, m, n, x, hh⟩ : Cx).r2, .int .u8 (⟨f, i, r0, r1, r2, r3, r4, r5, c0, c1, c2, c3, c4, c5, m, n, x, hh⟩ : Cx).r3, .int .u8 (⟨f, i, r0, r1, r2, r3, r4, r5, c0, c1, c2, c3, c4, c5, m, n, x, hh⟩ : Cx).r4, .int .u8 (⟨f, i, r0, r1, r2, r3, r4, r5, c0, c1, c2, c3, c4, c5, m, n, x, hh⟩ : Cx).r5, .int .i8 (⟨f, i, r0, r1, r2, r3, r4, r5, c0, c1, c2, c3, c4, c5, m, n, x, hh⟩ : Cx).c0, .int .i8 (⟨f, i, r0, r1, r2, r3, r4, r5, c0, c1, c2, c3, c4, c5, m, n, x, hh⟩ : Cx).c1, .int .i8 (⟨f, i, r0, r1, r2, r3, r4, r5, c0, c1, c2, c3, c4, c5, m, n, x, hh⟩ : Cx).c2, .int .i8 (⟨f, i, r0, r1, r2, r3, r4, r5, c0, c1, c2, c3, c4, c5, m, n, x, hh⟩ : Cx).c3, .int .i8 (⟨f, i, r0, r1, r2, r3, r4, r5, c0, c1, c2, c3, c4, c5, m, n, x, hh⟩ : Cx).c4, .int .i8 (⟨f, i, r0, r1, r2, r3, r4, r5, c0, c1, c2, c3, c4, c5, m, n, x, hh⟩ : Cx).c5, .int .u8 (⟨f, i, r0, r1, r2, r3, r4, r5, c0, c1, c2, c3, c4, c5, m, n, x, hh⟩ : Cx).m, .int .u16 (⟨f, i, r0, r1, r2, r3, r4, r5, c0, c1, c2, c3, c4, c5, m, n, x, hh⟩ : Cx).n, .bool (⟨f, i, r0, r1, r2, r3, r4, r5, c0, c1, c2, c3, c4, c5, m, n, x, hh⟩ : Cx).x, .int .u8 (⟨f, i, r0, r1, r2, r3, r4, r5, c0, c1, c2, c3, c4, c5, m, n, x, hh⟩ : Cx).h] := by
    apply Array.ext_getElem?
    intro j
    rcases Nat.lt_or_ge j 18 with hj | hj
    · rw [← Array.getElem?_toList]
      have : j = 0 ∨ j = 1 ∨ j = 2 ∨ j = 3 ∨ j = 4 ∨ j = 5 ∨ j = 6 ∨ j = 7 ∨ j = 8 ∨ j = 9 ∨ j = 10 ∨ j = 11 ∨ j = 12 ∨ j = 13 ∨ j = 14 ∨ j = 15 ∨ j = 16 ∨ j = 17 := by omega
      rcases this with rfl | rfl | rfl | rfl | rfl | rfl | rfl | rfl | rfl | rfl | rfl | rfl | rfl | rfl | rfl | rfl | rfl | rfl
      · exact e0
      · exact e1
      · exact p0
      · exact p1
      · exact p2
      · exact p3
      · exact p4
      · exact p5
      · exact q0
      · exact q1
      · exact q2
      · exact q3
      · exact q4
      · exact q5
      · exact e4
      · exact e5
      · exact e6
      · exact e7
    · rw [Array.getElem?_eq_none (by omega), Array.getElem?_eq_none (by simpa using hj)]
  have b16 : ∀ {z : Int}, (Lit.int .u16 z).wf = true → 0 ≤ z ∧ z < 65536 := fun h => by have := bounds_u16 h; omega
  have b8 : ∀ {z : Int}, (Lit.int .u8 z).wf = true → 0 ≤ z ∧ z < 256 := fun h => by have := bounds_u8 h; omega
  have s8 : ∀ {z : Int}, (Lit.int .i8 z).wf = true → -128 ≤ z ∧ z < 128 := fun h => by have := bounds_i8 h; omega
  exact ⟨_, rfl, b16 w0, b16 w1, b8 u0, b8 u1, b8 u2, b8 u3, b8 u4, b8 u5, s8 v0, s8 v1, s8 v2, s8 v3, s8 v4, s8 v5, b8 w4, b16 w5, b8 w7⟩
end Go.Proofs.Ytiaaafjpnijphaa
