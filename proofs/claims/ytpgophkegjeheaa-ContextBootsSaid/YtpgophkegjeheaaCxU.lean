/- Layer 8: what a memory tells; how many copies can be read; Copies; a context that came in, opened (merged: a claim has few files). -/
import Derived.Test.YtpgophkegjeheaaCxM
import Derived.Test.YtpgophkegjeheaaCxQ
import Derived.Test.YtpgophkegjeheaaAgg
import Derived.Test.YtpgophkegjeheaaMemE
import Derived.Test.YtpgophkegjeheaaLaw06s
import Derived.Lib.Tables
import Derived.Deep.DeepCutAuto
namespace Go.Proofs.Ytpgophkegjeheaa
set_option linter.unusedVariables false
set_option linter.unusedSimpArgs false
section
open Go.ChangeShapes Go.WideShapes Go.ChangeAt Go.RowKit
section
variable {H : Type} {enc : TypeId × Value → H} {P : Program} {w : World} {base : Nat} {spare : Nat → Bool} {held : Bool}
theorem open_aggW {r : Reach} {b : Nat} {t : TypeId} {fs : Array Field} {v : Value} {d : DataW H} {ps : List MemPlace} {n : Nat} (ht : P.underlying t = some (.struct fs)) (hn : P.cellsOf t = n) (hv : Value.okWide P w r b t v) (h : DataW.Trod enc P w base spare held t v d ps) :
    ∃ cs : Array Value, v = .agg cs ∧ cs.size = n ∧ ∀ (i : Nat) (f : Field) (o k : Nat), fs[i]? = some f → f.offset = o → P.cellsOf f.type = k → ∃ x m, DataW.trod enc P w base spare held m f.type ((cs.toList.drop o).take k) = some x := by
  unfold Value.okWide at hv
  rw [ht] at hv
  obtain ⟨cs, rfl, hs, _⟩ := hv
  rw [hn] at hs
  obtain ⟨fuel, hf⟩ := h
  obtain ⟨xs, m, rfl, _, _, hx, hel⟩ := DataW.trod_struct ht hf
  refine ⟨cs, rfl, hs, fun i f o k hi ho hc => ?_⟩
  subst ho
  have h1 := hel i f hi
  have hil : i < fs.size := (Array.getElem?_eq_some_iff.1 hi).1
  have hy : xs[i]? = some (xs[i]'(by omega)) := List.getElem?_eq_getElem (by omega)
  rw [hc, hy] at h1
  simp only [Value.cells] at h1
  exact ⟨_, _, h1⟩
theorem cell_int {t : TypeId} {k : IntKind} {m : Nat} {l : List Value} {x : DataW H × List MemPlace} {o : Nat} (ht : P.underlying t = some (.int k)) (ho : o < l.length)
    (h : DataW.trod enc P w base spare held m t ((l.drop o).take 1) = some x) : ∃ z, l[o]? = some (.int k z) ∧ (Lit.int k z).wf = true := by
  have hd : (l.drop o).take 1 = [l[o]] := by rw [List.drop_eq_getElem_cons ho]; rfl
  rw [hd] at h
  obtain ⟨z, hz, _, hwf⟩ := DataW.trod_int ht h
  simp at hz
  exact ⟨z, by rw [List.getElem?_eq_getElem ho, hz], hwf⟩
theorem cell_bool {t : TypeId} {m : Nat} {l : List Value} {x : DataW H × List MemPlace} {o : Nat} (ht : P.underlying t = some .bool) (ho : o < l.length)
    (h : DataW.trod enc P w base spare held m t ((l.drop o).take 1) = some x) : ∃ z, l[o]? = some (.bool z) := by
  have hd : (l.drop o).take 1 = [l[o]] := by rw [List.drop_eq_getElem_cons ho]; rfl
  rw [hd] at h
  obtain ⟨z, hz, _⟩ := DataW.trod_bool ht h
  simp at hz
  exact ⟨z, by rw [List.getElem?_eq_getElem ho, hz]⟩
theorem cells_arr {t e : TypeId} {k : IntKind} {n m : Nat} {l : List Value} {x : DataW H × List MemPlace} {o : Nat} (ht : P.underlying t = some (.array n e)) (he : P.underlying e = some (.int k)) (hce : P.cellsOf e = 1) (ho : o + n ≤ l.length)
    (h : DataW.trod enc P w base spare held m t ((l.drop o).take n) = some x) : ∀ i, i < n → ∃ z, l[o + i]? = some (.int k z) ∧ (Lit.int k z).wf = true := by
  obtain ⟨ys, m, rfl, _, _, hys, hel⟩ := DataW.trod_array ht h
  rw [hce] at hel
  simp only [Nat.mul_one] at hel
  intro i hi
  have h1 := hel i hi
  have hy : ys[i]? = some (ys[i]'(by omega)) := List.getElem?_eq_getElem (by omega)
  rw [hy] at h1
  obtain ⟨z, hz, hw⟩ := cell_int (l := (l.drop o).take n) (o := i) he (by simp; omega) h1
  refine ⟨z, ?_, hw⟩
  rw [List.getElem?_take, if_pos hi, List.getElem?_drop] at hz
  exact hz
end
set_option maxRecDepth 100000 in
theorem open_cx {H : Type} {enc : TypeId × Value → H} {w : World} {base : Nat} {spare : Nat → Bool} {held : Bool} {r : Reach} {b : Nat} {v : Value} {d : DataW H} {ps : List MemPlace}
    (hv : Value.okWide Try.prog w r b 28 v) (h : DataW.Trod enc Try.prog w base spare held 28 v d ps) : ∃ c : Cx, v = .agg #[.int .u16 c.f, .int .u16 c.i, .int .u8 c.r0, .int .u8 c.r1, .int .u8 c.r2, .int .u8 c.r3, .int .u8 c.r4, .int .u8 c.r5, .int .i8 c.c0, .int .i8 c.c1, .int .i8 c.c2, .int .i8 c.c3, .int .i8 c.c4, .int .i8 c.c5, .int .u8 c.m, .int .u16 c.n, .bool c.x, .int .u8 c.h] ∧ c.Ok := by
  obtain ⟨cs, rfl, hs, fd⟩ := open_aggW (n := 18) Try.underlying28 (by kernel_rfl) hv h
  have hl : cs.toList.length = 18 := by simpa using hs
  obtain ⟨_, _, t0⟩ := fd 0 _ 0 1 rfl rfl (by kernel_rfl)
  obtain ⟨_, _, t1⟩ := fd 1 _ 1 1 rfl rfl (by kernel_rfl)
  obtain ⟨_, _, t2⟩ := fd 2 _ 2 6 rfl rfl (by kernel_rfl)
  obtain ⟨_, _, t3⟩ := fd 3 _ 8 6 rfl rfl (by kernel_rfl)
  obtain ⟨_, _, t4⟩ := fd 4 _ 14 1 rfl rfl (by kernel_rfl)
  obtain ⟨_, _, t5⟩ := fd 5 _ 15 1 rfl rfl (by kernel_rfl)
  obtain ⟨_, _, t6⟩ := fd 6 _ 16 1 rfl rfl (by kernel_rfl)
  obtain ⟨_, _, t7⟩ := fd 7 _ 17 1 rfl rfl (by kernel_rfl)
  obtain ⟨f, e0, w0⟩ := cell_int Try.underlying23 (by omega) t0
  obtain ⟨i, e1, w1⟩ := cell_int Try.underlying23 (by omega) t1
  have a2 := cells_arr Try.underlying24 Try.underlying5 (by kernel_rfl) (by omega) t2
  have a3 := cells_arr Try.underlying26 Try.underlying25 (by kernel_rfl) (by omega) t3
  obtain ⟨m, e4, w4⟩ := cell_int Try.underlying5 (by omega) t4
  obtain ⟨n, e5, w5⟩ := cell_int Try.underlying22 (by omega) t5
  obtain ⟨x, e6⟩ := cell_bool Try.underlying4 (by omega) t6
  obtain ⟨hh, e7, w7⟩ := cell_int Try.underlying5 (by omega) t7
  obtain ⟨r0, p0, u0⟩ := a2 0 (by omega)
  obtain ⟨r1, p1, u1⟩ := a2 1 (by omega)
  obtain ⟨r2, p2, u2⟩ := a2 2 (by omega)
  obtain ⟨r3, p3, u3⟩ := a2 3 (by omega)
  obtain ⟨r4, p4, u4⟩ := a2 4 (by omega)
  obtain ⟨r5, p5, u5⟩ := a2 5 (by omega)
  obtain ⟨c0, q0, v0⟩ := a3 0 (by omega)
  obtain ⟨c1, q1, v1⟩ := a3 1 (by omega)
  obtain ⟨c2, q2, v2⟩ := a3 2 (by omega)
  obtain ⟨c3, q3, v3⟩ := a3 3 (by omega)
  obtain ⟨c4, q4, v4⟩ := a3 4 (by omega)
  obtain ⟨c5, q5, v5⟩ := a3 5 (by omega)
  obtain rfl : cs = #[.int .u16 (⟨f, i, r0, r1, r2, r3, r4, r5, c0, c1, c2, c3, c4, c5, m, n, x, hh⟩ : Cx).f, .int .u16 (⟨f, i, r0, r1, r2, r3, r4, r5, c0, c1, c2, c3, c4, c5, m, n, x, hh⟩ : Cx).i, .int .u8 (⟨f, i, r0, r1, r2, r3, r4, r5, c0, c1, c2, c3, c4, c5, m, n, x, hh⟩ : Cx).r0, .int .u8 (⟨f, i, r0, r1, r2, r3, r4, r5, c0, c1, c2, c3, c4, c5, m, n, x, hh⟩ : Cx).r1, .int .u8 (⟨f, i, r0, r1, r2, r3, r4, r5, c0, c1, c2, c3, c4, c5, m, n, x, hh⟩ : Cx).r2, .int .u8 (⟨f, i, r0, r1, r2, r3, r4, r5, c0, c1, c2, c3, c4, c5, m, n, x, hh⟩ : Cx).r3, .int .u8 (⟨f, i, r0, r1, r2, r3, r4, r5, c0, c1, c2, c3, c4, c5, m, n, x, hh⟩ : Cx).r4, .int .u8 (⟨f, i, r0, r1, r2, r3, r4, r5, c0, c1, c2, c3, c4, c5, m, n, x, hh⟩ : Cx).r5, .int .i8 (⟨f, i, r0, r1, r2, r3, r4, r5, c0, c1, c2, c3, c4, c5, m, n, x, hh⟩ : Cx).c0, .int .i8 (⟨f, i, r0, r1, r2, r3, r4, r5, c0, c1, c2, c3, c4, c5, m, n, x, hh⟩ : Cx).c1, .int .i8 (⟨f, i, r0, r1, r2, r3, r4, r5, c0, c1, c2, c3, c4, c5, m, n, x, hh⟩ : Cx).c2, .int .i8 (⟨f, i, r0, r1, r2, r3, r4, r5, c0, c1, c2, c3, c4, c5, m, n, x, hh⟩ : Cx).c3, .int .i8 (⟨f, i, r0, r1, r2, r3, r4, r5, c0, c1, c2, c3, c4, c5, m, n, x, hh⟩ : Cx).c4, .int .i8 (⟨f, i, r0, r1, r2, r3, r4, r5, c0, c1, c2, c3, c4, c5, m, n, x, hh⟩ : Cx).c5, .int .u8 (⟨f, i, r0, r1, r2, r3, r4, r5, c0, c1, c2, c3, c4, c5, m, n, x, hh⟩ : Cx).m, .int .u16 (⟨f, i, r0, r1, r2, r3, r4, r5, c0, c1, c2, c3, c4, c5, m, n, x, hh⟩ : Cx).n, .bool (⟨f, i, r0, r1, r2, r3, r4, r5, c0, c1, c2, c3, c4, c5, m, n, x, hh⟩ : Cx).x, .int .u8 (⟨f, i, r0, r1, r2, r3, r4, r5, c0, c1, c2, c3, c4, c5, m, n, x, hh⟩ : Cx).h] := by
    apply Array.ext_getElem?
    intro j
    rcases Nat.lt_or_ge j 18 with hj | hj
    · rw [← Array.getElem?_toList]
      have : j = 0 ∨ j = 1 ∨ j = 2 ∨ j = 3 ∨ j = 4 ∨ j = 5 ∨ j = 6 ∨ j = 7 ∨ j = 8 ∨ j = 9 ∨ j = 10 ∨ j = 11 ∨ j = 12 ∨ j = 13 ∨ j = 14 ∨ j = 15 ∨ j = 16 ∨ j = 17 := by omega
      rcases this with rfl | rfl | rfl | rfl | rfl | rfl | rfl | rfl | rfl | rfl | rfl | rfl | rfl | rfl | rfl | rfl | rfl | rfl
      · exact e0
      · exact e1
      · exact p0
      · exact p1
      · exact p2
      · exact p3
      · exact p4
      · exact p5
      · exact q0
      · exact q1
      · exact q2
      · exact q3
      · exact q4
      · exact q5
      · exact e4
      · exact e5
      · exact e6
      · exact e7
    · rw [Array.getElem?_eq_none (by omega), Array.getElem?_eq_none (by simpa using hj)]
  have b16 : ∀ {z : Int}, (Lit.int .u16 z).wf = true → 0 ≤ z ∧ z < 65536 := fun h => by have := bounds_u16 h; omega
  have b8 : ∀ {z : Int}, (Lit.int .u8 z).wf = true → 0 ≤ z ∧ z < 256 := fun h => by have := bounds_u8 h; omega
  have s8 : ∀ {z : Int}, (Lit.int .i8 z).wf = true → -128 ≤ z ∧ z < 128 := fun h => by have := bounds_i8 h; omega
  exact ⟨_, rfl, b16 w0, b16 w1, b8 u0, b8 u1, b8 u2, b8 u3, b8 u4, b8 u5, s8 v0, s8 v1, s8 v2, s8 v3, s8 v4, s8 v5, b8 w4, b16 w5, b8 w7⟩
end
open Go.RowKit Go.Own

set_option maxRecDepth 100000 in
set_option maxHeartbeats 2000000 in
theorem Ones7 (w : World) : Calls Try.prog 75 #[.int .u16 7] w fun e w' => e = .returned (.int .i64 3) ∧ Below w.heap.size w w' := by
  have e1 : Lib.pop8 0 = 0 := by decide +kernel
  have e2 : Lib.pop8 7 = 3 := by decide +kernel
  have e3 : bits .and .u16 7 255 = 7 := by decide +kernel
  go_enter Try.func75, Try.ntmps75
  go_wp2
  simp only [List.append_eq, List.cons_append, List.nil_append, Lib.fold_pop8tab]
  go_quiet (fail)
  all_goals
    go_wp2
    go_ret
    exact ⟨rfl, below_drews _ _ _⟩
section
variable {w : World} {B g : Nat} {v : Nat → Value} {ls : Nat → List Nat}

/-- What Copies hands back: a row of three new rows. -/
structure Rows3 (w : World) (n0 : Nat) (x : Option Addr) (c : Nat) (pa : Nat → Option Addr) (pc : Nat → Nat) (ls : Nat → List Nat) : Prop where
  out : w.ownsRow n0 29 1 (.slice x 3 c) 3 [.slice (pa 0) (ls 0).length (pc 0), .slice (pa 1) (ls 1).length (pc 1), .slice (pa 2) (ls 2).length (pc 2)]
  inn : ∀ i, i < 3 → w.ownsRow n0 5 1 (.slice (pa i) (ls i).length (pc i)) (ls i).length (bl (ls i))
theorem cell_one_new2 (w : World) (v : Value) (t : TypeId) : ∀ j u, [v][j]? = some u → (w.alloc (.cells #[v] t)).cell? ((⟨w.heap.size, 0, none⟩ : Addr).add j) = some u := cell_one_new _ _ _
set_option maxRecDepth 100000 in
set_option maxHeartbeats 4000000 in
theorem mCopies (h : MemS w B g v ls) : Calls Try.prog 34 #[.pointer (some ⟨g, 0, none⟩)] w fun e w' => ∃ x c pa pc, e = .returned (.slice x 3 c) ∧ Rows3 w' w.heap.size x c pa pc ls ∧ Below w.heap.size w w' := by
  obtain ⟨i0, hi, hz0, hz1, hz2⟩ := info_parts info_row8
  obtain ⟨pa, pc, hf⟩ := h.forms
  have c0 := h.c0
  have c1 := h.c1
  have c2 := h.c2
  rw [(hf 0 (by omega)).1] at c0
  rw [(hf 1 (by omega)).1] at c1
  rw [(hf 2 (by omega)).1] at c2
  have HF := Lib.hid hf
  have H := Lib.hid h
  have BW := Lib.hid (Below.refl w.heap.size w)
  have HV := Lib.hid (World.ownsRow_nil w w.heap.size 29 1)
  clear hf h
  go_enter Try.func34, Try.ntmps34
  go_wp2
  refine wp_loop_rounds 4 ?_
  rw [rounds_succ]
  have hRd := (HF.out 0 (by omega)).2
  have hbl := H.out.len 0 (by omega)
  have hcl := Clone_any (pa 0) (ls 0).length (pc 0) w.heap.size (ls 0) w BW.out.size rfl (hRd.below BW.out) (by omega)
  have HCL := Lib.hid hcl
  clear hRd hbl hcl
  go_wp2_with fail
  go_at_call 71
  refine HCL.out.mono ?_
  rintro e wq ⟨y, rfl, hown, hbb⟩
  obtain ⟨ya, yc, rfl⟩ := own_form hown
  have hbw := BW.out.trans (hbb.mono BW.out.size)
  have hv1 := own_keep HV.out hbb
  have hnew := World.ownsRow.mono hown BW.out.size
  have hbs := hbw.size
  have HNEW := Lib.hid hnew
  have HB1 := Lib.hid hbw
  have HV1 := Lib.hid hv1
  have HBB := Lib.hid hbb
  clear HCL hown hbb hv1 hnew hbw
  go_wp2_with (at_builtin; refine wpList_append_own _ rfl _ _ 40 rfl w.heap.size 29 i0 (.slice none 0 0) 1 24 Try.underlying40 hi hz0 hz1 hz2 rfl (by decide) _ _ _ rfl (HV1.out.alloc _) ⟨wq.heap.size, 0, none⟩ 1 1 [.slice ya (ls 0).length yc] rfl rfl (cell_one_new _ _ _) (by simp [Value.oneCell']) (by unfold maxLen; omega) (by omega) (by simp; omega) ?_; intro va wa hown4 hgrow4 _)
  have hbl4 : Below w.heap.size w wa := (HB1.out.alloc hbs _).grown hgrow4 (by simp; omega) (fun k e => ((HV1.out.lt k e).1))
  have hkeep : ∀ (y : Value) (n : Nat) (xs : List Value), wq.ownsRow w.heap.size 5 1 y n xs → wa.ownsRow w.heap.size 5 1 y n xs := fun y n xs hy => (hy.alloc _).kept hgrow4 (own_apart (hy.alloc _) (HV1.out.alloc (.cells #[.slice ya (ls 0).length yc] 29)) (by decide))
  have kp : ∀ (y : Value) (n : Nat) (xs : List Value), w.ownsRow w.heap.size 5 1 y n xs → wa.ownsRow w.heap.size 5 1 y n xs := fun y n xs hy => hkeep y n xs (own_keep hy HBB.out)
  have nw := hkeep _ _ _ HNEW.out
  simp only [Nat.zero_add, Nat.reduceAdd, List.nil_append, List.cons_append] at hown4
  obtain ⟨va, vc, rfl⟩ := own_form hown4
  obtain ⟨ya0, hya0⟩ : ∃ q, q = ya := ⟨_, rfl⟩
  obtain ⟨yc0, hyc0⟩ : ∃ q, q = yc := ⟨_, rfl⟩
  rw [← hya0, ← hyc0] at hown4 nw
  clear HV BW HV1 HB1 HBB HNEW hgrow4 hkeep hbs hya0 hyc0
  have HV := Lib.hid hown4
  have BW := Lib.hid hbl4
  have KP0 := Lib.hid kp
  have NW0 := Lib.hid nw
  clear hown4 hbl4 kp nw
  go_wp2
  rw [rounds_succ]
  have hRd := (HF.out 1 (by omega)).2
  have hbl := H.out.len 1 (by omega)
  have hcl := Clone_any (pa 1) (ls 1).length (pc 1) w.heap.size (ls 1) wa BW.out.size rfl (hRd.below BW.out) (by omega)
  have HCL := Lib.hid hcl
  clear hRd hbl hcl
  go_wp2_with fail
  go_at_call 71
  refine HCL.out.mono ?_
  rintro e wq ⟨y, rfl, hown, hbb⟩
  obtain ⟨ya, yc, rfl⟩ := own_form hown
  have hbw := BW.out.trans (hbb.mono BW.out.size)
  have hv1 := own_keep HV.out hbb
  have hnew := World.ownsRow.mono hown BW.out.size
  have hbs := hbw.size
  have HNEW := Lib.hid hnew
  have HB1 := Lib.hid hbw
  have HV1 := Lib.hid hv1
  have HBB := Lib.hid hbb
  clear HCL hown hbb hv1 hnew hbw
  go_wp2_with (at_builtin; refine wpList_append_own _ rfl _ _ 40 rfl w.heap.size 29 i0 (.slice none 0 0) 1 24 Try.underlying40 hi hz0 hz1 hz2 rfl (by decide) _ _ _ rfl (HV1.out.alloc _) ⟨wq.heap.size, 0, none⟩ 1 1 [.slice ya (ls 1).length yc] rfl rfl (cell_one_new _ _ _) (by simp [Value.oneCell']) (by unfold maxLen; omega) (by omega) (by simp; omega) ?_; intro vb wb hown4 hgrow4 _)
  have hbl4 : Below w.heap.size w wb := (HB1.out.alloc hbs _).grown hgrow4 (by simp; omega) (fun k e => ((HV1.out.lt k e).1))
  have hkeep : ∀ (y : Value) (n : Nat) (xs : List Value), wq.ownsRow w.heap.size 5 1 y n xs → wb.ownsRow w.heap.size 5 1 y n xs := fun y n xs hy => (hy.alloc _).kept hgrow4 (own_apart (hy.alloc _) (HV1.out.alloc (.cells #[.slice ya (ls 1).length yc] 29)) (by decide))
  have kp : ∀ (y : Value) (n : Nat) (xs : List Value), wa.ownsRow w.heap.size 5 1 y n xs → wb.ownsRow w.heap.size 5 1 y n xs := fun y n xs hy => hkeep y n xs (own_keep hy HBB.out)
  have nw := hkeep _ _ _ HNEW.out
  simp only [Nat.zero_add, Nat.reduceAdd, List.nil_append, List.cons_append] at hown4
  obtain ⟨va, vc, rfl⟩ := own_form hown4
  obtain ⟨ya1, hya1⟩ : ∃ q, q = ya := ⟨_, rfl⟩
  obtain ⟨yc1, hyc1⟩ : ∃ q, q = yc := ⟨_, rfl⟩
  rw [← hya1, ← hyc1] at hown4 nw
  clear HV BW HV1 HB1 HBB HNEW hgrow4 hkeep hbs hya1 hyc1
  have HV := Lib.hid hown4
  have BW := Lib.hid hbl4
  have KP1 := Lib.hid kp
  have NW1 := Lib.hid nw
  clear hown4 hbl4 kp nw
  go_wp2
  rw [rounds_succ]
  have hRd := (HF.out 2 (by omega)).2
  have hbl := H.out.len 2 (by omega)
  have hcl := Clone_any (pa 2) (ls 2).length (pc 2) w.heap.size (ls 2) wb BW.out.size rfl (hRd.below BW.out) (by omega)
  have HCL := Lib.hid hcl
  clear hRd hbl hcl
  go_wp2_with fail
  go_at_call 71
  refine HCL.out.mono ?_
  rintro e wq ⟨y, rfl, hown, hbb⟩
  obtain ⟨ya, yc, rfl⟩ := own_form hown
  have hbw := BW.out.trans (hbb.mono BW.out.size)
  have hv1 := own_keep HV.out hbb
  have hnew := World.ownsRow.mono hown BW.out.size
  have hbs := hbw.size
  have HNEW := Lib.hid hnew
  have HB1 := Lib.hid hbw
  have HV1 := Lib.hid hv1
  have HBB := Lib.hid hbb
  clear HCL hown hbb hv1 hnew hbw
  go_wp2_with (at_builtin; refine wpList_append_own _ rfl _ _ 40 rfl w.heap.size 29 i0 (.slice none 0 0) 1 24 Try.underlying40 hi hz0 hz1 hz2 rfl (by decide) _ _ _ rfl (HV1.out.alloc _) ⟨wq.heap.size, 0, none⟩ 1 1 [.slice ya (ls 2).length yc] rfl rfl (cell_one_new _ _ _) (by simp [Value.oneCell']) (by unfold maxLen; omega) (by omega) (by simp; omega) ?_; intro vd wc hown4 hgrow4 _)
  have hbl4 : Below w.heap.size w wc := (HB1.out.alloc hbs _).grown hgrow4 (by simp; omega) (fun k e => ((HV1.out.lt k e).1))
  have hkeep : ∀ (y : Value) (n : Nat) (xs : List Value), wq.ownsRow w.heap.size 5 1 y n xs → wc.ownsRow w.heap.size 5 1 y n xs := fun y n xs hy => (hy.alloc _).kept hgrow4 (own_apart (hy.alloc _) (HV1.out.alloc (.cells #[.slice ya (ls 2).length yc] 29)) (by decide))
  have kp : ∀ (y : Value) (n : Nat) (xs : List Value), wb.ownsRow w.heap.size 5 1 y n xs → wc.ownsRow w.heap.size 5 1 y n xs := fun y n xs hy => hkeep y n xs (own_keep hy HBB.out)
  have nw := hkeep _ _ _ HNEW.out
  simp only [Nat.zero_add, Nat.reduceAdd, List.nil_append, List.cons_append] at hown4
  obtain ⟨va, vc, rfl⟩ := own_form hown4
  obtain ⟨ya2, hya2⟩ : ∃ q, q = ya := ⟨_, rfl⟩
  obtain ⟨yc2, hyc2⟩ : ∃ q, q = yc := ⟨_, rfl⟩
  rw [← hya2, ← hyc2] at hown4 nw
  clear HV BW HV1 HB1 HBB HNEW hgrow4 hkeep hbs hya2 hyc2
  have HV := Lib.hid hown4
  have BW := Lib.hid hbl4
  have KP2 := Lib.hid kp
  have NW2 := Lib.hid nw
  clear hown4 hbl4 kp nw
  go_wp2
  rw [rounds_succ]
  go_wp2
  go_ret
  refine ⟨va, vc, sel3 ya0 ya1 ya2, sel3 yc0 yc1 yc2, rfl, ⟨HV.out, fun i hi => ?_⟩, BW.out⟩
  have : i = 0 ∨ i = 1 ∨ i = 2 := by omega
  rcases this with rfl | rfl | rfl
  · exact KP2.out _ _ _ (KP1.out _ _ _ NW0.out)
  · exact KP2.out _ _ _ NW1.out
  · exact NW2.out
end
theorem wpList_load_row_w {P : Program} {ops : Array Oper} {rest : List Oper} {o : Oper} {a : Act} {w : World} {Q : Exit → Act → World → Prop} (hwt : Region.wanted o (yielded ops a.tmps) = true) (ty : TypeId) (x : Operand) (ho : o.op = .load ty x)
    (g : Nat) (hx : a.eval x = .pointer (some ⟨g, 0, none⟩)) (t : TypeId) (cs : Array Value) (fr : Nat × Nat) (d : TypeDesc) (hg : w.heap[g]? = some (.cells cs t fr))
    (hu : P.underlying ty = some d) (hd : (match d with | .struct _ | .array _ _ => true | _ => false) = true) (hi : (P.info? ty).map (·.size) = some cs.size)
    (h : wpList P ops Q rest (a.put o.dst (.agg cs)) w) : wpList P ops Q (o :: rest) a w := by
  unfold wpList
  rw [if_pos hwt]
  exact .inl (wp_load_row ty x ho g hx t cs fr d hg hu hd hi h)
theorem mk_fine (s : Nat) (c : Cx) (hs : s < 4294967296) : perr (mkCell s (bytesOf c)) = 0 ∧ pdat (mkCell s (bytesOf c)) = bytesOf c ∧ pseq (mkCell s (bytesOf c)) = s :=
  ⟨mkCell_err _ _ (by rw [bytesOf_len]; omega), mkCell_dat _ _, mkCell_seq _ _ hs⟩
theorem vst_all {C d : List Nat} (h : perr C = 0) : vst (sel4 C C C d) 3 = (3, 0) := by simp [vst, sel4, h]
theorem gtop_all {C d : List Nat} (h : perr C = 0) : gtop (sel4 C C C d) 3 = pseq C := by simp [gtop, sel4, h]
/-- Three copies that are alike tell their context. -/
theorem told_all {s : Nat} {c : Cx} {d : List Nat} (hs : s < 4294967296) (hok : c.Ok) (hr : c.right = true) :
    toldOk (sel4 (mkCell s (bytesOf c)) (mkCell s (bytesOf c)) (mkCell s (bytesOf c)) d) = true ∧ toldCx (sel4 (mkCell s (bytesOf c)) (mkCell s (bytesOf c)) (mkCell s (bytesOf c)) d) = c ∧ gtop (sel4 (mkCell s (bytesOf c)) (mkCell s (bytesOf c)) (mkCell s (bytesOf c)) d) 3 = s := by
  obtain ⟨h1, h2, h3⟩ := mk_fine s c hs
  have hL : toldL (sel4 (mkCell s (bytesOf c)) (mkCell s (bytesOf c)) (mkCell s (bytesOf c)) d) = bytesOf c := by
    unfold toldL
    rw [vst_all h1]
    exact h2
  have hO : toldOk (sel4 (mkCell s (bytesOf c)) (mkCell s (bytesOf c)) (mkCell s (bytesOf c)) d) = true := by
    unfold toldOk
    rw [hL, vst_all h1]
    simp [good_bytes hok hr]
  refine ⟨hO, ?_, by rw [gtop_all h1, h3]⟩
  unfold toldCx
  rw [hO, hL]
  exact (cxOf_bytes hok hr).1
theorem vst_begin {C D d : List Nat} (hC : perr C = 0) (hD : perr D = 0) (h : pseq D ≤ pseq C) : vst (sel4 C D D d) 3 = (3, 0) := by
  have h' : ¬ pseq C < pseq D := by omega
  simp [vst, sel4, hC, hD, h']
/-- Behind the first phase the new context is told. -/
theorem told_begin {D d : List Nat} {s : Nat} {c : Cx} (hs : s < 4294967296) (hD : perr D = 0) (hsD : pseq D ≤ s) (hok : c.Ok) (hr : c.right = true) :
    toldOk (sel4 (mkCell s (bytesOf c)) D D d) = true ∧ toldCx (sel4 (mkCell s (bytesOf c)) D D d) = c ∧ gtop (sel4 (mkCell s (bytesOf c)) D D d) 3 = s := by
  obtain ⟨h1, h2, h3⟩ := mk_fine s c hs
  have hv := vst_begin (d := d) h1 hD (by rw [h3]; exact hsD)
  have hL : toldL (sel4 (mkCell s (bytesOf c)) D D d) = bytesOf c := by
    unfold toldL
    rw [hv]
    exact h2
  have hO : toldOk (sel4 (mkCell s (bytesOf c)) D D d) = true := by
    unfold toldOk
    rw [hL, hv]
    simp [good_bytes hok hr]
  refine ⟨hO, ?_, ?_⟩
  · unfold toldCx
    rw [hO, hL]
    exact (cxOf_bytes hok hr).1
  · simp [gtop, sel4, h1, hD, h3]
    omega
theorem told_none {ls : Nat → List Nat} (h : (vst ls 3).1 < 2) : toldOk ls = false ∧ toldCx ls = cxDef := by
  have h1 : toldOk ls = false := by unfold toldOk; simp; omega
  exact ⟨h1, by unfold toldCx; rw [h1]; rfl⟩
theorem vst_two {ls : Nat → List Nat} (h : perr (ls 1) ≠ 0 ∧ perr (ls 2) ≠ 0) : (vst ls 3).1 < 2 := by
  simp only [vst, h.1, h.2, if_false]
  split
  · show 1 < 2; decide
  · show 0 < 2; decide
theorem vst_two' {ls : Nat → List Nat} (h : perr (ls 0) ≠ 0 ∧ perr (ls 1) ≠ 0) : (vst ls 3).1 < 2 := by
  simp only [vst, h.1, h.2, if_false]
  split
  · show 1 < 2; decide
  · show 0 < 2; decide
/-- Three copies of any bytes that fit. -/
theorem told_raw {D d : List Nat} (hD : perr D = 0) : toldL (sel4 D D D d) = pdat D ∧ toldOk (sel4 D D D d) = decide (cxGood (pdat D)) ∧ gtop (sel4 D D D d) 3 = pseq D := by
  have hL : toldL (sel4 D D D d) = pdat D := by unfold toldL; rw [vst_all hD]; rfl
  refine ⟨hL, ?_, gtop_all hD⟩
  unfold toldOk
  rw [hL, vst_all hD]
  simp
theorem gset_three {C d : List Nat} (h : perr C = 0) : gset (sel4 C C C d) 3 = 7 := by
  simp only [gset, sel4]
  simp [h]
  decide
set_option maxHeartbeats 1000000 in
theorem Count7 (w : World) : Calls Try.prog 38 #[.int .u16 7] w fun e w' => e = .returned (.int .i64 3) ∧ Below w.heap.size w w' := by
  go_enter Try.func38, Try.ntmps38
  go_wp2_with fail
  go_at_call 75
  refine (Ones7 _).mono ?_
  rintro e w' ⟨rfl, hb⟩
  go_wp2
  go_ret
  exact ⟨rfl, hb⟩
end Go.Proofs.Ytpgophkegjeheaa
