/- Layer 7: Copies. -/
import Derived.Test.YtdlkonbjmmepoaaLaw07
namespace Go.Proofs.Ytdlkonbjmmepoaa
open Go.RowKit Go.Own
set_option linter.unusedVariables false
set_option linter.unusedSimpArgs false
variable {w : World} {B g : Nat} {v : Nat → Value} {ls : Nat → List Nat}

/-- What Copies hands back: a row of three new rows. -/
structure Rows3 (w : World) (n0 : Nat) (x : Option Addr) (c : Nat) (pa : Nat → Option Addr) (pc : Nat → Nat) (ls : Nat → List Nat) : Prop where
  out : w.ownsRow n0 22 1 (.slice x 3 c) 3 [.slice (pa 0) (ls 0).length (pc 0), .slice (pa 1) (ls 1).length (pc 1), .slice (pa 2) (ls 2).length (pc 2)]
  inn : ∀ i, i < 3 → w.ownsRow n0 5 1 (.slice (pa i) (ls i).length (pc i)) (ls i).length (bl (ls i))
theorem cell_one_new2 (w : World) (v : Value) (t : TypeId) : ∀ j u, [v][j]? = some u → (w.alloc (.cells #[v] t)).cell? ((⟨w.heap.size, 0, none⟩ : Addr).add j) = some u := cell_one_new _ _ _
set_option maxRecDepth 100000 in
set_option maxHeartbeats 4000000 in
theorem mCopies (h : MemS w B g v ls) : Calls Try.prog 29 #[.pointer (some ⟨g, 0, none⟩)] w fun e w' => ∃ x c pa pc, e = .returned (.slice x 3 c) ∧ Rows3 w' w.heap.size x c pa pc ls ∧ Below w.heap.size w w' := by
  obtain ⟨i0, hi, hz0, hz1, hz2⟩ := info_parts info_row8
  obtain ⟨pa, pc, hf⟩ := h.forms
  have c0 := h.c0
  have c1 := h.c1
  have c2 := h.c2
  rw [(hf 0 (by omega)).1] at c0
  rw [(hf 1 (by omega)).1] at c1
  rw [(hf 2 (by omega)).1] at c2
  have HF := Lib.hid hf
  have H := Lib.hid h
  have BW := Lib.hid (Below.refl w.heap.size w)
  have HV := Lib.hid (World.ownsRow_nil w w.heap.size 22 1)
  clear hf h
  go_enter Try.func29, Try.ntmps29
  go_wp2
  refine wp_loop_rounds 4 ?_
  rw [rounds_succ]
  have hRd := (HF.out 0 (by omega)).2
  have hbl := H.out.len 0 (by omega)
  have hcl := Clone_any (pa 0) (ls 0).length (pc 0) w.heap.size (ls 0) w BW.out.size rfl (hRd.below BW.out) (by omega)
  have HCL := Lib.hid hcl
  clear hRd hbl hcl
  go_wp2_with fail
  go_at_call 76
  refine HCL.out.mono ?_
  rintro e wq ⟨y, rfl, hown, hbb⟩
  obtain ⟨ya, yc, rfl⟩ := own_form hown
  have hbw := BW.out.trans (hbb.mono BW.out.size)
  have hv1 := own_keep HV.out hbb
  have hnew := World.ownsRow.mono hown BW.out.size
  have hbs := hbw.size
  have HNEW := Lib.hid hnew
  have HB1 := Lib.hid hbw
  have HV1 := Lib.hid hv1
  have HBB := Lib.hid hbb
  clear HCL hown hbb hv1 hnew hbw
  go_wp2_with (at_builtin; refine wpList_append_own _ rfl _ _ 23 rfl w.heap.size 22 i0 (.slice none 0 0) 1 24 Try.underlying23 hi hz0 hz1 hz2 rfl (by decide) _ _ _ rfl (HV1.out.alloc _) ⟨wq.heap.size, 0, none⟩ 1 1 [.slice ya (ls 0).length yc] rfl rfl (cell_one_new _ _ _) (by simp [Value.oneCell']) (by unfold maxLen; omega) (by omega) (by simp; omega) ?_; intro va wa hown4 hgrow4 _)
  have hbl4 : Below w.heap.size w wa := (HB1.out.alloc hbs _).grown hgrow4 (by simp; omega) (fun k e => ((HV1.out.lt k e).1))
  have hkeep : ∀ (y : Value) (n : Nat) (xs : List Value), wq.ownsRow w.heap.size 5 1 y n xs → wa.ownsRow w.heap.size 5 1 y n xs := fun y n xs hy => (hy.alloc _).kept hgrow4 (own_apart (hy.alloc _) (HV1.out.alloc (.cells #[.slice ya (ls 0).length yc] 22)) (by decide))
  have kp : ∀ (y : Value) (n : Nat) (xs : List Value), w.ownsRow w.heap.size 5 1 y n xs → wa.ownsRow w.heap.size 5 1 y n xs := fun y n xs hy => hkeep y n xs (own_keep hy HBB.out)
  have nw := hkeep _ _ _ HNEW.out
  simp only [Nat.zero_add, Nat.reduceAdd, List.nil_append, List.cons_append] at hown4
  obtain ⟨va, vc, rfl⟩ := own_form hown4
  obtain ⟨ya0, hya0⟩ : ∃ q, q = ya := ⟨_, rfl⟩
  obtain ⟨yc0, hyc0⟩ : ∃ q, q = yc := ⟨_, rfl⟩
  rw [← hya0, ← hyc0] at hown4 nw
  clear HV BW HV1 HB1 HBB HNEW hgrow4 hkeep hbs hya0 hyc0
  have HV := Lib.hid hown4
  have BW := Lib.hid hbl4
  have KP0 := Lib.hid kp
  have NW0 := Lib.hid nw
  clear hown4 hbl4 kp nw
  go_wp2
  rw [rounds_succ]
  have hRd := (HF.out 1 (by omega)).2
  have hbl := H.out.len 1 (by omega)
  have hcl := Clone_any (pa 1) (ls 1).length (pc 1) w.heap.size (ls 1) wa BW.out.size rfl (hRd.below BW.out) (by omega)
  have HCL := Lib.hid hcl
  clear hRd hbl hcl
  go_wp2_with fail
  go_at_call 76
  refine HCL.out.mono ?_
  rintro e wq ⟨y, rfl, hown, hbb⟩
  obtain ⟨ya, yc, rfl⟩ := own_form hown
  have hbw := BW.out.trans (hbb.mono BW.out.size)
  have hv1 := own_keep HV.out hbb
  have hnew := World.ownsRow.mono hown BW.out.size
  have hbs := hbw.size
  have HNEW := Lib.hid hnew
  have HB1 := Lib.hid hbw
  have HV1 := Lib.hid hv1
  have HBB := Lib.hid hbb
  clear HCL hown hbb hv1 hnew hbw
  go_wp2_with (at_builtin; refine wpList_append_own _ rfl _ _ 23 rfl w.heap.size 22 i0 (.slice none 0 0) 1 24 Try.underlying23 hi hz0 hz1 hz2 rfl (by decide) _ _ _ rfl (HV1.out.alloc _) ⟨wq.heap.size, 0, none⟩ 1 1 [.slice ya (ls 1).length yc] rfl rfl (cell_one_new _ _ _) (by simp [Value.oneCell']) (by unfold maxLen; omega) (by omega) (by simp; omega) ?_; intro vb wb hown4 hgrow4 _)
  have hbl4 : Below w.heap.size w wb := (HB1.out.alloc hbs _).grown hgrow4 (by simp; omega) (fun k e => ((HV1.out.lt k e).1))
  have hkeep : ∀ (y : Value) (n : Nat) (xs : List Value), wq.ownsRow w.heap.size 5 1 y n xs → wb.ownsRow w.heap.size 5 1 y n xs := fun y n xs hy => (hy.alloc _).kept hgrow4 (own_apart (hy.alloc _) (HV1.out.alloc (.cells #[.slice ya (ls 1).length yc] 22)) (by decide))
  have kp : ∀ (y : Value) (n : Nat) (xs : List Value), wa.ownsRow w.heap.size 5 1 y n xs → wb.ownsRow w.heap.size 5 1 y n xs := fun y n xs hy => hkeep y n xs (own_keep hy HBB.out)
  have nw := hkeep _ _ _ HNEW.out
  simp only [Nat.zero_add, Nat.reduceAdd, List.nil_append, List.cons_append] at hown4
  obtain ⟨va, vc, rfl⟩ := own_form hown4
  obtain ⟨ya1, hya1⟩ : ∃ q, q = ya := ⟨_, rfl⟩
  obtain ⟨yc1, hyc1⟩ : ∃ q, q = yc := ⟨_, rfl⟩
  rw [← hya1, ← hyc1] at hown4 nw
  clear HV BW HV1 HB1 HBB HNEW hgrow4 hkeep hbs hya1 hyc1
  have HV := Lib.hid hown4
  have BW := Lib.hid hbl4
  have KP1 := Lib.hid kp
  have NW1 := Lib.hid nw
  clear hown4 hbl4 kp nw
  go_wp2
  rw [rounds_succ]
  have hRd := (HF.out 2 (by omega)).2
  have hbl := H.out.len 2 (by omega)
  have hcl := Clone_any (pa 2) (ls 2).length (pc 2) w.heap.size (ls 2) wb BW.out.size rfl (hRd.below BW.out) (by omega)
  have HCL := Lib.hid hcl
  clear hRd hbl hcl
  go_wp2_with fail
  go_at_call 76
  refine HCL.out.mono ?_
  rintro e wq ⟨y, rfl, hown, hbb⟩
  obtain ⟨ya, yc, rfl⟩ := own_form hown
  have hbw := BW.out.trans (hbb.mono BW.out.size)
  have hv1 := own_keep HV.out hbb
  have hnew := World.ownsRow.mono hown BW.out.size
  have hbs := hbw.size
  have HNEW := Lib.hid hnew
  have HB1 := Lib.hid hbw
  have HV1 := Lib.hid hv1
  have HBB := Lib.hid hbb
  clear HCL hown hbb hv1 hnew hbw
  go_wp2_with (at_builtin; refine wpList_append_own _ rfl _ _ 23 rfl w.heap.size 22 i0 (.slice none 0 0) 1 24 Try.underlying23 hi hz0 hz1 hz2 rfl (by decide) _ _ _ rfl (HV1.out.alloc _) ⟨wq.heap.size, 0, none⟩ 1 1 [.slice ya (ls 2).length yc] rfl rfl (cell_one_new _ _ _) (by simp [Value.oneCell']) (by unfold maxLen; omega) (by omega) (by simp; omega) ?_; intro vd wc hown4 hgrow4 _)
  have hbl4 : Below w.heap.size w wc := (HB1.out.alloc hbs _).grown hgrow4 (by simp; omega) (fun k e => ((HV1.out.lt k e).1))
  have hkeep : ∀ (y : Value) (n : Nat) (xs : List Value), wq.ownsRow w.heap.size 5 1 y n xs → wc.ownsRow w.heap.size 5 1 y n xs := fun y n xs hy => (hy.alloc _).kept hgrow4 (own_apart (hy.alloc _) (HV1.out.alloc (.cells #[.slice ya (ls 2).length yc] 22)) (by decide))
  have kp : ∀ (y : Value) (n : Nat) (xs : List Value), wb.ownsRow w.heap.size 5 1 y n xs → wc.ownsRow w.heap.size 5 1 y n xs := fun y n xs hy => hkeep y n xs (own_keep hy HBB.out)
  have nw := hkeep _ _ _ HNEW.out
  simp only [Nat.zero_add, Nat.reduceAdd, List.nil_append, List.cons_append] at hown4
  obtain ⟨va, vc, rfl⟩ := own_form hown4
  obtain ⟨ya2, hya2⟩ : ∃ q, q = ya := ⟨_, rfl⟩
  obtain ⟨yc2, hyc2⟩ : ∃ q, q = yc := ⟨_, rfl⟩
  rw [← hya2, ← hyc2] at hown4 nw
  clear HV BW HV1 HB1 HBB HNEW hgrow4 hkeep hbs hya2 hyc2
  have HV := Lib.hid hown4
  have BW := Lib.hid hbl4
  have KP2 := Lib.hid kp
  have NW2 := Lib.hid nw
  clear hown4 hbl4 kp nw
  go_wp2
  rw [rounds_succ]
  go_wp2
  go_ret
  refine ⟨va, vc, sel3 ya0 ya1 ya2, sel3 yc0 yc1 yc2, rfl, ⟨HV.out, fun i hi => ?_⟩, BW.out⟩
  have : i = 0 ∨ i = 1 ∨ i = 2 := by omega
  rcases this with rfl | rfl | rfl
  · exact KP2.out _ _ _ (KP1.out _ _ _ NW0.out)
  · exact KP2.out _ _ _ NW1.out
  · exact NW2.out
end Go.Proofs.Ytdlkonbjmmepoaa
