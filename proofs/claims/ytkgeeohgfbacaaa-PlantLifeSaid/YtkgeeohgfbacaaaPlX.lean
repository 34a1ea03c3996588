/- Plants: Only. -/
import Derived.Test.YtkgeeohgfbacaaaPlO
import Derived.Test.YtkgeeohgfbacaaaPlW
import Derived.Test.YtkgeeohgfbacaaaPlA
import Derived.Test.YtkgeeohgfbacaaaBs3
import Derived.Test.YtkgeeohgfbacaaaSetA
import Derived.Test.YtkgeeohgfbacaaaMix
namespace Go.Proofs.Ytkgeeohgfbacaaa
open Go.RowKit Go.Own
set_option linter.unusedVariables false
set_option linter.unusedSimpArgs false
theorem zl_at (l : List Nat) (i : Nat) (h : i < l.length) : (Bs.zl l)[i]? = some (.int .i64 ((l.map fun (i : Nat) => ((i : Nat) : Int)).getD i 0)) := by
  simp [Bs.zl, List.getD, h]
theorem own_setRow {w : World} {base n size g : Nat} {e : TypeId} {v : Value} {xs : List Value} (h : w.ownsRow base e size v n xs) (hg : g < base) (cs : Array Value) : (w.setRow g cs).ownsRow base e size v n xs := by
  obtain ⟨h1, h2 | ⟨g', cap, cur, hv, hb', hr, ho⟩⟩ := h
  · exact ⟨h1, .inl h2⟩
  · exact ⟨h1, .inr ⟨g', cap, cur, hv, hb', (setRow_other w g g' cs (by omega)).trans hr, ho⟩⟩
set_option maxRecDepth 100000 in
set_option maxHeartbeats 4000000 in
theorem pOnly0 (p : Pl) (w : World) (f : Nat → Bool) (x : Nat) (l : List Int) (hx : setN f p.n = x) (hn : p.n ≤ 16) (hf : ∀ k s l b, p.u k = Un.mk s l b → f k = (decide (s = 1) || decide (s = 2))) (hl : l = (Bs.upTo x 16).map fun (i : Nat) => ((i : Nat) : Int)) :
    Calls Try.prog 50 #[.agg p.cs, .int .u16 0] w fun e w' => ∃ v, e = .returned (.tuple #[.agg (ordAll false p l).1.cs, v]) ∧ w'.ownsRow w.heap.size 193 2 v (ordAll false p l).2.length (ocs false (ordAll false p l).2) ∧ Below w.heap.size w w' := by
  have hxl : x < 65536 := by rw [← hx]; exact setN_lt f p.n
  have hand : x &&& (65535 - 0) = x := by
    have := Nat.and_two_pow_sub_one_eq_mod x 16
    simp at this ⊢
    omega
  have hll : l.length = (Bs.upTo x 16).length := by rw [hl]; simp
  have hul := Bs.upTo_len x 16
  have hpw := fun w => pPowered p w f x hx hn hf
  have HPW := Lib.hid hpw
  have HL := Lib.hid (And.intro hl hll)
  have HAND := Lib.hid hand
  have hb0 : Below w.heap.size w ((w.alloc (.cells p.cs 95)).alloc (.cells (Pl.empty 0).cs 95)) := by repeat' (first | (with_reducible exact Below.refl _ _) | (with_reducible assumption) | (with_reducible refine Below.setCell ?_ ?_ _) | (with_reducible refine Below.alloc ?_ ?_ _) | (with_reducible refine Below.drew ?_) | (with_reducible refine Below.drawsN ?_ _) | go_size)
  have HP := (PlB.new w p).alloc (.cells (Pl.empty 0).cs 95)
  have HE := heap_alloc2_new w (.cells p.cs 95) (.cells (Pl.empty 0).cs 95)
  clear hpw hl hll hx hf hand
  go_enter Try.func50, Try.ntmps50
  go_wp2_with fail
  obtain ⟨g, hg⟩ : ∃ g, g = w.heap.size := ⟨_, rfl⟩
  obtain ⟨g4, hg4⟩ : ∃ g4, g4 = w.heap.size + 1 := ⟨_, rfl⟩
  have hgg : g ≠ g4 := by omega
  have hg4w : w.heap.size ≤ g4 := by omega
  obtain ⟨w1, hw1⟩ : ∃ w1, w1 = (w.alloc (.cells p.cs 95)).alloc (.cells (Pl.empty 0).cs 95) := ⟨_, rfl⟩
  rw [← hw1] at hb0 HP HE ⊢
  rw [← hg4] at HE ⊢
  rw [← hg] at HP ⊢
  have HG := Lib.hid hg
  clear hw1 hg4 hg
  obtain ⟨I, W, hne, hWI, hIW⟩ := Go.Mix.family (fun v => PlB v g p) HP
  have HJ := Lib.hid hIW
  have HW := Lib.hid hWI
  clear hWI hIW
  refine Go.Mix.wp_region (fun w' => ∃ i, w' = W i) (by kernel_rfl) (by kernel_rfl) (HJ.out _ HP) ?_
  simp only []
  (refine Go.Mix.walk_calm rfl ?_ (fun K hK => ?_); (first | exact Go.Mix.wanted_none rfl | exact Go.Mix.wanted_tt rfl rfl rfl | exact Go.Mix.wanted_ff rfl rfl rfl); refine Go.Flo.quiet_load_row 95 _ rfl g rfl _ (Pl.cs p) _ (by rintro _ ⟨i, rfl⟩; exact HW.out i) Try.underlying95 rfl (size_pl _) ?_; go_simp; refine hK _ ?_; clear hK K)
  (refine Go.Mix.walk_calm rfl ?_ (fun K hK => ?_); (first | exact Go.Mix.wanted_none rfl | exact Go.Mix.wanted_tt rfl rfl rfl | exact Go.Mix.wanted_ff rfl rfl rfl); refine Go.Flo.quiet_load_row 95 _ rfl g rfl _ (Pl.cs p) _ (by rintro _ ⟨i, rfl⟩; exact HW.out i) Try.underlying95 rfl (size_pl _) ?_; go_simp; refine hK _ ?_; clear hK K)
  (refine Go.Mix.walk_loud rfl ?_ (fun K hK => ?_); (first | exact Go.Mix.wanted_none rfl | exact Go.Mix.wanted_tt rfl rfl rfl | exact Go.Mix.wanted_ff rfl rfl rfl); (first | go_big_op | go_simp); go_at_call 46; refine (HPW.out _).mono ?_)
  rintro e w2 ⟨rfl, hb2⟩
  have hwd : Below w1.heap.size w1 w2 := (show Below w1.heap.size w1 w1.drew from ⟨rfl, rfl, rfl, Nat.le_refl _, fun _ _ => rfl⟩).trans hb2
  have HP2 := HP.below hwd (Nat.le_refl _)
  have HE2 := box_below HE hwd (box_lt HE)
  have HB2 := Lib.hid (hb0.trans (hwd.mono hb0.size))
  clear hb2 hwd HP HE hb0
  (refine hK _ _ (HJ.out _ HP2) ?_; clear hK K)
  (repeat (first | (refine Go.Mix.walk_calm rfl ?_ (fun K hK => ?_); (first | exact Go.Mix.wanted_none rfl | exact Go.Mix.wanted_tt rfl rfl rfl | exact Go.Mix.wanted_ff rfl rfl rfl); go_big_quiet_op; refine hK _ ?_; clear hK K) | (refine Go.Mix.walk_skip ?_ (fun K hK => ?_); (first | exact Go.Mix.wanted_tf rfl rfl rfl | exact Go.Mix.wanted_ft rfl rfl rfl); go_simp; refine hK _ ?_; clear hK K) | (refine Go.Mix.walk_loud rfl ?_ (fun K hK => ?_); (first | exact Go.Mix.wanted_none rfl | exact Go.Mix.wanted_tt rfl rfl rfl | exact Go.Mix.wanted_ff rfl rfl rfl); (first | go_big_op | go_simp); (first | (refine hK _ _ trivial ?_; clear hK K) | (fail; (try dsimp only); refine hK _ _ trivial ?_; clear hK K))) | (refine Go.Mix.walk_step (fun K hK => ?_); go_simp; (try (go_ints; try go_simp)); refine hK _ _ ?_; clear hK K)))
  (refine Go.Mix.walk_loud rfl ?_ (fun K hK => ?_); (first | exact Go.Mix.wanted_none rfl | exact Go.Mix.wanted_tt rfl rfl rfl | exact Go.Mix.wanted_ff rfl rfl rfl); (first | go_big_op | go_simp); go_at_call 103; refine (Bs.Less_any x 0 _ hxl (by decide)).mono ?_)
  rintro e w' ⟨rfl, rfl⟩
  rw [HAND.out]
  (refine hK _ _ (HJ.out _ HP2) ?_; clear hK K)
  (repeat (first | (refine Go.Mix.walk_calm rfl ?_ (fun K hK => ?_); (first | exact Go.Mix.wanted_none rfl | exact Go.Mix.wanted_tt rfl rfl rfl | exact Go.Mix.wanted_ff rfl rfl rfl); go_big_quiet_op; refine hK _ ?_; clear hK K) | (refine Go.Mix.walk_skip ?_ (fun K hK => ?_); (first | exact Go.Mix.wanted_tf rfl rfl rfl | exact Go.Mix.wanted_ft rfl rfl rfl); go_simp; refine hK _ ?_; clear hK K) | (refine Go.Mix.walk_loud rfl ?_ (fun K hK => ?_); (first | exact Go.Mix.wanted_none rfl | exact Go.Mix.wanted_tt rfl rfl rfl | exact Go.Mix.wanted_ff rfl rfl rfl); (first | go_big_op | go_simp); (first | (refine hK _ _ trivial ?_; clear hK K) | (fail; (try dsimp only); refine hK _ _ trivial ?_; clear hK K))) | (refine Go.Mix.walk_step (fun K hK => ?_); go_simp; (try (go_ints; try go_simp)); refine hK _ _ ?_; clear hK K)))
  (refine Go.Mix.walk_loud rfl ?_ (fun K hK => ?_); (first | exact Go.Mix.wanted_none rfl | exact Go.Mix.wanted_tt rfl rfl rfl | exact Go.Mix.wanted_ff rfl rfl rfl); (first | go_big_op | go_simp); go_at_call 104; refine (Bs.All_any x _).mono ?_)
  rintro e w' ⟨rfl, rfl⟩
  have hal3 : Below w2.heap.size w2 (w2.alloc (.cells #[.int .u16 (x : Nat)] 101)) := (Below.refl _ _).alloc (Nat.le_refl _) _
  have hs3 := box_cell (heap_alloc_new w2 (.cells #[.int .u16 (x : Nat)] 101))
  have HP3 := HP2.below hal3 (Nat.le_refl _)
  have HE3 := box_below HE2 hal3 (box_lt HE2)
  have HB3 := Lib.hid (HB2.out.trans (hal3.mono HB2.out.size))
  have hgs : w2.heap.size < (w2.alloc (.cells #[.int .u16 (x : Nat)] 101)).heap.size := by simp
  obtain ⟨w3, hw3⟩ : ∃ w3, w3 = w2.alloc (.cells #[.int .u16 (x : Nat)] 101) := ⟨_, rfl⟩
  obtain ⟨gs, hgs'⟩ : ∃ gs, gs = w2.heap.size := ⟨_, rfl⟩
  rw [← hw3, ← hgs'] at hs3 hgs
  rw [← hw3] at HP3 HE3 HB3 ⊢
  rw [← hgs']
  clear hw3 hgs' hal3 HP2 HE2 HB2
  (refine hK _ _ (HJ.out _ HP3) ?_; clear hK K)
  (repeat (first | (refine Go.Mix.walk_calm rfl ?_ (fun K hK => ?_); (first | exact Go.Mix.wanted_none rfl | exact Go.Mix.wanted_tt rfl rfl rfl | exact Go.Mix.wanted_ff rfl rfl rfl); go_big_quiet_op; refine hK _ ?_; clear hK K) | (refine Go.Mix.walk_skip ?_ (fun K hK => ?_); (first | exact Go.Mix.wanted_tf rfl rfl rfl | exact Go.Mix.wanted_ft rfl rfl rfl); go_simp; refine hK _ ?_; clear hK K) | (refine Go.Mix.walk_loud rfl ?_ (fun K hK => ?_); (first | exact Go.Mix.wanted_none rfl | exact Go.Mix.wanted_tt rfl rfl rfl | exact Go.Mix.wanted_ff rfl rfl rfl); (first | go_big_op | go_simp); (first | (refine hK _ _ trivial ?_; clear hK K) | (fail; (try dsimp only); refine hK _ _ trivial ?_; clear hK K))) | (refine Go.Mix.walk_step (fun K hK => ?_); go_simp; (try (go_ints; try go_simp)); refine hK _ _ ?_; clear hK K)))
  (refine Go.Mix.walk_loud rfl ?_ (fun K hK => ?_); (first | exact Go.Mix.wanted_none rfl | exact Go.Mix.wanted_tt rfl rfl rfl | exact Go.Mix.wanted_ff rfl rfl rfl); (first | go_big_op | go_simp); go_at_call 102; refine (Bs.collect gs x hxl hgs hs3).mono ?_)
  rintro e w4 ⟨v4, rfl, ho4, hb4⟩
  obtain ⟨a4, c4, rfl⟩ := Bs.own_formZ ho4
  have HP4 := HP3.below hb4 (Nat.le_refl _)
  have HE4 := box_below HE3 hb4 (box_lt HE3)
  have HB4 := Lib.hid (HB3.out.trans (hb4.mono HB3.out.size))
  have hrd := rd_of_own (f := fun i => .int .i64 (l.getD i 0)) ho4 (fun i hi => by rw [HL.out.1]; exact zl_at _ i hi)
  have HRD := Lib.hid hrd
  clear ho4 hb4 HP3 HE3 HB3 hs3 hgs hrd
  (refine hK _ _ (HJ.out _ HP4) ?_; clear hK K)
  (repeat (first | (refine Go.Mix.walk_calm rfl ?_ (fun K hK => ?_); (first | exact Go.Mix.wanted_none rfl | exact Go.Mix.wanted_tt rfl rfl rfl | exact Go.Mix.wanted_ff rfl rfl rfl); go_big_quiet_op; refine hK _ ?_; clear hK K) | (refine Go.Mix.walk_skip ?_ (fun K hK => ?_); (first | exact Go.Mix.wanted_tf rfl rfl rfl | exact Go.Mix.wanted_ft rfl rfl rfl); go_simp; refine hK _ ?_; clear hK K) | (refine Go.Mix.walk_loud rfl ?_ (fun K hK => ?_); (first | exact Go.Mix.wanted_none rfl | exact Go.Mix.wanted_tt rfl rfl rfl | exact Go.Mix.wanted_ff rfl rfl rfl); (first | go_big_op | go_simp); (first | (refine hK _ _ trivial ?_; clear hK K) | (fail; (try dsimp only); refine hK _ _ trivial ?_; clear hK K))) | (refine Go.Mix.walk_step (fun K hK => ?_); go_simp; (try (go_ints; try go_simp)); refine hK _ _ ?_; clear hK K)))
  (refine Go.Mix.walk_loud rfl ?_ (fun K hK => ?_); (first | exact Go.Mix.wanted_none rfl | exact Go.Mix.wanted_tt rfl rfl rfl | exact Go.Mix.wanted_ff rfl rfl rfl); (first | go_big_op | go_simp); go_at_call 43; refine (pOrder p false a4 _ c4 l _ hn HL.out.2 HRD.out (by omega)).mono ?_)
  rintro e w5 ⟨v5, rfl, ho5, hb5⟩
  obtain ⟨a5, c5, rfl⟩ := Bs.own_formZ ho5
  have HP5 := HP4.below hb5 (Nat.le_refl _)
  have HE5 := box_below HE4 hb5 (box_lt HE4)
  have HB5 := Lib.hid (HB4.out.trans (hb5.mono HB4.out.size))
  obtain ⟨q, hq⟩ : ∃ q, q = (ordAll false p l).1 := ⟨_, rfl⟩
  obtain ⟨out, hout⟩ : ∃ out, out = (ordAll false p l).2 := ⟨_, rfl⟩
  rw [← hout] at ho5 ⊢
  rw [← hq]
  have hg4v : g4 < w4.heap.size := box_lt HE4
  have HO5 := Lib.hid ho5
  have HQO := Lib.hid (And.intro hq hout)
  clear ho5 hb5 HP4 HE4 HB4 HRD hq hout
  (refine hK _ _ (HJ.out _ HP5) ?_; clear hK K)
  (repeat (first | (refine Go.Mix.walk_calm rfl ?_ (fun K hK => ?_); (first | exact Go.Mix.wanted_none rfl | exact Go.Mix.wanted_tt rfl rfl rfl | exact Go.Mix.wanted_ff rfl rfl rfl); go_big_quiet_op; refine hK _ ?_; clear hK K) | (refine Go.Mix.walk_skip ?_ (fun K hK => ?_); (first | exact Go.Mix.wanted_tf rfl rfl rfl | exact Go.Mix.wanted_ft rfl rfl rfl); go_simp; refine hK _ ?_; clear hK K) | (refine Go.Mix.walk_loud rfl ?_ (fun K hK => ?_); (first | exact Go.Mix.wanted_none rfl | exact Go.Mix.wanted_tt rfl rfl rfl | exact Go.Mix.wanted_ff rfl rfl rfl); (first | go_big_op | go_simp); (first | (refine hK _ _ trivial ?_; clear hK K) | (fail; (try dsimp only); refine hK _ _ trivial ?_; clear hK K))) | (refine Go.Mix.walk_step (fun K hK => ?_); go_simp; (try (go_ints; try go_simp)); refine hK _ _ ?_; clear hK K)))
  have HP6 : PlB (w5.setRow g4 q.cs) g p := (setRow_other _ _ _ _ hgg).trans HP5
  refine Go.Mix.walk_loud rfl ?_ (fun K hK => ?_)
  · (first | exact Go.Mix.wanted_none rfl | exact Go.Mix.wanted_tt rfl rfl rfl | exact Go.Mix.wanted_ff rfl rfl rfl)
  refine wp_store_row 95 _ _ rfl g4 (Pl.cs q) rfl rfl 95 _ HE5 (size_pl _) (by simp only [Pl.size]) (Pl.one _) (hK _ _ (HJ.out _ HP6) ?_)
  clear hK K
  (repeat (first | (refine Go.Mix.walk_calm rfl ?_ (fun K hK => ?_); (first | exact Go.Mix.wanted_none rfl | exact Go.Mix.wanted_tt rfl rfl rfl | exact Go.Mix.wanted_ff rfl rfl rfl); go_big_quiet_op; refine hK _ ?_; clear hK K) | (refine Go.Mix.walk_skip ?_ (fun K hK => ?_); (first | exact Go.Mix.wanted_tf rfl rfl rfl | exact Go.Mix.wanted_ft rfl rfl rfl); go_simp; refine hK _ ?_; clear hK K) | (refine Go.Mix.walk_loud rfl ?_ (fun K hK => ?_); (first | exact Go.Mix.wanted_none rfl | exact Go.Mix.wanted_tt rfl rfl rfl | exact Go.Mix.wanted_ff rfl rfl rfl); (first | go_big_op | go_simp); (first | (refine hK _ _ trivial ?_; clear hK K) | (fail; (try dsimp only); refine hK _ _ trivial ?_; clear hK K))) | (refine Go.Mix.walk_step (fun K hK => ?_); go_simp; (try (go_ints; try go_simp)); refine hK _ _ ?_; clear hK K)))
  refine Go.Mix.walk_nil ?_
  clear HJ HW hne
  have hfin := setRow_heap w5 g4 _ q.cs _ _ HE5
  go_wp2
  refine bodyPost_ret (res_ct rfl _ _ _ _ _ _ rfl hfin Try.underlying95 rfl (size_pl _)) rfl ?_
  refine ⟨_, by rw [HQO.out.1], ?_, bel_row HB5.out hg4w _⟩
  rw [← HQO.out.2]
  exact Bs.own_baseZ (own_setRow HO5.out hg4v _) (by omega)
end Go.Proofs.Ytkgeeohgfbacaaa
