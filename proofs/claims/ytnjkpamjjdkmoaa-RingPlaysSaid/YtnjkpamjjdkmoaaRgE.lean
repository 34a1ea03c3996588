/- Layer 3: what the document's ring does. -/
import Derived.Test.YtnjkpamjjdkmoaaRgD
namespace Go.Proofs.Ytnjkpamjjdkmoaa
open Go.RowKit Go.Own
set_option linter.unusedVariables false
set_option linter.unusedSimpArgs false
theorem size_xr : (Try.prog.info? 40).map (·.size) = some 4 := by kernel_rfl
theorem zero_xr (w : World) : (zeroValue 40).run Try.prog w = .ok (.agg #[.slice none 0 0, .int .i64 0, .int .i64 0, .int .i64 0]) w := by kernel_rfl
theorem kept_rowX (gx : Nat) (w : World) (cs : Array Value) : Kept gx gx w (w.setRow gx cs) := ⟨rfl, rfl, rfl, by simp [World.setRow], fun k _ hk _ => setRow_other w gx k cs hk⟩
set_option maxRecDepth 100000 in
set_option maxHeartbeats 2000000 in
theorem D_offer_room {w : World} {gx base n : Nat} {L : List Int} {lo d cap : Nat} {a : Option Addr} (k : Nat) (V M : Int) (hx : XS w gx base n L lo d a cap) (hk : k % 6 = 2) (hr : L.length < n) (hn : n ≤ 9) (hk2 : k < 256) (hbs : base ≤ w.heap.size) :
    Calls Try.prog 24 #[.pointer (some ⟨gx, 0, none⟩), .agg #[.int .u8 ((k : Nat) : Int), .int .i64 V, .int .i64 M]] w fun e w' => e = .returned (.tuple #[.int .i64 1, .slice none 0 0]) ∧ (∃ a' cap', XS w' gx base n (L ++ [V]) lo d a' cap') ∧ BK gx a cap w w' := by
  obtain ⟨i0, hi, hz0, hz1, hz2⟩ := info_parts info_int
  have hkI : (k : Int) % 6 = 2 := by omega
  have h0 := heap_alloc_new w (.cells #[.int .u8 ((k : Nat) : Int), .int .i64 V, .int .i64 M] 42)
  have hb0 : Below w.heap.size w (w.alloc (.cells #[.int .u8 ((k : Nat) : Int), .int .i64 V, .int .i64 M] 42)) := (Below.refl _ _).alloc (Nat.le_refl _) _
  have hgw := box_lt hx.head
  go_enter Try.func24, Try.ntmps24
  go_upto_region 1 with fail
  obtain ⟨w1, hw1⟩ : ∃ w1, w1 = w.alloc (.cells #[.int .u8 ((k : Nat) : Int), .int .i64 V, .int .i64 M] 42) := ⟨_, rfl⟩
  rw [← hw1] at h0 hb0 ⊢
  obtain ⟨g3, hg3⟩ : ∃ g, g = w.heap.size := ⟨_, rfl⟩
  rw [← hg3] at h0
  rw [show (Value.pointer (some ⟨w.heap.size, 0, none⟩)) = .pointer (some ⟨g3, 0, none⟩) by rw [hg3]]
  have HX := Lib.hid (hx.step hb0)
  have HB := Lib.hid (BK.init (a := a) (cap := cap) hb0 (Nat.le_of_lt hgw))
  have HA := Lib.hid h0
  have hgg : gx < g3 := by rw [hg3]; exact hgw
  clear hw1 hg3 hb0 h0 hx hgw
  have c0 : w1.cell? ⟨gx, 0, none⟩ = some (.slice a L.length cap) := cell_of_row _ _ 0 _ _ _ HX.out.head
  have c1 : w1.cell? ⟨gx, 1, none⟩ = some (.int .i64 ((n : Nat) : Int)) := cell_of_row _ _ 1 _ _ _ HX.out.head
  have c2 : w1.cell? ⟨gx, 2, none⟩ = some (.int .i64 ((lo : Nat) : Int)) := cell_of_row _ _ 2 _ _ _ HX.out.head
  have c3 : w1.cell? ⟨gx, 3, none⟩ = some (.int .i64 ((d : Nat) : Int)) := cell_of_row _ _ 3 _ _ _ HX.out.head
  have k0 : w1.cell? ⟨g3, 0, none⟩ = some (.int .u8 ((k : Nat) : Int)) := cell_of_row _ _ 0 _ _ _ HA.out
  have k1 : w1.cell? ⟨g3, 1, none⟩ = some (.int .i64 V) := cell_of_row _ _ 1 _ _ _ HA.out
  have hlI : (L.length : Int) < (n : Int) := by omega
  go_upto_region 3 with fail
  go_quiet (fail)
  clear c0 c1 c2 c3 k0
  have HX2 := Lib.hid (HX.out.step (bel_drewV w1 nq))
  have HB2 := Lib.hid (HB.out.step (bel_drewV w1 nq) (show gx ≤ w1.heap.size by have := box_lt HX.out.head; omega))
  have hA2 : (w1.drewN nq).heap[g3]? = _ := HA.out
  have hs2 : base ≤ (w1.drewN nq).heap.size := by have := HB.out.be.size; simp; omega
  obtain ⟨w2, hw2⟩ : ∃ w2, w2 = w1.drewN nq := ⟨_, rfl⟩
  rw [← hw2] at HX2 HB2 hA2 hs2 ⊢
  clear hw2 HX HB HA
  go_upto_region 4 with fail
  have lx := box_lt HX2.out.head
  have l3 := box_lt hA2
  obtain ⟨I, W, hne, hWI, hIW⟩ := Go.Mix.family (fun v => Below w2.heap.size w2 v) (Below.refl _ _)
  have HJ := Lib.hid hIW
  have HW := Lib.hid hWI
  clear hWI hIW
  refine Go.Flo3.wp_region (fun w' => ∃ i, w' = W i) 8 [Go.Flo.Spec.row w2.heap.size 1 #[.int .i64 V] 3] (by kernel_rfl) (by kernel_rfl) (by decide) (by rintro _ w' ⟨i, rfl⟩ hb; exact HJ.out _ ((HW.out i).trans (hb.mono (HW.out i).size))) (HJ.out _ (Below.refl _ _).drew) ?_
  simp only [Go.Flo.pair, Go.Mix.calm, List.take, List.drop, if_true, Bool.false_eq_true, if_false, Nat.reduceAdd, Nat.reduceSub]
  have q0 : ∀ i, (W i).cell? ⟨gx, 0, none⟩ = some (.slice a L.length cap) := fun i => ((HW.out i).cell (p := ⟨gx, 0, none⟩) lx).trans (cell_of_row _ _ 0 _ _ _ HX2.out.head)
  have q1 : ∀ i, (W i).cell? ⟨g3, 1, none⟩ = some (.int .i64 V) := fun i => ((HW.out i).cell (p := ⟨g3, 1, none⟩) l3).trans (cell_of_row _ _ 1 _ _ _ hA2)
  (repeat (first | (refine Go.Flo.fw_calm rfl ?_ (fun K hK => ?_); (first | exact Go.Mix.wanted_none rfl | exact Go.Mix.wanted_tt rfl rfl rfl | exact Go.Mix.wanted_ff rfl rfl rfl); go_big_quiet_op; refine hK _ ?_; clear hK K) | (refine Go.Flo.fw_skip ?_ (fun K hK => ?_); (first | exact Go.Mix.wanted_tf rfl rfl rfl | exact Go.Mix.wanted_ft rfl rfl rfl); go_simp; refine hK _ ?_; clear hK K) | (refine Go.Flo.fw_any rfl ?_ (fun K hK => ?_); (first | exact Go.Mix.wanted_none rfl | exact Go.Mix.wanted_tt rfl rfl rfl | exact Go.Mix.wanted_ff rfl rfl rfl); go_simp; (try (go_ints; try go_simp)); refine hK _ ?_; clear hK K)))
  refine Go.Flo.fw_loud rfl ?_ rfl (by simp) (fun wv hwv hav K hK => ?_) (fun v hv K hK => ?_)
  · (first | exact Go.Mix.wanted_none rfl | exact Go.Mix.wanted_tt rfl rfl rfl | exact Go.Mix.wanted_ff rfl rfl rfl)
  · obtain ⟨iv, rfl⟩ := hwv
    (first | go_big_op | go_simp)
    refine hK _ _ (Go.Flo.owes_row (HW.out iv).size)
  obtain ⟨ge, hge, rfl⟩ := hv.row
  go_simp
  refine hK _ ?_
  clear hK K hv
  refine Go.Flo.fw_nil ?_
  intro wc hwwc hfwc huwc
  obtain ⟨iend, hiend⟩ := hwwc
  have hbwc := HW.out iend
  rw [← hiend] at hbwc
  clear hiend iend huwc
  have hrow := Go.Flo.says_row ((hfwc (some 32)).2 rfl).1
  have hcx := box_cell hrow
  have HX3 := Lib.hid (HX2.out.step hbwc)
  have HB3 := Lib.hid (HB2.out.step hbwc (show gx ≤ w2.heap.size by have := box_lt HX2.out.head; omega))
  have hs3 : base ≤ wc.heap.size := Nat.le_trans hs2 hbwc.size
  clear hfwc HJ HW hne q0 q1 hrow hbwc HX2 HB2 hA2 lx l3
  clear W I
  refine ⟨fun _ => True, trivial, ?_⟩

  refine Go.Mix.walk_loud rfl ?_ (fun K hK => ?_)
  · (first | exact Go.Mix.wanted_none rfl | exact Go.Mix.wanted_tt rfl rfl rfl | exact Go.Mix.wanted_ff rfl rfl rfl)
  refine wp_append_cut _ _ rfl hi hz0 hz1 hz2 rfl HX3.out.cut hs3 V ge rfl hcx (by omega) ?_
  intro a' cap' w3 hc hb hke
  have hln : (L ++ [V]).length = L.length + 1 := by simp
  have hput := HX3.out.put hb (M := L ++ [V]) (by rw [hln]; exact hc)
  rw [hln] at hput
  have hg0 : w3.cell? ⟨gx, 0, none⟩ = some (.slice a L.length cap) := (hb.cell (p := ⟨gx, 0, none⟩) HX3.out.lt).trans (cell_of_row _ _ 0 _ _ _ HX3.out.head)
  have hf0 : w3.frozen? ⟨gx, 0, none⟩ = false := (World.frozen?_of_block (a := ⟨gx, 0, none⟩) (hb.block gx HX3.out.lt)).trans (frozen_of_row _ _ 0 _ _ HX3.out.head)
  have HP := Lib.hid hput
  have HB4 := Lib.hid ((HB3.out.app (hb.mono (Nat.le_of_lt HX3.out.lt)) hke).setCell 0 (.slice a' (L.length + 1) cap'))
  refine hK _ _ trivial ?_
  clear hK K hc hb hput hcx hke
  (repeat (first | (refine Go.Mix.walk_calm rfl ?_ (fun K hK => ?_); (first | exact Go.Mix.wanted_none rfl | exact Go.Mix.wanted_tt rfl rfl rfl | exact Go.Mix.wanted_ff rfl rfl rfl); go_big_quiet_op; refine hK _ ?_; clear hK K) | (refine Go.Mix.walk_skip ?_ (fun K hK => ?_); (first | exact Go.Mix.wanted_tf rfl rfl rfl | exact Go.Mix.wanted_ft rfl rfl rfl); go_simp; refine hK _ ?_; clear hK K) | (refine Go.Mix.walk_loud rfl ?_ (fun K hK => ?_); (first | exact Go.Mix.wanted_none rfl | exact Go.Mix.wanted_tt rfl rfl rfl | exact Go.Mix.wanted_ff rfl rfl rfl); (first | go_big_op | go_simp); (first | (refine hK _ _ trivial ?_; clear hK K) | (fail; (try dsimp only); refine hK _ _ trivial ?_; clear hK K))) | (refine Go.Mix.walk_step (fun K hK => ?_); go_simp; (try (go_ints; try go_simp)); refine hK _ _ ?_; clear hK K)))
  refine Go.Mix.walk_nil ?_
  obtain ⟨w4, hw4⟩ : ∃ w4, w4 = w3.setCell ⟨gx, 0, none⟩ (.slice a' (L.length + 1) cap') := ⟨_, rfl⟩
  rw [← hw4] at HP HB4 ⊢
  clear hw4 hg0 hf0
  go_wp2_with fail
  exact bodyPost_ret (v := .tuple #[.int .i64 1, .slice none 0 0]) (by simp [results, Try.results24, go_sem]) rfl ⟨rfl, ⟨_, _, HP.out⟩, HB4.out⟩
set_option maxRecDepth 100000 in
set_option maxHeartbeats 2000000 in
theorem D_offer_full {w : World} {gx base n : Nat} {L : List Int} {lo d cap : Nat} {a : Option Addr} (k : Nat) (V M : Int) (hx : XS w gx base n L lo d a cap) (hk : k % 6 = 2) (hr : L.length = n) (hn : n ≤ 9) (hd : d ≤ 65535) (hk2 : k < 256) :
    Calls Try.prog 24 #[.pointer (some ⟨gx, 0, none⟩), .agg #[.int .u8 ((k : Nat) : Int), .int .i64 V, .int .i64 M]] w fun e w' => e = .returned (.tuple #[.int .i64 0, .slice none 0 0]) ∧ XS w' gx base n L lo (min (d + 1) 65535) a cap ∧ BK gx a cap w w' := by
  have hkI : (k : Int) % 6 = 2 := by omega
  have h0 := heap_alloc_new w (.cells #[.int .u8 ((k : Nat) : Int), .int .i64 V, .int .i64 M] 42)
  have hb0 : Below w.heap.size w (w.alloc (.cells #[.int .u8 ((k : Nat) : Int), .int .i64 V, .int .i64 M] 42)) := (Below.refl _ _).alloc (Nat.le_refl _) _
  have hgw := box_lt hx.head
  go_enter Try.func24, Try.ntmps24
  go_upto_region 1 with fail
  obtain ⟨w1, hw1⟩ : ∃ w1, w1 = w.alloc (.cells #[.int .u8 ((k : Nat) : Int), .int .i64 V, .int .i64 M] 42) := ⟨_, rfl⟩
  rw [← hw1] at h0 hb0 ⊢
  obtain ⟨g3, hg3⟩ : ∃ g, g = w.heap.size := ⟨_, rfl⟩
  rw [← hg3] at h0
  rw [show (Value.pointer (some ⟨w.heap.size, 0, none⟩)) = .pointer (some ⟨g3, 0, none⟩) by rw [hg3]]
  have HX := Lib.hid (hx.step hb0)
  have HB := Lib.hid (BK.init (a := a) (cap := cap) hb0 (Nat.le_of_lt hgw))
  have HA := Lib.hid h0
  have hgg : gx < g3 := by rw [hg3]; exact hgw
  clear hw1 hg3 hb0 h0 hx hgw
  have c0 : w1.cell? ⟨gx, 0, none⟩ = some (.slice a L.length cap) := cell_of_row _ _ 0 _ _ _ HX.out.head
  have c1 : w1.cell? ⟨gx, 1, none⟩ = some (.int .i64 ((n : Nat) : Int)) := cell_of_row _ _ 1 _ _ _ HX.out.head
  have c2 : w1.cell? ⟨gx, 2, none⟩ = some (.int .i64 ((lo : Nat) : Int)) := cell_of_row _ _ 2 _ _ _ HX.out.head
  have c3 : w1.cell? ⟨gx, 3, none⟩ = some (.int .i64 ((d : Nat) : Int)) := cell_of_row _ _ 3 _ _ _ HX.out.head
  have k0 : w1.cell? ⟨g3, 0, none⟩ = some (.int .u8 ((k : Nat) : Int)) := cell_of_row _ _ 0 _ _ _ HA.out
  have k1 : w1.cell? ⟨g3, 1, none⟩ = some (.int .i64 V) := cell_of_row _ _ 1 _ _ _ HA.out
  have hlI : ¬ (L.length : Int) < (n : Int) := by omega
  have hmn := fun (w : World) => run_min2 (P := Try.prog) #[3, 3] 3 .i64 ((d : Int) + 1) 65535 w
  rw [show min ((d : Int) + 1) 65535 = ((min (d + 1) 65535 : Nat) : Int) by omega] at hmn
  go_upto_region 3 with fail
  go_quiet (fail)
  clear c0 c1 c2 c3 k0 k1
  have HX2 := Lib.hid (HX.out.step (bel_drewV w1 nq))
  have HB2 := Lib.hid (HB.out.step (bel_drewV w1 nq) (show gx ≤ w1.heap.size by have := box_lt HX.out.head; omega))
  obtain ⟨w2, hw2⟩ : ∃ w2, w2 = w1.drewN nq := ⟨_, rfl⟩
  rw [← hw2] at HX2 HB2 ⊢
  clear hw2 HX HB HA
  have c3 : w2.cell? ⟨gx, 3, none⟩ = some (.int .i64 ((d : Nat) : Int)) := cell_of_row _ _ 3 _ _ _ HX2.out.head
  have f3 := frozen_of_row _ _ 3 _ _ HX2.out.head
  have HP := Lib.hid (HX2.out.setDropped (min (d + 1) 65535))
  have HB4 := Lib.hid (HB2.out.setCell 3 (.int .i64 ((min (d + 1) 65535 : Nat) : Int)))
  go_upto_region 7 with fail
  obtain ⟨w4, hw4⟩ : ∃ w4, w4 = w2.setCell ⟨gx, 3, none⟩ (.int .i64 ((min (d + 1) 65535 : Nat) : Int)) := ⟨_, rfl⟩
  rw [← hw4] at HP HB4 ⊢
  clear hw4 c3 f3 hmn
  go_wp2_with fail
  exact bodyPost_ret (v := .tuple #[.int .i64 0, .slice none 0 0]) (by simp [results, Try.results24, go_sem]) rfl ⟨rfl, HP.out, HB4.out⟩
set_option maxRecDepth 100000 in
set_option maxHeartbeats 2000000 in
theorem D_pop_none {w : World} {gx base n : Nat} {lo d cap : Nat} {a : Option Addr} (k : Nat) (V M : Int) (hx : XS w gx base n [] lo d a cap) (hk : k % 6 = 3) (hk2 : k < 256) :
    Calls Try.prog 24 #[.pointer (some ⟨gx, 0, none⟩), .agg #[.int .u8 ((k : Nat) : Int), .int .i64 V, .int .i64 M]] w fun e w' => e = .returned (.tuple #[.int .i64 (-1), .slice none 0 0]) ∧ XS w' gx base n [] lo d a cap ∧ BK gx a cap w w' := by
  obtain ⟨L, hL⟩ : ∃ L : List Int, L = [] := ⟨_, rfl⟩
  rw [← hL] at hx ⊢
  have hkI : (k : Int) % 6 = 3 := by omega
  have h0 := heap_alloc_new w (.cells #[.int .u8 ((k : Nat) : Int), .int .i64 V, .int .i64 M] 42)
  have hb0 : Below w.heap.size w (w.alloc (.cells #[.int .u8 ((k : Nat) : Int), .int .i64 V, .int .i64 M] 42)) := (Below.refl _ _).alloc (Nat.le_refl _) _
  have hgw := box_lt hx.head
  go_enter Try.func24, Try.ntmps24
  go_upto_region 1 with fail
  obtain ⟨w1, hw1⟩ : ∃ w1, w1 = w.alloc (.cells #[.int .u8 ((k : Nat) : Int), .int .i64 V, .int .i64 M] 42) := ⟨_, rfl⟩
  rw [← hw1] at h0 hb0 ⊢
  obtain ⟨g3, hg3⟩ : ∃ g, g = w.heap.size := ⟨_, rfl⟩
  rw [← hg3] at h0
  rw [show (Value.pointer (some ⟨w.heap.size, 0, none⟩)) = .pointer (some ⟨g3, 0, none⟩) by rw [hg3]]
  have HX := Lib.hid (hx.step hb0)
  have HB := Lib.hid (BK.init (a := a) (cap := cap) hb0 (Nat.le_of_lt hgw))
  have HA := Lib.hid h0
  have hgg : gx < g3 := by rw [hg3]; exact hgw
  clear hw1 hg3 hb0 h0 hx hgw
  have c0 : w1.cell? ⟨gx, 0, none⟩ = some (.slice a L.length cap) := cell_of_row _ _ 0 _ _ _ HX.out.head
  have c1 : w1.cell? ⟨gx, 1, none⟩ = some (.int .i64 ((n : Nat) : Int)) := cell_of_row _ _ 1 _ _ _ HX.out.head
  have c2 : w1.cell? ⟨gx, 2, none⟩ = some (.int .i64 ((lo : Nat) : Int)) := cell_of_row _ _ 2 _ _ _ HX.out.head
  have c3 : w1.cell? ⟨gx, 3, none⟩ = some (.int .i64 ((d : Nat) : Int)) := cell_of_row _ _ 3 _ _ _ HX.out.head
  have k0 : w1.cell? ⟨g3, 0, none⟩ = some (.int .u8 ((k : Nat) : Int)) := cell_of_row _ _ 0 _ _ _ HA.out
  have k1 : w1.cell? ⟨g3, 1, none⟩ = some (.int .i64 V) := cell_of_row _ _ 1 _ _ _ HA.out
  have hl0 : L.length = 0 := by rw [hL]; rfl
  go_wp2_with fail
  exact bodyPost_ret (v := .tuple #[.int .i64 (-1), .slice none 0 0]) (by simp [results, Try.results24, go_sem]) rfl ⟨rfl, HX.out, HB.out⟩
set_option maxRecDepth 100000 in
set_option maxHeartbeats 2000000 in
theorem D_pop_some {w : World} {gx base n : Nat} {x : Int} {L0 : List Int} {lo d cap : Nat} {a : Option Addr} (k : Nat) (V M : Int) (hx : XS w gx base n (x :: L0) lo d a cap) (hk : k % 6 = 3) (hk2 : k < 256) :
    Calls Try.prog 24 #[.pointer (some ⟨gx, 0, none⟩), .agg #[.int .u8 ((k : Nat) : Int), .int .i64 V, .int .i64 M]] w fun e w' => e = .returned (.tuple #[.int .i64 x, .slice none 0 0]) ∧ (∃ a' cap', XS w' gx base n L0 lo d a' cap') ∧ BK gx a cap w w' := by
  obtain ⟨L, hL⟩ : ∃ L : List Int, L = x :: L0 := ⟨_, rfl⟩
  have htl := cut_tail hx.cut
  obtain ⟨b, off, rfl, hb, hcx⟩ := hx.cut.rd.at (k := 0) (by simp)
  obtain ⟨A, hA⟩ : ∃ A, A = (if cap = 1 then some (⟨b, off, none⟩ : Addr) else (some (⟨b, off, none⟩ : Addr)).map (·.add 1)) := ⟨_, rfl⟩
  have hle := hx.cut.rd.le
  have htop := hx.cut.rd.top
  unfold maxLen at htop
  have hsl : ∀ w : World, (Instr.slice 38 (.slice (some ⟨b, off, none⟩) (x :: L0).length cap) (some (.int .i64 1)) none none).run Try.prog w = .ok (.slice A L0.length (cap - 1)) w := fun w => by
    have h := run_slice_from (some ⟨b, off, none⟩) (x :: L0).length cap 1 (by simp) w
    rw [← hA] at h
    exact h
  have hput : ∀ w', XS w' gx base n (x :: L0) lo d (some ⟨b, off, none⟩) cap → XS (w'.setCell ⟨gx, 0, none⟩ (.slice A L0.length (cap - 1))) gx base n L0 lo d A (cap - 1) := fun w' h => by
    have h1 := cut_tail h.cut
    rw [← hA] at h1
    exact h.put (Below.refl _ _) h1
  rw [← hL] at hx hsl hput hle
  have hkI : (k : Int) % 6 = 3 := by omega
  have hln : L.length = L0.length + 1 := by rw [hL]; rfl
  have hpos : 0 < L.length := by omega
  have hnz : ((L.length : Int) == 0) = false := by rw [beq_eq_false_iff_ne]; omega
  have HPUT := Lib.hid hput
  have HL := Lib.hid hL
  obtain ⟨a, ha⟩ : ∃ a : Option Addr, a = some ⟨b, off, none⟩ := ⟨_, rfl⟩
  rw [← ha] at hx HPUT
  clear hL htl hcx hA hput hln
  have h0 := heap_alloc_new w (.cells #[.int .u8 ((k : Nat) : Int), .int .i64 V, .int .i64 M] 42)
  have hb0 : Below w.heap.size w (w.alloc (.cells #[.int .u8 ((k : Nat) : Int), .int .i64 V, .int .i64 M] 42)) := (Below.refl _ _).alloc (Nat.le_refl _) _
  have hgw := box_lt hx.head
  go_enter Try.func24, Try.ntmps24
  go_upto_region 1 with fail
  obtain ⟨w1, hw1⟩ : ∃ w1, w1 = w.alloc (.cells #[.int .u8 ((k : Nat) : Int), .int .i64 V, .int .i64 M] 42) := ⟨_, rfl⟩
  rw [← hw1] at h0 hb0 ⊢
  obtain ⟨g3, hg3⟩ : ∃ g, g = w.heap.size := ⟨_, rfl⟩
  rw [← hg3] at h0
  rw [show (Value.pointer (some ⟨w.heap.size, 0, none⟩)) = .pointer (some ⟨g3, 0, none⟩) by rw [hg3]]
  have HX := Lib.hid (hx.step hb0)
  have HB := Lib.hid (BK.init (a := a) (cap := cap) hb0 (Nat.le_of_lt hgw))
  have HA := Lib.hid h0
  have hgg : gx < g3 := by rw [hg3]; exact hgw
  clear hw1 hg3 hb0 h0 hx hgw
  have c0 : w1.cell? ⟨gx, 0, none⟩ = some (.slice a L.length cap) := cell_of_row _ _ 0 _ _ _ HX.out.head
  have c1 : w1.cell? ⟨gx, 1, none⟩ = some (.int .i64 ((n : Nat) : Int)) := cell_of_row _ _ 1 _ _ _ HX.out.head
  have c2 : w1.cell? ⟨gx, 2, none⟩ = some (.int .i64 ((lo : Nat) : Int)) := cell_of_row _ _ 2 _ _ _ HX.out.head
  have c3 : w1.cell? ⟨gx, 3, none⟩ = some (.int .i64 ((d : Nat) : Int)) := cell_of_row _ _ 3 _ _ _ HX.out.head
  have k0 : w1.cell? ⟨g3, 0, none⟩ = some (.int .u8 ((k : Nat) : Int)) := cell_of_row _ _ 0 _ _ _ HA.out
  have k1 : w1.cell? ⟨g3, 1, none⟩ = some (.int .i64 V) := cell_of_row _ _ 1 _ _ _ HA.out
  have hcx2 : w1.cell? ⟨b, off, none⟩ = some (.int .i64 x) := by
    obtain ⟨b', off', e, _, h⟩ := HX.out.cut.rd.at (k := 0) hpos
    rw [ha] at e
    cases e
    rw [HL.out] at h
    exact h
  subst ha
  have f0 := frozen_of_row _ _ 0 _ _ HX.out.head
  have HP := Lib.hid (HPUT.out w1 HX.out)
  have HB4 := Lib.hid (HB.out.setCell 0 (.slice A L0.length (cap - 1)))
  go_upto_region 13 with fail
  obtain ⟨w4, hw4⟩ : ∃ w4, w4 = w1.setCell ⟨gx, 0, none⟩ (.slice A L0.length (cap - 1)) := ⟨_, rfl⟩
  rw [← hw4] at HP HB4 ⊢
  clear hw4 c0 c1 c2 c3 k0 k1 f0 hsl hcx2
  go_wp2_with fail
  exact bodyPost_ret (v := .tuple #[.int .i64 x, .slice none 0 0]) (by simp [results, Try.results24, go_sem]) rfl ⟨rfl, ⟨_, _, HP.out⟩, HB4.out⟩
set_option maxRecDepth 100000 in
set_option maxHeartbeats 2000000 in
theorem D_drain {w : World} {gx base n : Nat} {L : List Int} {lo d cap : Nat} {a : Option Addr} (k : Nat) (V M : Int) (hx : XS w gx base n L lo d a cap) (hk : k % 6 = 4) (hk2 : k < 256) :
    Calls Try.prog 24 #[.pointer (some ⟨gx, 0, none⟩), .agg #[.int .u8 ((k : Nat) : Int), .int .i64 V, .int .i64 M]] w fun e w' => e = .returned (.tuple #[.int .i64 0, .slice a L.length cap]) ∧ XS w' gx base n [] lo d none 0 ∧ BK gx a cap w w' ∧ CutI base w' a L.length cap L := by
  have hkI : (k : Int) % 6 = 4 := by omega
  have h0 := heap_alloc_new w (.cells #[.int .u8 ((k : Nat) : Int), .int .i64 V, .int .i64 M] 42)
  have hb0 : Below w.heap.size w (w.alloc (.cells #[.int .u8 ((k : Nat) : Int), .int .i64 V, .int .i64 M] 42)) := (Below.refl _ _).alloc (Nat.le_refl _) _
  have hgw := box_lt hx.head
  go_enter Try.func24, Try.ntmps24
  go_upto_region 1 with fail
  obtain ⟨w1, hw1⟩ : ∃ w1, w1 = w.alloc (.cells #[.int .u8 ((k : Nat) : Int), .int .i64 V, .int .i64 M] 42) := ⟨_, rfl⟩
  rw [← hw1] at h0 hb0 ⊢
  obtain ⟨g3, hg3⟩ : ∃ g, g = w.heap.size := ⟨_, rfl⟩
  rw [← hg3] at h0
  rw [show (Value.pointer (some ⟨w.heap.size, 0, none⟩)) = .pointer (some ⟨g3, 0, none⟩) by rw [hg3]]
  have HX := Lib.hid (hx.step hb0)
  have HB := Lib.hid (BK.init (a := a) (cap := cap) hb0 (Nat.le_of_lt hgw))
  have HA := Lib.hid h0
  have hgg : gx < g3 := by rw [hg3]; exact hgw
  clear hw1 hg3 hb0 h0 hx hgw
  have c0 : w1.cell? ⟨gx, 0, none⟩ = some (.slice a L.length cap) := cell_of_row _ _ 0 _ _ _ HX.out.head
  have c1 : w1.cell? ⟨gx, 1, none⟩ = some (.int .i64 ((n : Nat) : Int)) := cell_of_row _ _ 1 _ _ _ HX.out.head
  have c2 : w1.cell? ⟨gx, 2, none⟩ = some (.int .i64 ((lo : Nat) : Int)) := cell_of_row _ _ 2 _ _ _ HX.out.head
  have c3 : w1.cell? ⟨gx, 3, none⟩ = some (.int .i64 ((d : Nat) : Int)) := cell_of_row _ _ 3 _ _ _ HX.out.head
  have k0 : w1.cell? ⟨g3, 0, none⟩ = some (.int .u8 ((k : Nat) : Int)) := cell_of_row _ _ 0 _ _ _ HA.out
  have k1 : w1.cell? ⟨g3, 1, none⟩ = some (.int .i64 V) := cell_of_row _ _ 1 _ _ _ HA.out
  have f0 := frozen_of_row _ _ 0 _ _ HX.out.head
  have HP := Lib.hid (HX.out.put (Below.refl _ _) (M := []) (cut_nil base w1))
  have HB4 := Lib.hid (HB.out.setCell 0 (.slice none 0 0))
  have HC := Lib.hid (HX.out.cut.step (w' := w1.setCell ⟨gx, 0, none⟩ (.slice none 0 0)) (fun k h1 h2 => heap_setCell_other _ _ _ _ (by show k ≠ gx; have := HX.out.lt; omega)) (by simp))
  go_upto_region 17 with fail
  obtain ⟨w4, hw4⟩ : ∃ w4, w4 = w1.setCell ⟨gx, 0, none⟩ (.slice none 0 0) := ⟨_, rfl⟩
  rw [← hw4]
  have HP2 := Lib.hid (show XS w4 gx base n [] lo d none 0 by rw [hw4]; exact HP.out)
  rw [← hw4] at HB4 HC
  clear hw4 c0 c1 c2 c3 k0 k1 f0 HP
  go_wp2_with fail
  exact bodyPost_ret (v := .tuple #[.int .i64 0, .slice a L.length cap]) (by simp [results, Try.results24, go_sem]) rfl ⟨rfl, HP2.out, HB4.out, HC.out⟩
set_option maxRecDepth 100000 in
set_option maxHeartbeats 2000000 in
theorem D_clear {w : World} {gx base n : Nat} {L : List Int} {lo d cap : Nat} {a : Option Addr} (k : Nat) (V M : Int) (hx : XS w gx base n L lo d a cap) (hk : k % 6 = 5) (hk2 : k < 256) :
    Calls Try.prog 24 #[.pointer (some ⟨gx, 0, none⟩), .agg #[.int .u8 ((k : Nat) : Int), .int .i64 V, .int .i64 M]] w fun e w' => e = .returned (.tuple #[.int .i64 0, .slice none 0 0]) ∧ XS w' gx base n [] 0 0 none 0 ∧ BK gx a cap w w' := by
  have hkI : (k : Int) % 6 = 5 := by omega
  have h0 := heap_alloc_new w (.cells #[.int .u8 ((k : Nat) : Int), .int .i64 V, .int .i64 M] 42)
  have hb0 : Below w.heap.size w (w.alloc (.cells #[.int .u8 ((k : Nat) : Int), .int .i64 V, .int .i64 M] 42)) := (Below.refl _ _).alloc (Nat.le_refl _) _
  have hgw := box_lt hx.head
  go_enter Try.func24, Try.ntmps24
  go_upto_region 1 with fail
  obtain ⟨w1, hw1⟩ : ∃ w1, w1 = w.alloc (.cells #[.int .u8 ((k : Nat) : Int), .int .i64 V, .int .i64 M] 42) := ⟨_, rfl⟩
  rw [← hw1] at h0 hb0 ⊢
  obtain ⟨g3, hg3⟩ : ∃ g, g = w.heap.size := ⟨_, rfl⟩
  rw [← hg3] at h0
  rw [show (Value.pointer (some ⟨w.heap.size, 0, none⟩)) = .pointer (some ⟨g3, 0, none⟩) by rw [hg3]]
  have HX := Lib.hid (hx.step hb0)
  have HB := Lib.hid (BK.init (a := a) (cap := cap) hb0 (Nat.le_of_lt hgw))
  have HA := Lib.hid h0
  have hgg : gx < g3 := by rw [hg3]; exact hgw
  clear hw1 hg3 hb0 h0 hx hgw
  have c0 : w1.cell? ⟨gx, 0, none⟩ = some (.slice a L.length cap) := cell_of_row _ _ 0 _ _ _ HX.out.head
  have c1 : w1.cell? ⟨gx, 1, none⟩ = some (.int .i64 ((n : Nat) : Int)) := cell_of_row _ _ 1 _ _ _ HX.out.head
  have c2 : w1.cell? ⟨gx, 2, none⟩ = some (.int .i64 ((lo : Nat) : Int)) := cell_of_row _ _ 2 _ _ _ HX.out.head
  have c3 : w1.cell? ⟨gx, 3, none⟩ = some (.int .i64 ((d : Nat) : Int)) := cell_of_row _ _ 3 _ _ _ HX.out.head
  have k0 : w1.cell? ⟨g3, 0, none⟩ = some (.int .u8 ((k : Nat) : Int)) := cell_of_row _ _ 0 _ _ _ HA.out
  have k1 : w1.cell? ⟨g3, 1, none⟩ = some (.int .i64 V) := cell_of_row _ _ 1 _ _ _ HA.out
  have b0 := HX.out.head
  have HP := Lib.hid (show XS (w1.setRow gx #[.slice none 0 0, .int .i64 ((n : Nat) : Int), .int .i64 0, .int .i64 0]) gx base n [] 0 0 none 0 from ⟨setRow_heap _ _ _ _ _ _ HX.out.head, (cut_nil base _), HX.out.lt⟩)
  have HB4 := Lib.hid (HB.out.kept (kept_rowX gx w1 #[.slice none 0 0, .int .i64 ((n : Nat) : Int), .int .i64 0, .int .i64 0]) (Nat.le_of_lt (box_lt HX.out.head)))
  go_upto_region 20 with ((with_reducible show wpList _ _ _ (_ :: _) _ _); refine wpList_store_row rfl 40 _ _ rfl _ _ rfl rfl _ _ b0 (by exact size_xr) (by rfl) (by simp [Value.oneCell']) ?_)
  obtain ⟨w4, hw4⟩ : ∃ w4, w4 = w1.setRow gx #[.slice none 0 0, .int .i64 ((n : Nat) : Int), .int .i64 0, .int .i64 0] := ⟨_, rfl⟩
  rw [← hw4] at HP HB4 ⊢
  clear hw4 c0 c1 c2 c3 k0 k1 b0
  simp only [Act.put]
  go_wp2_with fail
  exact bodyPost_ret (v := .tuple #[.int .i64 0, .slice none 0 0]) (by simp [results, Try.results24, go_sem]) rfl ⟨rfl, HP.out, HB4.out⟩
end Go.Proofs.Ytnjkpamjjdkmoaa
