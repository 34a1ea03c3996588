/- Contracts of layer 3 (rings of reports), on: looked at, made. -/
import Derived.Test.YtioclbkgfbjpdaaRqK
import Derived.Laws.MakeOwn
namespace Go.Proofs.Ytioclbkgfbjpdaa
open Go.RowKit Go.Own
set_option linter.unusedVariables false
set_option linter.unusedSimpArgs false
variable {w : World} {g b n d : Nat} {L : List Rq}
set_option maxRecDepth 100000 in
set_option maxHeartbeats 1000000 in
theorem rAt_some (h : Ring w g b n L d) (i : Nat) (hi : i < L.length) : Calls Try.prog 72 #[.pointer (some ⟨g, 0, none⟩), .int .i64 (i : Nat)] w fun e w' => e = .returned (.tuple #[.agg #[.int .u8 ((L.getD i rq0).s : Nat), .int .u8 ((L.getD i rq0).u : Nat), .int .u16 ((L.getD i rq0).c : Nat), .int .u32 ((L.getD i rq0).t : Nat), .slice (L.getD i rq0).a (L.getD i rq0).n (L.getD i rq0).cp], .bool true]) ∧ Below w.heap.size w w' := by
  have hle := h.le
  have hlt : ¬ (L.length : Int) ≤ (i : Int) := by omega
  obtain ⟨x, hx⟩ : ∃ x, x = L.getD i rq0 := ⟨_, rfl⟩
  obtain ⟨c, hc⟩ : ∃ c, c = L.length := ⟨_, rfl⟩
  have HC := Lib.hid hc
  rw [← hc] at hlt
  have hic : i < c := by omega
  have hc4 : c ≤ 4096 := by omega
  have hal : Below w.heap.size w (w.alloc (.cells #[.int .u8 (rq0.s : Nat), .int .u8 (rq0.u : Nat), .int .u16 (rq0.c : Nat), .int .u32 (rq0.t : Nat), .slice rq0.a rq0.n rq0.cp] 123)) := (Below.refl _ _).alloc (Nat.le_refl _) _
  have hbox : (w.alloc (.cells #[.int .u8 (rq0.s : Nat), .int .u8 (rq0.u : Nat), .int .u16 (rq0.c : Nat), .int .u32 (rq0.t : Nat), .slice rq0.a rq0.n rq0.cp] 123)).heap[w.heap.size]? = some (.cells #[.int .u8 (rq0.s : Nat), .int .u8 (rq0.u : Nat), .int .u16 (rq0.c : Nat), .int .u32 (rq0.t : Nat), .slice rq0.a rq0.n rq0.cp] 123 (0, 0)) := heap_alloc_new _ _
  have h1 := h.below hal (Nat.le_refl _)
  have HX := Lib.hid hx
  rw [← hx]
  have hzr := zero_rq
  obtain ⟨f, sl, r1, r2⟩ := id h1
  have he := r2 i hi
  have hf := r1.hf
  obtain ⟨s, hs⟩ : ∃ s, s = (f + i) % n := ⟨_, rfl⟩
  have hsn : s < n := by rw [hs]; exact Nat.mod_lt _ (by omega)
  have dx := r1.row s hsn
  rw [← hs, ← hx] at he
  rw [he] at dx
  have d0 := r1.c0
  have hgw := box_lt r1.head
  have hbw := r1.hb
  have HS := Lib.hid hs
  have R1 := Lib.hid r1
  have H1 := Lib.hid h1
  clear h h1 r1 r2 he hs hx hc
  go_enter Try.func72, Try.ntmps72
  go_wp2_with fail
  obtain ⟨w1, hw1⟩ : ∃ w1, w1 = w.alloc (.cells #[.int .u8 (rq0.s : Nat), .int .u8 (rq0.u : Nat), .int .u16 (rq0.c : Nat), .int .u32 (rq0.t : Nat), .slice rq0.a rq0.n rq0.cp] 123) := ⟨_, rfl⟩
  obtain ⟨x0, hx0⟩ : ∃ x0, x0 = w.heap.size := ⟨_, rfl⟩
  have hx0n : w.heap.size ≤ x0 := by omega
  rw [← hw1] at hal hbox H1 R1 hgw hbw dx d0
  rw [← hx0] at hbox
  rw [← hw1, ← hx0]
  clear hw1 hx0 hzr
  go_at_call 70
  refine (rLen H1.out).mono ?_
  rintro e w' ⟨rfl, rfl⟩
  rw [← HC.out]
  go_wp2_with fail
  have hxw := box_lt hbox
  obtain ⟨I, W, hne, hWI, hIW⟩ := Go.Mix.family (fun v => Below w1.heap.size w1 v) (Below.refl _ _)
  have HJ := Lib.hid hIW
  have HW := Lib.hid hWI
  clear hWI hIW
  refine Go.Flo.wp_region (fun w' => ∃ i, w' = W i) 9 [Go.Flo.Spec.is (.int .i64 (s : Nat))] (by kernel_rfl) (by kernel_rfl) (by decide) (by rintro _ w' ⟨i, rfl⟩ hb; exact HJ.out _ ((HW.out i).trans (hb.mono (HW.out i).size))) (HJ.out _ (Below.refl _ _).drew) ?_
  simp only [Go.Flo.pair, Go.Mix.calm, List.take, List.drop, if_true, Bool.false_eq_true, if_false, Nat.reduceAdd, Nat.reduceSub]
  have e0 : ∀ i, (W i).cell? ⟨g, 0, none⟩ = some (.slice (some ⟨b, 0, none⟩) n n) := fun i => ((HW.out i).cell (p := ⟨g, 0, none⟩) hgw).trans d0
  (repeat (first | (refine Go.Flo.fw_calm rfl ?_ (fun K hK => ?_); (first | exact Go.Mix.wanted_none rfl | exact Go.Mix.wanted_tt rfl rfl rfl | exact Go.Mix.wanted_ff rfl rfl rfl); go_big_quiet_op; refine hK _ ?_; clear hK K) | (refine Go.Flo.fw_skip ?_ (fun K hK => ?_); (first | exact Go.Mix.wanted_tf rfl rfl rfl | exact Go.Mix.wanted_ft rfl rfl rfl); go_simp; refine hK _ ?_; clear hK K) | (refine Go.Flo.fw_any rfl ?_ (fun K hK => ?_); (first | exact Go.Mix.wanted_none rfl | exact Go.Mix.wanted_tt rfl rfl rfl | exact Go.Mix.wanted_ff rfl rfl rfl); go_simp; (try (go_ints; try go_simp)); refine hK _ ?_; clear hK K)))
  refine Go.Flo.fw_loud rfl ?_ rfl (by simp) (fun wv hwv hav K hK => ?_) (fun v hv K hK => ?_)
  · (first | exact Go.Mix.wanted_none rfl | exact Go.Mix.wanted_tt rfl rfl rfl | exact Go.Mix.wanted_ff rfl rfl rfl)
  · obtain ⟨iv, rfl⟩ := hwv
    have hbv := HW.out iv
    (first | go_big_op | go_simp)
    go_at_call 87
    refine (islot_any (R1.out.below hbv (Nat.le_refl _)) i (by omega)).mono ?_
    rintro e w' ⟨rfl, q, rfl⟩
    rw [← HS.out]
    exact hK _ _ (Go.Flo.owes_is _ rfl (below_drewsI _ _ _))
  obtain rfl := hv.is
  go_simp
  refine hK _ ?_
  clear hK K hv
  (repeat (first | (refine Go.Flo.fw_calm rfl ?_ (fun K hK => ?_); (first | exact Go.Mix.wanted_none rfl | exact Go.Mix.wanted_tt rfl rfl rfl | exact Go.Mix.wanted_ff rfl rfl rfl); go_big_quiet_op; refine hK _ ?_; clear hK K) | (refine Go.Flo.fw_skip ?_ (fun K hK => ?_); (first | exact Go.Mix.wanted_tf rfl rfl rfl | exact Go.Mix.wanted_ft rfl rfl rfl); go_simp; refine hK _ ?_; clear hK K) | (refine Go.Flo.fw_any rfl ?_ (fun K hK => ?_); (first | exact Go.Mix.wanted_none rfl | exact Go.Mix.wanted_tt rfl rfl rfl | exact Go.Mix.wanted_ff rfl rfl rfl); go_simp; (try (go_ints; try go_simp)); refine hK _ ?_; clear hK K)))
  (refine Go.Flo.fw_calm rfl ?_ (fun K hK => ?_); (first | exact Go.Mix.wanted_none rfl | exact Go.Mix.wanted_tt rfl rfl rfl | exact Go.Mix.wanted_ff rfl rfl rfl); refine Go.Flo.quiet_load_mid 123 _ rfl b (s * 5) rfl x.cs (by rintro _ ⟨i, rfl⟩; exact range_block dx ((HW.out i).block b hbw)) Try.underlying123 rfl size_rq ?_; rw [show (x.cs).toArray = #[.int .u8 (x.s : Nat), .int .u8 (x.u : Nat), .int .u16 (x.c : Nat), .int .u32 (x.t : Nat), .slice x.a x.n x.cp] from rfl]; go_simp; refine hK _ ?_; clear hK K)
  (repeat (first | (refine Go.Flo.fw_calm rfl ?_ (fun K hK => ?_); (first | exact Go.Mix.wanted_none rfl | exact Go.Mix.wanted_tt rfl rfl rfl | exact Go.Mix.wanted_ff rfl rfl rfl); go_big_quiet_op; refine hK _ ?_; clear hK K) | (refine Go.Flo.fw_skip ?_ (fun K hK => ?_); (first | exact Go.Mix.wanted_tf rfl rfl rfl | exact Go.Mix.wanted_ft rfl rfl rfl); go_simp; refine hK _ ?_; clear hK K) | (refine Go.Flo.fw_any rfl ?_ (fun K hK => ?_); (first | exact Go.Mix.wanted_none rfl | exact Go.Mix.wanted_tt rfl rfl rfl | exact Go.Mix.wanted_ff rfl rfl rfl); go_simp; (try (go_ints; try go_simp)); refine hK _ ?_; clear hK K)))
  refine Go.Flo.fw_nil ?_
  intro w2 hww2 hfw2 huw2
  obtain ⟨iend, hiend⟩ := hww2
  have hbw2 := HW.out iend
  rw [← hiend] at hbw2
  clear hiend iend huw2
  have hb2 := box_below hbox hbw2 hxw
  have HB2 := Lib.hid (hal.trans (hbw2.mono hal.size))
  clear hfw2 HJ HW hne e0 d0 dx hbw2 hal hbox
  clear W I
  refine Go.Flo.tw_step ?_ (fun K hK => ?_)
  · (first | exact Go.Mix.wanted_none rfl | exact Go.Mix.wanted_tt rfl rfl rfl | exact Go.Mix.wanted_ff rfl rfl rfl)
  refine wp_store_row 123 (.tmp 4) (.tmp 24) rfl x0 #[.int .u8 (x.s : Nat), .int .u8 (x.u : Nat), .int .u16 (x.c : Nat), .int .u32 (x.t : Nat), .slice x.a x.n x.cp] rfl rfl 123 _ hb2 size_rq rfl (by simp [Value.oneCell']) (hK _ _ ?_)
  clear hK K
  have hfin := setRow_heap _ x0 _ #[.int .u8 (x.s : Nat), .int .u8 (x.u : Nat), .int .u16 (x.c : Nat), .int .u32 (x.t : Nat), .slice x.a x.n x.cp] _ _ hb2
  have HB3 : Below w.heap.size w (w2.setRow x0 #[.int .u8 (x.s : Nat), .int .u8 (x.u : Nat), .int .u16 (x.c : Nat), .int .u32 (x.t : Nat), .slice x.a x.n x.cp]) := ⟨HB2.out.os, HB2.out.tape, HB2.out.output, by simpa [World.setRow] using HB2.out.size, fun k hk => (setRow_other _ x0 k _ (by omega)).trans (HB2.out.block k hk)⟩
  refine Go.Flo.tw_step ?_ (fun K hK => ?_)
  · (first | exact Go.Mix.wanted_none rfl | exact Go.Mix.wanted_tt rfl rfl rfl | exact Go.Mix.wanted_ff rfl rfl rfl)
  (first | go_big_op | go_simp)
  refine hK _ _ ?_
  clear hK K
  refine Go.Flo.tw_nil ?_
  go_wp2_with fail
  refine bodyPost_ret (results_cell_tmp2 rfl _ _ _ _ _ _ rfl hfin Try.underlying123 rfl size_rq) rfl ?_
  exact ⟨rfl, HB3⟩
theorem info_rq : (Try.prog.info? 123).map (fun i => (i.zero, i.size, i.bytes)) = some (some (.agg #[.int .u8 (rq0.s : Nat), .int .u8 (rq0.u : Nat), .int .u16 (rq0.c : Nat), .int .u32 (rq0.t : Nat), .slice rq0.a rq0.n rq0.cp]), 5, 32) := by kernel_rfl
theorem made_rq (n i j : Nat) (hi : i < n) (hj : j < 5) : (madeCells (Value.agg #[.int .u8 (rq0.s : Nat), .int .u8 (rq0.u : Nat), .int .u16 (rq0.c : Nat), .int .u32 (rq0.t : Nat), .slice rq0.a rq0.n rq0.cp]).cells (n * 5))[i * 5 + j]? = rq0.cs[j]? := by
  have h : i * 5 + j < n * 5 := by omega
  have hm : (i * 5 + j) % 5 = j := by omega
  unfold madeCells
  rw [Array.getElem?_map, Array.getElem?_range, if_pos h]
  have hs : (Value.agg #[.int .u8 (rq0.s : Nat), .int .u8 (rq0.u : Nat), .int .u16 (rq0.c : Nat), .int .u32 (rq0.t : Nat), .slice rq0.a rq0.n rq0.cp]).cells.size = 5 := rfl
  simp only [Option.map_some, hs, hm]
  have : j = 0 ∨ j = 1 ∨ j = 2 ∨ j = 3 ∨ j = 4 := by omega
  rcases this with rfl | rfl | rfl | rfl | rfl <;> rfl
set_option maxRecDepth 100000 in
set_option maxHeartbeats 1000000 in
theorem iNew_ok (n : Nat) (w : World) (h1 : 1 ≤ n) (h2 : n ≤ 4096) : Calls Try.prog 65 #[.int .i64 (n : Nat)] w fun e w' => ∃ g b, e = .returned (.tuple #[.pointer (some ⟨g, 0, none⟩), .int .i64 0]) ∧ Ring w' g b n [] 0 ∧ w.heap.size ≤ g ∧ w.heap.size ≤ b ∧ Below w.heap.size w w' := by
  obtain ⟨i0, hi, hz0, hz1, hz2⟩ := info_parts info_rq
  have hmk : ∀ w : World, (Instr.makeSlice 50 (.int .i64 (n : Nat)) (.int .i64 (n : Nat))).run Try.prog w = .ok (.slice (some ⟨w.heap.size, 0, none⟩) n n) (w.alloc (.cells (madeCells (Value.agg #[.int .u8 (rq0.s : Nat), .int .u8 (rq0.u : Nat), .int .u16 (rq0.c : Nat), .int .u32 (rq0.t : Nat), .slice rq0.a rq0.n rq0.cp]).cells (n * 5)) 123)) := by
    intro w
    have := run_make (P := Try.prog) w 50 123 i0 (.agg #[.int .u8 (rq0.s : Nat), .int .u8 (rq0.u : Nat), .int .u16 (rq0.c : Nat), .int .u32 (rq0.t : Nat), .slice rq0.a rq0.n rq0.cp]) Try.underlying50 hi hz0 .i64 .i64 n n (by omega) (by omega) (by rw [hz2]; omega) (by omega)
    rw [hz1] at this
    simpa using this
  obtain ⟨Z, hZ⟩ : ∃ Z, Z = madeCells (Value.agg #[.int .u8 (rq0.s : Nat), .int .u8 (rq0.u : Nat), .int .u16 (rq0.c : Nat), .int .u32 (rq0.t : Nat), .slice rq0.a rq0.n rq0.cp]).cells (n * 5) := ⟨_, rfl⟩
  rw [← hZ] at hmk
  have HZ := Lib.hid hZ
  clear hZ
  go_enter Try.func65, Try.ntmps65
  go_wp2
  go_ret2
  have hal : Below w.heap.size w (w.alloc (.cells Z 123)) := (Below.refl _ _).alloc (Nat.le_refl _) _
  refine ⟨_, _, rfl, ⟨0, List.replicate n rq0, ⟨heap_alloc2_new _ _ _, fun i hi' j v hv => ?_, fun i => frozen_of_row _ _ i _ _ (heap_alloc2_old _ _ _), by omega, List.length_replicate, h1, h2, by omega, by simp, by omega⟩, fun i hi' => absurd hi' (by simp)⟩, by omega, Nat.le_refl _, hal.alloc hal.size _⟩
  have e : (List.replicate n rq0).getD i rq0 = rq0 := by simp [List.getD, hi']
  rw [e] at hv
  have hj : j < 5 := (List.getElem?_eq_some_iff.1 hv).1
  rw [cell_of_row _ _ (i * 5 + j) _ _ _ (heap_alloc2_old _ _ _), HZ.out, made_rq n i j hi' hj, hv]
set_option maxHeartbeats 1000000 in
theorem iNew_bad (n : Int) (w : World) (h : n < 1) : Calls Try.prog 65 #[.int .i64 n] w fun e w' => e = .returned (.tuple #[.pointer none, .int .i64 1]) ∧ w = w' := by
  go_enter Try.func65, Try.ntmps65
  go_wp2
  go_ret2
  exact ⟨rfl, rfl⟩
end Go.Proofs.Ytioclbkgfbjpdaa
