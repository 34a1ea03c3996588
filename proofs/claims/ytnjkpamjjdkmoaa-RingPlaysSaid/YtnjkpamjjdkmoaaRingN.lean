/- Contracts of layer 3 (rings of ints), on: emptied, listed, drained. -/
import Derived.Test.YtnjkpamjjdkmoaaRingM
import Derived.Laws.CopyOwn
import Derived.Laws.CopyRow
import Derived.Laws.MakeOwn
namespace Go.Proofs.Ytnjkpamjjdkmoaa
open Go.RowKit Go.Own
set_option linter.unusedVariables false
set_option linter.unusedSimpArgs false

/-- 'clear(s)' of a row of ints. -/
theorem run_clear_row {w : World} {b n : Nat} {cs : Array Value} (ty : TypeId) (hr : w.heap[b]? = some (.cells cs 3 (0, 0))) (hs : cs.size = n) (hn : 1 ≤ n) :
    (Builtin.clear_ #[38] ty #[.slice (some ⟨b, 0, none⟩) n n]).run Try.prog w = .ok (.tuple #[]) (w.setRow b (il (List.replicate n 0)).toArray) := by
  have hz : (zeroValue 3).run Try.prog w = .ok (.int .i64 0) w := by kernel_rfl
  have hu : Try.prog.underlying 38 = some (.slice 3) := Try.underlying38
  have hl : (Builtin.zeroCells (Value.int .i64 0).cells n).toList = il (List.replicate n 0) := by
    have e := zeros_il n
    have e2 : Builtin.zeroCells (Value.int .i64 0).cells n = madeCells #[Value.int .i64 0] n := by
      simp [Builtin.zeroCells, madeCells, Value.cells]
    rw [e2, e]
  have hst := run_storeCells_at (P := Try.prog) b 0 3 (il (List.replicate n 0)) 0 cs w hr (by simp [il]; omega) (fun v hv => by
    simp only [il, List.mem_map] at hv
    obtain ⟨x, _, rfl⟩ := hv
    rfl)
  have hcs : (cs.toList.take (0 + 0) ++ il (List.replicate n 0) ++ cs.toList.drop (0 + 0 + (il (List.replicate n 0)).length)).toArray = (il (List.replicate n 0)).toArray := by
    have : cs.toList.drop (0 + 0 + (il (List.replicate n 0)).length) = [] := List.drop_eq_nil_of_le (by simp [il]; omega)
    rw [this]
    simp
  rw [hcs] at hst
  obtain ⟨k, rfl⟩ : ∃ k, n = k + 1 := ⟨n - 1, by omega⟩
  simp [Builtin.clear_, run_underlying hu, hz, hl, hst, Result.andThen]
set_option maxRecDepth 100000 in
set_option maxHeartbeats 1000000 in
theorem rEmpty {w : World} {g b n l d : Nat} {L : List Int} (h : Ring w g b n L l d) : Calls Try.prog 131 #[.pointer (some ⟨g, 0, none⟩)] w fun e w' => (∃ v, e = .returned v) ∧ Ring w' g b n [] l d ∧ Kept g b w w' := by
  obtain ⟨f, sl, h1, h2⟩ := h
  have c0 := h1.c0
  have hclr := fun ty => run_clear_row ty h1.row (by simp [il, h1.len]) h1.n1
  obtain ⟨C, hC⟩ : ∃ C, C = (il (List.replicate n 0)).toArray := ⟨_, rfl⟩
  rw [← hC] at hclr
  have hrow := setRow_heap w b _ C _ _ h1.row
  have hhead : (w.setRow b C).heap[g]? = w.heap[g]? := setRow_other w b g C h1.ne
  have e1 : RingS (w.setRow b C) g b n f L.length l d (List.replicate n 0) := ⟨by rw [hhead]; exact h1.head, by rw [hrow, hC], List.length_replicate, h1.n1, h1.n2, h1.hf, h1.hc, h1.hl, h1.hd⟩
  have k1 : Kept g b w (w.setRow b C) := ⟨rfl, rfl, rfl, by simp [World.setRow], fun k _ _ hk => setRow_other w b k C hk⟩
  have d1 := e1.c1
  have d2 := e1.c2
  have f1 := e1.fz 1
  have f2 := e1.fz 2
  have E1 := Lib.hid e1
  have K1 := Lib.hid k1
  clear hrow hhead e1 k1 hC h1 h2
  go_enter Try.func131, Try.ntmps131
  go_wp2
  go_end0
  have e2 := (E1.out.setFirst 0 (by have := E1.out.n1; omega)).setCount 0 (Nat.zero_le _)
  exact ⟨⟨_, rfl⟩, ⟨0, _, e2, fun i hi => absurd hi (by simp)⟩, (K1.out.set (a := ⟨g, 1, none⟩) (.inl rfl) _).set (a := ⟨g, 2, none⟩) (.inl rfl) _⟩
theorem take_snocL (L : List Int) {k : Nat} (h : k < L.length) : il (L.take (k + 1)) = il (L.take k) ++ [.int .i64 (L.getD k 0)] := by rw [takeL_succ L h, il_append]; rfl
set_option maxRecDepth 100000 in
set_option maxHeartbeats 2000000 in
theorem rList {w : World} {g b n l d : Nat} {L : List Int} (h : Ring w g b n L l d) : Calls Try.prog 130 #[.pointer (some ⟨g, 0, none⟩)] w fun e w' => ∃ v, e = .returned v ∧ w'.ownsRow w.heap.size 3 1 v L.length (il L) ∧ Below w.heap.size w w' := by
  obtain ⟨i0, hi, hz0, hz1, hz2⟩ := info_parts info_int
  have hle := h.le
  obtain ⟨c, hc⟩ : ∃ c, c = L.length := ⟨_, rfl⟩
  have hc4 : c ≤ 4096 := by omega
  have hmk : ∀ w : World, (Instr.makeSlice 38 (.int .i64 0) (.int .i64 (c : Nat))).run Try.prog w = .ok (.slice (some ⟨w.heap.size, 0, none⟩) 0 c) (w.alloc (.cells (il (List.replicate c 0)).toArray 3)) := by
    intro w
    have := run_make (P := Try.prog) w 38 3 i0 (.int .i64 0) Try.underlying38 hi hz0 .i64 .i64 0 c (Int.le_refl _) (by omega) (by rw [hz2]; omega) (by omega)
    have e : madeCells (Value.int .i64 0).cells ((c : Int).toNat * i0.size) = (il (List.replicate c 0)).toArray := by
      rw [hz1, ← zeros_il]
      simp [Value.cells]
    rw [e] at this
    simpa using this
  have hown := World.ownsRow_made (base := w.heap.size) (e := 3) (size := 1) w (il (List.replicate c 0)).toArray c (Nat.le_refl _) (by unfold maxLen; omega) (by simp [il])
  obtain ⟨Z, hZ⟩ : ∃ Z, Z = (il (List.replicate c 0)).toArray := ⟨_, rfl⟩
  rw [← hZ] at hown hmk
  have H := Lib.hid h
  have HC := Lib.hid hc
  have HO := Lib.hid hown
  clear h hc hZ hown
  go_enter Try.func130, Try.ntmps130
  go_wp2_with fail
  go_at_call 27
  refine (rLen H.out).mono ?_
  rintro e w' ⟨rfl, rfl⟩
  rw [← HC.out]
  go_wp2_with fail
  go_at_call 27
  have hb0 : Below w.heap.size w (w.alloc (.cells Z 3)) := (Below.refl _ _).alloc (Nat.le_refl _) _
  refine (rLen (H.out.below hb0 (Nat.le_refl _))).mono ?_
  rintro e w' ⟨rfl, rfl⟩
  rw [← HC.out]
  go_wp2
  clear hmk
  go_loopw [3, 10] (fun v i wr => ∃ k : Nat, k ≤ c ∧ i = .int .i64 k ∧ wr.ownsRow w.heap.size 3 1 v k (il (L.take k)) ∧ Below w.heap.size w wr) (fun _ i _ => c - (intOf i).toNat)
  case atStart => exact ⟨0, Nat.zero_le _, rfl, HO.out, hb0⟩
  case round =>
    clear hb0
    obtain ⟨k, hk, rfl, hown, hB⟩ := hrel
    have hsr : w.heap.size ≤ wr.heap.size := hB.size
    by_cases hlt : k < c
    · obtain ⟨f, sl, e1, e2⟩ := H.out.below hB (Nat.le_refl _)
      obtain ⟨s, hs⟩ : ∃ s, s = (f + k) % n := ⟨_, rfl⟩
      have hsn : s < n := by rw [hs]; exact Nat.mod_lt _ (by omega)
      obtain ⟨x, hx⟩ : ∃ x, x = L.getD k 0 := ⟨_, rfl⟩
      have d0 := e1.c0
      have dx := e1.at hsn
      have ee := e2 k (by rw [← HC.out]; exact hlt)
      rw [← hs, ← hx] at ee
      rw [ee] at dx
      have hgw := box_lt e1.head
      have hbw := box_lt e1.row
      have hsn' := take_snocL L (show k < L.length by rw [← HC.out]; exact hlt)
      rw [← hx] at hsn'
      have HSN := Lib.hid hsn'
      have E1 := Lib.hid e1
      have HS := Lib.hid hs
      have HOW := Lib.hid hown
      have HB := Lib.hid hB
      clear e1 e2 ee hs hx hsn' hown hB
      go_wp2
      obtain ⟨I, W, hne, hWI, hIW⟩ := Go.Mix.family (fun v => Below wr.heap.size wr v) (Below.refl _ _)
      have HJ := Lib.hid hIW
      have HW := Lib.hid hWI
      clear hWI hIW
      refine Go.Flo.wp_region (fun w' => ∃ i, w' = W i) 11 [Go.Flo.Spec.is (.int .i64 (s : Nat)), Go.Flo.Spec.row wr.heap.size 1 #[.int .i64 x] 3] (by kernel_rfl) (by kernel_rfl) (by decide) (by rintro _ w' ⟨i, rfl⟩ hb; exact HJ.out _ ((HW.out i).trans (hb.mono (HW.out i).size))) (HJ.out _ (Below.refl _ _).drew) ?_
      simp only [Go.Flo.pair, Go.Mix.calm, List.take, List.drop, if_true, Bool.false_eq_true, if_false, Nat.reduceAdd, Nat.reduceSub]
      have q0 : ∀ i, (W i).cell? ⟨g, 0, none⟩ = some (.slice (some ⟨b, 0, none⟩) n n) := fun i => ((HW.out i).cell (p := ⟨g, 0, none⟩) hgw).trans d0
      have qx : ∀ i, (W i).cell? ⟨b, s, none⟩ = some (.int .i64 x) := fun i => ((HW.out i).cell (p := ⟨b, s, none⟩) hbw).trans dx
      (repeat (first | (refine Go.Flo.fw_calm rfl ?_ (fun K hK => ?_); (first | exact Go.Mix.wanted_none rfl | exact Go.Mix.wanted_tt rfl rfl rfl | exact Go.Mix.wanted_ff rfl rfl rfl); go_big_quiet_op; refine hK _ ?_; clear hK K) | (refine Go.Flo.fw_skip ?_ (fun K hK => ?_); (first | exact Go.Mix.wanted_tf rfl rfl rfl | exact Go.Mix.wanted_ft rfl rfl rfl); go_simp; refine hK _ ?_; clear hK K) | (refine Go.Flo.fw_any rfl ?_ (fun K hK => ?_); (first | exact Go.Mix.wanted_none rfl | exact Go.Mix.wanted_tt rfl rfl rfl | exact Go.Mix.wanted_ff rfl rfl rfl); go_simp; (try (go_ints; try go_simp)); refine hK _ ?_; clear hK K)))
      refine Go.Flo.fw_loud rfl ?_ rfl (by simp) (fun wv hwv hav K hK => ?_) (fun v hv K hK => ?_)
      · (first | exact Go.Mix.wanted_none rfl | exact Go.Mix.wanted_tt rfl rfl rfl | exact Go.Mix.wanted_ff rfl rfl rfl)
      · obtain ⟨iv, rfl⟩ := hwv
        have hbv := HW.out iv
        (first | go_big_op | go_simp)
        go_at_call 97
        refine (islot_any (E1.out.below hbv (Nat.le_refl _)) k (by omega)).mono ?_
        rintro e w' ⟨rfl, q, rfl⟩
        rw [← HS.out]
        exact hK _ _ (Go.Flo.owes_is _ rfl (below_drewsI _ _ _))
      obtain rfl := hv.is
      go_simp
      refine hK _ ?_
      clear hK K hv
      (repeat (first | (refine Go.Flo.fw_calm rfl ?_ (fun K hK => ?_); (first | exact Go.Mix.wanted_none rfl | exact Go.Mix.wanted_tt rfl rfl rfl | exact Go.Mix.wanted_ff rfl rfl rfl); go_big_quiet_op; refine hK _ ?_; clear hK K) | (refine Go.Flo.fw_skip ?_ (fun K hK => ?_); (first | exact Go.Mix.wanted_tf rfl rfl rfl | exact Go.Mix.wanted_ft rfl rfl rfl); go_simp; refine hK _ ?_; clear hK K) | (refine Go.Flo.fw_any rfl ?_ (fun K hK => ?_); (first | exact Go.Mix.wanted_none rfl | exact Go.Mix.wanted_tt rfl rfl rfl | exact Go.Mix.wanted_ff rfl rfl rfl); go_simp; (try (go_ints; try go_simp)); refine hK _ ?_; clear hK K)))
      refine Go.Flo.fw_loud rfl ?_ rfl (by simp) (fun wv hwv hav K hK => ?_) (fun v hv K hK => ?_)
      · (first | exact Go.Mix.wanted_none rfl | exact Go.Mix.wanted_tt rfl rfl rfl | exact Go.Mix.wanted_ff rfl rfl rfl)
      · obtain ⟨iv, rfl⟩ := hwv
        (first | go_big_op | go_simp)
        refine hK _ _ (Go.Flo.owes_row (HW.out iv).size)
      obtain ⟨ge, hge, rfl⟩ := hv.row
      go_simp
      refine hK _ ?_
      clear hK K hv
      refine Go.Flo.fw_nil ?_
      intro w2 hww2 hfw2 huw2
      obtain ⟨iend, hiend⟩ := hww2
      have hbw2 := HW.out iend
      rw [← hiend] at hbw2
      clear hiend iend huw2
      have hrow := Go.Flo.says_row ((hfw2 (some 23)).2 rfl).1
      have hown2 := own_below HOW.out hbw2 (Nat.le_refl _)
      have hB2 := HB.out.trans (hbw2.mono hsr)
      have hs2 : w.heap.size ≤ w2.heap.size := hB2.size
      have hcx := box_cell hrow
      clear hfw2 HJ HW hne q0 qx d0 dx hrow hbw2
      clear W I
      refine Go.Flo.tw_step ?_ (fun K hK => ?_)
      · (first | exact Go.Mix.wanted_none rfl | exact Go.Mix.wanted_tt rfl rfl rfl | exact Go.Mix.wanted_ff rfl rfl rfl)
      refine wp_append_own w2 _ _ 38 rfl w.heap.size 3 i0 (.int .i64 0) 1 8 Try.underlying38 hi hz0 hz1 hz2 rfl (by decide) _ _ _ rfl hown2 ⟨ge, 0, none⟩ 1 1 [.int .i64 x] rfl rfl (fun j u hj => ?_) (by simp [Value.oneCell']) (by unfold maxLen; omega) (by omega) hs2 ?_
      · have : j = 0 := by
          have := (List.getElem?_eq_some_iff.1 hj).1
          simpa using this
        subst this
        simp at hj
        subst hj
        simpa [Addr.add] using hcx
      intro v' w4 hown4 hgrow4 _
      rw [← HSN.out] at hown4
      have hB4 := hB2.grown hgrow4 hs2 (fun j hj => (hown2.lt j hj).1)
      have HO4 := Lib.hid hown4
      have HB4 := Lib.hid hB4
      refine hK _ _ ?_
      clear hK K hown4 hgrow4 hown2 hB2 hcx hB4
      refine Go.Flo.tw_step ?_ (fun K hK => ?_)
      · (first | exact Go.Mix.wanted_none rfl | exact Go.Mix.wanted_tt rfl rfl rfl | exact Go.Mix.wanted_ff rfl rfl rfl)
      (first | go_big_op | go_simp)
      refine hK _ _ ?_
      clear hK K
      refine Go.Flo.tw_nil ?_
      go_wp2
      go_roundw
      case rel => exact ⟨k + 1, by omega, by go_num, HO4.out, HB4.out⟩
      case measure => simp [intOf]; omega
    · obtain rfl : k = c := by omega
      have e : L.take k = L := List.take_of_length_le (by rw [← HC.out]; exact Nat.le_refl _)
      rw [e] at hown
      have HOW := Lib.hid hown
      clear e hown
      go_wp2
      go_ret
      exact ⟨_, rfl, by rw [← HC.out]; exact HOW.out, hB⟩
set_option maxHeartbeats 1000000 in
theorem rDrain {w : World} {g b n l d : Nat} {L : List Int} (h : Ring w g b n L l d) : Calls Try.prog 94 #[.pointer (some ⟨g, 0, none⟩)] w fun e w' => ∃ v, e = .returned v ∧ w'.ownsRow w.heap.size 3 1 v L.length (il L) ∧ Ring w' g b n [] l d ∧ Kept g b w w' := by
  have hle := h.le
  have H := Lib.hid h
  clear h
  go_enter Try.func94, Try.ntmps94
  go_wp2_with fail
  go_at_call 130
  refine (rList H.out).mono ?_
  rintro e w1 ⟨v, rfl, hown, hb⟩
  obtain ⟨a1, c1, rfl⟩ := own_form hown
  have h1 := H.out.below hb (Nat.le_refl _)
  have HB := Lib.hid hb
  have H1 := Lib.hid h1
  have HO := Lib.hid hown
  clear hb h1 hown
  go_wp2_with fail
  go_at_call 131
  refine (rEmpty H1.out).mono ?_
  rintro e w2 ⟨⟨v2, rfl⟩, h2, k2⟩
  have hown2 : w2.ownsRow w.heap.size 3 1 (.slice a1 L.length c1) L.length (il L) := by
    have hlt := HO.out.lt
    obtain ⟨e1, e2 | ⟨gg, cap, cur, hv, hg, hr, ho⟩⟩ := HO.out
    · exact ⟨e1, .inl e2⟩
    · refine ⟨e1, .inr ⟨gg, cap, cur, hv, hg, (k2.block gg (box_lt hr) (by omega) (by omega)).trans hr, ho⟩⟩
  have HO2 := Lib.hid hown2
  clear hown2
  go_wp2
  go_ret
  exact ⟨_, rfl, HO2.out, h2, (Kept.of_below HB.out).trans k2⟩
end Go.Proofs.Ytnjkpamjjdkmoaa
