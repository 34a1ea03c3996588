/- Contracts of layer 3 (rings of entries), on: all of them, in new memory. -/
import Derived.Test.YtkgeeohgfbacaaaEqM
namespace Go.Proofs.Ytkgeeohgfbacaaa.Je
open Go.RowKit Go.Own
set_option linter.unusedVariables false
set_option linter.unusedSimpArgs false
/-- The cells of a row of entries. -/
def ql (l : List En) : List Value := l.flatMap En.cs
theorem ql_len (l : List En) : (ql l).length = l.length * 5 := by
  induction l with
  | nil => rfl
  | cons x r ih => simp only [ql, List.flatMap_cons, List.length_append, En.len, List.length_cons] at ih ⊢; omega
theorem ql_append (l m : List En) : ql (l ++ m) = ql l ++ ql m := by simp [ql]
theorem ql_one (x : En) : ql [x] = x.cs := by simp [ql]
theorem ql_at (l : List En) : ∀ (i : Nat), i < l.length → ∀ j, j < 5 → (ql l)[i * 5 + j]? = (l.getD i en0).cs[j]? := by
  induction l with
  | nil => intro i hi; simp at hi
  | cons x r ih =>
    intro i hi j hj
    have e : ql (x :: r) = x.cs ++ ql r := by simp [ql]
    rw [e]
    rcases Nat.eq_zero_or_pos i with h0 | h0
    · subst h0
      rw [List.getElem?_append_left (by rw [En.len]; omega)]
      simp
    · obtain ⟨k, rfl⟩ : ∃ k, i = k + 1 := ⟨i - 1, by omega⟩
      rw [List.getElem?_append_right (by rw [En.len]; omega), En.len, show (k + 1) * 5 + j - 5 = k * 5 + j by omega, ih k (by simpa using hi) j hj]
      simp
theorem takeq_succ (l : List En) {k : Nat} (h : k < l.length) : ql (l.take (k + 1)) = ql (l.take k) ++ (l.getD k en0).cs := by
  rw [List.take_succ_eq_append_getElem h, ql_append, ql_one]
  simp [List.getD, h]
theorem own_range {w : World} {base m : Nat} {a : Option Addr} {c : Nat} {l : List En} (h : w.ownsRow base 143 5 (.slice a m c) m (ql l)) (hl : l.length = m) {i : Nat} (hi : i < m) : ∃ g, a = some ⟨g, 0, none⟩ ∧ base ≤ g ∧ g < w.heap.size ∧ w.rangeAt g (i * 5) (l.getD i en0).cs := by
  rcases h.2 with ⟨hv, hx⟩ | ⟨g, cap, cur, hv, hb, hg, hn, hm, hs, ht⟩
  · injection hv with h1 h2 h3; omega
  · simp only [Value.slice.injEq] at hv
    obtain ⟨rfl, _, rfl⟩ := hv
    refine ⟨g, rfl, hb, box_lt hg, fun j v hv => ?_⟩
    have hj : j < 5 := (List.getElem?_eq_some_iff.1 hv).1
    rw [cell_of_row w g (i * 5 + j) _ _ _ hg]
    have e := ql_at l i (by omega) j hj
    rw [hv, ← ht, List.getElem?_take, if_pos (by omega)] at e
    simpa using e
set_option maxRecDepth 100000 in
set_option maxHeartbeats 2000000 in
theorem rList {w : World} {g b n d : Nat} {L : List En} (h : Ring w g b n L d) : Calls Try.prog 165 #[.pointer (some ⟨g, 0, none⟩)] w fun e w' => ∃ v, e = .returned v ∧ w'.ownsRow w.heap.size 143 5 v L.length (ql L) ∧ Below w.heap.size w w' := by
  obtain ⟨i0, hi, hz0, hz1, hz2⟩ := info_parts info_en
  have hle := h.le
  obtain ⟨c, hc⟩ : ∃ c, c = L.length := ⟨_, rfl⟩
  have hc4 : c ≤ 4096 := by omega
  have hmk : ∀ w : World, (Instr.makeSlice 148 (.int .i64 0) (.int .i64 (c : Nat))).run Try.prog w = .ok (.slice (some ⟨w.heap.size, 0, none⟩) 0 c) (w.alloc (.cells (madeCells (Value.agg #[.int .u32 (en0.q : Nat), .int .u32 (en0.t : Nat), .int .u8 (en0.e : Nat), .int .u8 (en0.g : Nat), .int .u32 (en0.d : Nat)]).cells (c * 5)) 143)) := by
    intro w
    have := run_make (P := Try.prog) w 148 143 i0 (.agg #[.int .u32 (en0.q : Nat), .int .u32 (en0.t : Nat), .int .u8 (en0.e : Nat), .int .u8 (en0.g : Nat), .int .u32 (en0.d : Nat)]) Try.underlying148 hi hz0 .i64 .i64 0 c (Int.le_refl _) (by omega) (by rw [hz2]; omega) (by omega)
    rw [hz1] at this
    simpa using this
  have hown := World.ownsRow_made (base := w.heap.size) (e := 143) (size := 5) w (madeCells (Value.agg #[.int .u32 (en0.q : Nat), .int .u32 (en0.t : Nat), .int .u8 (en0.e : Nat), .int .u8 (en0.g : Nat), .int .u32 (en0.d : Nat)]).cells (c * 5)) c (Nat.le_refl _) (by unfold maxLen; omega) (by simp [madeCells])
  obtain ⟨Z, hZ⟩ : ∃ Z, Z = madeCells (Value.agg #[.int .u32 (en0.q : Nat), .int .u32 (en0.t : Nat), .int .u8 (en0.e : Nat), .int .u8 (en0.g : Nat), .int .u32 (en0.d : Nat)]).cells (c * 5) := ⟨_, rfl⟩
  rw [← hZ] at hown hmk
  have H := Lib.hid h
  have HC := Lib.hid hc
  have HO := Lib.hid hown
  clear h hc hZ hown
  go_enter Try.func165, Try.ntmps165
  go_wp2_with fail
  go_at_call 117
  refine (rLen H.out).mono ?_
  rintro e w' ⟨rfl, rfl⟩
  rw [← HC.out]
  go_wp2_with fail
  go_at_call 117
  have hb0 : Below w.heap.size w (w.alloc (.cells Z 143)) := (Below.refl _ _).alloc (Nat.le_refl _) _
  refine (rLen (H.out.below hb0 (Nat.le_refl _))).mono ?_
  rintro e w' ⟨rfl, rfl⟩
  rw [← HC.out]
  go_wp2
  clear hmk
  go_loopw [3, 10] (fun v i wr => ∃ k : Nat, k ≤ c ∧ i = .int .i64 k ∧ wr.ownsRow w.heap.size 143 5 v k (ql (L.take k)) ∧ Below w.heap.size w wr) (fun _ i _ => c - (intOf i).toNat)
  case atStart => exact ⟨0, Nat.zero_le _, rfl, HO.out, hb0⟩
  case round =>
    clear hb0
    obtain ⟨k, hk, rfl, hown, hB⟩ := hrel
    have hsr : w.heap.size ≤ wr.heap.size := hB.size
    by_cases hlt : k < c
    · obtain ⟨f, sl, e1, e2⟩ := H.out.below hB (Nat.le_refl _)
      obtain ⟨s, hs⟩ : ∃ s, s = (f + k) % n := ⟨_, rfl⟩
      have hsn : s < n := by rw [hs]; exact Nat.mod_lt _ (by omega)
      obtain ⟨x, hx⟩ : ∃ x, x = L.getD k en0 := ⟨_, rfl⟩
      have d0 := e1.c0
      have dx := e1.row s hsn
      have ee := e2 k (by rw [← HC.out]; exact hlt)
      rw [← hs, ← hx] at ee
      rw [ee] at dx
      have hgw := box_lt e1.head
      have hbw := e1.hb
      have hsn' := takeq_succ L (show k < L.length by rw [← HC.out]; exact hlt)
      rw [← hx] at hsn'
      have HSN := Lib.hid hsn'
      have E1 := Lib.hid e1
      have HS := Lib.hid hs
      have HOW := Lib.hid hown
      have HB := Lib.hid hB
      clear e1 e2 ee hs hx hsn' hown hB
      go_wp2
      obtain ⟨I, W, hne, hWI, hIW⟩ := Go.Mix.family (fun v => Below wr.heap.size wr v) (Below.refl _ _)
      have HJ := Lib.hid hIW
      have HW := Lib.hid hWI
      clear hWI hIW
      refine Go.Flo.wp_region (fun w' => ∃ i, w' = W i) 11 [Go.Flo.Spec.is (.int .i64 (s : Nat)), Go.Flo.Spec.row wr.heap.size 1 #[.int .u32 (x.q : Nat), .int .u32 (x.t : Nat), .int .u8 (x.e : Nat), .int .u8 (x.g : Nat), .int .u32 (x.d : Nat)] 143] (by kernel_rfl) (by kernel_rfl) (by decide) (by rintro _ w' ⟨i, rfl⟩ hb; exact HJ.out _ ((HW.out i).trans (hb.mono (HW.out i).size))) (HJ.out _ (Below.refl _ _).drew) ?_
      simp only [Go.Flo.pair, Go.Mix.calm, List.take, List.drop, if_true, Bool.false_eq_true, if_false, Nat.reduceAdd, Nat.reduceSub]
      have q0 : ∀ i, (W i).cell? ⟨g, 0, none⟩ = some (.slice (some ⟨b, 0, none⟩) n n) := fun i => ((HW.out i).cell (p := ⟨g, 0, none⟩) hgw).trans d0
      (repeat (first | (refine Go.Flo.fw_calm rfl ?_ (fun K hK => ?_); (first | exact Go.Mix.wanted_none rfl | exact Go.Mix.wanted_tt rfl rfl rfl | exact Go.Mix.wanted_ff rfl rfl rfl); go_big_quiet_op; refine hK _ ?_; clear hK K) | (refine Go.Flo.fw_skip ?_ (fun K hK => ?_); (first | exact Go.Mix.wanted_tf rfl rfl rfl | exact Go.Mix.wanted_ft rfl rfl rfl); go_simp; refine hK _ ?_; clear hK K) | (refine Go.Flo.fw_any rfl ?_ (fun K hK => ?_); (first | exact Go.Mix.wanted_none rfl | exact Go.Mix.wanted_tt rfl rfl rfl | exact Go.Mix.wanted_ff rfl rfl rfl); go_simp; (try (go_ints; try go_simp)); refine hK _ ?_; clear hK K)))
      refine Go.Flo.fw_loud rfl ?_ rfl (by simp) (fun wv hwv hav K hK => ?_) (fun v hv K hK => ?_)
      · (first | exact Go.Mix.wanted_none rfl | exact Go.Mix.wanted_tt rfl rfl rfl | exact Go.Mix.wanted_ff rfl rfl rfl)
      · obtain ⟨iv, rfl⟩ := hwv
        have hbv := HW.out iv
        (first | go_big_op | go_simp)
        go_at_call 153
        refine (islot_any (E1.out.below hbv (Nat.le_refl _)) k (by omega)).mono ?_
        rintro e w' ⟨rfl, q, rfl⟩
        rw [← HS.out]
        exact hK _ _ (Go.Flo.owes_is _ rfl (below_drewsI _ _ _))
      obtain rfl := hv.is
      go_simp
      refine hK _ ?_
      clear hK K hv
      (repeat (first | (refine Go.Flo.fw_calm rfl ?_ (fun K hK => ?_); (first | exact Go.Mix.wanted_none rfl | exact Go.Mix.wanted_tt rfl rfl rfl | exact Go.Mix.wanted_ff rfl rfl rfl); go_big_quiet_op; refine hK _ ?_; clear hK K) | (refine Go.Flo.fw_skip ?_ (fun K hK => ?_); (first | exact Go.Mix.wanted_tf rfl rfl rfl | exact Go.Mix.wanted_ft rfl rfl rfl); go_simp; refine hK _ ?_; clear hK K) | (refine Go.Flo.fw_any rfl ?_ (fun K hK => ?_); (first | exact Go.Mix.wanted_none rfl | exact Go.Mix.wanted_tt rfl rfl rfl | exact Go.Mix.wanted_ff rfl rfl rfl); go_simp; (try (go_ints; try go_simp)); refine hK _ ?_; clear hK K)))
      (refine Go.Flo.fw_calm rfl ?_ (fun K hK => ?_); (first | exact Go.Mix.wanted_none rfl | exact Go.Mix.wanted_tt rfl rfl rfl | exact Go.Mix.wanted_ff rfl rfl rfl); refine Go.Flo.quiet_load_midE 143 _ rfl b (s * 5) rfl x.cs (by rintro _ ⟨i, rfl⟩; exact range_block dx ((HW.out i).block b hbw)) Try.underlying143 rfl size_en ?_; rw [show (x.cs).toArray = #[.int .u32 (x.q : Nat), .int .u32 (x.t : Nat), .int .u8 (x.e : Nat), .int .u8 (x.g : Nat), .int .u32 (x.d : Nat)] from rfl]; go_simp; refine hK _ ?_; clear hK K)
      (repeat (first | (refine Go.Flo.fw_calm rfl ?_ (fun K hK => ?_); (first | exact Go.Mix.wanted_none rfl | exact Go.Mix.wanted_tt rfl rfl rfl | exact Go.Mix.wanted_ff rfl rfl rfl); go_big_quiet_op; refine hK _ ?_; clear hK K) | (refine Go.Flo.fw_skip ?_ (fun K hK => ?_); (first | exact Go.Mix.wanted_tf rfl rfl rfl | exact Go.Mix.wanted_ft rfl rfl rfl); go_simp; refine hK _ ?_; clear hK K) | (refine Go.Flo.fw_any rfl ?_ (fun K hK => ?_); (first | exact Go.Mix.wanted_none rfl | exact Go.Mix.wanted_tt rfl rfl rfl | exact Go.Mix.wanted_ff rfl rfl rfl); go_simp; (try (go_ints; try go_simp)); refine hK _ ?_; clear hK K)))
      refine Go.Flo.fw_loud rfl ?_ rfl (by simp) (fun wv hwv hav K hK => ?_) (fun v hv K hK => ?_)
      · (first | exact Go.Mix.wanted_none rfl | exact Go.Mix.wanted_tt rfl rfl rfl | exact Go.Mix.wanted_ff rfl rfl rfl)
      · obtain ⟨iv, rfl⟩ := hwv
        (first | go_big_op | go_simp)
        refine hK _ _ (Go.Flo.owes_row (HW.out iv).size)
      obtain ⟨ge, hge, rfl⟩ := hv.row
      go_simp
      refine hK _ ?_
      clear hK K hv
      refine Go.Flo.fw_nil ?_
      intro w2 hww2 hfw2 huw2
      obtain ⟨iend, hiend⟩ := hww2
      have hbw2 := HW.out iend
      rw [← hiend] at hbw2
      clear hiend iend huw2
      have hrow := Go.Flo.says_row ((hfw2 (some 23)).2 rfl).1
      have hown2 := own_below HOW.out hbw2 (Nat.le_refl _)
      have hB2 := HB.out.trans (hbw2.mono hsr)
      have hs2 : w.heap.size ≤ w2.heap.size := hB2.size
      clear hfw2 HJ HW hne q0 d0 dx hbw2
      clear W I
      refine Go.Flo.tw_step ?_ (fun K hK => ?_)
      · (first | exact Go.Mix.wanted_none rfl | exact Go.Mix.wanted_tt rfl rfl rfl | exact Go.Mix.wanted_ff rfl rfl rfl)
      refine wp_append_own w2 _ _ 148 rfl w.heap.size 143 i0 (.agg #[.int .u32 (en0.q : Nat), .int .u32 (en0.t : Nat), .int .u8 (en0.e : Nat), .int .u8 (en0.g : Nat), .int .u32 (en0.d : Nat)]) 5 16 Try.underlying148 hi hz0 hz1 hz2 rfl (by decide) _ _ _ rfl hown2 ⟨ge, 0, none⟩ 1 1 x.cs rfl rfl ?_ ?_ ?_ ?_ hs2 ?_
      · intro i u hu
        rw [Addr.add_mid]
        have := cell_of_row _ _ (0 + i) _ _ _ hrow
        rw [this, Nat.zero_add]
        exact (List.getElem?_toArray (xs := x.cs)).trans hu
      · simp [En.cs, Value.oneCell']
      · unfold maxLen; omega
      · omega
      intro v' w4 hown4 hgrow4 _
      rw [← HSN.out] at hown4
      have hB4 := hB2.grown hgrow4 hs2 (fun j hj => (hown2.lt j hj).1)
      have HO4 := Lib.hid hown4
      have HB4 := Lib.hid hB4
      refine hK _ _ ?_
      clear hK K hown4 hgrow4 hown2 hB2 hrow hB4
      refine Go.Flo.tw_step ?_ (fun K hK => ?_)
      · (first | exact Go.Mix.wanted_none rfl | exact Go.Mix.wanted_tt rfl rfl rfl | exact Go.Mix.wanted_ff rfl rfl rfl)
      (first | go_big_op | go_simp)
      refine hK _ _ ?_
      clear hK K
      refine Go.Flo.tw_nil ?_
      go_wp2
      go_roundw
      case rel => exact ⟨k + 1, by omega, by go_num, HO4.out, HB4.out⟩
      case measure => simp [intOf]; omega
    · obtain rfl : k = c := by omega
      have e : L.take k = L := List.take_of_length_le (by rw [← HC.out]; exact Nat.le_refl _)
      rw [e] at hown
      have HOW := Lib.hid hown
      clear e hown
      go_wp2
      go_ret
      exact ⟨_, rfl, by rw [← HC.out]; exact HOW.out, hB⟩
end Go.Proofs.Ytkgeeohgfbacaaa.Je
