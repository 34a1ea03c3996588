/- Contracts of layer 3 (rings of ints), on: made, pushed, looked at. -/
import Derived.Test.YtnjkpamjjdkmoaaRingL
namespace Go.Proofs.Ytnjkpamjjdkmoaa
open Go.RowKit Go.Own
set_option linter.unusedVariables false
set_option linter.unusedSimpArgs false

theorem info_int : (Try.prog.info? 3).map (fun i => (i.zero, i.size, i.bytes)) = some (some (.int .i64 0), 1, 8) := by kernel_rfl
theorem zeros_il (k : Nat) : (madeCells #[Value.int .i64 0] k).toList = il (List.replicate k 0) := by
  rw [toList_madeCells_one]
  simp [il]
theorem row_of_own {w : World} {base g n : Nat} {e : TypeId} {xs : List Value} (h : w.ownsRow base e 1 (.slice (some ⟨g, 0, none⟩) n n) n xs) : w.heap[g]? = some (.cells xs.toArray e (0, 0)) := by
  rcases h.2 with ⟨h', _⟩ | ⟨g', cap', cur, h', _, hg, _, _, hs, ht⟩
  · simp at h'
  · simp only [Value.slice.injEq, Option.some.injEq, Addr.mk.injEq, and_true, true_and] at h'
    obtain ⟨rfl, rfl⟩ := h'
    rw [hg]
    congr 2
    rw [← ht, List.take_of_length_le (by rw [Array.length_toList]; omega)]
set_option maxRecDepth 100000 in
set_option maxHeartbeats 1000000 in
theorem iNew_ok (n : Nat) (w : World) (h1 : 1 ≤ n) (h2 : n ≤ 4096) : Calls Try.prog 23 #[.int .i64 (n : Nat)] w fun e w' => ∃ g b, e = .returned (.tuple #[.pointer (some ⟨g, 0, none⟩), .int .i64 0]) ∧ Ring w' g b n [] 0 0 ∧ w.heap.size ≤ g ∧ w.heap.size ≤ b ∧ Below w.heap.size w w' := by
  obtain ⟨i0, hi, hz0, hz1, hz2⟩ := info_parts info_int
  go_enter Try.func23, Try.ntmps23
  go_wp2_with (at_make; refine wpList_make_full w rfl _ _ 38 rfl w.heap.size 3 i0 (.int .i64 0) 1 Try.underlying38 hi hz0 hz1 .i64 .i64 _ _ n rfl rfl rfl rfl ?c1 ?c2 ?c3 ?_)
  case c1 => rw [hz2]; omega
  case c2 => unfold maxLen; omega
  case c3 => exact Nat.le_refl _
  intro w1 hown hgrow
  rw [zeros_il] at hown
  have hB := (Below.refl w.heap.size w).grown hgrow (Nat.le_refl _) (fun k hk => by cases hk)
  have hrow := row_of_own hown
  have hlt := box_lt hrow
  have HO := Lib.hid hrow
  clear hown hgrow hrow
  go_wp2
  go_ret2
  refine ⟨_, _, rfl, ⟨0, List.replicate n 0, ⟨heap_alloc_new _ _, ?_, List.length_replicate, h1, h2, by omega, by simp, by omega, by omega⟩, fun i hi => absurd hi (by simp)⟩, hB.size, Nat.le_refl _, hB.alloc hB.size _⟩
  exact box_below HO.out ((Below.refl w1.heap.size w1).alloc (Nat.le_refl _) _) hlt
/-- The last n. -/
def lastn (n : Nat) (M : List Int) : List Int := M.drop (M.length - n)
theorem lastn_len (n : Nat) (M : List Int) : (lastn n M).length = min n M.length := by simp [lastn]; omega
theorem lastn_all {n : Nat} {M : List Int} (h : M.length ≤ n) : lastn n M = M := by simp [lastn, show M.length - n = 0 by omega]
theorem lastn_room {n : Nat} {M : List Int} (x : Int) (h : M.length < n) : lastn n M ++ [x] = lastn n (M ++ [x]) := by
  rw [lastn_all (by omega), lastn_all (by simp; omega)]
theorem lastn_full {n : Nat} {M : List Int} (x : Int) (hn : 1 ≤ n) (h : n ≤ M.length) : ∃ y T, lastn n M = y :: T ∧ T ++ [x] = lastn n (M ++ [x]) ∧ T.length < n := by
  have hl := lastn_len n M
  cases hM : lastn n M with
  | nil => rw [hM] at hl; simp at hl; omega
  | cons y T =>
    refine ⟨y, T, rfl, ?_, by rw [hM] at hl; simp at hl; omega⟩
    have e : T = M.drop (M.length - n + 1) := by
      have := congrArg (List.drop 1) hM
      unfold lastn at this
      rw [List.drop_drop] at this
      simpa using this.symm
    unfold lastn
    rw [e, List.length_append, List.length_singleton, show M.length + 1 - n = M.length - n + 1 by omega, List.drop_append_of_le_length (by omega)]
theorem takeL_succ (l : List Int) {k : Nat} (h : k < l.length) : l.take (k + 1) = l.take k ++ [l.getD k 0] := by
  rw [List.take_succ_eq_append_getElem h]; simp [List.getD, h]
/-- What is pushed beyond the room is gone, the oldest first. -/
theorem lastn_push (n : Nat) (L l : List Int) (hL : L.length ≤ n) : lastn n (L ++ l.drop (l.length - n)) = lastn n (L ++ l) := by
  rcases Nat.le_total l.length n with h | h
  · rw [show l.length - n = 0 by omega, List.drop_zero]
  · unfold lastn
    have e1 : (L ++ l.drop (l.length - n)).length - n = L.length := by simp; omega
    have e2 : (L ++ l).length - n = L.length + (l.length - n) := by simp; omega
    rw [e1, e2, List.drop_append, List.drop_append]
    simp
def iv (l : List Int) : Nat → Value := fun i => .int .i64 (l.getD i 0)

set_option maxRecDepth 100000 in
set_option maxHeartbeats 2000000 in
theorem rPush {w : World} {g b n lo d : Nat} {L : List Int} (a : Option Addr) (len cap : Nat) (l : List Int) (h : Ring w g b n L lo d) (hl : l.length = len) (hr : Rd w.heap.size w a len cap (iv l)) (hne : ∀ x, a = some x → x.block ≠ g ∧ x.block ≠ b) (hlen : len ≤ 100000) :
    Calls Try.prog 90 #[.pointer (some ⟨g, 0, none⟩), .slice a len cap] w fun e w' => e = .returned (.int .i64 ((L.length + len - n : Nat) : Int)) ∧ Ring w' g b n (lastn n (L ++ l)) (min (lo + (L.length + len - n)) 65535) d ∧ Kept g b w w' := by
  have hle := h.le
  have hc1 := hr.le
  have hc2 := hr.top
  unfold maxLen at hc2
  obtain ⟨r, hrr⟩ : ∃ r, r = n - L.length := ⟨_, rfl⟩
  obtain ⟨t, ht⟩ : ∃ t, t = L.length + len - n := ⟨_, rfl⟩
  have htl : t ≤ 200000 := by omega
  have hr4 : r ≤ 4096 := by omega
  have hmx : ∀ w : World, (Builtin.max_ #[3, 3] 3 #[.int .i64 0, .int .i64 ((len : Int) - (r : Int))]).run Try.prog w = .ok (.int .i64 (t : Nat)) w := by
    intro w
    have e : ∀ (y : Int), (Builtin.max2 (.int .i64 0) (.int .i64 y)).run Try.prog w = .ok (.int .i64 (if y > 0 then y else 0)) w := fun y => by unfold Builtin.max2; rfl
    have e2 : (if (len : Int) - (r : Int) > 0 then (len : Int) - (r : Int) else 0) = (t : Int) := by split <;> omega
    simp [Builtin.max_, e]
    split <;> omega
  have H := Lib.hid h
  have HL := Lib.hid hl
  have HR := Lib.hid hr
  have HRR := Lib.hid hrr
  have HT := Lib.hid ht
  clear h hl hr hrr ht
  rw [← HT.out]
  go_enter Try.func90, Try.ntmps90
  go_wp2_with fail
  go_at_call 28
  refine (rRoom H.out).mono ?_
  rintro e w' ⟨rfl, q, rfl⟩
  rw [← HRR.out]
  have h1 : Ring (w.drewN q) g b n L lo d := H.out.below (below_drewsI _ _ q) (Nat.le_refl _)
  have K1 := Lib.hid ((Kept.refl g b w).drewN q)
  obtain ⟨w1, hw1⟩ : ∃ w1, w1 = w.drewN q := ⟨_, rfl⟩
  rw [← hw1] at h1 K1
  rw [← hw1]
  obtain ⟨f, sl, e1, e2⟩ := h1
  have c3 := e1.c3
  have f3 := e1.fz 3
  have hd := e1.hl
  have E1 := Lib.hid e1
  have E2 := Lib.hid e2
  clear hw1 e1 e2
  obtain ⟨k0, hk0⟩ : ∃ k0, k0 = len - n := ⟨_, rfl⟩
  have hmx2 : ∀ w : World, (Builtin.max_ #[3, 3] 3 #[.int .i64 0, .int .i64 ((len : Int) - (n : Int))]).run Try.prog w = .ok (.int .i64 (k0 : Nat)) w := by
    intro w
    have e : ∀ (y : Int), (Builtin.max2 (.int .i64 0) (.int .i64 y)).run Try.prog w = .ok (.int .i64 (if y > 0 then y else 0)) w := fun y => by unfold Builtin.max2; rfl
    simp [Builtin.max_, e]
    split <;> omega
  have hk1 : k0 ≤ len := by omega
  have hk2 : k0 ≤ 100000 := by omega
  obtain ⟨lo2, hlo2⟩ : ∃ lo2, lo2 = min (lo + t) 65535 := ⟨_, rfl⟩
  have hlo3 : lo2 ≤ 65535 := by omega
  have HK0 := Lib.hid hk0
  have HLO := Lib.hid hlo2
  clear hk0 hlo2
  go_wp2_with fail
  go_at_call 128
  refine (more_any lo t _ hd (by omega)).mono ?_
  rintro e w' ⟨rfl, rfl⟩
  rw [← HLO.out]
  have e2 := E1.out.setLost lo2 hlo3
  have K2 := Lib.hid (K1.out.set (a := ⟨g, 3, none⟩) (.inl rfl) (.int .i64 (lo2 : Nat)))
  have E2' := Lib.hid e2
  have c0 : (w1.setCell ⟨g, 3, none⟩ (.int .i64 (lo2 : Nat))).cell? ⟨g, 0, none⟩ = some (.slice (some ⟨b, 0, none⟩) n n) := e2.c0
  obtain ⟨A, hA⟩ : ∃ A, A = if cap = k0 then a else a.map (·.add k0) := ⟨_, rfl⟩
  have hsl : ∀ w : World, (Instr.slice 38 (.slice a len cap) (some (.int .i64 (k0 : Nat))) none none).run Try.prog w = .ok (.slice A (len - k0) (cap - k0)) w := by
    intro w
    rw [run_slice_l w 38 a len cap (by kernel_rfl) .i64 _ (by omega) (by omega)]
    have hz : (sizeOf (Try.prog.elem 38)).run Try.prog w = .ok 1 w := by kernel_rfl
    rw [hz]
    simp [hA, sliced, Result.andThen]
  have hneA : ∀ x, A = some x → x.block ≠ g ∧ x.block ≠ b := by
    intro x hx
    rw [hA] at hx
    split at hx
    · exact hne x hx
    · cases a with
      | none => simp at hx
      | some y =>
        simp at hx
        subst hx
        have := hne y rfl
        unfold Addr.add
        split <;> exact this
  have HNE := Lib.hid hneA
  clear hneA hne
  have hrest := HR.out.rest hk1
  rw [← hA] at hrest
  have HREST := Lib.hid hrest
  obtain ⟨T, hT⟩ : ∃ T, T = len - k0 := ⟨_, rfl⟩
  rw [← hT] at hsl
  rw [← hT] at HREST
  have HTT := Lib.hid hT
  clear e2 hA hrest hT
  go_wp2
  clear hsl hmx hmx2
  obtain ⟨tl, htl'⟩ : ∃ tl, tl = l.drop k0 := ⟨_, rfl⟩
  have htl2 : tl.length = T := by rw [htl', List.length_drop, HL.out, HTT.out]
  have htl3 : ∀ i, i < T → l.getD (k0 + i) 0 = tl.getD i 0 := fun i hi => by rw [htl']; simp [List.getD]
  have hTl : T ≤ 100000 := by have := HTT.out; omega
  have hrd : Rd w.heap.size w A T (cap - k0) (fun i => .int .i64 (tl.getD i 0)) := HREST.out.same (fun i hi => by unfold iv; rw [htl3 i hi])
  have HRD := Lib.hid hrd
  have HTL := Lib.hid htl'
  have HTL2 := Lib.hid htl2
  have h3 : Ring (w1.setCell ⟨g, 3, none⟩ (.int .i64 (lo2 : Nat))) g b n L lo2 d := ⟨f, sl, E2'.out, E2.out⟩
  obtain ⟨w3, hw3⟩ : ∃ w3, w3 = w1.setCell ⟨g, 3, none⟩ (.int .i64 (lo2 : Nat)) := ⟨_, rfl⟩
  rw [← hw3] at h3 K2
  rw [← hw3]
  clear hrd htl' htl2 htl3 hw3 c3 f3 c0 E1 E2 E2' HREST HR
  go_loopw [37] (fun i wr => ∃ j : Nat, j ≤ T ∧ i = .int .i64 j ∧ Ring wr g b n (lastn n (L ++ tl.take j)) lo2 d ∧ Kept g b w wr) (fun i _ => T - (intOf i).toNat)
  case atStart => exact ⟨0, Nat.zero_le _, rfl, by rw [List.take_zero, List.append_nil, lastn_all hle.1]; exact h3, K2.out⟩
  case round =>
    clear h3
    obtain ⟨j, hj, rfl, hR, hK⟩ := hrel
    by_cases hlt : j < T
    · obtain ⟨bb, off, hAe, hbb, hc0⟩ := HRD.out.at hlt
      have hne' := HNE.out _ hAe
      have hc := (World.cell?_of_block (a := ⟨bb, off + j, none⟩) (hK.block bb hbb hne'.1 hne'.2)).trans hc0
      subst hAe
      clear hc0 hne'
      obtain ⟨x, hx⟩ : ∃ x, x = tl.getD j 0 := ⟨_, rfl⟩
      rw [← hx] at hc
      have ht1 : L ++ tl.take (j + 1) = (L ++ tl.take j) ++ [x] := by rw [takeL_succ tl (by rw [HTL2.out]; exact hlt), ← hx, List.append_assoc]
      obtain ⟨M, hM⟩ : ∃ M, M = L ++ tl.take j := ⟨_, rfl⟩
      rw [← hM] at ht1 hR
      have HT1 := Lib.hid ht1
      have HRG := Lib.hid hR
      have HKP := Lib.hid hK
      have hml := lastn_len n M
      clear hx ht1 hM hR hK
      by_cases hfull : n ≤ M.length
      · obtain ⟨y, R, e1, e2, e3⟩ := lastn_full x hle.2.1 hfull
        have hrm : n - (lastn n M).length = 0 := by omega
        have HE2 := Lib.hid e2
        have hR := HRG.out
        rw [e1] at hR hrm
        have HRG2 := Lib.hid hR
        have HRM := Lib.hid hrm
        clear e1 e2 hR hrm HRG hml
        go_wp2_with fail
        go_at_call 28
        refine (rRoom HRG2.out).mono ?_
        rintro e w4 ⟨rfl, q4, rfl⟩
        rw [HRM.out]
        have h4 : Ring (wr.drewN q4) g b n (y :: R) lo2 d := HRG2.out.below (below_drewsI _ _ q4) (Nat.le_refl _)
        have k4 := HKP.out.drewN q4
        obtain ⟨w4, hw4⟩ : ∃ w4, w4 = wr.drewN q4 := ⟨_, rfl⟩
        rw [← hw4] at h4 k4
        rw [← hw4]
        have H4 := Lib.hid h4
        have K4 := Lib.hid k4
        clear hw4 h4 k4 hc
        go_wp2_with fail
        go_at_call 92
        refine (rPop_some H4.out).mono ?_
        rintro e w5 ⟨rfl, h5, k5⟩
        have H5 := Lib.hid h5
        have K5 := Lib.hid (K4.out.trans k5)
        clear h5 k5
        go_wp2_with fail
        go_at_call 129
        refine (rPut x H5.out e3).mono ?_
        rintro e w6 ⟨⟨v6, rfl⟩, h6, k6⟩
        have H6 := Lib.hid h6
        have K6 := Lib.hid (K5.out.trans k6)
        clear h6 k6
        go_wp2
        go_roundw
        case rel => exact ⟨j + 1, by omega, by go_num, by rw [HT1.out, ← HE2.out]; exact H6.out, K6.out⟩
        case measure => simp [intOf]; omega
      · have e2 := lastn_room x (show M.length < n by omega)
        have HE2 := Lib.hid e2
        have hz : (((n - (lastn n M).length : Nat) : Int) == 0) = false := by rw [beq_eq_false_iff_ne]; omega
        obtain ⟨rr, hrr⟩ : ∃ rr, rr = n - (lastn n M).length := ⟨_, rfl⟩
        rw [← hrr] at hz
        have HRM := Lib.hid hrr
        have hll : (lastn n M).length < n := by omega
        clear e2 hrr hml
        go_wp2_with fail
        go_at_call 28
        refine (rRoom HRG.out).mono ?_
        rintro e w4 ⟨rfl, q4, rfl⟩
        rw [← HRM.out]
        have h4 : Ring (wr.drewN q4) g b n (lastn n M) lo2 d := HRG.out.below (below_drewsI _ _ q4) (Nat.le_refl _)
        have k4 := HKP.out.drewN q4
        obtain ⟨w4, hw4⟩ : ∃ w4, w4 = wr.drewN q4 := ⟨_, rfl⟩
        rw [← hw4] at h4 k4
        rw [← hw4]
        have H4 := Lib.hid h4
        have K4 := Lib.hid k4
        clear hw4 h4 k4 hc
        go_wp2_with fail
        go_at_call 129
        refine (rPut x H4.out hll).mono ?_
        rintro e w6 ⟨⟨v6, rfl⟩, h6, k6⟩
        have H6 := Lib.hid h6
        have K6 := Lib.hid (K4.out.trans k6)
        clear h6 k6
        go_wp2
        go_roundw
        case rel => exact ⟨j + 1, by omega, by go_num, by rw [HT1.out, ← HE2.out]; exact H6.out, K6.out⟩
        case measure => simp [intOf]; omega
    · obtain rfl : j = T := by omega
      have HRG := Lib.hid hR
      clear hR
      go_wp2
      go_ret
      refine ⟨rfl, ?_, hK⟩
      have hR := HRG.out
      rw [List.take_of_length_le (by rw [HTL2.out]; exact Nat.le_refl _), HTL.out, HK0.out, ← HL.out, lastn_push n L l hle.1, HLO.out] at hR
      exact hR
end Go.Proofs.Ytnjkpamjjdkmoaa
