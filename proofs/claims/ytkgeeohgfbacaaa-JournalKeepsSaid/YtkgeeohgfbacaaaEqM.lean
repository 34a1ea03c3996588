/- Contracts of layer 3 (rings of entries), on: pushed; asked for what isn't there. -/
import Derived.Test.YtkgeeohgfbacaaaEqL
import Derived.Deep.CutBlock
import Derived.Deep.DeepCutAuto
namespace Go.Proofs.Ytkgeeohgfbacaaa.Je
open Go.RowKit Go.Own
set_option linter.unusedVariables false
set_option linter.unusedSimpArgs false
variable {w : World} {g b n d : Nat} {L : List En}
/-- The last n. -/
def lastn (n : Nat) (M : List En) : List En := M.drop (M.length - n)
theorem lastn_len (n : Nat) (M : List En) : (lastn n M).length = min n M.length := by simp [lastn]; omega
theorem lastn_all {n : Nat} {M : List En} (h : M.length ≤ n) : lastn n M = M := by simp [lastn, show M.length - n = 0 by omega]
theorem lastn_room {n : Nat} {M : List En} (x : En) (h : M.length < n) : lastn n M ++ [x] = lastn n (M ++ [x]) := by
  rw [lastn_all (by omega), lastn_all (by simp; omega)]
theorem lastn_full {n : Nat} {M : List En} (x : En) (hn : 1 ≤ n) (h : n ≤ M.length) : ∃ y T, lastn n M = y :: T ∧ T ++ [x] = lastn n (M ++ [x]) ∧ T.length < n := by
  have hl := lastn_len n M
  cases hM : lastn n M with
  | nil => rw [hM] at hl; simp at hl; omega
  | cons y T =>
    refine ⟨y, T, rfl, ?_, by rw [hM] at hl; simp at hl; omega⟩
    have e : T = M.drop (M.length - n + 1) := by
      have := congrArg (List.drop 1) hM
      unfold lastn at this
      rw [List.drop_drop] at this
      simpa using this.symm
    unfold lastn
    rw [e, List.length_append, List.length_singleton, show M.length + 1 - n = M.length - n + 1 by omega, List.drop_append_of_le_length (by omega)]
set_option maxRecDepth 100000 in
set_option maxHeartbeats 2000000 in
theorem ePush {w : World} {g b n lo : Nat} {M : List En} (x : En) (bx : Nat) (h : Ring w g b n (lastn n M) lo) (hx : w.heap[bx]? = some (.cells #[.int .u32 (x.q : Nat), .int .u32 (x.t : Nat), .int .u8 (x.e : Nat), .int .u8 (x.g : Nat), .int .u32 (x.d : Nat)] 143 (0, 0))) (hne1 : bx ≠ g) (hne2 : bx ≠ b) :
    Calls Try.prog 112 #[.pointer (some ⟨g, 0, none⟩), .slice (some ⟨bx, 0, none⟩) 1 1] w fun e w' => (∃ v, e = .returned v) ∧ Ring w' g b n (lastn n (M ++ [x])) (min (lo + (if n ≤ M.length then 1 else 0)) 65535) ∧ Kept g b w w' := by
  have hle := h.le
  have hml := lastn_len n M
  obtain ⟨t, ht⟩ : ∃ t, t = if n ≤ M.length then 1 else 0 := ⟨_, rfl⟩
  obtain ⟨r, hrr⟩ : ∃ r, r = n - (lastn n M).length := ⟨_, rfl⟩
  have htl : t ≤ 1 := by rw [ht]; split <;> omega
  have hr4 : r ≤ 4096 := by omega
  have htr : (t : Int) = if (1 : Int) - (r : Int) > 0 then (1 : Int) - (r : Int) else 0 := by
    rw [ht]
    split <;> split <;> omega
  have hmx : ∀ w : World, (Builtin.max_ #[3, 3] 3 #[.int .i64 0, .int .i64 ((1 : Int) - (r : Int))]).run Try.prog w = .ok (.int .i64 (t : Nat)) w := by
    intro w
    have e : ∀ (y : Int), (Builtin.max2 (.int .i64 0) (.int .i64 y)).run Try.prog w = .ok (.int .i64 (if y > 0 then y else 0)) w := fun y => by unfold Builtin.max2; rfl
    rw [htr]
    simp [Builtin.max_, e]
  have H := Lib.hid h
  have HRR := Lib.hid hrr
  have HT := Lib.hid ht
  have HX := Lib.hid hx
  clear h hrr ht htr hx
  rw [← HT.out]
  go_enter Try.func112, Try.ntmps112
  go_wp2_with fail
  go_at_call 150
  refine (rRoom H.out).mono ?_
  rintro e w' ⟨rfl, q, rfl⟩
  rw [← HRR.out]
  have h1 : Ring (w.drewN q) g b n (lastn n M) lo := H.out.below (below_drewsI _ _ q) (Nat.le_refl _)
  have K1 := Lib.hid ((Kept.refl g b w).drewN q)
  have hx1 : (w.drewN q).heap[bx]? = _ := HX.out
  obtain ⟨w1, hw1⟩ : ∃ w1, w1 = w.drewN q := ⟨_, rfl⟩
  rw [← hw1] at h1 K1 hx1
  rw [← hw1]
  obtain ⟨f, sl, e1, e2⟩ := h1
  have c3 := e1.c3
  have f3 := e1.fz 3
  have hd := e1.hd
  have E1 := Lib.hid e1
  have E2 := Lib.hid e2
  have HX1 := Lib.hid hx1
  clear hw1 e1 e2 hx1 HX
  have hmx2 : ∀ w : World, (Builtin.max_ #[3, 3] 3 #[.int .i64 0, .int .i64 ((1 : Int) - (n : Int))]).run Try.prog w = .ok (.int .i64 0) w := by
    intro w
    have e : ∀ (y : Int), (Builtin.max2 (.int .i64 0) (.int .i64 y)).run Try.prog w = .ok (.int .i64 (if y > 0 then y else 0)) w := fun y => by unfold Builtin.max2; rfl
    simp [Builtin.max_, e]
    omega
  obtain ⟨lo2, hlo2⟩ : ∃ lo2, lo2 = min (lo + t) 65535 := ⟨_, rfl⟩
  have hlo3 : lo2 ≤ 65535 := by omega
  have HLO := Lib.hid hlo2
  clear hlo2
  go_wp2_with fail
  go_at_call 126
  refine (more_any lo t _ hd (by omega)).mono ?_
  rintro e w' ⟨rfl, rfl⟩
  rw [← HLO.out]
  have e2 := E1.out.setLost lo2 hlo3
  have K2 := Lib.hid (K1.out.set (a := ⟨g, 3, none⟩) (.inl rfl) (.int .i64 (lo2 : Nat)))
  have E2' := Lib.hid e2
  have c0 : (w1.setCell ⟨g, 3, none⟩ (.int .i64 (lo2 : Nat))).cell? ⟨g, 0, none⟩ = some (.slice (some ⟨b, 0, none⟩) n n) := e2.c0
  have HX2 := Lib.hid ((heap_setCell_other w1 ⟨g, 3, none⟩ bx (.int .i64 (lo2 : Nat)) hne1).trans HX1.out)
  clear e2 HX1
  go_upto_region 6 with fail
  clear hmx hmx2
  have h3 : Ring (w1.setCell ⟨g, 3, none⟩ (.int .i64 (lo2 : Nat))) g b n (lastn n M) lo2 := ⟨f, sl, E2'.out, E2.out⟩
  obtain ⟨w3, hw3⟩ : ∃ w3, w3 = w1.setCell ⟨g, 3, none⟩ (.int .i64 (lo2 : Nat)) := ⟨_, rfl⟩
  rw [← hw3] at h3 K2 HX2
  rw [← hw3]
  have hx3 := HX2.out
  have k0 := cell_of_row _ _ 0 _ _ _ hx3
  have k1 := cell_of_row _ _ 1 _ _ _ hx3
  have k2 := cell_of_row _ _ 2 _ _ _ hx3
  have k3 := cell_of_row _ _ 3 _ _ _ hx3
  have k4 := cell_of_row _ _ 4 _ _ _ hx3
  have hal : Below w3.heap.size w3 (w3.alloc (.cells #[.int .u32 (x.q : Nat), .int .u32 (x.t : Nat), .int .u8 (x.e : Nat), .int .u8 (x.g : Nat), .int .u32 (x.d : Nat)] 143)) := (Below.refl _ _).alloc (Nat.le_refl _) _
  have h4 := h3.below hal (Nat.le_refl _)
  have K4 := Lib.hid (K2.out.trans (Kept.of_below hal))
  have H4 := Lib.hid h4
  have hgb3 : g < w3.heap.size ∧ b < w3.heap.size := ⟨h3.le.2.2.2.2.1, h3.le.2.2.2.2.2.1⟩
  clear hw3 c3 f3 c0 E1 E2 E2' h3 hx3 h4 hal
  have HT2 := HT.out
  have HR2 := Lib.hid HRR.out
  clear HRR K2
  by_cases hfull : n ≤ M.length
  · obtain ⟨y, R, e1, e2, e3⟩ := lastn_full x hle.2.1 hfull
    have hr0 : r = 0 := by have := HR2.out; omega
    subst hr0
    have H5 := H4.out
    rw [e1] at H5
    have H4 := Lib.hid H5
    have HE2 := Lib.hid e2
    have HL := Lib.hid (show n ≤ (y :: R).length by have := hml; rw [e1] at this; omega)
    clear e1 e2 H5 HR2 hml
    refine wp_loop_rounds 2 ?_
    rw [rounds_succ]
    go_wp2_with fail
    have hb6 := heap_alloc_new w3 (.cells #[.int .u32 (x.q : Nat), .int .u32 (x.t : Nat), .int .u8 (x.e : Nat), .int .u8 (x.g : Nat), .int .u32 (x.d : Nat)] 143)
    obtain ⟨w6, hw6⟩ : ∃ w6, w6 = w3.alloc (.cells #[.int .u32 (x.q : Nat), .int .u32 (x.t : Nat), .int .u8 (x.e : Nat), .int .u8 (x.g : Nat), .int .u32 (x.d : Nat)] 143) := ⟨_, rfl⟩
    obtain ⟨x7, hx7'⟩ : ∃ x7, x7 = w3.heap.size := ⟨_, rfl⟩
    have hx7 : x7 ≠ g ∧ x7 ≠ b := by rw [hx7']; have := hgb3; omega
    rw [← hw6] at hb6 H4 K4
    rw [← hw6]
    rw [← hx7'] at hb6
    rw [← hx7']
    have HR6 := Lib.hid H4.out
    clear H4 hw6 hx7'
    go_at_call 150
    refine (rRoom HR6.out).mono ?_
    rintro e w' ⟨rfl, q5, rfl⟩
    rw [show n - (y :: R).length = 0 by have := HR6.out.le.1; have := HL.out; omega]
    have HR7 := Lib.hid (HR6.out.below (below_drewsI _ _ q5) (Nat.le_refl _))
    have K7 := Lib.hid (K4.out.drewN q5)
    have hb7 : (w6.drewN q5).heap[x7]? = _ := hb6
    obtain ⟨w7, hw7⟩ : ∃ w7, w7 = w6.drewN q5 := ⟨_, rfl⟩
    rw [← hw7] at HR7 K7 hb7 ⊢
    have HX7 := Lib.hid hb7
    clear hw7 hb6 HR6 K4 k0 k1 k2 k3 k4
    have k0 := cell_of_row _ _ 0 _ _ _ hb7
    have k1 := cell_of_row _ _ 1 _ _ _ hb7
    have k2 := cell_of_row _ _ 2 _ _ _ hb7
    have k3 := cell_of_row _ _ 3 _ _ _ hb7
    have k4 := cell_of_row _ _ 4 _ _ _ hb7
    clear hb7
    go_wp2_with fail
    go_at_call 151
    refine (rPop_some HR7.out).mono ?_
    rintro e w8 ⟨rfl, h8, k8⟩
    have HR8 := Lib.hid h8
    have hx8 := (k8.block x7 (box_lt HX7.out) hx7.1 hx7.2).trans HX7.out
    have K8 := Lib.hid (K7.out.trans k8)
    have hx7w := box_lt HX7.out
    clear h8 k8 HR7 K7 HX7 k0 k1 k2 k3 k4
    have k0 := cell_of_row _ _ 0 _ _ _ hx8
    have k1 := cell_of_row _ _ 1 _ _ _ hx8
    have k2 := cell_of_row _ _ 2 _ _ _ hx8
    have k3 := cell_of_row _ _ 3 _ _ _ hx8
    have k4 := cell_of_row _ _ 4 _ _ _ hx8
    clear hx8
    go_wp2_with fail
    go_at_call 152
    refine (rPut x HR8.out e3).mono ?_
    rintro e w9 ⟨⟨v9, rfl⟩, h9, k9⟩
    have HR9 := Lib.hid h9
    have K9 := Lib.hid (K8.out.trans k9)
    clear h9 k9 k0 k1 k2 k3 k4
    go_wp2
    rw [rounds_succ]
    go_wp2
    go_ret
    refine ⟨⟨_, rfl⟩, ?_, K9.out⟩
    rw [← HLO.out, ← HE2.out]
    exact HR9.out
  · have e2 := lastn_room x (show M.length < n by omega)
    have HE2 := Lib.hid e2
    have hz : ((r : Int) == 0) = false := by rw [beq_eq_false_iff_ne]; have := HR2.out; have := lastn_len n M; omega
    have e3 : (lastn n M).length < n := by have := lastn_len n M; omega
    clear e2
    refine wp_loop_rounds 2 ?_
    rw [rounds_succ]
    go_wp2_with fail
    have hb6 := heap_alloc_new w3 (.cells #[.int .u32 (x.q : Nat), .int .u32 (x.t : Nat), .int .u8 (x.e : Nat), .int .u8 (x.g : Nat), .int .u32 (x.d : Nat)] 143)
    obtain ⟨w6, hw6⟩ : ∃ w6, w6 = w3.alloc (.cells #[.int .u32 (x.q : Nat), .int .u32 (x.t : Nat), .int .u8 (x.e : Nat), .int .u8 (x.g : Nat), .int .u32 (x.d : Nat)] 143) := ⟨_, rfl⟩
    obtain ⟨x7, hx7'⟩ : ∃ x7, x7 = w3.heap.size := ⟨_, rfl⟩
    have hx7 : x7 ≠ g ∧ x7 ≠ b := by rw [hx7']; have := hgb3; omega
    rw [← hw6] at hb6 H4 K4
    rw [← hw6]
    rw [← hx7'] at hb6
    rw [← hx7']
    have HR6 := Lib.hid H4.out
    clear H4 hw6 hx7'
    go_at_call 150
    refine (rRoom HR6.out).mono ?_
    rintro e w' ⟨rfl, q5, rfl⟩
    rw [← HR2.out]
    have HR7 := Lib.hid (HR6.out.below (below_drewsI _ _ q5) (Nat.le_refl _))
    have K7 := Lib.hid (K4.out.drewN q5)
    have hb7 : (w6.drewN q5).heap[x7]? = _ := hb6
    obtain ⟨w7, hw7⟩ : ∃ w7, w7 = w6.drewN q5 := ⟨_, rfl⟩
    rw [← hw7] at HR7 K7 hb7 ⊢
    have HX7 := Lib.hid hb7
    clear hw7 hb6 HR6 K4 k0 k1 k2 k3 k4
    have k0 := cell_of_row _ _ 0 _ _ _ hb7
    have k1 := cell_of_row _ _ 1 _ _ _ hb7
    have k2 := cell_of_row _ _ 2 _ _ _ hb7
    have k3 := cell_of_row _ _ 3 _ _ _ hb7
    have k4 := cell_of_row _ _ 4 _ _ _ hb7
    clear hb7
    go_wp2_with fail
    go_at_call 152
    refine (rPut x HR7.out e3).mono ?_
    rintro e w9 ⟨⟨v9, rfl⟩, h9, k9⟩
    have HR9 := Lib.hid h9
    have K9 := Lib.hid (K7.out.trans k9)
    clear h9 k9 k0 k1 k2 k3 k4
    go_wp2
    rw [rounds_succ]
    go_wp2
    go_ret
    refine ⟨⟨_, rfl⟩, ?_, K9.out⟩
    rw [← HLO.out, ← HE2.out]
    exact HR9.out
end Go.Proofs.Ytkgeeohgfbacaaa.Je
