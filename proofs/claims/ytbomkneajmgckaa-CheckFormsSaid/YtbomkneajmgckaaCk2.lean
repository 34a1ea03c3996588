/- Layer 15: a definition's bytes, the program's and the document's. -/
import Derived.Test.YtbomkneajmgckaaLaw15r
import Derived.Test.YtbomkneajmgckaaPs3
import Derived.Test.YtbomkneajmgckaaSpR
import Derived.Test.YtbomkneajmgckaaPk7
namespace Go.Proofs.Ytbomkneajmgckaa
open Go.RowKit Go.Own
set_option linter.unusedVariables false
set_option linter.unusedSimpArgs false
def at5 {α : Type} (a b c d e : α) : Nat → α := fun i => if i = 0 then a else if i = 1 then b else if i = 2 then c else if i = 3 then d else e
theorem all5 {p : Nat → Prop} (h0 : p 0) (h1 : p 1) (h2 : p 2) (h3 : p 3) (h4 : p 4) : ∀ i, i < 5 → p i := fun i hi => by
  have : i = 0 ∨ i = 1 ∨ i = 2 ∨ i = 3 ∨ i = 4 := by omega
  rcases this with rfl | rfl | rfl | rfl | rfl
  · exact h0
  · exact h1
  · exact h2
  · exact h3
  · exact h4
/-- The bytes of a definition. -/
def dfB (k p lu hu m n : Nat) : List Nat := [k, p] ++ numB lu 4 ++ numB hu 4 ++ numB m 4 ++ numB n 4
theorem dfB_len (k p lu hu m n : Nat) : (dfB k p lu hu m n).length = 18 := by simp [dfB, numB_len]
def szN : List Int := [1, 1, 4, 4, 4, 4]
theorem sizes_at (w : World) : Calls Try.prog 94 #[] w fun e w' => e = .returned (.slice (some ⟨w.heap.size, 0, none⟩) 6 6) ∧ w' = w.alloc (.cells #[.int .i64 1, .int .i64 1, .int .i64 4, .int .i64 4, .int .i64 4, .int .i64 4] 3) := by
  go_enter Try.func94, Try.ntmps94
  go_wp2
  go_ret
  exact ⟨rfl, rfl⟩
theorem lay_df {k p lu hu m n : Nat} (hk : k < 256) (hp : p < 256) : flat (fun i => lay1 (([1, 1, 4, 4, 4, 4] : List Int).getD i 0) (nth (fun i => ([k, p, lu, hu, m, n] : List Nat).getD i 0) 6 i)) 6 = dfB k p lu hu m n := by
  simp [flat, List.range_succ, lay1, nth, dfB, numB]
  omega
set_option maxRecDepth 100000 in
set_option maxHeartbeats 4000000 in
theorem dBytes_yes (k p : Nat) (l h : Int) (lu hu m n : Nat) (w : World) (hk : k < 256) (hp : p < 256) (hlu : l % 4294967296 = (lu : Int)) (hhu : h % 4294967296 = (hu : Int)) (hm : m < 4294967296) (hn : n < 4294967296) (hr : (Df.mk k p l h m n).right = true) :
    Calls Try.prog 50 #[.agg #[.int .u8 ((k : Nat) : Int), .int .i64 ((p : Nat) : Int), .int .i32 l, .int .i32 h, .int .u32 ((m : Nat) : Int), .int .u32 ((n : Nat) : Int)]] w fun e w' => ∃ v, e = .returned v ∧ w'.ownsRow w.heap.size 5 1 v 18 (bl (dfB k p lu hu m n)) ∧ Below w.heap.size w w' := by
  have HR := Lib.hid hr
  have hlb : lu < 4294967296 := by omega
  have hhb : hu < 4294967296 := by omega
  have H32 := Lib.hid (show ∀ i, i < 6 → ([k, p, lu, hu, m, n] : List Nat).getD i 0 < 4294967296 from fun i hi => by
    have : i = 0 ∨ i = 1 ∨ i = 2 ∨ i = 3 ∨ i = 4 ∨ i = 5 := by omega
    rcases this with rfl | rfl | rfl | rfl | rfl | rfl <;> simp <;> omega)
  have HLAY := Lib.hid (lay_df (lu := lu) (hu := hu) (m := m) (n := n) hk hp)
  have hb0 : Below w.heap.size w (w.alloc (.cells #[.int .u8 ((k : Nat) : Int), .int .i64 ((p : Nat) : Int), .int .i32 l, .int .i32 h, .int .u32 ((m : Nat) : Int), .int .u32 ((n : Nat) : Int)] 92)) := (Below.refl _ _).alloc (Nat.le_refl _) _
  have g0 := heap_alloc_new w (.cells #[.int .u8 ((k : Nat) : Int), .int .i64 ((p : Nat) : Int), .int .i32 l, .int .i32 h, .int .u32 ((m : Nat) : Int), .int .u32 ((n : Nat) : Int)] 92)
  clear hr
  go_enter Try.func50, Try.ntmps50
  go_wp2_with fail
  obtain ⟨g, hg⟩ : ∃ g, g = w.heap.size := ⟨_, rfl⟩
  obtain ⟨wa, hwa⟩ : ∃ wa, wa = w.alloc (.cells #[.int .u8 ((k : Nat) : Int), .int .i64 ((p : Nat) : Int), .int .i32 l, .int .i32 h, .int .u32 ((m : Nat) : Int), .int .u32 ((n : Nat) : Int)] 92) := ⟨_, rfl⟩
  rw [← hwa] at hb0 g0 ⊢
  rw [← hg] at g0 ⊢
  clear hwa hg
  go_at_call 44
  refine (Right_at k p l h m n true _ HR.out).mono ?_
  rintro e w1 ⟨rfl, hb⟩
  have g1 := box_below g0 hb (box_lt g0)
  have HB1 := Lib.hid (hb0.trans (hb.mono hb0.size))
  clear g0 hb hb0
  have hgl := box_lt g1
  have a0 := cell_of_row _ _ 0 _ _ _ g1
  have a1 := cell_of_row _ _ 1 _ _ _ g1
  have a2 := cell_of_row _ _ 2 _ _ _ g1
  have a3 := cell_of_row _ _ 3 _ _ _ g1
  have a4 := cell_of_row _ _ 4 _ _ _ g1
  have a5 := cell_of_row _ _ 5 _ _ _ g1
  have hwn := HB1.out.size
  go_wp2_with fail
  obtain ⟨I, W, hne, hWI, hIW⟩ := Go.Mix.family (fun v => Below w1.heap.size w1 v) (Below.refl _ _)
  have HJ := Lib.hid hIW
  have HW := Lib.hid hWI
  clear hWI hIW
  refine Go.Flo.wp_region (fun w' => ∃ i, w' = W i) 20 [Go.Flo.Spec.row 0 6 #[.int .i64 1, .int .i64 1, .int .i64 4, .int .i64 4, .int .i64 4, .int .i64 4] 3, Go.Flo.Spec.row w1.heap.size 6 #[.int .u32 (k : Int), .int .u32 (p : Int), .int .u32 (lu : Int), .int .u32 (hu : Int), .int .u32 (m : Int), .int .u32 (n : Int)] 33, SpO w.heap.size (dfB k p lu hu m n)] (by kernel_rfl) (by kernel_rfl) (by decide) (by rintro _ w' ⟨i, rfl⟩ hb; exact HJ.out _ ((HW.out i).trans (hb.mono (HW.out i).size))) (HJ.out _ (Below.refl _ _).drew) ?_
  simp only [Go.Flo.pair, Go.Mix.calm, List.take, List.drop, if_true, Bool.false_eq_true, if_false, Nat.reduceAdd, Nat.reduceSub]
  have k0 : ∀ i, (W i).cell? ⟨g, 0, none⟩ = some (.int .u8 (k : Int)) := fun i => ((HW.out i).cell (p := ⟨g, 0, none⟩) hgl).trans a0
  have k1 : ∀ i, (W i).cell? ⟨g, 1, none⟩ = some (.int .i64 (p : Int)) := fun i => ((HW.out i).cell (p := ⟨g, 1, none⟩) hgl).trans a1
  have k2 : ∀ i, (W i).cell? ⟨g, 2, none⟩ = some (.int .i32 l) := fun i => ((HW.out i).cell (p := ⟨g, 2, none⟩) hgl).trans a2
  have k3 : ∀ i, (W i).cell? ⟨g, 3, none⟩ = some (.int .i32 h) := fun i => ((HW.out i).cell (p := ⟨g, 3, none⟩) hgl).trans a3
  have k4 : ∀ i, (W i).cell? ⟨g, 4, none⟩ = some (.int .u32 (m : Int)) := fun i => ((HW.out i).cell (p := ⟨g, 4, none⟩) hgl).trans a4
  have k5 : ∀ i, (W i).cell? ⟨g, 5, none⟩ = some (.int .u32 (n : Int)) := fun i => ((HW.out i).cell (p := ⟨g, 5, none⟩) hgl).trans a5
  clear a0 a1 a2 a3 a4 a5
  (repeat (first | (refine Go.Flo.fw_calm rfl ?_ (fun K hK => ?_); (first | exact Go.Mix.wanted_none rfl | exact Go.Mix.wanted_tt rfl rfl rfl | exact Go.Mix.wanted_ff rfl rfl rfl); go_big_quiet_op; refine hK _ ?_; clear hK K) | (refine Go.Flo.fw_skip ?_ (fun K hK => ?_); (first | exact Go.Mix.wanted_tf rfl rfl rfl | exact Go.Mix.wanted_ft rfl rfl rfl); go_simp; refine hK _ ?_; clear hK K) | (refine Go.Flo.fw_any rfl ?_ (fun K hK => ?_); (first | exact Go.Mix.wanted_none rfl | exact Go.Mix.wanted_tt rfl rfl rfl | exact Go.Mix.wanted_ff rfl rfl rfl); go_simp; (try (go_ints; try go_simp)); refine hK _ ?_; clear hK K)))
  refine Go.Flo.fw_loud rfl ?_ rfl (by simp) (fun wv hwv hav K hK => ?_) (fun v hv K hK => ?_)
  · (first | exact Go.Mix.wanted_none rfl | exact Go.Mix.wanted_tt rfl rfl rfl | exact Go.Mix.wanted_ff rfl rfl rfl)
  · obtain ⟨iv, rfl⟩ := hwv
    have hbv := HW.out iv
    (first | go_big_op | go_simp)
    go_at_call 94
    refine (sizes_at _).mono ?_
    rintro e w' ⟨rfl, rfl⟩
    exact hK _ _ (Go.Flo.owes_row (Nat.zero_le _))
  obtain ⟨r1, hr1, rfl⟩ := hv.row
  go_simp
  refine hK _ ?_
  clear hK K hv
  (repeat (first | (refine Go.Flo.fw_calm rfl ?_ (fun K hK => ?_); (first | exact Go.Mix.wanted_none rfl | exact Go.Mix.wanted_tt rfl rfl rfl | exact Go.Mix.wanted_ff rfl rfl rfl); go_big_quiet_op; refine hK _ ?_; clear hK K) | (refine Go.Flo.fw_skip ?_ (fun K hK => ?_); (first | exact Go.Mix.wanted_tf rfl rfl rfl | exact Go.Mix.wanted_ft rfl rfl rfl); go_simp; refine hK _ ?_; clear hK K) | (refine Go.Flo.fw_any rfl ?_ (fun K hK => ?_); (first | exact Go.Mix.wanted_none rfl | exact Go.Mix.wanted_tt rfl rfl rfl | exact Go.Mix.wanted_ff rfl rfl rfl); go_simp; (try (go_ints; try go_simp)); refine hK _ ?_; clear hK K)))
  refine Go.Flo.fw_loud rfl ?_ rfl (by simp) (fun wv hwv hav K hK => ?_) (fun v hv K hK => ?_)
  · (first | exact Go.Mix.wanted_none rfl | exact Go.Mix.wanted_tt rfl rfl rfl | exact Go.Mix.wanted_ff rfl rfl rfl)
  · obtain ⟨iv, rfl⟩ := hwv
    (first | go_big_op | go_simp)
    refine hK _ _ (Go.Flo.owes_row (HW.out iv).size)
  obtain ⟨r2, hr2, rfl⟩ := hv.row
  go_simp
  refine hK _ ?_
  clear hK K hv
  (repeat (first | (refine Go.Flo.fw_calm rfl ?_ (fun K hK => ?_); (first | exact Go.Mix.wanted_none rfl | exact Go.Mix.wanted_tt rfl rfl rfl | exact Go.Mix.wanted_ff rfl rfl rfl); go_big_quiet_op; refine hK _ ?_; clear hK K) | (refine Go.Flo.fw_skip ?_ (fun K hK => ?_); (first | exact Go.Mix.wanted_tf rfl rfl rfl | exact Go.Mix.wanted_ft rfl rfl rfl); go_simp; refine hK _ ?_; clear hK K) | (refine Go.Flo.fw_any rfl ?_ (fun K hK => ?_); (first | exact Go.Mix.wanted_none rfl | exact Go.Mix.wanted_tt rfl rfl rfl | exact Go.Mix.wanted_ff rfl rfl rfl); go_simp; (try (go_ints; try go_simp)); refine hK _ ?_; clear hK K)))
  refine Go.Flo.fw_loud rfl ?_ rfl (by simp) (fun wv hwv hav K hK => ?_) (fun v hv K hK => ?_)
  · (first | exact Go.Mix.wanted_none rfl | exact Go.Mix.wanted_tt rfl rfl rfl | exact Go.Mix.wanted_ff rfl rfl rfl)
  · obtain ⟨iv, rfl⟩ := hwv
    have hbv := HW.out iv
    (first | go_big_op | go_simp)
    have f1 := hav 6 (by decide +kernel)
    iterate 17 (replace f1 := f1.1)
    have s1 := Go.Flo.says_row (f1.2 rfl).1
    have s2 := Go.Flo.says_row ((hav 23 (by decide +kernel)).2 rfl).1
    have q1 := rd_map (n := (W iv).heap.size) (m := 6) ([1, 1, 4, 4, 4, 4] : List Int) 0 (fun z => Value.int .i64 z) s1 (box_lt s1) rfl (by decide)
    have q2 := rd_map (n := (W iv).heap.size) (m := 6) ([k, p, lu, hu, m, n] : List Nat) 0 (fun z => Value.int .u32 ((z : Nat) : Int)) s2 (box_lt s2) rfl (by decide)
    go_at_call 93
    refine (Lay_any _ _ 6 6 6 6 _ _ (fun i => ([1, 1, 4, 4, 4, 4] : List Int).getD i 0) (fun i => ([k, p, lu, hu, m, n] : List Nat).getD i 0) _ q1 q2 (Nat.le_refl _) (Nat.le_refl _) H32.out (by decide)).mono ?_
    rintro e w' ⟨v, rfl, hown, hbb⟩
    rw [HLAY.out] at hown
    exact hK _ _ (owes_O rfl rfl hbb hown (by have := hbv.size; omega))
  obtain ⟨a8, c8, rfl⟩ := ex_O hv
  go_simp
  refine hK _ ?_
  clear hK K hv
  (repeat (first | (refine Go.Flo.fw_calm rfl ?_ (fun K hK => ?_); (first | exact Go.Mix.wanted_none rfl | exact Go.Mix.wanted_tt rfl rfl rfl | exact Go.Mix.wanted_ff rfl rfl rfl); go_big_quiet_op; refine hK _ ?_; clear hK K) | (refine Go.Flo.fw_skip ?_ (fun K hK => ?_); (first | exact Go.Mix.wanted_tf rfl rfl rfl | exact Go.Mix.wanted_ft rfl rfl rfl); go_simp; refine hK _ ?_; clear hK K) | (refine Go.Flo.fw_any rfl ?_ (fun K hK => ?_); (first | exact Go.Mix.wanted_none rfl | exact Go.Mix.wanted_tt rfl rfl rfl | exact Go.Mix.wanted_ff rfl rfl rfl); go_simp; (try (go_ints; try go_simp)); refine hK _ ?_; clear hK K)))
  refine Go.Flo.fw_nil ?_
  intro w4 hww4 hfw4 huw4
  refine Go.Flo.tw_nil ?_
  obtain ⟨iend, hiend⟩ := hww4
  have hbw4 := HW.out iend
  rw [← hiend] at hbw4
  clear hiend iend huw4
  have hsays : w4.ownsRow w.heap.size 5 1 (.slice a8 (dfB k p lu hu m n).length c8) (dfB k p lu hu m n).length (bl (dfB k p lu hu m n)) := ((hfw4 (some 24)).1.2 rfl).1
  clear hfw4 HJ HW hne k0 k1 k2 k3 k4 k5
  clear W I
  rw [dfB_len] at hsays ⊢
  have HB4 := Lib.hid (HB1.out.trans (hbw4.mono HB1.out.size))
  have HSY := Lib.hid hsays
  clear hsays hbw4
  go_wp2
  go_ret
  exact ⟨_, rfl, HSY.out, HB4.out⟩
set_option maxRecDepth 100000 in
set_option maxHeartbeats 1000000 in
theorem dBytes_no (k p l h : Int) (m n : Nat) (w : World) (hr : (Df.mk k p l h m n).right = false) :
    Calls Try.prog 50 #[.agg #[.int .u8 k, .int .i64 p, .int .i32 l, .int .i32 h, .int .u32 ((m : Nat) : Int), .int .u32 ((n : Nat) : Int)]] w fun e w' => e = .returned (.slice none 0 0) ∧ Below w.heap.size w w' := by
  have HR := Lib.hid hr
  have hb0 : Below w.heap.size w (w.alloc (.cells #[.int .u8 k, .int .i64 p, .int .i32 l, .int .i32 h, .int .u32 ((m : Nat) : Int), .int .u32 ((n : Nat) : Int)] 92)) := (Below.refl _ _).alloc (Nat.le_refl _) _
  clear hr
  go_enter Try.func50, Try.ntmps50
  go_wp2_with fail
  go_at_call 44
  refine (Right_at k p l h m n false _ HR.out).mono ?_
  rintro e w1 ⟨rfl, hb⟩
  have HB1 := Lib.hid (hb0.trans (hb.mono hb0.size))
  clear hb hb0
  go_wp2
  go_ret
  exact ⟨rfl, HB1.out⟩
set_option maxRecDepth 100000 in
set_option maxHeartbeats 1000000 in
theorem word_at (l : Int) (lu : Nat) (w : World) (hlu : l % 4294967296 = (lu : Int)) : Calls Try.prog 95 #[.int .i32 l] w fun e w' => ∃ a c, e = .returned (.slice a 4 c) ∧ w'.ownsRow w.heap.size 5 1 (.slice a 4 c) 4 (bl (numB lu 4)) ∧ Below w.heap.size w w' := by
  have hlb : lu < 4294967296 := by omega
  go_enter Try.func95, Try.ntmps95
  go_wp2_with fail
  go_at_call 96
  refine (Num_z _ lu 4 _ rfl (by omega) (by decide)).mono ?_
  rintro e w' ⟨a, c, rfl, hown, hb⟩
  have HO := Lib.hid (And.intro hown hb)
  clear hown hb
  go_wp2
  go_ret
  exact ⟨a, c, rfl, HO.out.1, HO.out.2⟩
set_option maxRecDepth 100000 in
set_option maxHeartbeats 4000000 in
theorem rdBytes_any (k p : Nat) (l h : Int) (lu hu m n : Nat) (w : World) (hk : k < 256) (hp : p < 256) (hlu : l % 4294967296 = (lu : Int)) (hhu : h % 4294967296 = (hu : Int)) (hm : m < 4294967296) (hn : n < 4294967296) :
    Calls Try.prog 51 #[.agg #[.int .u8 ((k : Nat) : Int), .int .i64 ((p : Nat) : Int), .int .i32 l, .int .i32 h, .int .u32 ((m : Nat) : Int), .int .u32 ((n : Nat) : Int)]] w fun e w' => ∃ v, e = .returned v ∧ w'.ownsRow w.heap.size 5 1 v 18 (bl (dfB k p lu hu m n)) ∧ Below w.heap.size w w' := by
  have hb0 : Below w.heap.size w (w.alloc (.cells #[.int .u8 ((k : Nat) : Int), .int .i64 ((p : Nat) : Int), .int .i32 l, .int .i32 h, .int .u32 ((m : Nat) : Int), .int .u32 ((n : Nat) : Int)] 93)) := (Below.refl _ _).alloc (Nat.le_refl _) _
  have g0 := heap_alloc_new w (.cells #[.int .u8 ((k : Nat) : Int), .int .i64 ((p : Nat) : Int), .int .i32 l, .int .i32 h, .int .u32 ((m : Nat) : Int), .int .u32 ((n : Nat) : Int)] 93)
  obtain ⟨B1, hB1⟩ : ∃ B, B = numB lu 4 := ⟨_, rfl⟩
  obtain ⟨B2, hB2⟩ : ∃ B, B = numB hu 4 := ⟨_, rfl⟩
  obtain ⟨B3, hB3⟩ : ∃ B, B = numB m 4 := ⟨_, rfl⟩
  obtain ⟨B4, hB4⟩ : ∃ B, B = numB n 4 := ⟨_, rfl⟩
  have HBB := Lib.hid (And.intro hB1 (And.intro hB2 (And.intro hB3 hB4)))
  have HLL := Lib.hid (show B1.length = 4 ∧ B2.length = 4 ∧ B3.length = 4 ∧ B4.length = 4 from ⟨by rw [hB1]; exact numB_len _ _, by rw [hB2]; exact numB_len _ _, by rw [hB3]; exact numB_len _ _, by rw [hB4]; exact numB_len _ _⟩)
  have HBF := Lib.hid (show ([[k, p], B1, B2, B3, B4] : List (List Nat)).flatten = dfB k p lu hu m n by rw [hB1, hB2, hB3, hB4]; simp [dfB])
  clear hB1 hB2 hB3 hB4
  go_enter Try.func51, Try.ntmps51
  go_wp2_with fail
  obtain ⟨g, hg⟩ : ∃ g, g = w.heap.size := ⟨_, rfl⟩
  obtain ⟨w1, hw1⟩ : ∃ w1, w1 = w.alloc (.cells #[.int .u8 ((k : Nat) : Int), .int .i64 ((p : Nat) : Int), .int .i32 l, .int .i32 h, .int .u32 ((m : Nat) : Int), .int .u32 ((n : Nat) : Int)] 93) := ⟨_, rfl⟩
  rw [← hw1] at hb0 g0 ⊢
  rw [← hg] at g0 ⊢
  have hwn := hb0.size
  have HB1 := Lib.hid hb0
  have hgl := box_lt g0
  clear hw1 hg hb0
  have a0 := cell_of_row _ _ 0 _ _ _ g0
  have a1 := cell_of_row _ _ 1 _ _ _ g0
  have a2 := cell_of_row _ _ 2 _ _ _ g0
  have a3 := cell_of_row _ _ 3 _ _ _ g0
  have a4 := cell_of_row _ _ 4 _ _ _ g0
  have a5 := cell_of_row _ _ 5 _ _ _ g0
  obtain ⟨I, W, hne, hWI, hIW⟩ := Go.Mix.family (fun v => Below w1.heap.size w1 v) (Below.refl _ _)
  have HJ := Lib.hid hIW
  have HW := Lib.hid hWI
  clear hWI hIW
  refine Go.Flo.wp_region (fun w' => ∃ i, w' = W i) 23 [SpB [k, p], SpB B1, SpB B2, SpB B3, SpB B4, SpRows 0 [[k, p], B1, B2, B3, B4] 34, SpO w.heap.size (dfB k p lu hu m n)] (by kernel_rfl) (by kernel_rfl) (by decide) (by rintro _ w' ⟨i, rfl⟩ hb; exact HJ.out _ ((HW.out i).trans (hb.mono (HW.out i).size))) (HJ.out _ (Below.refl _ _).drew) ?_
  simp only [Go.Flo.pair, Go.Mix.calm, List.take, List.drop, if_true, Bool.false_eq_true, if_false, Nat.reduceAdd, Nat.reduceSub]
  have k0 : ∀ i, (W i).cell? ⟨g, 0, none⟩ = some (.int .u8 (k : Int)) := fun i => ((HW.out i).cell (p := ⟨g, 0, none⟩) hgl).trans a0
  have k1 : ∀ i, (W i).cell? ⟨g, 1, none⟩ = some (.int .i64 (p : Int)) := fun i => ((HW.out i).cell (p := ⟨g, 1, none⟩) hgl).trans a1
  have k2 : ∀ i, (W i).cell? ⟨g, 2, none⟩ = some (.int .i32 l) := fun i => ((HW.out i).cell (p := ⟨g, 2, none⟩) hgl).trans a2
  have k3 : ∀ i, (W i).cell? ⟨g, 3, none⟩ = some (.int .i32 h) := fun i => ((HW.out i).cell (p := ⟨g, 3, none⟩) hgl).trans a3
  have k4 : ∀ i, (W i).cell? ⟨g, 4, none⟩ = some (.int .u32 (m : Int)) := fun i => ((HW.out i).cell (p := ⟨g, 4, none⟩) hgl).trans a4
  have k5 : ∀ i, (W i).cell? ⟨g, 5, none⟩ = some (.int .u32 (n : Int)) := fun i => ((HW.out i).cell (p := ⟨g, 5, none⟩) hgl).trans a5
  clear a0 a1 a2 a3 a4 a5
  (repeat (first | (refine Go.Flo.fw_calm rfl ?_ (fun K hK => ?_); (first | exact Go.Mix.wanted_none rfl | exact Go.Mix.wanted_tt rfl rfl rfl | exact Go.Mix.wanted_ff rfl rfl rfl); go_big_quiet_op; refine hK _ ?_; clear hK K) | (refine Go.Flo.fw_skip ?_ (fun K hK => ?_); (first | exact Go.Mix.wanted_tf rfl rfl rfl | exact Go.Mix.wanted_ft rfl rfl rfl); go_simp; refine hK _ ?_; clear hK K) | (refine Go.Flo.fw_any rfl ?_ (fun K hK => ?_); (first | exact Go.Mix.wanted_none rfl | exact Go.Mix.wanted_tt rfl rfl rfl | exact Go.Mix.wanted_ff rfl rfl rfl); go_simp; (try (go_ints; try go_simp)); refine hK _ ?_; clear hK K)))
  refine Go.Flo.fw_loud rfl ?_ rfl (by simp) (fun wv hwv hav K hK => ?_) (fun v hv K hK => ?_)
  · (first | exact Go.Mix.wanted_none rfl | exact Go.Mix.wanted_tt rfl rfl rfl | exact Go.Mix.wanted_ff rfl rfl rfl)
  · obtain ⟨iv, rfl⟩ := hwv
    have hbv := HW.out iv
    (first | go_big_op | go_simp)
    refine hK _ _ (owes_lit rfl (by decide) rfl)
  obtain ⟨b1, q1, rfl⟩ := ex_B hv
  go_simp
  refine hK _ ?_
  clear hK K hv
  (repeat (first | (refine Go.Flo.fw_calm rfl ?_ (fun K hK => ?_); (first | exact Go.Mix.wanted_none rfl | exact Go.Mix.wanted_tt rfl rfl rfl | exact Go.Mix.wanted_ff rfl rfl rfl); go_big_quiet_op; refine hK _ ?_; clear hK K) | (refine Go.Flo.fw_skip ?_ (fun K hK => ?_); (first | exact Go.Mix.wanted_tf rfl rfl rfl | exact Go.Mix.wanted_ft rfl rfl rfl); go_simp; refine hK _ ?_; clear hK K) | (refine Go.Flo.fw_any rfl ?_ (fun K hK => ?_); (first | exact Go.Mix.wanted_none rfl | exact Go.Mix.wanted_tt rfl rfl rfl | exact Go.Mix.wanted_ff rfl rfl rfl); go_simp; (try (go_ints; try go_simp)); refine hK _ ?_; clear hK K)))
  refine Go.Flo.fw_loud rfl ?_ rfl (by simp) (fun wv hwv hav K hK => ?_) (fun v hv K hK => ?_)
  · (first | exact Go.Mix.wanted_none rfl | exact Go.Mix.wanted_tt rfl rfl rfl | exact Go.Mix.wanted_ff rfl rfl rfl)
  · obtain ⟨iv, rfl⟩ := hwv
    have hbv := HW.out iv
    (first | go_big_op | go_simp)
    go_at_call 95
    refine (word_at l lu _ hlu).mono ?_
    rintro e w' ⟨b2, q2, rfl, hown, hbb⟩
    rw [← HBB.out.1] at hown
    exact hK _ _ (owes_B HLL.out.1 rfl hbb hown)
  obtain ⟨b2, q2, rfl⟩ := ex_B hv
  rw [HLL.out.1]
  go_simp
  refine hK _ ?_
  clear hK K hv
  (repeat (first | (refine Go.Flo.fw_calm rfl ?_ (fun K hK => ?_); (first | exact Go.Mix.wanted_none rfl | exact Go.Mix.wanted_tt rfl rfl rfl | exact Go.Mix.wanted_ff rfl rfl rfl); go_big_quiet_op; refine hK _ ?_; clear hK K) | (refine Go.Flo.fw_skip ?_ (fun K hK => ?_); (first | exact Go.Mix.wanted_tf rfl rfl rfl | exact Go.Mix.wanted_ft rfl rfl rfl); go_simp; refine hK _ ?_; clear hK K) | (refine Go.Flo.fw_any rfl ?_ (fun K hK => ?_); (first | exact Go.Mix.wanted_none rfl | exact Go.Mix.wanted_tt rfl rfl rfl | exact Go.Mix.wanted_ff rfl rfl rfl); go_simp; (try (go_ints; try go_simp)); refine hK _ ?_; clear hK K)))
  refine Go.Flo.fw_loud rfl ?_ rfl (by simp) (fun wv hwv hav K hK => ?_) (fun v hv K hK => ?_)
  · (first | exact Go.Mix.wanted_none rfl | exact Go.Mix.wanted_tt rfl rfl rfl | exact Go.Mix.wanted_ff rfl rfl rfl)
  · obtain ⟨iv, rfl⟩ := hwv
    have hbv := HW.out iv
    (first | go_big_op | go_simp)
    go_at_call 95
    refine (word_at h hu _ hhu).mono ?_
    rintro e w' ⟨b2, q2, rfl, hown, hbb⟩
    rw [← HBB.out.2.1] at hown
    exact hK _ _ (owes_B HLL.out.2.1 rfl hbb hown)
  obtain ⟨b3, q3, rfl⟩ := ex_B hv
  rw [HLL.out.2.1]
  go_simp
  refine hK _ ?_
  clear hK K hv
  (repeat (first | (refine Go.Flo.fw_calm rfl ?_ (fun K hK => ?_); (first | exact Go.Mix.wanted_none rfl | exact Go.Mix.wanted_tt rfl rfl rfl | exact Go.Mix.wanted_ff rfl rfl rfl); go_big_quiet_op; refine hK _ ?_; clear hK K) | (refine Go.Flo.fw_skip ?_ (fun K hK => ?_); (first | exact Go.Mix.wanted_tf rfl rfl rfl | exact Go.Mix.wanted_ft rfl rfl rfl); go_simp; refine hK _ ?_; clear hK K) | (refine Go.Flo.fw_any rfl ?_ (fun K hK => ?_); (first | exact Go.Mix.wanted_none rfl | exact Go.Mix.wanted_tt rfl rfl rfl | exact Go.Mix.wanted_ff rfl rfl rfl); go_simp; (try (go_ints; try go_simp)); refine hK _ ?_; clear hK K)))
  refine Go.Flo.fw_loud rfl ?_ rfl (by simp) (fun wv hwv hav K hK => ?_) (fun v hv K hK => ?_)
  · (first | exact Go.Mix.wanted_none rfl | exact Go.Mix.wanted_tt rfl rfl rfl | exact Go.Mix.wanted_ff rfl rfl rfl)
  · obtain ⟨iv, rfl⟩ := hwv
    have hbv := HW.out iv
    (first | go_big_op | go_simp)
    go_at_call 96
    refine (Num_z _ m 4 _ rfl (by omega) (by decide)).mono ?_
    rintro e w' ⟨b2, q2, rfl, hown, hbb⟩
    rw [← HBB.out.2.2.1] at hown
    exact hK _ _ (owes_B HLL.out.2.2.1 rfl hbb hown)
  obtain ⟨b4, q4, rfl⟩ := ex_B hv
  rw [HLL.out.2.2.1]
  go_simp
  refine hK _ ?_
  clear hK K hv
  (repeat (first | (refine Go.Flo.fw_calm rfl ?_ (fun K hK => ?_); (first | exact Go.Mix.wanted_none rfl | exact Go.Mix.wanted_tt rfl rfl rfl | exact Go.Mix.wanted_ff rfl rfl rfl); go_big_quiet_op; refine hK _ ?_; clear hK K) | (refine Go.Flo.fw_skip ?_ (fun K hK => ?_); (first | exact Go.Mix.wanted_tf rfl rfl rfl | exact Go.Mix.wanted_ft rfl rfl rfl); go_simp; refine hK _ ?_; clear hK K) | (refine Go.Flo.fw_any rfl ?_ (fun K hK => ?_); (first | exact Go.Mix.wanted_none rfl | exact Go.Mix.wanted_tt rfl rfl rfl | exact Go.Mix.wanted_ff rfl rfl rfl); go_simp; (try (go_ints; try go_simp)); refine hK _ ?_; clear hK K)))
  refine Go.Flo.fw_loud rfl ?_ rfl (by simp) (fun wv hwv hav K hK => ?_) (fun v hv K hK => ?_)
  · (first | exact Go.Mix.wanted_none rfl | exact Go.Mix.wanted_tt rfl rfl rfl | exact Go.Mix.wanted_ff rfl rfl rfl)
  · obtain ⟨iv, rfl⟩ := hwv
    have hbv := HW.out iv
    (first | go_big_op | go_simp)
    go_at_call 96
    refine (Num_z _ n 4 _ rfl (by omega) (by decide)).mono ?_
    rintro e w' ⟨b2, q2, rfl, hown, hbb⟩
    rw [← HBB.out.2.2.2] at hown
    exact hK _ _ (owes_B HLL.out.2.2.2 rfl hbb hown)
  obtain ⟨b5, q5, rfl⟩ := ex_B hv
  rw [HLL.out.2.2.2]
  go_simp
  refine hK _ ?_
  clear hK K hv
  (repeat (first | (refine Go.Flo.fw_calm rfl ?_ (fun K hK => ?_); (first | exact Go.Mix.wanted_none rfl | exact Go.Mix.wanted_tt rfl rfl rfl | exact Go.Mix.wanted_ff rfl rfl rfl); go_big_quiet_op; refine hK _ ?_; clear hK K) | (refine Go.Flo.fw_skip ?_ (fun K hK => ?_); (first | exact Go.Mix.wanted_tf rfl rfl rfl | exact Go.Mix.wanted_ft rfl rfl rfl); go_simp; refine hK _ ?_; clear hK K) | (refine Go.Flo.fw_any rfl ?_ (fun K hK => ?_); (first | exact Go.Mix.wanted_none rfl | exact Go.Mix.wanted_tt rfl rfl rfl | exact Go.Mix.wanted_ff rfl rfl rfl); go_simp; (try (go_ints; try go_simp)); refine hK _ ?_; clear hK K)))
  refine Go.Flo.fw_loud rfl ?_ rfl (by simp) (fun wv hwv hav K hK => ?_) (fun v hv K hK => ?_)
  · (first | exact Go.Mix.wanted_none rfl | exact Go.Mix.wanted_tt rfl rfl rfl | exact Go.Mix.wanted_ff rfl rfl rfl)
  · obtain ⟨iv, rfl⟩ := hwv
    have hbv := HW.out iv
    (first | go_big_op | go_simp)
    have f1 := hav 8 (by decide +kernel)
    iterate 14 (replace f1 := f1.1)
    have f2 := hav 11 (by decide +kernel)
    iterate 11 (replace f2 := f2.1)
    have f3 := hav 14 (by decide +kernel)
    iterate 8 (replace f3 := f3.1)
    have f4 := hav 18 (by decide +kernel)
    iterate 4 (replace f4 := f4.1)
    have f5 := hav 22 (by decide +kernel)
    have s1 := says_B (f1.2 rfl).1
    have s2 := says_B (f2.2 rfl).1
    have s3 := says_B (f3.2 rfl).1
    have s4 := says_B (f4.2 rfl).1
    have s5 := says_B (f5.2 rfl).1
    try rw [← HLL.out.1] at s2
    try rw [← HLL.out.2.1] at s3
    try rw [← HLL.out.2.2.1] at s4
    try rw [← HLL.out.2.2.2] at s5
    refine hK _ _ (owes_rows (at5 b1 b2 b3 b4 b5) (at5 q1 q2 q3 q4 q5) (Nat.zero_le _) rfl ?_ (all5 s1 s2 s3 s4 s5))
    simp [rowsC, at5, List.range_succ, HLL.out]
  obtain ⟨g6, rfl⟩ := ex_rows hv
  go_simp
  refine hK _ ?_
  clear hK K hv
  (repeat (first | (refine Go.Flo.fw_calm rfl ?_ (fun K hK => ?_); (first | exact Go.Mix.wanted_none rfl | exact Go.Mix.wanted_tt rfl rfl rfl | exact Go.Mix.wanted_ff rfl rfl rfl); go_big_quiet_op; refine hK _ ?_; clear hK K) | (refine Go.Flo.fw_skip ?_ (fun K hK => ?_); (first | exact Go.Mix.wanted_tf rfl rfl rfl | exact Go.Mix.wanted_ft rfl rfl rfl); go_simp; refine hK _ ?_; clear hK K) | (refine Go.Flo.fw_any rfl ?_ (fun K hK => ?_); (first | exact Go.Mix.wanted_none rfl | exact Go.Mix.wanted_tt rfl rfl rfl | exact Go.Mix.wanted_ff rfl rfl rfl); go_simp; (try (go_ints; try go_simp)); refine hK _ ?_; clear hK K)))
  refine Go.Flo.fw_loud rfl ?_ rfl (by simp) (fun wv hwv hav K hK => ?_) (fun v hv K hK => ?_)
  · (first | exact Go.Mix.wanted_none rfl | exact Go.Mix.wanted_tt rfl rfl rfl | exact Go.Mix.wanted_ff rfl rfl rfl)
  · obtain ⟨iv, rfl⟩ := hwv
    have hbv := HW.out iv
    (first | go_big_op | go_simp)
    have s4 := ((hav 23 (by decide +kernel)).2 rfl).1
    go_at_call 52
    refine (JoinRows s4 (by simp) (by rw [HBF.out, dfB_len]; omega)).mono ?_
    rintro e w' ⟨v, rfl, hown, hbb⟩
    rw [HBF.out] at hown
    exact hK _ _ (owes_O rfl rfl hbb hown (by have := hbv.size; omega))
  obtain ⟨a8, c8, rfl⟩ := ex_O hv
  go_simp
  refine hK _ ?_
  clear hK K hv
  (repeat (first | (refine Go.Flo.fw_calm rfl ?_ (fun K hK => ?_); (first | exact Go.Mix.wanted_none rfl | exact Go.Mix.wanted_tt rfl rfl rfl | exact Go.Mix.wanted_ff rfl rfl rfl); go_big_quiet_op; refine hK _ ?_; clear hK K) | (refine Go.Flo.fw_skip ?_ (fun K hK => ?_); (first | exact Go.Mix.wanted_tf rfl rfl rfl | exact Go.Mix.wanted_ft rfl rfl rfl); go_simp; refine hK _ ?_; clear hK K) | (refine Go.Flo.fw_any rfl ?_ (fun K hK => ?_); (first | exact Go.Mix.wanted_none rfl | exact Go.Mix.wanted_tt rfl rfl rfl | exact Go.Mix.wanted_ff rfl rfl rfl); go_simp; (try (go_ints; try go_simp)); refine hK _ ?_; clear hK K)))
  refine Go.Flo.fw_nil ?_
  intro w4 hww4 hfw4 huw4
  refine Go.Flo.tw_nil ?_
  obtain ⟨iend, hiend⟩ := hww4
  have hbw4 := HW.out iend
  rw [← hiend] at hbw4
  clear hiend iend huw4
  have hsays : w4.ownsRow w.heap.size 5 1 (.slice a8 (dfB k p lu hu m n).length c8) (dfB k p lu hu m n).length (bl (dfB k p lu hu m n)) := ((hfw4 (some 24)).1.2 rfl).1
  clear hfw4 HJ HW hne k0 k1 k2 k3 k4 k5
  clear W I
  rw [dfB_len] at hsays ⊢
  have HB4 := Lib.hid (HB1.out.trans (hbw4.mono HB1.out.size))
  have HSY := Lib.hid hsays
  clear hsays hbw4
  go_wp2
  go_ret
  exact ⟨_, rfl, HSY.out, HB4.out⟩
end Go.Proofs.Ytbomkneajmgckaa
