/- Layer 18: the example. -/
import Derived.Test.YtioclbkgfbjpdaaSw9
namespace Go.Proofs.Ytioclbkgfbjpdaa
open Go.RowKit Go.Own Bs
set_option linter.unusedVariables false
set_option linter.unusedSimpArgs false
theorem rd_intsS {w : World} {g : Nat} {l : List Int} {t : TypeId} (h : w.heap[g]? = some (.cells (l.map (Value.int .i64)).toArray t (0, 0))) (hl : l.length ≤ 1000) : Rd w.heap.size w (some ⟨g, 0, none⟩) l.length l.length (iv l) :=
  ⟨Nat.le_refl _, by unfold maxLen; omega, (fun h => by cases h), fun _ => ⟨g, 0, rfl, box_lt h, fun i hi => by
    rw [Nat.zero_add, cell_of_row _ _ i _ _ _ h]
    simp [iv, List.getD, hi]⟩⟩
theorem rd_setsS {w : World} {g : Nat} {l : List Nat} {t : TypeId} (h : w.heap[g]? = some (.cells (svl l).toArray t (0, 0))) (hl : l.length ≤ 1000) : Rd w.heap.size w (some ⟨g, 0, none⟩) l.length l.length (sv l) :=
  ⟨Nat.le_refl _, by unfold maxLen; omega, (fun h => by cases h), fun _ => ⟨g, 0, rfl, box_lt h, fun i hi => by
    rw [Nat.zero_add, cell_of_row _ _ i _ _ _ h]
    simp [sv, svl, List.getD, hi]⟩⟩
theorem box_ne {w : World} {g g' : Nat} {A B : Array Value} {t u : TypeId} {f f' : Nat × Nat} (h : w.heap[g]? = some (.cells A t f)) (h' : w.heap[g']? = some (.cells B u f')) (hne : t ≠ u) : g ≠ g' := by
  rintro rfl
  rw [h] at h'
  injection h' with h'
  injection h' with _ h'
  exact hne h'
/-- What 'lay' hands back. -/
def SpLay (n0 : Nat) (L : List Nat) (lk : Nat → Nat) : Go.Flo.Spec :=
  ⟨fun v w => ∃ a1 c1 a2 c2, v = .tuple #[.agg #[.slice a1 L.length c1, .int .u16 ((lk 0 : Nat) : Int), .int .u16 ((lk 1 : Nat) : Int), .int .u16 ((lk 2 : Nat) : Int), .int .u16 ((lk 3 : Nat) : Int), .int .u16 ((lk 4 : Nat) : Int), .int .u16 ((lk 5 : Nat) : Int), .int .u16 ((lk 6 : Nat) : Int), .int .u16 ((lk 7 : Nat) : Int), .int .u16 ((lk 8 : Nat) : Int), .int .u16 ((lk 9 : Nat) : Int), .int .u16 ((lk 10 : Nat) : Int), .int .u16 ((lk 11 : Nat) : Int), .int .u16 ((lk 12 : Nat) : Int), .int .u16 ((lk 13 : Nat) : Int), .int .u16 ((lk 14 : Nat) : Int), .int .u16 ((lk 15 : Nat) : Int)], .agg #[.slice a2 L.length c2, .int .u16 ((lk 0 : Nat) : Int), .int .u16 ((lk 1 : Nat) : Int), .int .u16 ((lk 2 : Nat) : Int), .int .u16 ((lk 3 : Nat) : Int), .int .u16 ((lk 4 : Nat) : Int), .int .u16 ((lk 5 : Nat) : Int), .int .u16 ((lk 6 : Nat) : Int), .int .u16 ((lk 7 : Nat) : Int), .int .u16 ((lk 8 : Nat) : Int), .int .u16 ((lk 9 : Nat) : Int), .int .u16 ((lk 10 : Nat) : Int), .int .u16 ((lk 11 : Nat) : Int), .int .u16 ((lk 12 : Nat) : Int), .int .u16 ((lk 13 : Nat) : Int), .int .u16 ((lk 14 : Nat) : Int), .int .u16 ((lk 15 : Nat) : Int)]] ∧ w.ownsRow n0 100 1 (.slice a1 L.length c1) L.length (svl L) ∧ RowsO n0 w (.slice a2 L.length c2) L,
   fun v w w' hb ⟨a1, c1, a2, c2, hv, h1, h2⟩ => ⟨a1, c1, a2, c2, hv, own_keepZ h1 hb, h2.kept hb⟩⟩
theorem RowsO.base {n0 b : Nat} {w : World} {v : Value} {l : List Nat} (h : RowsO b w v l) (h0 : n0 ≤ b) : RowsO n0 w v l := by
  obtain ⟨vs, h1, h2, h3⟩ := h.ex
  exact ⟨vs, own_baseZ h1 h0, h2, fun i hi => by obtain ⟨a, c, h4, h5⟩ := h3 i hi; exact ⟨a, c, h4, own_baseZ h5 h0⟩⟩
theorem owes_lay {o : Oper} {n0 b : Nat} {L : List Nat} {lk : Nat → Nat} {w w' : World} {a1 a2 : Option Addr} {c1 c2 : Nat} (hm : Go.Flo.makes o = false) (hb : Below w.heap.size w w') (h1 : w'.ownsRow b 100 1 (.slice a1 L.length c1) L.length (svl L)) (h2 : RowsO b w' (.slice a2 L.length c2) L) (h0 : n0 ≤ b) :
    Go.Flo.owes o (SpLay n0 L lk) w (.tuple #[.agg #[.slice a1 L.length c1, .int .u16 ((lk 0 : Nat) : Int), .int .u16 ((lk 1 : Nat) : Int), .int .u16 ((lk 2 : Nat) : Int), .int .u16 ((lk 3 : Nat) : Int), .int .u16 ((lk 4 : Nat) : Int), .int .u16 ((lk 5 : Nat) : Int), .int .u16 ((lk 6 : Nat) : Int), .int .u16 ((lk 7 : Nat) : Int), .int .u16 ((lk 8 : Nat) : Int), .int .u16 ((lk 9 : Nat) : Int), .int .u16 ((lk 10 : Nat) : Int), .int .u16 ((lk 11 : Nat) : Int), .int .u16 ((lk 12 : Nat) : Int), .int .u16 ((lk 13 : Nat) : Int), .int .u16 ((lk 14 : Nat) : Int), .int .u16 ((lk 15 : Nat) : Int)], .agg #[.slice a2 L.length c2, .int .u16 ((lk 0 : Nat) : Int), .int .u16 ((lk 1 : Nat) : Int), .int .u16 ((lk 2 : Nat) : Int), .int .u16 ((lk 3 : Nat) : Int), .int .u16 ((lk 4 : Nat) : Int), .int .u16 ((lk 5 : Nat) : Int), .int .u16 ((lk 6 : Nat) : Int), .int .u16 ((lk 7 : Nat) : Int), .int .u16 ((lk 8 : Nat) : Int), .int .u16 ((lk 9 : Nat) : Int), .int .u16 ((lk 10 : Nat) : Int), .int .u16 ((lk 11 : Nat) : Int), .int .u16 ((lk 12 : Nat) : Int), .int .u16 ((lk 13 : Nat) : Int), .int .u16 ((lk 14 : Nat) : Int), .int .u16 ((lk 15 : Nat) : Int)]]) w' :=
  ⟨⟨a1, c1, a2, c2, rfl, own_baseZ h1 h0, h2.base h0⟩, hb, fun g hg => by simp [Go.Flo.ownOf, hm] at hg⟩
theorem ex_lay {C : World → Prop} {o : Oper} {n0 : Nat} {L : List Nat} {lk : Nat → Nat} {v : Value} {F : Go.Flo.Facts} {G : Go.Flo.Used} (h : Go.Flo.Ex C o (SpLay n0 L lk) F G v) : ∃ a1 c1 a2 c2, v = .tuple #[.agg #[.slice a1 L.length c1, .int .u16 ((lk 0 : Nat) : Int), .int .u16 ((lk 1 : Nat) : Int), .int .u16 ((lk 2 : Nat) : Int), .int .u16 ((lk 3 : Nat) : Int), .int .u16 ((lk 4 : Nat) : Int), .int .u16 ((lk 5 : Nat) : Int), .int .u16 ((lk 6 : Nat) : Int), .int .u16 ((lk 7 : Nat) : Int), .int .u16 ((lk 8 : Nat) : Int), .int .u16 ((lk 9 : Nat) : Int), .int .u16 ((lk 10 : Nat) : Int), .int .u16 ((lk 11 : Nat) : Int), .int .u16 ((lk 12 : Nat) : Int), .int .u16 ((lk 13 : Nat) : Int), .int .u16 ((lk 14 : Nat) : Int), .int .u16 ((lk 15 : Nat) : Int)], .agg #[.slice a2 L.length c2, .int .u16 ((lk 0 : Nat) : Int), .int .u16 ((lk 1 : Nat) : Int), .int .u16 ((lk 2 : Nat) : Int), .int .u16 ((lk 3 : Nat) : Int), .int .u16 ((lk 4 : Nat) : Int), .int .u16 ((lk 5 : Nat) : Int), .int .u16 ((lk 6 : Nat) : Int), .int .u16 ((lk 7 : Nat) : Int), .int .u16 ((lk 8 : Nat) : Int), .int .u16 ((lk 9 : Nat) : Int), .int .u16 ((lk 10 : Nat) : Int), .int .u16 ((lk 11 : Nat) : Int), .int .u16 ((lk 12 : Nat) : Int), .int .u16 ((lk 13 : Nat) : Int), .int .u16 ((lk 14 : Nat) : Int), .int .u16 ((lk 15 : Nat) : Int)]] := by
  obtain ⟨w, _, _, ⟨a1, c1, a2, c2, h1, _⟩, _⟩ := h
  exact ⟨a1, c1, a2, c2, h1⟩
/-- A map of the law's own in memory. -/
theorem map_own {b : Nat} {w : World} {a : Option Addr} {c : Nat} {L : List Nat} {lk : Nat → Nat} (h : w.ownsRow b 100 1 (.slice a L.length c) L.length (svl L)) (hv : ∀ t ∈ L, t < 65536) (hlk : ∀ i, lk i < 65536) (h6 : L.length ≤ 6) : MapIs w.heap.size w a L.length c L lk :=
  ⟨rfl, hv, hlk, Nat.le_refl _, rd_of_own h (fun i hi => svl_at L i hi), h6⟩
def exL : Nat → Nat := fun i => if i = 1 then 16 else if i = 2 then 24 else 0
theorem ex_lt : ∀ i, exL i < 65536 := fun i => by unfold exL; split <;> (try split) <;> omega
theorem ex_lays : (layS (List.take 6 [6, 24])).1 = [6, 24] := by decide +kernel
theorem ex_one : (findR [6, 24] exL noneC 0).n = 3 ∧ nearC (findR [6, 24] exL noneC 0) 0 = 1 ∧ nearC (findR [6, 24] exL noneC 0) 1 = 4 ∧ nearC (findR [6, 24] exL noneC 0) 2 = -1 := by decide +kernel
theorem ex_two : (findR [6, 24] exL noneC 16).n = 1 ∧ nearC (findR [6, 24] exL noneC 16) 0 = 2 ∧ nearC (findR [6, 24] exL noneC 16) 1 = 3 := by decide +kernel
theorem zero_lk (w : World) : (zeroValue 62).run Try.prog w = .ok (.agg #[.int .u16 0, .int .u16 0, .int .u16 0, .int .u16 0, .int .u16 0, .int .u16 0, .int .u16 0, .int .u16 0, .int .u16 0, .int .u16 0, .int .u16 0, .int .u16 0, .int .u16 0, .int .u16 0, .int .u16 0, .int .u16 0]) w := by kernel_rfl
set_option maxRecDepth 100000 in
set_option maxHeartbeats 8000000 in
theorem awake18 (w : World) : Calls Try.prog 29 #[] w fun e w' => e = .returned (.bool true) ∧ Below w.heap.size w w' := by
  have hzl := zero_lk
  have hzm := zero_mp
  have hzr := zero_rm
  have hzc := zero_ch
  have hq := (Bq.nil w).new #[.int .u16 0, .int .u16 0, .int .u16 0, .int .u16 0, .int .u16 0, .int .u16 0, .int .u16 0, .int .u16 0, .int .u16 0, .int .u16 0, .int .u16 0, .int .u16 0, .int .u16 0, .int .u16 0, .int .u16 0, .int .u16 0] 62
  go_enter Try.func29, Try.ntmps29
  go_upto_region 2 with fail
  obtain ⟨w1, hw1⟩ : ∃ w1, w1 = w.alloc (.cells #[.int .u16 0, .int .u16 0, .int .u16 0, .int .u16 0, .int .u16 0, .int .u16 0, .int .u16 0, .int .u16 0, .int .u16 0, .int .u16 0, .int .u16 0, .int .u16 0, .int .u16 0, .int .u16 0, .int .u16 0, .int .u16 0] 62) := ⟨_, rfl⟩
  obtain ⟨g1, hg1⟩ : ∃ b, b = w.heap.size := ⟨_, rfl⟩
  rw [← hw1] at hq ⊢
  rw [← hg1]
  have HQ := Lib.hid (show Bq w w1 [(g1, #[.int .u16 0, .int .u16 0, .int .u16 0, .int .u16 0, .int .u16 0, .int .u16 0, .int .u16 0, .int .u16 0, .int .u16 0, .int .u16 0, .int .u16 0, .int .u16 0, .int .u16 0, .int .u16 0, .int .u16 0, .int .u16 0], 62)] by rw [hg1]; exact hq)
  clear hw1 hg1 hq
  have hal := (Below.refl w1.heap.size w1).alloc (Nat.le_refl _) (.cells #[.int .i64 4] 3)
  have HAL := Lib.hid hal
  clear hal
  go_wp2_with fail
  go_at_call 46
  refine (Of_any _ 1 1 _ [4] _ rfl (Nat.le_refl _) (rd_intsS (l := [4]) (heap_alloc_new _ _) (by decide))).mono ?_
  rintro e w2 ⟨rfl, hb⟩
  have HQ2 := Lib.hid ((HQ.out.step HAL.out).step hb)
  clear hb HAL HQ
  have hal := (Below.refl w2.heap.size w2).alloc (Nat.le_refl _) (.cells #[.int .i64 3, .int .i64 4] 3)
  have HAL := Lib.hid hal
  clear hal
  go_wp2_with fail
  go_at_call 46
  refine (Of_any _ 2 2 _ [3, 4] _ rfl (Nat.le_refl _) (rd_intsS (l := [3, 4]) (heap_alloc_new _ _) (by decide))).mono ?_
  rintro e w3 ⟨rfl, hb⟩
  have HQ3 := Lib.hid ((HQ2.out.step HAL.out).step hb)
  clear hb HAL HQ2
  have c1 := cell_of_row _ g1 1 _ _ _ (HQ3.out.of 0 rfl)
  have f1 := frozen_of_row _ g1 1 _ _ (HQ3.out.of 0 rfl)
  have c2 := cell_of_row _ g1 2 _ _ _ (HQ3.out.of 0 rfl)
  have f2 := frozen_of_row _ g1 2 _ _ (HQ3.out.of 0 rfl)
  simp at c1 c2
  go_upto_region 3 with fail
  have hqa := (HQ3.out.set 0 rfl 1 (.int .u16 ((withS 0 [4] : Nat) : Int))).set 0 rfl 2 (.int .u16 ((withS 0 [3, 4] : Nat) : Int))
  obtain ⟨w4, hw4⟩ : ∃ w4, w4 = (w3.setCell ⟨g1, 1, none⟩ (.int .u16 ((withS 0 [4] : Nat) : Int))).setCell ⟨g1, 2, none⟩ (.int .u16 ((withS 0 [3, 4] : Nat) : Int)) := ⟨_, rfl⟩
  have HQ4 := Lib.hid (show Bq w w4 [(g1, #[.int .u16 ((exL 0 : Nat) : Int), .int .u16 ((exL 1 : Nat) : Int), .int .u16 ((exL 2 : Nat) : Int), .int .u16 ((exL 3 : Nat) : Int), .int .u16 ((exL 4 : Nat) : Int), .int .u16 ((exL 5 : Nat) : Int), .int .u16 ((exL 6 : Nat) : Int), .int .u16 ((exL 7 : Nat) : Int), .int .u16 ((exL 8 : Nat) : Int), .int .u16 ((exL 9 : Nat) : Int), .int .u16 ((exL 10 : Nat) : Int), .int .u16 ((exL 11 : Nat) : Int), .int .u16 ((exL 12 : Nat) : Int), .int .u16 ((exL 13 : Nat) : Int), .int .u16 ((exL 14 : Nat) : Int), .int .u16 ((exL 15 : Nat) : Int)], 62)] by rw [hw4]; exact hqa)
  rw [← hw4]
  have y1 := box_lt (HQ4.out.of 0 rfl)
  have HSET := Lib.hid (show (svl [6, 24]).toArray = #[.int .u16 6, .int .u16 24] from rfl)
  clear hw4 hqa c1 f1 c2 f2 HQ3
  obtain ⟨I, W, hne, hWI, hIW⟩ := Go.Mix.family (fun v => Below w4.heap.size w4 v) (Below.refl _ _)
  have HJ := Lib.hid hIW
  have HW := Lib.hid hWI
  clear hWI hIW
  refine Go.Flo3.wp_region (fun w' => ∃ i, w' = W i) 12 [Go.Flo.Spec.row w4.heap.size 2 #[.int .i64 1, .int .i64 2] 3, Go.Flo.Spec.is (.int .u16 6), Go.Flo.Spec.row w4.heap.size 2 #[.int .i64 3, .int .i64 4] 3, Go.Flo.Spec.is (.int .u16 24), Go.Flo.Spec.row w4.heap.size 2 #[.int .u16 6, .int .u16 24] 61, SpLay w4.heap.size [6, 24] exL, Go.Flo.Spec.ptr w4.heap.size #[.slice none 0 0, .int .u16 0, .int .u16 0, .int .u16 0, .int .u16 0, .int .u16 0, .int .u16 0, .int .u16 0, .int .u16 0, .int .u16 0, .int .u16 0, .int .u16 0, .int .u16 0, .int .u16 0, .int .u16 0, .int .u16 0, .int .u16 0] 65, Go.Flo.Spec.ptr w4.heap.size #[.slice none 0 0, .int .u16 0, .int .u16 0, .int .u16 0, .int .u16 0, .int .u16 0, .int .u16 0, .int .u16 0, .int .u16 0, .int .u16 0, .int .u16 0, .int .u16 0, .int .u16 0, .int .u16 0, .int .u16 0, .int .u16 0, .int .u16 0] 69] (by kernel_rfl) (by kernel_rfl) (by decide) (by rintro _ w' ⟨i, rfl⟩ hb; exact HJ.out _ ((HW.out i).trans (hb.mono (HW.out i).size))) (HJ.out _ (Below.refl _ _).drew) ?_
  simp only [Go.Flo.pair, Go.Mix.calm, List.take, List.drop, if_true, Bool.false_eq_true, if_false, Nat.reduceAdd, Nat.reduceSub]
  refine Go.Flo.fw_loud rfl ?_ rfl (by simp) (fun wv hwv hav K hK => ?_) (fun v hv K hK => ?_)
  · (first | exact Go.Mix.wanted_none rfl | exact Go.Mix.wanted_tt rfl rfl rfl | exact Go.Mix.wanted_ff rfl rfl rfl)
  · obtain ⟨iv, rfl⟩ := hwv
    (first | go_big_op | go_simp)
    refine hK _ _ (Go.Flo.owes_row (HW.out iv).size)
  obtain ⟨xa, hxa, rfl⟩ := hv.row
  go_simp
  refine hK _ ?_
  clear hK K hv
  refine Go.Flo.fw_loud rfl ?_ rfl (by simp) (fun wv hwv hav K hK => ?_) (fun v hv K hK => ?_)
  · (first | exact Go.Mix.wanted_none rfl | exact Go.Mix.wanted_tt rfl rfl rfl | exact Go.Mix.wanted_ff rfl rfl rfl)
  · obtain ⟨iv, rfl⟩ := hwv
    have hbv := HW.out iv
    (first | go_big_op | go_simp)
    have hrow := Go.Flo.says_row ((hav 15 (by decide +kernel)).2 rfl).1
    go_at_call 46
    refine (Of_any _ 2 2 _ [1, 2] _ rfl (Nat.le_refl _) (rd_intsS (l := [1, 2]) hrow (by decide))).mono ?_
    rintro e w' ⟨rfl, hb⟩
    exact hK _ _ (Go.Flo.owes_is _ rfl hb)
  obtain rfl := hv.is
  go_simp
  refine hK _ ?_
  clear hK K hv
  refine Go.Flo.fw_loud rfl ?_ rfl (by simp) (fun wv hwv hav K hK => ?_) (fun v hv K hK => ?_)
  · (first | exact Go.Mix.wanted_none rfl | exact Go.Mix.wanted_tt rfl rfl rfl | exact Go.Mix.wanted_ff rfl rfl rfl)
  · obtain ⟨iv, rfl⟩ := hwv
    (first | go_big_op | go_simp)
    refine hK _ _ (Go.Flo.owes_row (HW.out iv).size)
  obtain ⟨xb, hxb, rfl⟩ := hv.row
  go_simp
  refine hK _ ?_
  clear hK K hv
  refine Go.Flo.fw_loud rfl ?_ rfl (by simp) (fun wv hwv hav K hK => ?_) (fun v hv K hK => ?_)
  · (first | exact Go.Mix.wanted_none rfl | exact Go.Mix.wanted_tt rfl rfl rfl | exact Go.Mix.wanted_ff rfl rfl rfl)
  · obtain ⟨iv, rfl⟩ := hwv
    have hbv := HW.out iv
    (first | go_big_op | go_simp)
    have hrow := Go.Flo.says_row ((hav 17 (by decide +kernel)).2 rfl).1
    go_at_call 46
    refine (Of_any _ 2 2 _ [3, 4] _ rfl (Nat.le_refl _) (rd_intsS (l := [3, 4]) hrow (by decide))).mono ?_
    rintro e w' ⟨rfl, hb⟩
    exact hK _ _ (Go.Flo.owes_is _ rfl hb)
  obtain rfl := hv.is
  go_simp
  refine hK _ ?_
  clear hK K hv
  refine Go.Flo.fw_loud rfl ?_ rfl (by simp) (fun wv hwv hav K hK => ?_) (fun v hv K hK => ?_)
  · (first | exact Go.Mix.wanted_none rfl | exact Go.Mix.wanted_tt rfl rfl rfl | exact Go.Mix.wanted_ff rfl rfl rfl)
  · obtain ⟨iv, rfl⟩ := hwv
    (first | go_big_op | go_simp)
    refine hK _ _ (Go.Flo.owes_row (HW.out iv).size)
  obtain ⟨xc, hxc, rfl⟩ := hv.row
  go_simp
  refine hK _ ?_
  clear hK K hv
  (refine Go.Flo.fw_calm rfl ?_ (fun K hK => ?_); (first | exact Go.Mix.wanted_none rfl | exact Go.Mix.wanted_tt rfl rfl rfl | exact Go.Mix.wanted_ff rfl rfl rfl); refine Go.Flo.quiet_load_row 62 _ rfl g1 rfl _ #[.int .u16 ((exL 0 : Nat) : Int), .int .u16 ((exL 1 : Nat) : Int), .int .u16 ((exL 2 : Nat) : Int), .int .u16 ((exL 3 : Nat) : Int), .int .u16 ((exL 4 : Nat) : Int), .int .u16 ((exL 5 : Nat) : Int), .int .u16 ((exL 6 : Nat) : Int), .int .u16 ((exL 7 : Nat) : Int), .int .u16 ((exL 8 : Nat) : Int), .int .u16 ((exL 9 : Nat) : Int), .int .u16 ((exL 10 : Nat) : Int), .int .u16 ((exL 11 : Nat) : Int), .int .u16 ((exL 12 : Nat) : Int), .int .u16 ((exL 13 : Nat) : Int), .int .u16 ((exL 14 : Nat) : Int), .int .u16 ((exL 15 : Nat) : Int)] _ (by rintro _ ⟨i, rfl⟩; exact ((HW.out i).block g1 y1).trans (HQ4.out.of 0 rfl)) Try.underlying62 rfl size_lk ?_; go_simp; refine hK _ ?_; clear hK K)
  refine Go.Flo.fw_loud rfl ?_ rfl (by simp) (fun wv hwv hav K hK => ?_) (fun v hv K hK => ?_)
  · (first | exact Go.Mix.wanted_none rfl | exact Go.Mix.wanted_tt rfl rfl rfl | exact Go.Mix.wanted_ff rfl rfl rfl)
  · obtain ⟨iv, rfl⟩ := hwv
    have hrow := Go.Flo.says_row ((hav 19 (by decide +kernel)).1.2 rfl).1
    have hbs := (HW.out iv).size
    (first | go_big_op | go_simp)
    go_at_call 30
    refine (lay_any _ 2 2 _ [6, 24] exL _ rfl (by decide) ex_lt (Nat.le_refl _) (rd_setsS (l := [6, 24]) (by rw [HSET.out]; exact hrow) (by decide))).mono ?_
    rintro e w' ⟨a1, c1, a2, c2, rfl, h1, h2, hb⟩
    rw [ex_lays] at h1 h2 ⊢
    exact hK _ _ (owes_lay rfl hb h1 h2 hbs)
  obtain ⟨a1, c1, a2, c2, rfl⟩ := ex_lay hv
  go_simp
  refine hK _ ?_
  clear hK K hv
  (repeat (first | (refine Go.Flo.fw_calm rfl ?_ (fun K hK => ?_); (first | exact Go.Mix.wanted_none rfl | exact Go.Mix.wanted_tt rfl rfl rfl | exact Go.Mix.wanted_ff rfl rfl rfl); go_big_quiet_op; refine hK _ ?_; clear hK K) | (refine Go.Flo.fw_skip ?_ (fun K hK => ?_); (first | exact Go.Mix.wanted_tf rfl rfl rfl | exact Go.Mix.wanted_ft rfl rfl rfl); go_simp; refine hK _ ?_; clear hK K) | (refine Go.Flo.fw_any rfl ?_ (fun K hK => ?_); (first | exact Go.Mix.wanted_none rfl | exact Go.Mix.wanted_tt rfl rfl rfl | exact Go.Mix.wanted_ff rfl rfl rfl); go_simp; (try (go_ints; try go_simp)); refine hK _ ?_; clear hK K)))
  refine Go.Flo.fw_loud rfl ?_ rfl (by simp) (fun wv hwv hav K hK => ?_) (fun v hv K hK => ?_)
  · (first | exact Go.Mix.wanted_none rfl | exact Go.Mix.wanted_tt rfl rfl rfl | exact Go.Mix.wanted_ff rfl rfl rfl)
  · obtain ⟨iv, rfl⟩ := hwv
    (first | go_big_op | go_simp)
    refine hK _ _ (Go.Flo.owes_ptr (HW.out iv).size)
  obtain ⟨ga, hga, rfl, hnga⟩ := hv.ptr rfl
  go_simp
  refine hK _ ?_
  clear hK K hv
  refine Go.Flo.fw_loud rfl ?_ rfl (by simp) (fun wv hwv hav K hK => ?_) (fun v hv K hK => ?_)
  · (first | exact Go.Mix.wanted_none rfl | exact Go.Mix.wanted_tt rfl rfl rfl | exact Go.Mix.wanted_ff rfl rfl rfl)
  · obtain ⟨iv, rfl⟩ := hwv
    (first | go_big_op | go_simp)
    refine hK _ _ (Go.Flo.owes_ptr (HW.out iv).size)
  obtain ⟨gb, hgb, rfl, hngb⟩ := hv.ptr rfl
  go_simp
  refine hK _ ?_
  clear hK K hv
  refine Go.Flo.fw_nil ?_
  intro w5 hww5 hfw5 huw5
  obtain ⟨iend, hiend⟩ := hww5
  have hbw5 := HW.out iend
  rw [← hiend] at hbw5
  clear hiend iend huw5
  have h2 := Go.Flo.says_ptr ((hfw5 (some 2)).1.2 rfl).1
  have h3 := Go.Flo.says_ptr ((hfw5 (some 3)).2 rfl).1
  obtain ⟨p1, q1, p2, q2, hte, ho5, hr5⟩ := ((hfw5 (some 21)).1.1.1.1.1.2 rfl).1
  simp only [Value.tuple.injEq, Array.mk.injEq, List.cons.injEq, Value.agg.injEq, Value.slice.injEq, true_and, and_true] at hte
  obtain ⟨⟨rfl, rfl⟩, rfl, rfl⟩ := hte
  have hq5 := HQ4.out.step hbw5
  have n12 := box_ne (hq5.of 0 rfl) h2 (by decide)
  have n13 := box_ne (hq5.of 0 rfl) h3 (by decide)
  have n23 := box_ne h2 h3 (by decide)
  have hs4 := HQ4.out.be.size
  have hq6 := (hq5.more (g := ga) (by intro x hx; simp at hx; subst hx; exact n12) (Nat.le_trans hs4 hga) h2).more (g := gb) (by intro x hx; simp at hx; rcases hx with rfl | rfl; exact n13; exact n23) (Nat.le_trans hs4 hgb) h3
  have hq7 := hq6.put 1 rfl #[.slice a1 2 c1, .int .u16 ((exL 0 : Nat) : Int), .int .u16 ((exL 1 : Nat) : Int), .int .u16 ((exL 2 : Nat) : Int), .int .u16 ((exL 3 : Nat) : Int), .int .u16 ((exL 4 : Nat) : Int), .int .u16 ((exL 5 : Nat) : Int), .int .u16 ((exL 6 : Nat) : Int), .int .u16 ((exL 7 : Nat) : Int), .int .u16 ((exL 8 : Nat) : Int), .int .u16 ((exL 9 : Nat) : Int), .int .u16 ((exL 10 : Nat) : Int), .int .u16 ((exL 11 : Nat) : Int), .int .u16 ((exL 12 : Nat) : Int), .int .u16 ((exL 13 : Nat) : Int), .int .u16 ((exL 14 : Nat) : Int), .int .u16 ((exL 15 : Nat) : Int)]
  have h3' := hq7.of 2 rfl
  have hq8 := hq7.put 2 rfl #[.slice a2 2 c2, .int .u16 ((exL 0 : Nat) : Int), .int .u16 ((exL 1 : Nat) : Int), .int .u16 ((exL 2 : Nat) : Int), .int .u16 ((exL 3 : Nat) : Int), .int .u16 ((exL 4 : Nat) : Int), .int .u16 ((exL 5 : Nat) : Int), .int .u16 ((exL 6 : Nat) : Int), .int .u16 ((exL 7 : Nat) : Int), .int .u16 ((exL 8 : Nat) : Int), .int .u16 ((exL 9 : Nat) : Int), .int .u16 ((exL 10 : Nat) : Int), .int .u16 ((exL 11 : Nat) : Int), .int .u16 ((exL 12 : Nat) : Int), .int .u16 ((exL 13 : Nat) : Int), .int .u16 ((exL 14 : Nat) : Int), .int .u16 ((exL 15 : Nat) : Int)]
  have hg1 := grown_rowS w5 ga #[.slice a1 2 c1, .int .u16 ((exL 0 : Nat) : Int), .int .u16 ((exL 1 : Nat) : Int), .int .u16 ((exL 2 : Nat) : Int), .int .u16 ((exL 3 : Nat) : Int), .int .u16 ((exL 4 : Nat) : Int), .int .u16 ((exL 5 : Nat) : Int), .int .u16 ((exL 6 : Nat) : Int), .int .u16 ((exL 7 : Nat) : Int), .int .u16 ((exL 8 : Nat) : Int), .int .u16 ((exL 9 : Nat) : Int), .int .u16 ((exL 10 : Nat) : Int), .int .u16 ((exL 11 : Nat) : Int), .int .u16 ((exL 12 : Nat) : Int), .int .u16 ((exL 13 : Nat) : Int), .int .u16 ((exL 14 : Nat) : Int), .int .u16 ((exL 15 : Nat) : Int)]
  have ho9 := ho5.kept hg1 (.inr (Ne.symm (box_apart h2 ho5 (by decide))))
  have hg2 := grown_rowS (w5.setRow ga #[.slice a1 2 c1, .int .u16 ((exL 0 : Nat) : Int), .int .u16 ((exL 1 : Nat) : Int), .int .u16 ((exL 2 : Nat) : Int), .int .u16 ((exL 3 : Nat) : Int), .int .u16 ((exL 4 : Nat) : Int), .int .u16 ((exL 5 : Nat) : Int), .int .u16 ((exL 6 : Nat) : Int), .int .u16 ((exL 7 : Nat) : Int), .int .u16 ((exL 8 : Nat) : Int), .int .u16 ((exL 9 : Nat) : Int), .int .u16 ((exL 10 : Nat) : Int), .int .u16 ((exL 11 : Nat) : Int), .int .u16 ((exL 12 : Nat) : Int), .int .u16 ((exL 13 : Nat) : Int), .int .u16 ((exL 14 : Nat) : Int), .int .u16 ((exL 15 : Nat) : Int)]) gb #[.slice a2 2 c2, .int .u16 ((exL 0 : Nat) : Int), .int .u16 ((exL 1 : Nat) : Int), .int .u16 ((exL 2 : Nat) : Int), .int .u16 ((exL 3 : Nat) : Int), .int .u16 ((exL 4 : Nat) : Int), .int .u16 ((exL 5 : Nat) : Int), .int .u16 ((exL 6 : Nat) : Int), .int .u16 ((exL 7 : Nat) : Int), .int .u16 ((exL 8 : Nat) : Int), .int .u16 ((exL 9 : Nat) : Int), .int .u16 ((exL 10 : Nat) : Int), .int .u16 ((exL 11 : Nat) : Int), .int .u16 ((exL 12 : Nat) : Int), .int .u16 ((exL 13 : Nat) : Int), .int .u16 ((exL 14 : Nat) : Int), .int .u16 ((exL 15 : Nat) : Int)]
  have HO8 := Lib.hid (ho9.kept hg2 (.inr (Ne.symm (box_apart h3' ho9 (by decide)))))
  have HQ8 := Lib.hid hq8
  clear hfw5 HJ HW hne hbw5 hq5 n12 n13 n23 hs4 hq6 hq7 hq8 hg1 ho9 hg2 ho5 hr5 hnga hngb hga hgb
  clear W I
  refine ⟨fun _ => True, trivial, ?_⟩

  (refine Go.Mix.walk_loud rfl ?_ (fun K hK => ?_); (first | exact Go.Mix.wanted_none rfl | exact Go.Mix.wanted_tt rfl rfl rfl | exact Go.Mix.wanted_ff rfl rfl rfl); refine wp_store_row 65 _ _ rfl _ #[.slice a1 2 c1, .int .u16 ((exL 0 : Nat) : Int), .int .u16 ((exL 1 : Nat) : Int), .int .u16 ((exL 2 : Nat) : Int), .int .u16 ((exL 3 : Nat) : Int), .int .u16 ((exL 4 : Nat) : Int), .int .u16 ((exL 5 : Nat) : Int), .int .u16 ((exL 6 : Nat) : Int), .int .u16 ((exL 7 : Nat) : Int), .int .u16 ((exL 8 : Nat) : Int), .int .u16 ((exL 9 : Nat) : Int), .int .u16 ((exL 10 : Nat) : Int), .int .u16 ((exL 11 : Nat) : Int), .int .u16 ((exL 12 : Nat) : Int), .int .u16 ((exL 13 : Nat) : Int), .int .u16 ((exL 14 : Nat) : Int), .int .u16 ((exL 15 : Nat) : Int)] rfl rfl 65 _ h2 size_mp rfl (by simp [Value.oneCell']) (hK _ _ trivial ?_); clear hK K)
  (refine Go.Mix.walk_loud rfl ?_ (fun K hK => ?_); (first | exact Go.Mix.wanted_none rfl | exact Go.Mix.wanted_tt rfl rfl rfl | exact Go.Mix.wanted_ff rfl rfl rfl); refine wp_store_row 69 _ _ rfl _ #[.slice a2 2 c2, .int .u16 ((exL 0 : Nat) : Int), .int .u16 ((exL 1 : Nat) : Int), .int .u16 ((exL 2 : Nat) : Int), .int .u16 ((exL 3 : Nat) : Int), .int .u16 ((exL 4 : Nat) : Int), .int .u16 ((exL 5 : Nat) : Int), .int .u16 ((exL 6 : Nat) : Int), .int .u16 ((exL 7 : Nat) : Int), .int .u16 ((exL 8 : Nat) : Int), .int .u16 ((exL 9 : Nat) : Int), .int .u16 ((exL 10 : Nat) : Int), .int .u16 ((exL 11 : Nat) : Int), .int .u16 ((exL 12 : Nat) : Int), .int .u16 ((exL 13 : Nat) : Int), .int .u16 ((exL 14 : Nat) : Int), .int .u16 ((exL 15 : Nat) : Int)] rfl rfl 69 _ h3' size_rm rfl (by simp [Value.oneCell']) (hK _ _ trivial ?_); clear hK K)
  refine Go.Mix.walk_nil ?_
  simp only [Act.put]
  obtain ⟨w8, hw8⟩ : ∃ w8, w8 = (w5.setRow ga #[.slice a1 2 c1, .int .u16 ((exL 0 : Nat) : Int), .int .u16 ((exL 1 : Nat) : Int), .int .u16 ((exL 2 : Nat) : Int), .int .u16 ((exL 3 : Nat) : Int), .int .u16 ((exL 4 : Nat) : Int), .int .u16 ((exL 5 : Nat) : Int), .int .u16 ((exL 6 : Nat) : Int), .int .u16 ((exL 7 : Nat) : Int), .int .u16 ((exL 8 : Nat) : Int), .int .u16 ((exL 9 : Nat) : Int), .int .u16 ((exL 10 : Nat) : Int), .int .u16 ((exL 11 : Nat) : Int), .int .u16 ((exL 12 : Nat) : Int), .int .u16 ((exL 13 : Nat) : Int), .int .u16 ((exL 14 : Nat) : Int), .int .u16 ((exL 15 : Nat) : Int)]).setRow gb #[.slice a2 2 c2, .int .u16 ((exL 0 : Nat) : Int), .int .u16 ((exL 1 : Nat) : Int), .int .u16 ((exL 2 : Nat) : Int), .int .u16 ((exL 3 : Nat) : Int), .int .u16 ((exL 4 : Nat) : Int), .int .u16 ((exL 5 : Nat) : Int), .int .u16 ((exL 6 : Nat) : Int), .int .u16 ((exL 7 : Nat) : Int), .int .u16 ((exL 8 : Nat) : Int), .int .u16 ((exL 9 : Nat) : Int), .int .u16 ((exL 10 : Nat) : Int), .int .u16 ((exL 11 : Nat) : Int), .int .u16 ((exL 12 : Nat) : Int), .int .u16 ((exL 13 : Nat) : Int), .int .u16 ((exL 14 : Nat) : Int), .int .u16 ((exL 15 : Nat) : Int)] := ⟨_, rfl⟩
  rw [← hw8] at HQ8 HO8 ⊢
  clear hw8 h2 h3 h3'
  have b1 := HQ8.out.of 1 rfl
  have HM8 := Lib.hid (map_own HO8.out (by decide) ex_lt (by decide))
  go_wp2_with ((with_reducible show wpList _ _ _ (_ :: _) _ _); refine wpList_load_row rfl 65 _ rfl _ rfl _ _ _ _ b1 Try.underlying65 rfl (by exact size_mp) ?_; (try go_simp))
  obtain ⟨x0, x1, x2, x3⟩ := ex_one
  obtain ⟨y0, y1', y2⟩ := ex_two
  obtain ⟨X, hX⟩ : ∃ X, X = findR [6, 24] exL noneC 0 := ⟨_, rfl⟩
  obtain ⟨Y, hY⟩ : ∃ Y, Y = findR [6, 24] exL noneC 16 := ⟨_, rfl⟩
  have HX := Lib.hid hX
  have HY := Lib.hid hY
  rw [← hX] at x0 x1 x2 x3
  rw [← hY] at y0 y1' y2
  have dX : decide (0 < X.n) = true := by rw [x0]; rfl
  have dY : decide (0 < Y.n) = true := by rw [y0]; rfl
  obtain ⟨c, hc⟩ : ∃ c, c = nearC X := ⟨_, rfl⟩
  obtain ⟨d, hd⟩ : ∃ d, d = nearC Y := ⟨_, rfl⟩
  have HC := Lib.hid hc
  have HD := Lib.hid hd
  rw [← hc] at x1 x2 x3
  rw [← hd] at y1' y2
  have DX := Lib.hid dX
  have DY := Lib.hid dY
  have Z1 := Lib.hid x1
  have Z2 := Lib.hid x2
  have Z3 := Lib.hid x3
  have Z4 := Lib.hid y1'
  have Z5 := Lib.hid y2
  clear hX hY x0 y0 dX dY hc hd x1 x2 x3 y1' y2
  go_at_call 32
  refine (Search_any HM8.out 0 (by decide)).mono ?_
  rintro e w9 ⟨rfl, hb⟩
  rw [← HX.out, DX.out, ← HC.out]
  have HQ9 := Lib.hid (HQ8.out.step hb)
  have HO9 := Lib.hid (own_keepZ HO8.out hb)
  have hqn := HQ9.out.new #[.int .i8 (c 0), .int .i8 (c 1), .int .i8 (c 2), .int .i8 (c 3), .int .i8 (c 4), .int .i8 (c 5)] 76
  have hon := own_keepZ HO9.out ((Below.refl w9.heap.size w9).alloc (Nat.le_refl _) (.cells #[.int .i8 (c 0), .int .i8 (c 1), .int .i8 (c 2), .int .i8 (c 3), .int .i8 (c 4), .int .i8 (c 5)] 76))
  clear hb HQ8 HO8 HM8 b1
  go_upto_region 5 with ((with_reducible show wpList _ _ _ (_ :: _) _ _); refine wpList_store_row rfl 76 _ _ rfl _ _ rfl rfl _ _ (heap_alloc_new _ _) (by exact size_ch) (by rfl) (by simp [Value.oneCell']) ?_; rw [World.setRow_alloc_new])
  obtain ⟨w10, hw10⟩ : ∃ w10, w10 = w9.alloc (.cells #[.int .i8 (c 0), .int .i8 (c 1), .int .i8 (c 2), .int .i8 (c 3), .int .i8 (c 4), .int .i8 (c 5)] 76) := ⟨_, rfl⟩
  obtain ⟨gc, hgc⟩ : ∃ g, g = w9.heap.size := ⟨_, rfl⟩
  rw [← hw10] at hqn hon ⊢
  rw [← hgc] at hqn ⊢
  have HQX := Lib.hid hqn
  have HOX := Lib.hid hon
  clear hw10 hgc hqn hon HQ9 HO9
  have b1 := HQX.out.of 1 rfl
  have z1 := box_lt b1
  obtain ⟨I, W, hne, hWI, hIW⟩ := Go.Mix.family (fun v => Below w10.heap.size w10 v) (Below.refl _ _)
  have HJ := Lib.hid hIW
  have HW := Lib.hid hWI
  clear hWI hIW
  refine Go.Flo3.wp_region (fun w' => ∃ i, w' = W i) 8 [Go.Flo.Spec.row w10.heap.size 1 #[.int .i64 4] 3, Go.Flo.Spec.is (.int .u16 16), Go.Flo.Spec.is (.tuple #[.agg #[.int .i8 (d 0), .int .i8 (d 1), .int .i8 (d 2), .int .i8 (d 3), .int .i8 (d 4), .int .i8 (d 5)], .bool true]), Go.Flo.Spec.ptr w10.heap.size (#[.int .i8 0, .int .i8 0, .int .i8 0, .int .i8 0, .int .i8 0, .int .i8 0] : Array Value) 76] (by kernel_rfl) (by kernel_rfl) (by decide) (by rintro _ w' ⟨i, rfl⟩ hb; exact HJ.out _ ((HW.out i).trans (hb.mono (HW.out i).size))) (HJ.out _ (Below.refl _ _).drew) ?_
  simp only [Go.Flo.pair, Go.Mix.calm, List.take, List.drop, if_true, Bool.false_eq_true, if_false, Nat.reduceAdd, Nat.reduceSub]
  (refine Go.Flo.fw_calm rfl ?_ (fun K hK => ?_); (first | exact Go.Mix.wanted_none rfl | exact Go.Mix.wanted_tt rfl rfl rfl | exact Go.Mix.wanted_ff rfl rfl rfl); refine Go.Flo.quiet_load_row 65 _ rfl ga rfl _ #[.slice a1 2 c1, .int .u16 ((exL 0 : Nat) : Int), .int .u16 ((exL 1 : Nat) : Int), .int .u16 ((exL 2 : Nat) : Int), .int .u16 ((exL 3 : Nat) : Int), .int .u16 ((exL 4 : Nat) : Int), .int .u16 ((exL 5 : Nat) : Int), .int .u16 ((exL 6 : Nat) : Int), .int .u16 ((exL 7 : Nat) : Int), .int .u16 ((exL 8 : Nat) : Int), .int .u16 ((exL 9 : Nat) : Int), .int .u16 ((exL 10 : Nat) : Int), .int .u16 ((exL 11 : Nat) : Int), .int .u16 ((exL 12 : Nat) : Int), .int .u16 ((exL 13 : Nat) : Int), .int .u16 ((exL 14 : Nat) : Int), .int .u16 ((exL 15 : Nat) : Int)] _ (by rintro _ ⟨i, rfl⟩; exact ((HW.out i).block ga z1).trans b1) Try.underlying65 rfl size_mp ?_; go_simp; refine hK _ ?_; clear hK K)
  refine Go.Flo.fw_loud rfl ?_ rfl (by simp) (fun wv hwv hav K hK => ?_) (fun v hv K hK => ?_)
  · (first | exact Go.Mix.wanted_none rfl | exact Go.Mix.wanted_tt rfl rfl rfl | exact Go.Mix.wanted_ff rfl rfl rfl)
  · obtain ⟨iv, rfl⟩ := hwv
    (first | go_big_op | go_simp)
    refine hK _ _ (Go.Flo.owes_row (HW.out iv).size)
  obtain ⟨xd, hxd, rfl⟩ := hv.row
  go_simp
  refine hK _ ?_
  clear hK K hv
  refine Go.Flo.fw_loud rfl ?_ rfl (by simp) (fun wv hwv hav K hK => ?_) (fun v hv K hK => ?_)
  · (first | exact Go.Mix.wanted_none rfl | exact Go.Mix.wanted_tt rfl rfl rfl | exact Go.Mix.wanted_ff rfl rfl rfl)
  · obtain ⟨iv, rfl⟩ := hwv
    have hbv := HW.out iv
    (first | go_big_op | go_simp)
    have hrow := Go.Flo.says_row ((hav 31 (by decide +kernel)).2 rfl).1
    go_at_call 46
    refine (Of_any _ 1 1 _ [4] _ rfl (Nat.le_refl _) (rd_intsS (l := [4]) hrow (by decide))).mono ?_
    rintro e w' ⟨rfl, hb⟩
    exact hK _ _ (Go.Flo.owes_is _ rfl hb)
  obtain rfl := hv.is
  go_simp
  refine hK _ ?_
  clear hK K hv
  refine Go.Flo.fw_loud rfl ?_ rfl (by simp) (fun wv hwv hav K hK => ?_) (fun v hv K hK => ?_)
  · (first | exact Go.Mix.wanted_none rfl | exact Go.Mix.wanted_tt rfl rfl rfl | exact Go.Mix.wanted_ff rfl rfl rfl)
  · obtain ⟨iv, rfl⟩ := hwv
    have hbv := HW.out iv
    (first | go_big_op | go_simp)
    go_at_call 32
    refine (Search_any (map_own (own_keepZ HOX.out hbv) (by decide) ex_lt (by decide)) 16 (by decide)).mono ?_
    rintro e w' ⟨rfl, hb⟩
    rw [← HY.out, DY.out, ← HD.out]
    exact hK _ _ (Go.Flo.owes_is _ rfl hb)
  obtain rfl := hv.is
  go_simp
  refine hK _ ?_
  clear hK K hv
  (repeat (first | (refine Go.Flo.fw_calm rfl ?_ (fun K hK => ?_); (first | exact Go.Mix.wanted_none rfl | exact Go.Mix.wanted_tt rfl rfl rfl | exact Go.Mix.wanted_ff rfl rfl rfl); go_big_quiet_op; refine hK _ ?_; clear hK K) | (refine Go.Flo.fw_skip ?_ (fun K hK => ?_); (first | exact Go.Mix.wanted_tf rfl rfl rfl | exact Go.Mix.wanted_ft rfl rfl rfl); go_simp; refine hK _ ?_; clear hK K) | (refine Go.Flo.fw_any rfl ?_ (fun K hK => ?_); (first | exact Go.Mix.wanted_none rfl | exact Go.Mix.wanted_tt rfl rfl rfl | exact Go.Mix.wanted_ff rfl rfl rfl); go_simp; (try (go_ints; try go_simp)); refine hK _ ?_; clear hK K)))
  refine Go.Flo.fw_loud rfl ?_ rfl (by simp) (fun wv hwv hav K hK => ?_) (fun v hv K hK => ?_)
  · (first | exact Go.Mix.wanted_none rfl | exact Go.Mix.wanted_tt rfl rfl rfl | exact Go.Mix.wanted_ff rfl rfl rfl)
  · obtain ⟨iv, rfl⟩ := hwv
    (first | go_big_op | go_simp)
    refine hK _ _ (Go.Flo.owes_ptr (HW.out iv).size)
  obtain ⟨gd, hgd, rfl, hngd⟩ := hv.ptr rfl
  go_simp
  refine hK _ ?_
  clear hK K hv
  refine Go.Flo.fw_nil ?_
  intro w11 hww11 hfw11 huw11
  obtain ⟨iend, hiend⟩ := hww11
  have hbw11 := HW.out iend
  rw [← hiend] at hbw11
  clear hiend iend huw11
  have h6 := Go.Flo.says_ptr ((hfw11 (some 6)).2 rfl).1
  have hq11 := HQX.out.step hbw11
  have ngd : gc ≠ gd := by have := box_lt (HQX.out.of 3 rfl); omega
  have ng1 : g1 ≠ gd := by have := box_lt (HQX.out.of 0 rfl); omega
  have nga : ga ≠ gd := by have := box_lt (HQX.out.of 1 rfl); omega
  have ngb : gb ≠ gd := by have := box_lt (HQX.out.of 2 rfl); omega
  have hq12 := hq11.more (g := gd) (by intro x hx; simp at hx; rcases hx with rfl | rfl | rfl | rfl; exact ng1; exact nga; exact ngb; exact ngd) (Nat.le_trans HQX.out.be.size hgd) h6
  have HQ13 := Lib.hid (hq12.put 4 rfl #[.int .i8 (d 0), .int .i8 (d 1), .int .i8 (d 2), .int .i8 (d 3), .int .i8 (d 4), .int .i8 (d 5)])
  clear hfw11 HJ HW hne hbw11 hq11 hq12 ngd ng1 nga ngb hngd hgd b1 z1
  clear W I
  refine ⟨fun _ => True, trivial, ?_⟩

  (refine Go.Mix.walk_loud rfl ?_ (fun K hK => ?_); (first | exact Go.Mix.wanted_none rfl | exact Go.Mix.wanted_tt rfl rfl rfl | exact Go.Mix.wanted_ff rfl rfl rfl); refine wp_store_row 76 _ _ rfl _ #[.int .i8 (d 0), .int .i8 (d 1), .int .i8 (d 2), .int .i8 (d 3), .int .i8 (d 4), .int .i8 (d 5)] rfl rfl 76 _ h6 size_ch rfl (by simp [Value.oneCell']) (hK _ _ trivial ?_); clear hK K)
  (repeat (first | (refine Go.Mix.walk_calm rfl ?_ (fun K hK => ?_); (first | exact Go.Mix.wanted_none rfl | exact Go.Mix.wanted_tt rfl rfl rfl | exact Go.Mix.wanted_ff rfl rfl rfl); go_big_quiet_op; refine hK _ ?_; clear hK K) | (refine Go.Mix.walk_skip ?_ (fun K hK => ?_); (first | exact Go.Mix.wanted_tf rfl rfl rfl | exact Go.Mix.wanted_ft rfl rfl rfl); go_simp; refine hK _ ?_; clear hK K) | (refine Go.Mix.walk_loud rfl ?_ (fun K hK => ?_); (first | exact Go.Mix.wanted_none rfl | exact Go.Mix.wanted_tt rfl rfl rfl | exact Go.Mix.wanted_ff rfl rfl rfl); (first | go_big_op | go_simp); (first | (refine hK _ _ trivial ?_; clear hK K) | (fail; (try dsimp only); refine hK _ _ trivial ?_; clear hK K))) | (refine Go.Mix.walk_step (fun K hK => ?_); go_simp; (try (go_ints; try go_simp)); refine hK _ _ ?_; clear hK K)))
  refine Go.Mix.walk_nil ?_
  (try simp only [Act.put])
  obtain ⟨w13, hw13⟩ : ∃ w13, w13 = w11.setRow gd #[.int .i8 (d 0), .int .i8 (d 1), .int .i8 (d 2), .int .i8 (d 3), .int .i8 (d 4), .int .i8 (d 5)] := ⟨_, rfl⟩
  rw [← hw13] at HQ13 ⊢
  clear hw13 h6
  have k0 : w13.cell? ⟨gc, 0, none⟩ = some (.int .i8 1) := by rw [← Z1.out]; exact cell_of_row _ _ 0 _ _ _ (HQ13.out.of 3 rfl)
  have k1 : w13.cell? ⟨gc, 1, none⟩ = some (.int .i8 4) := by rw [← Z2.out]; exact cell_of_row _ _ 1 _ _ _ (HQ13.out.of 3 rfl)
  have k2 : w13.cell? ⟨gc, 2, none⟩ = some (.int .i8 (-1)) := by rw [← Z3.out]; exact cell_of_row _ _ 2 _ _ _ (HQ13.out.of 3 rfl)
  have k3 : w13.cell? ⟨gd, 0, none⟩ = some (.int .i8 2) := by rw [← Z4.out]; exact cell_of_row _ _ 0 _ _ _ (HQ13.out.of 4 rfl)
  have k4 : w13.cell? ⟨gd, 1, none⟩ = some (.int .i8 3) := by rw [← Z5.out]; exact cell_of_row _ _ 1 _ _ _ (HQ13.out.of 4 rfl)
  go_wp2_with fail
  go_at_call 46
  refine (Of_any _ 1 1 _ [1] _ rfl (Nat.le_refl _) (rd_intsS (l := [1]) (heap_alloc_new _ _) (by decide))).mono ?_
  rintro e w14 ⟨rfl, hb⟩
  have HB := Lib.hid (HQ13.out.be.trans (((Below.refl w13.heap.size w13).alloc (Nat.le_refl _) (.cells #[.int .i64 1] 3)).mono HQ13.out.be.size))
  have HB2 := Lib.hid (HB.out.trans (hb.mono HB.out.size))
  clear hb
  go_wp2_with fail
  go_at_call 41
  refine (Has_any 2 1 _ (by decide)).mono ?_
  rintro e w15 ⟨rfl, hb⟩
  have HB3 := Lib.hid (HB2.out.trans (hb.mono HB2.out.size))
  rw [show decide (2 &&& bit1 1 ≠ 0) = true from by decide]
  clear hb k0 k1 k2 k3 k4
  go_wp2_with fail
  go_ret
  exact ⟨rfl, HB3.out⟩
end Go.Proofs.Ytioclbkgfbjpdaa
