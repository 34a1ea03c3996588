/- Contracts of layer 6 (cells), on: the vote. -/
import Derived.Test.YtpgophkegjeheaaCel3
namespace Go.Proofs.Ytpgophkegjeheaa
open Go.RowKit Go.Own
set_option linter.unusedVariables false
set_option linter.unusedSimpArgs false

theorem tabV_one' : tabV.all (·.oneCell') = true := by rw [← rowV_all]; exact rowV_one 256
/-- How many of the first k can be read, and which of them has the greatest number. -/
def vst (ls : Nat → List Nat) : Nat → Nat × Nat
  | 0 => (0, 0)
  | k + 1 => if perr (ls k) = 0 then ((vst ls k).1 + 1, if (vst ls k).1 = 0 ∨ pseq (ls (vst ls k).2) < pseq (ls k) then k else (vst ls k).2) else vst ls k
theorem vst_le (ls : Nat → List Nat) : ∀ k, (vst ls k).1 ≤ k
  | 0 => Nat.le_refl _
  | k + 1 => by have := vst_le ls k; unfold vst; split <;> simp <;> omega
theorem vst_lt (ls : Nat → List Nat) : ∀ k, 0 < (vst ls k).1 → (vst ls k).2 < k
  | 0, h => by simp [vst] at h
  | k + 1, h => by
    have ih := vst_lt ls k
    unfold vst at h ⊢
    split
    · simp only []
      split
      · omega
      · rename_i h1 h2
        have := ih (by omega)
        omega
    · rename_i h1
      rw [if_neg h1] at h
      have := ih h
      omega
theorem vst_err (ls : Nat → List Nat) (k : Nat) (h : perr (ls k) ≠ 0) : vst ls (k + 1) = vst ls k := by rw [vst, if_neg h]
theorem vst_new (ls : Nat → List Nat) (k : Nat) (h : perr (ls k) = 0) (h' : (vst ls k).1 = 0 ∨ pseq (ls (vst ls k).2) < pseq (ls k)) : vst ls (k + 1) = ((vst ls k).1 + 1, k) := by rw [vst, if_pos h, if_pos h']
theorem vst_old (ls : Nat → List Nat) (k : Nat) (h : perr (ls k) = 0) (h' : ¬((vst ls k).1 = 0 ∨ pseq (ls (vst ls k).2) < pseq (ls k))) : vst ls (k + 1) = ((vst ls k).1 + 1, (vst ls k).2) := by rw [vst, if_pos h, if_neg h']
/-- What Vote hands back. -/
def VotePost (w : World) (ls : Nat → List Nat) (len : Nat) (e : Ending) (w' : World) : Prop :=
  Below w.heap.size w w' ∧ (((vst ls len).1 < 2 ∧ e = .returned (.tuple #[.int .u32 0, .slice none 0 0, .int .i64 3])) ∨
    (2 ≤ (vst ls len).1 ∧ ∃ x c, e = .returned (.tuple #[.int .u32 (pseq (ls (vst ls len).2) : Nat), .slice x (pdat (ls (vst ls len).2)).length c, .int .i64 0]) ∧ Rd w'.heap.size w' x (pdat (ls (vst ls len).2)).length c (bv (pdat (ls (vst ls len).2)))))

/-- A box of a number and a slice. -/
structure Box2 (w : World) (g : Nat) (u v : Value) : Prop where
  c0 : w.cell? ⟨g, 0, none⟩ = some u
  c1 : w.cell? ⟨g, 1, none⟩ = some v
  f0 : w.frozen? ⟨g, 0, none⟩ = false
  f1 : w.frozen? ⟨g, 1, none⟩ = false
theorem Box2.of {w : World} {g : Nat} {u v : Value} {t : TypeId} (h : w.heap[g]? = some (.cells #[u, v] t (0, 0))) : Box2 w g u v :=
  ⟨cell_of_row w g 0 _ _ _ h, cell_of_row w g 1 _ _ _ h, frozen_of_row w g 0 _ _ h, frozen_of_row w g 1 _ _ h⟩
theorem Box2.below {w w' : World} {g n : Nat} {u v : Value} (h : Box2 w g u v) (hb : Below n w w') (hg : g < n) : Box2 w' g u v :=
  ⟨(hb.cell (p := ⟨g, 0, none⟩) hg).trans h.c0, (hb.cell (p := ⟨g, 1, none⟩) hg).trans h.c1, (hb.frozen (p := ⟨g, 0, none⟩) hg).trans h.f0, (hb.frozen (p := ⟨g, 1, none⟩) hg).trans h.f1⟩
theorem Box2.stored {w : World} {g : Nat} {u v : Value} (h : Box2 w g u v) (u' v' : Value) : Box2 ((w.setCell ⟨g, 0, none⟩ u').setCell ⟨g, 1, none⟩ v') g u' v' := by
  obtain ⟨c0, c1, f0, f1⟩ := h
  refine ⟨?_, ?_, ?_, ?_⟩
  · go_simp
  · go_simp
  · go_simp
  · go_simp

theorem stored2 (w : World) (g : Nat) (u v : Value) : Below g w ((w.setCell ⟨g, 0, none⟩ u).setCell ⟨g, 1, none⟩ v) :=
  ((Below.refl g w).setCell (p := ⟨g, 0, none⟩) (Nat.le_refl _) u).setCell (p := ⟨g, 1, none⟩) (Nat.le_refl _) v
/-- What Vote hands back: the data lie in new memory. -/
def VoteOwn (w : World) (ls : Nat → List Nat) (len : Nat) (e : Ending) (w' : World) : Prop :=
  Below w.heap.size w w' ∧ (((vst ls len).1 < 2 ∧ e = .returned (.tuple #[.int .u32 0, .slice none 0 0, .int .i64 3])) ∨
    (2 ≤ (vst ls len).1 ∧ ∃ x c, e = .returned (.tuple #[.int .u32 (pseq (ls (vst ls len).2) : Nat), .slice x (pdat (ls (vst ls len).2)).length c, .int .i64 0]) ∧ w'.ownsRow w.heap.size 5 1 (.slice x (pdat (ls (vst ls len).2)).length c) (pdat (ls (vst ls len).2)).length (bl (pdat (ls (vst ls len).2)))))
set_option maxRecDepth 100000 in
set_option maxHeartbeats 4000000 in
theorem cVote_own (a : Option Addr) (len cap n : Nat) (pa : Nat → Option Addr) (pc : Nat → Nat) (ls : Nat → List Nat) (w : World) (hn : n ≤ w.heap.size)
    (hr : Rd n w a len cap (fun i => .slice (pa i) (ls i).length (pc i))) (hp : ∀ i, i < len → Rd n w (pa i) (ls i).length (pc i) (bv (ls i))) (hb : ∀ i, i < len → bytes (ls i)) (hm : ∀ i, i < len → (ls i).length ≤ 1000000) :
    Calls Try.prog 95 #[.slice a len cap] w (VoteOwn w ls len) := by
  have hzc := zero_content
  have hzt := zero_tab
  have h1 := hr.le
  have h2 := hr.top
  unfold maxLen at h2
  go_enter Try.func95, Try.ntmps95
  go_wp2_with fail
  go_at_call 97
  refine (Make_any _).mono ?_
  rintro e w1 ⟨rfl, hb1⟩
  go_wp2_with (refine wpList_store_row rfl 170 _ _ rfl w1.heap.size tabV rfl rfl 170 (rowV 0) (heap_alloc_new _ _) size_tab' (by rw [rowV_size, tabV_size]) tabV_one' ?_; rw [World.setRow_alloc_new])
  obtain ⟨gt, hgt⟩ : ∃ gt, gt = w1.heap.size := ⟨_, rfl⟩
  obtain ⟨W0, hW0⟩ : ∃ W0, W0 = (w1.alloc (.cells tabV 170)).alloc (.cells #[.int .u32 0, .slice none 0 0] 173) := ⟨_, rfl⟩
  have hT0 : IsTab W0 gt := by rw [hW0, hgt]; exact (IsTab.new w1).below (Below.alloc (Below.refl _ _) (Nat.le_refl _) _) (by simp)
  have hX0 : Box2 W0 (gt + 1) (.int .u32 0) (.slice none 0 0) := by rw [hW0, hgt]; exact Box2.of (heap_alloc2_new w1 _ _)
  have hB0 : Below w.heap.size w W0 := by rw [hW0]; exact (hb1.alloc hb1.size _).alloc (by simp; have := hb1.size; omega) _
  have hs0 : gt + 1 < W0.heap.size := by rw [hW0, hgt]; simp
  have hg0 : w.heap.size ≤ gt := by rw [hgt]; exact hb1.size
  rw [← hW0, ← hgt]
  clear hW0 hgt hb1
  go_loopw [7, 15] (fun c i wr => ∃ (k : Nat) (q m cc : Nat) (x : Option Addr), k ≤ len ∧ i = .int .i64 k ∧ c = .int .i64 ((vst ls k).1 : Nat) ∧ Below w.heap.size w wr ∧ IsTab wr gt ∧ gt + 1 < wr.heap.size ∧ Box2 wr (gt + 1) (.int .u32 q) (.slice x m cc) ∧
      (0 < (vst ls k).1 → q = pseq (ls (vst ls k).2) ∧ m = (pdat (ls (vst ls k).2)).length ∧ Rd n wr x m cc (bv (pdat (ls (vst ls k).2)))))
    (fun _ i _ => len - (intOf i).toNat)
  case atStart => exact ⟨0, 0, 0, 0, none, Nat.zero_le _, rfl, rfl, hB0, hT0, hs0, hX0, fun h => (by simp [vst] at h)⟩
  case round =>
    clear hT0 hX0 hB0 hs0
    obtain ⟨k, q, m, cc, x, hk, rfl, rfl, hB, hTr, hsz, hX, hin⟩ := hrel
    by_cases hlt : k < len
    · have hle := vst_le ls k
      obtain ⟨cnt, hcnt⟩ : ∃ cnt, cnt = (vst ls k).1 := ⟨_, rfl⟩
      rw [← hcnt] at hin hle ⊢
      have HCNT := Lib.hid hcnt
      clear hcnt
      obtain ⟨b, off, rfl, hbk, hc⟩ := (hr.below' hB hn).at hlt
      have HIN := Lib.hid hin
      have HX := Lib.hid hX
      clear hin hX
      go_wp2_with (refine wpList_load_row rfl 170 _ rfl gt rfl _ _ _ _ hTr Try.underlying170 rfl size_tab' ?_)
      go_at_call 98
      refine (open_any _ _ _ n (ls k) _ rfl (Nat.le_trans hn hB.size) ((hp k hlt).below' hB hn) (hb k hlt)).mono ?_
      rintro e w2 ⟨hb2, hpo⟩
      have hB2 := hB.trans (hb2.mono hB.size)
      have hT2 := hTr.below hb2 (by omega)
      have hsz2 := Nat.lt_of_lt_of_le hsz hb2.size
      have hX2 := HX.out.below hb2 hsz
      have hBs := hB.size
      clear hTr HX hB hc
      rcases hpo with ⟨he, x2, c2, rfl, hrd2⟩ | ⟨he, rfl⟩
      · obtain ⟨q2, hq2⟩ : ∃ q2, q2 = pseq (ls k) := ⟨_, rfl⟩
        obtain ⟨m2, hm2⟩ : ∃ m2, m2 = (pdat (ls k)).length := ⟨_, rfl⟩
        rw [← hm2] at hrd2 ⊢
        rw [← hq2]
        have HQ2 := Lib.hid hq2
        have HM2 := Lib.hid hm2
        have HRD2 := Lib.hid hrd2
        have HE := Lib.hid he
        clear hq2 hm2 hrd2 he
        have hb3 : Below w2.heap.size w2 (w2.alloc (.cells #[.int .u32 (q2 : Int), .slice x2 m2 c2] 173)) := (Below.refl _ _).alloc (Nat.le_refl _) _
        have HIN3 := Lib.hid (fun h : 0 < cnt => ((HIN.out h).2.2.below' hb2 (Nat.le_trans hn hBs)).below' hb3 (Nat.le_trans hn hB2.size))
        have HX3 := Lib.hid (hX2.below hb3 hsz2)
        have HT3 := Lib.hid (hT2.below hb3 (by omega))
        have HB3 := Lib.hid (hB2.trans (hb3.mono hB2.size))
        have HR3 := Lib.hid (HRD2.out.below' hb3 (Nat.le_trans hn hB2.size))
        have HS3 := Lib.hid (Nat.lt_of_lt_of_le hsz2 hb3.size)
        have HX2 := Lib.hid hX2
        have HT2 := Lib.hid hT2
        have HB2 := Lib.hid hB2
        obtain ⟨c0, c1, f0, f1⟩ := hX2
        clear hb3 hT2 hB2
        by_cases hz : cnt = 0
        · subst hz
          go_wp2
          go_roundw
          case rel =>
            have hb5 := stored2 w2 (gt + 1) (.int .u32 q2) (.slice x2 m2 c2)
            have hb6 : Below ((w2.setCell ⟨gt + 1, 0, none⟩ (.int .u32 q2)).setCell ⟨gt + 1, 1, none⟩ (.slice x2 m2 c2)).heap.size ((w2.setCell ⟨gt + 1, 0, none⟩ (.int .u32 q2)).setCell ⟨gt + 1, 1, none⟩ (.slice x2 m2 c2)) (((w2.setCell ⟨gt + 1, 0, none⟩ (.int .u32 q2)).setCell ⟨gt + 1, 1, none⟩ (.slice x2 m2 c2)).alloc (.cells #[.int .u32 (q2 : Int), .slice x2 m2 c2] 173)) := (Below.refl _ _).alloc (Nat.le_refl _) _
            have hs5 : gt + 1 < ((w2.setCell ⟨gt + 1, 0, none⟩ (.int .u32 q2)).setCell ⟨gt + 1, 1, none⟩ (.slice x2 m2 c2)).heap.size := Nat.lt_of_lt_of_le hsz2 hb5.size
            have hb4 := hb5.trans (hb6.mono (by omega))
            have e := vst_new ls k HE.out (.inl HCNT.out.symm)
            refine ⟨k + 1, q2, m2, c2, x2, by omega, by go_num, by rw [e, ← HCNT.out]; rfl, HB2.out.trans (hb4.mono (by omega)), HT2.out.below hb4 (by omega), Nat.lt_of_lt_of_le hsz2 hb4.size, (HX2.out.stored _ _).below hb6 hs5, fun _ => ?_⟩
            rw [e]
            exact ⟨HQ2.out, HM2.out, HRD2.out.below' hb4 (by omega)⟩
          case measure => simp [intOf]; omega
        · by_cases hq : q < q2
          · have hqI : ((q : Int) < (q2 : Int)) := by omega
            go_wp2
            go_roundw
            case rel =>
              have hb5 := stored2 w2 (gt + 1) (.int .u32 q2) (.slice x2 m2 c2)
              have hb6 : Below ((w2.setCell ⟨gt + 1, 0, none⟩ (.int .u32 q2)).setCell ⟨gt + 1, 1, none⟩ (.slice x2 m2 c2)).heap.size ((w2.setCell ⟨gt + 1, 0, none⟩ (.int .u32 q2)).setCell ⟨gt + 1, 1, none⟩ (.slice x2 m2 c2)) (((w2.setCell ⟨gt + 1, 0, none⟩ (.int .u32 q2)).setCell ⟨gt + 1, 1, none⟩ (.slice x2 m2 c2)).alloc (.cells #[.int .u32 (q2 : Int), .slice x2 m2 c2] 173)) := (Below.refl _ _).alloc (Nat.le_refl _) _
              have hs5 : gt + 1 < ((w2.setCell ⟨gt + 1, 0, none⟩ (.int .u32 q2)).setCell ⟨gt + 1, 1, none⟩ (.slice x2 m2 c2)).heap.size := Nat.lt_of_lt_of_le hsz2 hb5.size
              have hb4 := hb5.trans (hb6.mono (by omega))
              have e := vst_new ls k HE.out (.inr (by rw [← (HIN.out (by omega)).1, ← HQ2.out]; exact hq))
              refine ⟨k + 1, q2, m2, c2, x2, by omega, by go_num, by rw [e, ← HCNT.out]; rfl, HB2.out.trans (hb4.mono (by omega)), HT2.out.below hb4 (by omega), Nat.lt_of_lt_of_le hsz2 hb4.size, (HX2.out.stored _ _).below hb6 hs5, fun _ => ?_⟩
              rw [e]
              exact ⟨HQ2.out, HM2.out, HRD2.out.below' hb4 (by omega)⟩
            case measure => simp [intOf]; omega
          · have hqI : ¬ ((q : Int) < (q2 : Int)) := by omega
            go_wp2
            go_roundw
            case rel =>
              have e := vst_old ls k HE.out (by rw [← HCNT.out, ← (HIN.out (by omega)).1, ← HQ2.out]; omega)
              refine ⟨k + 1, q, m, cc, x, by omega, by go_num, by rw [e, ← HCNT.out]; rfl, HB3.out, HT3.out, HS3.out, HX3.out, fun _ => ?_⟩
              rw [e]
              exact ⟨(HIN.out (by omega)).1, (HIN.out (by omega)).2.1, HIN3.out (by omega)⟩
            case measure => simp [intOf]; omega
      · obtain ⟨q2, hq2⟩ : ∃ q2, q2 = perr (ls k) := ⟨_, rfl⟩
        rw [← hq2] at he ⊢
        have HQ2 := Lib.hid hq2
        have hb3 : Below w2.heap.size w2 (w2.alloc (.cells #[.int .u32 0, .slice none 0 0] 173)) := (Below.refl _ _).alloc (Nat.le_refl _) _
        have HIN3 := Lib.hid (fun h : 0 < cnt => ((HIN.out h).2.2.below' hb2 (Nat.le_trans hn hBs)).below' hb3 (Nat.le_trans hn hB2.size))
        have HX3 := Lib.hid (hX2.below hb3 hsz2)
        have HT3 := Lib.hid (hT2.below hb3 (by omega))
        have HB3 := Lib.hid (hB2.trans (hb3.mono hB2.size))
        have HS3 := Lib.hid (Nat.lt_of_lt_of_le hsz2 hb3.size)
        clear hq2 hb3 hT2 hB2
        go_wp2
        go_roundw
        case rel =>
          have e := vst_err ls k (by rw [← HQ2.out]; exact he)
          refine ⟨k + 1, q, m, cc, x, by omega, by go_num, by rw [e, ← HCNT.out], HB3.out, HT3.out, HS3.out, HX3.out, fun h => ?_⟩
          rw [e] at h ⊢
          have h := h
          rw [← HCNT.out] at h
          exact ⟨(HIN.out h).1, (HIN.out h).2.1, HIN3.out h⟩
        case measure => simp [intOf]; omega
    · obtain rfl : k = len := by omega
      by_cases hc2 : (vst ls k).1 < 2
      · obtain ⟨cnt, hcnt⟩ : ∃ cnt, cnt = (vst ls k).1 := ⟨_, rfl⟩
        rw [← hcnt] at hin hc2 ⊢
        have HCNT := Lib.hid hcnt
        clear hcnt
        go_wp2
        go_ret3
        exact ⟨hB, .inl ⟨by rw [← HCNT.out]; exact hc2, rfl⟩⟩
      · obtain ⟨cnt, hcnt⟩ : ∃ cnt, cnt = (vst ls k).1 := ⟨_, rfl⟩
        rw [← hcnt] at hin hc2 ⊢
        have HCNT := Lib.hid hcnt
        clear hcnt
        obtain ⟨hq, hm2, hrd⟩ := hin (by omega)
        have hmm := pdat_le (ls (vst ls k).2)
        have hmx := hm (vst ls k).2 (vst_lt ls k (by rw [← HCNT.out]; omega))
        have hmb : m ≤ 1000000 := by omega
        have HMB := Lib.hid hmb
        have HQ := Lib.hid hq
        have HM := Lib.hid hm2
        have HRD := Lib.hid hrd
        have hn3 := Nat.le_trans hn hB.size
        obtain ⟨hc0, hc1, _, _⟩ := hX
        clear hin hmb hq hm2 hrd hmm hmx hTr hr hp hb hm
        go_wp2
        obtain ⟨I, W, hne, hWI, hIW⟩ := Go.Mix.family (fun v => Below wr.heap.size wr v) (Below.refl _ _)
        have HJ := Lib.hid hIW
        have HW := Lib.hid hWI
        clear hWI hIW
        refine Go.Flo.wp_region (fun w' => ∃ i, w' = W i) 8 [SpO w.heap.size (pdat (ls (vst ls k).2))] (by kernel_rfl) (by kernel_rfl) (by decide) (by rintro _ w' ⟨i, rfl⟩ hb; exact HJ.out _ ((HW.out i).trans (hb.mono (HW.out i).size))) (HJ.out _ (Below.refl _ _).drew) ?_
        simp only [Go.Flo.pair, Go.Mix.calm, List.take, List.drop, if_true, Bool.false_eq_true, if_false, Nat.reduceAdd, Nat.reduceSub]
        have e0 : ∀ i, (W i).cell? ⟨gt + 1, 0, none⟩ = some (.int .u32 (q : Int)) := fun i => ((HW.out i).cell hsz).trans hc0
        have e1 : ∀ i, (W i).cell? ⟨gt + 1, 1, none⟩ = some (.slice x m cc) := fun i => ((HW.out i).cell hsz).trans hc1
        clear hc0 hc1
        (repeat (first | (refine Go.Flo.fw_calm rfl ?_ (fun K hK => ?_); (first | exact Go.Mix.wanted_none rfl | exact Go.Mix.wanted_tt rfl rfl rfl | exact Go.Mix.wanted_ff rfl rfl rfl); go_big_quiet_op; refine hK _ ?_; clear hK K) | (refine Go.Flo.fw_skip ?_ (fun K hK => ?_); (first | exact Go.Mix.wanted_tf rfl rfl rfl | exact Go.Mix.wanted_ft rfl rfl rfl); go_simp; refine hK _ ?_; clear hK K) | (refine Go.Flo.fw_any rfl ?_ (fun K hK => ?_); (first | exact Go.Mix.wanted_none rfl | exact Go.Mix.wanted_tt rfl rfl rfl | exact Go.Mix.wanted_ff rfl rfl rfl); go_simp; (try (go_ints; try go_simp)); refine hK _ ?_; clear hK K)))
        refine Go.Flo.fw_loud rfl ?_ rfl (by simp) (fun wv hwv hav K hK => ?_) (fun v hv K hK => ?_)
        · (first | exact Go.Mix.wanted_none rfl | exact Go.Mix.wanted_tt rfl rfl rfl | exact Go.Mix.wanted_ff rfl rfl rfl)
        · obtain ⟨iv, rfl⟩ := hwv
          have hbv := HW.out iv
          (first | go_big_op | go_simp)
          go_at_call 71
          refine (Clone_any _ _ _ n (pdat (ls (vst ls k).2)) _ (Nat.le_trans hn3 hbv.size) HM.out.symm (HRD.out.below' hbv hn3) (by have := HMB.out; omega)).mono ?_
          rintro e w' ⟨v, rfl, hown, hbb⟩
          exact hK _ _ (owes_O HM.out.symm rfl hbb hown (Nat.le_trans hB.size hbv.size))
        obtain ⟨a9, c9, rfl⟩ := ex_O hv
        go_simp
        refine hK _ ?_
        clear hK K hv
        (repeat (first | (refine Go.Flo.fw_calm rfl ?_ (fun K hK => ?_); (first | exact Go.Mix.wanted_none rfl | exact Go.Mix.wanted_tt rfl rfl rfl | exact Go.Mix.wanted_ff rfl rfl rfl); go_big_quiet_op; refine hK _ ?_; clear hK K) | (refine Go.Flo.fw_skip ?_ (fun K hK => ?_); (first | exact Go.Mix.wanted_tf rfl rfl rfl | exact Go.Mix.wanted_ft rfl rfl rfl); go_simp; refine hK _ ?_; clear hK K) | (refine Go.Flo.fw_any rfl ?_ (fun K hK => ?_); (first | exact Go.Mix.wanted_none rfl | exact Go.Mix.wanted_tt rfl rfl rfl | exact Go.Mix.wanted_ff rfl rfl rfl); go_simp; (try (go_ints; try go_simp)); refine hK _ ?_; clear hK K)))
        refine Go.Flo.fw_nil ?_
        intro w4 hww4 hfw4 huw4
        refine Go.Flo.tw_nil ?_
        obtain ⟨iend, hiend⟩ := hww4
        have hbw4 := HW.out iend
        rw [← hiend] at hbw4
        clear hiend iend huw4
        have hsays := ((hfw4 (some 46)).1.1.1.2 rfl).1
        clear hfw4 HJ HW hne e0 e1
        clear W I
        go_wp2
        go_ret3
        rw [HQ.out]
        exact ⟨hB.trans (hbw4.mono hB.size), .inr ⟨by rw [← HCNT.out]; omega, _, _, rfl, hsays⟩⟩

theorem cVote_any (a : Option Addr) (len cap n : Nat) (pa : Nat → Option Addr) (pc : Nat → Nat) (ls : Nat → List Nat) (w : World) (hn : n ≤ w.heap.size)
    (hr : Rd n w a len cap (fun i => .slice (pa i) (ls i).length (pc i))) (hp : ∀ i, i < len → Rd n w (pa i) (ls i).length (pc i) (bv (ls i))) (hb : ∀ i, i < len → bytes (ls i)) (hm : ∀ i, i < len → (ls i).length ≤ 1000000) :
    Calls Try.prog 95 #[.slice a len cap] w (VotePost w ls len) := by
  refine (cVote_own a len cap n pa pc ls w hn hr hp hb hm).mono ?_
  rintro e w' ⟨hb1, ⟨h1, rfl⟩ | ⟨h1, x, c, rfl, h2⟩⟩
  · exact ⟨hb1, .inl ⟨h1, rfl⟩⟩
  · exact ⟨hb1, .inr ⟨h1, x, c, rfl, rd_of_own h2 (fun i hi => bl_at _ hi)⟩⟩
set_option maxRecDepth 100000 in
set_option maxHeartbeats 4000000 in
theorem rVote_any (a : Option Addr) (len cap n : Nat) (pa : Nat → Option Addr) (pc : Nat → Nat) (ls : Nat → List Nat) (w : World) (hn : n ≤ w.heap.size)
    (hr : Rd n w a len cap (fun i => .slice (pa i) (ls i).length (pc i))) (hp : ∀ i, i < len → Rd n w (pa i) (ls i).length (pc i) (bv (ls i))) (hb : ∀ i, i < len → bytes (ls i)) :
    Calls Try.prog 35 #[.slice a len cap] w (VotePost w ls len) := by
  have h1 := hr.le
  have h2 := hr.top
  unfold maxLen at h2
  go_enter Try.func35, Try.ntmps35
  go_wp2
  go_loopw [5, 6, 7, 15] (fun c s o i wr => ∃ (k : Nat) (q m cc : Nat) (x : Option Addr), k ≤ len ∧ i = .int .i64 k ∧ c = .int .i64 ((vst ls k).1 : Nat) ∧ s = .int .u32 q ∧ o = .slice x m cc ∧ Below w.heap.size w wr ∧
      (0 < (vst ls k).1 → q = pseq (ls (vst ls k).2) ∧ m = (pdat (ls (vst ls k).2)).length ∧ Rd wr.heap.size wr x m cc (bv (pdat (ls (vst ls k).2)))))
    (fun _ _ _ i _ => len - (intOf i).toNat)
  case atStart => exact ⟨0, 0, 0, 0, none, Nat.zero_le _, rfl, rfl, rfl, rfl, Below.refl _ _, fun h => (by simp [vst] at h)⟩
  case round =>
    obtain ⟨k, q, m, cc, x, hk, rfl, rfl, rfl, rfl, hB, hin⟩ := hrel
    by_cases hlt : k < len
    · have hle := vst_le ls k
      obtain ⟨cnt, hcnt⟩ : ∃ cnt, cnt = (vst ls k).1 := ⟨_, rfl⟩
      rw [← hcnt] at hin hle ⊢
      have HCNT := Lib.hid hcnt
      clear hcnt
      obtain ⟨b, off, rfl, hbk, hc⟩ := (hr.below' hB hn).at hlt
      have HIN := Lib.hid hin
      have HR := Lib.hid hr
      clear hin hr
      go_wp2_with fail
      go_at_call 73
      refine (rParse_any _ _ _ n (ls k) _ rfl (Nat.le_trans hn hB.size) ((hp k hlt).below' hB hn) (hb k hlt)).mono ?_
      rintro e w2 ⟨hb2, hpo⟩
      have HB2 := Lib.hid (hB.trans (hb2.mono hB.size))
      clear hB hc
      rcases hpo with ⟨he, x2, c2, rfl, hrd2⟩ | ⟨he, rfl⟩
      · obtain ⟨q2, hq2⟩ : ∃ q2, q2 = pseq (ls k) := ⟨_, rfl⟩
        obtain ⟨m2, hm2⟩ : ∃ m2, m2 = (pdat (ls k)).length := ⟨_, rfl⟩
        rw [← hm2] at hrd2 ⊢
        rw [← hq2]
        have HQ2 := Lib.hid hq2
        have HM2 := Lib.hid hm2
        have HRD2 := Lib.hid hrd2
        have HE := Lib.hid he
        clear hq2 hm2 hrd2 he
        by_cases hz : cnt = 0
        · subst hz
          go_wp2
          go_roundw
          case rel =>
            have e := vst_new ls k HE.out (.inl HCNT.out.symm)
            refine ⟨k + 1, q2, m2, c2, x2, by omega, by go_num, by rw [e, ← HCNT.out]; rfl, rfl, rfl, HB2.out, fun _ => ?_⟩
            rw [e]
            exact ⟨HQ2.out, HM2.out, HRD2.out⟩
          case measure => simp [intOf]; omega
        · by_cases hq : q < q2
          · have hqI : ((q : Int) < (q2 : Int)) := by omega
            go_wp2
            go_roundw
            case rel =>
              have e := vst_new ls k HE.out (.inr (by rw [← (HIN.out (by omega)).1, ← HQ2.out]; exact hq))
              refine ⟨k + 1, q2, m2, c2, x2, by omega, by go_num, by rw [e, ← HCNT.out]; rfl, rfl, rfl, HB2.out, fun _ => ?_⟩
              rw [e]
              exact ⟨HQ2.out, HM2.out, HRD2.out⟩
            case measure => simp [intOf]; omega
          · have hqI : ¬ ((q : Int) < (q2 : Int)) := by omega
            go_wp2
            go_roundw
            case rel =>
              have e := vst_old ls k HE.out (by rw [← HCNT.out, ← (HIN.out (by omega)).1, ← HQ2.out]; omega)
              refine ⟨k + 1, q, m, cc, x, by omega, by go_num, by rw [e, ← HCNT.out]; rfl, rfl, rfl, HB2.out, fun _ => ?_⟩
              rw [e]
              exact ⟨(HIN.out (by omega)).1, (HIN.out (by omega)).2.1, rd_grow (HIN.out (by omega)).2.2 hb2⟩
            case measure => simp [intOf]; omega
      · obtain ⟨q2, hq2⟩ : ∃ q2, q2 = perr (ls k) := ⟨_, rfl⟩
        rw [← hq2] at he ⊢
        have HQ2 := Lib.hid hq2
        clear hq2
        go_wp2
        go_roundw
        case rel =>
          have e := vst_err ls k (by rw [← HQ2.out]; exact he)
          refine ⟨k + 1, q, m, cc, x, by omega, by go_num, by rw [e, ← HCNT.out], rfl, rfl, HB2.out, fun h => ?_⟩
          rw [e] at h ⊢
          have h := h
          rw [← HCNT.out] at h
          exact ⟨(HIN.out h).1, (HIN.out h).2.1, rd_grow (HIN.out h).2.2 hb2⟩
        case measure => simp [intOf]; omega
    · obtain rfl : k = len := by omega
      by_cases hc2 : (vst ls k).1 < 2
      · obtain ⟨cnt, hcnt⟩ : ∃ cnt, cnt = (vst ls k).1 := ⟨_, rfl⟩
        rw [← hcnt] at hin hc2 ⊢
        have HCNT := Lib.hid hcnt
        clear hcnt
        go_wp2
        go_ret3
        exact ⟨hB, .inl ⟨by rw [← HCNT.out]; exact hc2, rfl⟩⟩
      · obtain ⟨cnt, hcnt⟩ : ∃ cnt, cnt = (vst ls k).1 := ⟨_, rfl⟩
        rw [← hcnt] at hin hc2 ⊢
        have HCNT := Lib.hid hcnt
        clear hcnt
        obtain ⟨hq, hm2, hrd⟩ := hin (by omega)
        have HQ := Lib.hid hq
        have HM := Lib.hid hm2
        clear hin hq hm2
        go_wp2
        go_ret3
        rw [HQ.out, HM.out]
        exact ⟨hB, .inr ⟨by rw [← HCNT.out]; omega, _, _, rfl, by rw [← HM.out]; exact hrd⟩⟩
end Go.Proofs.Ytpgophkegjeheaa
