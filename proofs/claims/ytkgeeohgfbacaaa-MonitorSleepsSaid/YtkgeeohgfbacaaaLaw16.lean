/- Layer 16: the document's example; a monitor of one rule. -/
import Derived.Test.YtkgeeohgfbacaaaMnV
import Derived.Test.YtkgeeohgfbacaaaMnN
namespace Go.Proofs.Ytkgeeohgfbacaaa
open Go.RowKit Go.Own
set_option linter.unusedVariables false
set_option linter.unusedSimpArgs false
theorem size_pcs (ps : Nat → Int) : (Try.prog.info? 128).map (·.size) = some (pcs ps).size := by
  rw [pcs_size]
  kernel_rfl
theorem size_arr : (Try.prog.info? 128).map (·.size) = some 16 := by kernel_rfl
theorem all16 {p : Nat → Prop} (h0 : p 0) (h1 : p 1) (h2 : p 2) (h3 : p 3) (h4 : p 4) (h5 : p 5) (h6 : p 6) (h7 : p 7) (h8 : p 8) (h9 : p 9) (h10 : p 10) (h11 : p 11) (h12 : p 12) (h13 : p 13) (h14 : p 14) (h15 : p 15) : ∀ i, i < 16 → p i := fun i hi => by
  have : i = 0 ∨ i = 1 ∨ i = 2 ∨ i = 3 ∨ i = 4 ∨ i = 5 ∨ i = 6 ∨ i = 7 ∨ i = 8 ∨ i = 9 ∨ i = 10 ∨ i = 11 ∨ i = 12 ∨ i = 13 ∨ i = 14 ∨ i = 15 := by omega
  rcases this with rfl | rfl | rfl | rfl | rfl | rfl | rfl | rfl | rfl | rfl | rfl | rfl | rfl | rfl | rfl | rfl <;> assumption
theorem pcs_eq {C : Array Value} {ps : Nat → Int} (hs : C.size = 16) (h : ∀ i, i < 16 → C[i]? = some (.int .i32 (ps i))) : C = pcs ps := by
  apply Array.ext_getElem?
  intro k
  by_cases hk : k < 16
  · rw [h k hk, pcs_at ps hk]
  · rw [Array.getElem?_eq_none (by omega), Array.getElem?_eq_none (by rw [pcs_size]; omega)]
def psAt (j : Nat) (v : Int) : Nat → Int := fun i => if i = j then v else 0
theorem pcs_two (v : Int) : (#[.int .i32 0, .int .i32 0, .int .i32 0, .int .i32 0, .int .i32 0, .int .i32 0, .int .i32 0, .int .i32 0, .int .i32 0, .int .i32 0, .int .i32 0, .int .i32 0, .int .i32 0, .int .i32 0, .int .i32 0, .int .i32 0] : Array Value).setIfInBounds 2 (.int .i32 v) = pcs (psAt 2 v) := pcs_eq rfl (all16 rfl rfl rfl rfl rfl rfl rfl rfl rfl rfl rfl rfl rfl rfl rfl rfl)
theorem pcs_six : (#[.int .i32 6, .int .i32 0, .int .i32 0, .int .i32 0, .int .i32 0, .int .i32 0, .int .i32 0, .int .i32 0, .int .i32 0, .int .i32 0, .int .i32 0, .int .i32 0, .int .i32 0, .int .i32 0, .int .i32 0, .int .i32 0] : Array Value) = pcs (psAt 0 6) := pcs_eq rfl (all16 rfl rfl rfl rfl rfl rfl rfl rfl rfl rfl rfl rfl rfl rfl rfl rfl)
theorem psAt_ok {j : Nat} {v : Int} (h0 : -2147483648 ≤ v) (h1 : v ≤ 2147483647) : ∀ i, i < 16 → -2147483648 ≤ psAt j v i ∧ psAt j v i ≤ 2147483647 := fun i _ => by
  unfold psAt
  split <;> omega
/-- A row of one rule. -/
theorem rus_one {w : World} {g : Nat} {r : Rl} {t : TypeId} (h : w.heap[g]? = some (.cells r.cs t (0, 0))) : RuS w (some ⟨g, 0, none⟩) 1 1 (fun _ => r) :=
  ⟨Nat.le_refl _, by unfold maxLen; omega, fun _ => ⟨g, 0, rfl, box_lt h, fun i hi j v hv => by
    obtain rfl : i = 0 := by omega
    simp only [Nat.zero_mul, Nat.zero_add]
    exact (cell_of_row _ _ j _ _ _ h).trans (by rw [← Array.getElem?_toList]; exact hv)⟩⟩
/-- A monitor of one rule. -/
def M1 (q : Wt) : Mn := ⟨fun i => if i = 0 then q else Wt.z, 1⟩
theorem M1_new (r : Rl) : (Mn.part 1 (fun _ => r) 1).cs = (M1 ⟨r, false, 0, 0, 0, 0⟩).cs := Mn.ext_cs (fun i _ => by
  show (if i < 1 then (⟨r, false, 0, 0, 0, 0⟩ : Wt) else Wt.z) = if i = 0 then ⟨r, false, 0, 0, 0, 0⟩ else Wt.z
  by_cases e : i = 0
  · rw [if_pos e, if_pos (by omega)]
  · rw [if_neg e, if_neg (by omega)]) rfl
def ch1 (q q2 : Wt) (v : Int) : List Cg := if q2.st ≠ q.st then [⟨0, q.st, q2.st, v⟩] else []
theorem mStep1 (q q2 : Wt) (ps : Nat → Int) (v : Int) (w : World) (hok : q.ok) (hps : ∀ i, i < 16 → -2147483648 ≤ ps i ∧ ps i ≤ 2147483647) (hen : q.r.en = true) (hv : ps q.r.d.p.toNat = v) (hq : q.step v = q2) (l : List Cg) (hl : ch1 q q2 v = l) :
    Calls Try.prog 55 #[.agg (M1 q).cs, .agg (pcs ps)] w fun e w' => ∃ z, e = .returned (.tuple #[.agg (M1 q2).cs, z]) ∧ ChO w w' z l ∧ Below w.heap.size w w' := by
  have h0 : (M1 q).x 0 = q := rfl
  have hnx : (M1 q).nx ps 0 = q2 := by
    unfold Mn.nx Mn.arg
    rw [h0, hen, if_pos rfl, hv, hq]
  have e1 : ((M1 q).stepTo ps (M1 q).n).cs = (M1 q2).cs := Mn.ext_cs (fun i _ => by
    show (if i < 1 then (M1 q).nx ps i else if i = 0 then q else Wt.z) = if i = 0 then q2 else Wt.z
    by_cases e : i = 0
    · subst e; rw [if_pos (by omega), if_pos rfl, hnx]
    · rw [if_neg (by omega), if_neg e, if_neg e]) rfl
  have e2 : (M1 q).chgs ps (M1 q).n = l := by
    show [] ++ (if (M1 q).ch ps 0 = true then [(⟨0, ((M1 q).x 0).st, ((M1 q).nx ps 0).st, (M1 q).arg ps 0⟩ : Cg)] else []) = l
    rw [← hl, ch1, Mn.ch, hnx, Mn.arg, h0, hen, hv]
    by_cases e : q2.st = q.st
    · simp [e]
    · simp [e]
  have h := mStep (M1 q) ps w ⟨by show 1 ≤ 16; omega, fun i hi => by
    obtain rfl : i = 0 := by have : i < 1 := hi; omega
    exact hok⟩ hps
  rw [e1, e2] at h
  exact h
theorem cho_len {w w' : World} {z : Value} {l : List Cg} (h : ChO w w' z l) : ∃ a c, z = .slice a l.length c := by
  obtain ⟨h1, ⟨h2, h3⟩ | ⟨g', cap, cur, hv, hb', hr, ho⟩⟩ := h
  · exact ⟨none, 0, by rw [h2, h3]⟩
  · exact ⟨_, _, hv⟩
theorem cho_cells {w w' : World} {a : Option Addr} {m c : Nat} {l : List Cg} (h : ChO w w' (.slice a m c) l) (hl : 0 < l.length) : ∃ g, a = some ⟨g, 0, none⟩ ∧ w.heap.size + 3 ≤ g ∧ g < w'.heap.size ∧ ∀ i v, (cgl l)[i]? = some v → w'.cell? ⟨g, i, none⟩ = some v := by
  obtain ⟨h1, ⟨h2, h3⟩ | ⟨g', cap, cur, hv, hb', hr, ho⟩⟩ := h
  · omega
  · simp only [Value.slice.injEq] at hv
    obtain ⟨rfl, _, _⟩ := hv
    refine ⟨g', rfl, hb', (Array.getElem?_eq_some_iff.1 hr).1, fun i v hi => ?_⟩
    rw [cell_of_row w' g' i _ _ _ hr, ← Array.getElem?_toList]
    rw [← ho.2.2.2, List.getElem?_take] at hi
    split at hi
    · exact hi
    · cases hi
def r0 : Rl := ⟨⟨0, 0, 3, 5, 0, 0⟩, 2, 0, 0, -1, true⟩
def q0 : Wt := ⟨r0, false, 0, 0, 0, 0⟩
def q1 : Wt := ⟨r0, true, 6, 3, 1, 0⟩
def q2 : Wt := ⟨r0, true, 6, 3, 2, 3⟩
theorem r0_ok : r0.ok := ⟨⟨by decide, by decide, by decide, by decide, by decide, by decide, by decide, by decide, by decide, by decide⟩, by decide, by decide, by decide, by decide, by decide, by decide, by decide, by decide⟩
theorem q0_ok : q0.ok := ⟨r0_ok, by decide, by decide, by decide, by decide, by decide, by decide, by decide, by decide, by decide⟩
theorem q1_ok : q1.ok := ⟨r0_ok, by decide, by decide, by decide, by decide, by decide, by decide, by decide, by decide, by decide⟩
set_option maxRecDepth 100000 in
set_option maxHeartbeats 8000000 in
theorem awake16 (w : World) : Calls Try.prog 52 #[] w fun e w' => e = .returned (.bool true) ∧ Below w.heap.size w w' := by
  have hb0 : Below w.heap.size w (w.alloc (.cells #[.int .u8 0, .int .i64 0, .int .i32 3, .int .i32 5, .int .u32 0, .int .u32 0, .int .u8 2, .int .u8 0, .int .u8 0, .int .i64 (-1), .bool true] 117)) := (Below.refl _ _).alloc (Nat.le_refl _) _
  have g0 : (w.alloc (.cells #[.int .u8 0, .int .i64 0, .int .i32 3, .int .i32 5, .int .u32 0, .int .u32 0, .int .u8 2, .int .u8 0, .int .u8 0, .int .i64 (-1), .bool true] 117)).heap[w.heap.size]? = some (.cells r0.cs 117 (0, 0)) := heap_alloc_new _ _
  have HR := Lib.hid (rus_one g0)
  clear g0
  go_enter Try.func52, Try.ntmps52
  go_wp2_with fail
  go_at_call 54
  refine (mNew _ 1 1 (fun _ => r0) _ HR.out (fun _ _ => r0_ok)).mono ?_
  rintro e w1 ⟨hb1, ⟨_, rfl⟩ | ⟨hno, _⟩⟩
  case inr => exact absurd (show newOk 1 (fun _ => r0) from ⟨by decide, fun _ _ => rfl⟩) hno
  rw [M1_new, show (⟨r0, false, 0, 0, 0, 0⟩ : Wt) = q0 from rfl]
  have HB1 := Lib.hid (hb0.trans (hb1.mono hb0.size))
  clear hb0 hb1 HR
  go_upto_region 2 with (refine wpList_store_row rfl 124 _ _ rfl _ (Mn.cs _) rfl rfl 124 _ (heap_alloc_new w1 (.cells (Mn.empty 0).cs 124)) (size_mn _) (by simp only [Mn.size]) (Mn.one _) ?_; rw [World.setRow_alloc_new]; (try go_simp))
  go_upto_region 3 with (refine wpList_store_row rfl 128 _ _ rfl _ (#[.int .i32 6, .int .i32 0, .int .i32 0, .int .i32 0, .int .i32 0, .int .i32 0, .int .i32 0, .int .i32 0, .int .i32 0, .int .i32 0, .int .i32 0, .int .i32 0, .int .i32 0, .int .i32 0, .int .i32 0, .int .i32 0] : Array Value) rfl rfl 128 _ (heap_alloc_new _ (.cells (#[.int .i32 0, .int .i32 0, .int .i32 0, .int .i32 0, .int .i32 0, .int .i32 0, .int .i32 0, .int .i32 0, .int .i32 0, .int .i32 0, .int .i32 0, .int .i32 0, .int .i32 0, .int .i32 0, .int .i32 0, .int .i32 0] : Array Value) 128)) size_arr rfl (by simp [Value.oneCell']) ?_; rw [World.setRow_alloc_new]; (try go_simp))
  have HP := (MnB.new w1 (M1 q0)).alloc (.cells (#[.int .i32 6, .int .i32 0, .int .i32 0, .int .i32 0, .int .i32 0, .int .i32 0, .int .i32 0, .int .i32 0, .int .i32 0, .int .i32 0, .int .i32 0, .int .i32 0, .int .i32 0, .int .i32 0, .int .i32 0, .int .i32 0] : Array Value) 128)
  have h3 : ((w1.alloc (.cells (M1 q0).cs 124)).alloc (.cells (#[.int .i32 6, .int .i32 0, .int .i32 0, .int .i32 0, .int .i32 0, .int .i32 0, .int .i32 0, .int .i32 0, .int .i32 0, .int .i32 0, .int .i32 0, .int .i32 0, .int .i32 0, .int .i32 0, .int .i32 0, .int .i32 0] : Array Value) 128)).heap[w1.heap.size + 1]? = some (.cells (pcs (psAt 0 6)) 128 (0, 0)) := by
    rw [← pcs_six]; exact heap_alloc2_new _ _ _
  have hb2 : Below w.heap.size w ((w1.alloc (.cells (M1 q0).cs 124)).alloc (.cells (#[.int .i32 6, .int .i32 0, .int .i32 0, .int .i32 0, .int .i32 0, .int .i32 0, .int .i32 0, .int .i32 0, .int .i32 0, .int .i32 0, .int .i32 0, .int .i32 0, .int .i32 0, .int .i32 0, .int .i32 0, .int .i32 0] : Array Value) 128)) := HB1.out.trans ((((Below.refl w1.heap.size w1).alloc (Nat.le_refl _) _).alloc (by simp) _).mono HB1.out.size)
  obtain ⟨ga, hga⟩ : ∃ g, g = w1.heap.size + 1 := ⟨_, rfl⟩
  obtain ⟨gm, hgm⟩ : ∃ g, g = w1.heap.size := ⟨_, rfl⟩
  obtain ⟨w2, hw2⟩ : ∃ w2, w2 = ((w1.alloc (.cells (M1 q0).cs 124)).alloc (.cells (#[.int .i32 6, .int .i32 0, .int .i32 0, .int .i32 0, .int .i32 0, .int .i32 0, .int .i32 0, .int .i32 0, .int .i32 0, .int .i32 0, .int .i32 0, .int .i32 0, .int .i32 0, .int .i32 0, .int .i32 0, .int .i32 0] : Array Value) 128)) := ⟨_, rfl⟩
  rw [← hw2] at HP h3 hb2 ⊢
  rw [← hga] at h3 ⊢
  rw [← hgm] at HP ⊢
  have HB2 := Lib.hid hb2
  clear hw2 hga hgm hb2 HB1
  go_wp2_with (first | (refine wpList_load_row rfl 124 _ rfl _ rfl _ _ _ _ HP Try.underlying124 rfl (by exact size_mn _) ?_; (try go_simp)) | (refine wpList_load_row rfl 128 _ rfl _ rfl _ _ _ _ h3 Try.underlying128 rfl (by exact size_pcs _) ?_; (try go_simp)))
  go_at_call 55
  refine (mStep1 q0 q1 (psAt 0 6) 6 _ q0_ok (psAt_ok (by decide) (by decide)) rfl rfl rfl [] rfl).mono ?_
  rintro e w3 ⟨z, rfl, ho3, hb3⟩
  obtain ⟨za, zc, rfl⟩ := cho_len ho3
  have h4 := box_below h3 hb3 (box_lt h3)
  have HB3 := Lib.hid (HB2.out.trans (hb3.mono HB2.out.size))
  clear HP h3 hb3 ho3 HB2
  go_upto_region 4 with (refine wpList_store_row rfl 124 _ _ rfl _ (Mn.cs _) rfl rfl 124 _ (heap_alloc_new w3 (.cells (Mn.empty 0).cs 124)) (size_mn _) (by simp only [Mn.size]) (Mn.one _) ?_; rw [World.setRow_alloc_new]; (try go_simp))
  have HP := MnB.new w3 (M1 q1)
  have h5 := box_below h4 ((Below.refl w3.heap.size w3).alloc (Nat.le_refl _) (.cells (M1 q1).cs 124)) (box_lt h4)
  have HB4 := Lib.hid (HB3.out.trans (((Below.refl w3.heap.size w3).alloc (Nat.le_refl _) (.cells (M1 q1).cs 124)).mono HB3.out.size))
  obtain ⟨gn, hgn⟩ : ∃ g, g = w3.heap.size := ⟨_, rfl⟩
  obtain ⟨w4, hw4⟩ : ∃ w4, w4 = w3.alloc (.cells (M1 q1).cs 124) := ⟨_, rfl⟩
  rw [← hw4] at HP h5 HB4 ⊢
  rw [← hgn] at HP ⊢
  clear hw4 hgn h4 HB3
  go_wp2_with (first | (refine wpList_load_row rfl 124 _ rfl _ rfl _ _ _ _ HP Try.underlying124 rfl (by exact size_mn _) ?_; (try go_simp)) | (refine wpList_load_row rfl 128 _ rfl _ rfl _ _ _ _ h5 Try.underlying128 rfl (by exact size_pcs _) ?_; (try go_simp)))
  go_at_call 55
  refine (mStep1 q1 q2 (psAt 0 6) 6 _ q1_ok (psAt_ok (by decide) (by decide)) rfl rfl rfl [⟨0, 0, 3, 6⟩] rfl).mono ?_
  rintro e w5 ⟨z, rfl, ho5, hb5⟩
  obtain ⟨ya, yc, rfl⟩ := cho_len ho5
  have HP2 := HP.below hb5 (Nat.le_refl _)
  have HB5 := Lib.hid (HB4.out.trans (hb5.mono HB4.out.size))
  clear HP h5 hb5 ho5 HB4
  go_upto_region 5 with (refine wpList_store_row rfl 124 _ _ rfl _ (Mn.cs _) rfl rfl 124 _ (heap_alloc_new w5 (.cells (Mn.empty 0).cs 124)) (size_mn _) (by simp only [Mn.size]) (Mn.one _) ?_; rw [World.setRow_alloc_new]; (try go_simp))
  have HP := MnB.new w5 (M1 q2)
  have HP3 := HP2.alloc (.cells (M1 q2).cs 124)
  have HB6 := Lib.hid (HB5.out.trans (((Below.refl w5.heap.size w5).alloc (Nat.le_refl _) (.cells (M1 q2).cs 124)).mono HB5.out.size))
  obtain ⟨gp, hgp⟩ : ∃ g, g = w5.heap.size := ⟨_, rfl⟩
  obtain ⟨w6, hw6⟩ : ∃ w6, w6 = w5.alloc (.cells (M1 q2).cs 124) := ⟨_, rfl⟩
  rw [← hw6] at HP HP3 HB6 ⊢
  rw [← hgp] at HP ⊢
  clear hw6 hgp HP2 HB5
  go_wp2_with (refine wpLoadWm (by (first | exact Go.Mix.wanted_none rfl | exact Go.Mix.wanted_tt rfl rfl rfl | exact Go.Mix.wanted_ff rfl rfl rfl)) 124 _ rfl _ rfl _ _ _ _ HP3 Try.underlying124 rfl (size_mn _) ?_; (try go_simp))
  go_at_call 56
  refine (mStatus (M1 q1) 0 0 _ (show 1 ≤ 16 by decide) rfl).mono ?_
  rintro e w7 ⟨rfl, hb7⟩
  have HP4 := HP.below hb7 (Nat.le_refl _)
  have HB7 := Lib.hid (HB6.out.trans (hb7.mono HB6.out.size))
  clear HP HP3 hb7 HB6
  go_wp2_with (refine wpLoadWm (by (first | exact Go.Mix.wanted_none rfl | exact Go.Mix.wanted_tt rfl rfl rfl | exact Go.Mix.wanted_ff rfl rfl rfl)) 124 _ rfl _ rfl _ _ _ _ HP4 Try.underlying124 rfl (size_mn _) ?_; (try go_simp))
  go_at_call 56
  refine (mStatus (M1 q2) 0 3 _ (show 1 ≤ 16 by decide) rfl).mono ?_
  rintro e w8 ⟨rfl, hb8⟩
  have HB8 := Lib.hid (HB7.out.trans (hb8.mono HB7.out.size))
  clear HP4 hb8 HB7
  go_wp2
  go_ret
  exact ⟨rfl, HB8.out⟩
end Go.Proofs.Ytkgeeohgfbacaaa
