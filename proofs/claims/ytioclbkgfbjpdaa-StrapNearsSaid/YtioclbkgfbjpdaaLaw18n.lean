/- StrapNears. -/
import Derived.Test.YtioclbkgfbjpdaaSwF
namespace Go.Proofs.Ytioclbkgfbjpdaa
open Go.RowKit Go.Own Bs
set_option linter.unusedVariables false
set_option linter.unusedSimpArgs false
theorem bestF_ok (near : Nat → Int) : ∀ (D : List (List Nat)) (p : (Nat → Int) × Bool), (∀ x ∈ D, ∀ u ∈ x, u < 16) → ChOk p.1 → ChOk (D.foldl (bestS near) p).1
  | [], _, _, h => h
  | x :: D, p, hD, h => by
    rw [List.foldl_cons]
    refine bestF_ok near D _ (fun y hy => hD y (by simp [hy])) ?_
    unfold bestS
    split
    · exact chain_ok (hD x (by simp))
    · exact h
theorem near_ok (l : List Nat) (lk : Nat → Nat) (c : Nat → Int) (bad : Nat) (h6 : l.length ≤ 6) : ChOk (nearC (findR l lk c bad)) := by
  rw [← (near_is l lk c bad h6).1]
  exact bestF_ok c _ _ (fun x hx => (DD_mem hx).2) (fun _ _ => ⟨by show (-128 : Int) ≤ -1; omega, by show (-1 : Int) < 128; omega⟩)
set_option maxRecDepth 100000 in
set_option maxHeartbeats 8000000 in
theorem walk_StrapNears (a0 : Option Addr) (len0 cap0 : Nat) (z0 z1 : List Int) (a2 : Int) (z3 : List Int) (a4 : Int) (w : World) (w0 : IsRow .u16 w a0 len0 cap0 z0) (l1 : z1.length = 16) (w1 : ∀ x ∈ z1, (Lit.int .u16 x).wf = true) (w2 : (Lit.int .u16 a2).wf = true) (l3 : z3.length = 6) (w3 : ∀ x ∈ z3, (Lit.int .i8 x).wf = true) (w4 : (Lit.int .u16 a4).wf = true) :
    Calls Try.prog 6 #[.slice a0 len0 cap0, .agg (z1.map (Value.int .u16)).toArray, .int .u16 a2, .agg (z3.map (Value.int .i8)).toArray, .int .u16 a4] w fun e w' => e = .returned (.bool true) ∧ Below w.heap.size w w' := by
  skip
  obtain ⟨z, hzl, hzv, hzr⟩ := isRow_u16S w0
  obtain ⟨lk, hlk, elk⟩ := lk_of l1 w1
  rw [elk]
  obtain ⟨hL6, hLv⟩ := layS_six hzv
  have HZR := Lib.hid hzr
  have HZV := Lib.hid hzv
  have HLK := Lib.hid hlk
  have hzm := zero_mp
  have hzr := zero_rm
  have hzc := zero_ch
  have hq := (Bq.nil w).new #[.int .u16 ((lk 0 : Nat) : Int), .int .u16 ((lk 1 : Nat) : Int), .int .u16 ((lk 2 : Nat) : Int), .int .u16 ((lk 3 : Nat) : Int), .int .u16 ((lk 4 : Nat) : Int), .int .u16 ((lk 5 : Nat) : Int), .int .u16 ((lk 6 : Nat) : Int), .int .u16 ((lk 7 : Nat) : Int), .int .u16 ((lk 8 : Nat) : Int), .int .u16 ((lk 9 : Nat) : Int), .int .u16 ((lk 10 : Nat) : Int), .int .u16 ((lk 11 : Nat) : Int), .int .u16 ((lk 12 : Nat) : Int), .int .u16 ((lk 13 : Nat) : Int), .int .u16 ((lk 14 : Nat) : Int), .int .u16 ((lk 15 : Nat) : Int)] 62
  clear w0 l1 w1 elk hzv hlk
  obtain ⟨c, hcok, ec⟩ := ch_ofS l3 w3
  rw [ec]
  obtain ⟨bad, rfl⟩ := Int.eq_ofNat_of_zero_le (bounds_u16 w2).1
  have hbad : bad < 65536 := by have := (bounds_u16 w2).2; omega
  obtain ⟨pick, rfl⟩ := Int.eq_ofNat_of_zero_le (bounds_u16 w4).1
  have hpick : pick < 65536 := by have := (bounds_u16 w4).2; omega
  have HCO := Lib.hid hcok
  have hq := hq.new #[.int .i8 (c 0), .int .i8 (c 1), .int .i8 (c 2), .int .i8 (c 3), .int .i8 (c 4), .int .i8 (c 5)] 76
  simp only [World.size_alloc] at hq
  clear w2 w4 l3 w3 ec hcok
  go_enter Try.func6, Try.ntmps6
  go_upto_region 1 with fail
  obtain ⟨w1, hw1⟩ : ∃ w1, w1 = (w.alloc (.cells #[.int .u16 ((lk 0 : Nat) : Int), .int .u16 ((lk 1 : Nat) : Int), .int .u16 ((lk 2 : Nat) : Int), .int .u16 ((lk 3 : Nat) : Int), .int .u16 ((lk 4 : Nat) : Int), .int .u16 ((lk 5 : Nat) : Int), .int .u16 ((lk 6 : Nat) : Int), .int .u16 ((lk 7 : Nat) : Int), .int .u16 ((lk 8 : Nat) : Int), .int .u16 ((lk 9 : Nat) : Int), .int .u16 ((lk 10 : Nat) : Int), .int .u16 ((lk 11 : Nat) : Int), .int .u16 ((lk 12 : Nat) : Int), .int .u16 ((lk 13 : Nat) : Int), .int .u16 ((lk 14 : Nat) : Int), .int .u16 ((lk 15 : Nat) : Int)] 62)).alloc (.cells #[.int .i8 (c 0), .int .i8 (c 1), .int .i8 (c 2), .int .i8 (c 3), .int .i8 (c 4), .int .i8 (c 5)] 76) := ⟨_, rfl⟩
  obtain ⟨g8, hg8⟩ : ∃ b, b = w.heap.size + 1 := ⟨_, rfl⟩
  rw [← hw1, ← hg8] at hq
  rw [← hw1, ← hg8]
  obtain ⟨g0, hg0⟩ : ∃ b, b = w.heap.size := ⟨_, rfl⟩
  rw [show (Value.pointer (some ⟨w.heap.size, 0, none⟩)) = .pointer (some ⟨g0, 0, none⟩) by rw [hg0]]
  have HQ1 := Lib.hid (show Bq w w1 [(g0, #[.int .u16 ((lk 0 : Nat) : Int), .int .u16 ((lk 1 : Nat) : Int), .int .u16 ((lk 2 : Nat) : Int), .int .u16 ((lk 3 : Nat) : Int), .int .u16 ((lk 4 : Nat) : Int), .int .u16 ((lk 5 : Nat) : Int), .int .u16 ((lk 6 : Nat) : Int), .int .u16 ((lk 7 : Nat) : Int), .int .u16 ((lk 8 : Nat) : Int), .int .u16 ((lk 9 : Nat) : Int), .int .u16 ((lk 10 : Nat) : Int), .int .u16 ((lk 11 : Nat) : Int), .int .u16 ((lk 12 : Nat) : Int), .int .u16 ((lk 13 : Nat) : Int), .int .u16 ((lk 14 : Nat) : Int), .int .u16 ((lk 15 : Nat) : Int)], 62), (g8, #[.int .i8 (c 0), .int .i8 (c 1), .int .i8 (c 2), .int .i8 (c 3), .int .i8 (c 4), .int .i8 (c 5)], 76)] by rw [hg0]; exact hq)
  clear hw1 hg8 hg0 hq
  skip
  go_wp2_with fail
  go_at_call 29
  refine (awake18 w1).mono ?_
  rintro e w2 ⟨rfl, hb⟩
  have HQ2 := Lib.hid (HQ1.out.step hb)
  clear hb HQ1
  have b0 := HQ2.out.of 0 rfl
  go_wp2_with (refine wpList_load_row rfl 62 _ rfl _ rfl _ _ _ _ b0 Try.underlying62 rfl (by exact size_lk) ?_; (try go_simp))
  go_at_call 30
  refine (lay_any a0 len0 cap0 w.heap.size z lk w2 hzl HZV.out HLK.out HQ2.out.be.size (HZR.out.below HQ2.out.be)).mono ?_
  rintro e w3 ⟨a1, c1, a2, c2, rfl, ho, hr, hb⟩
  obtain ⟨L, hL⟩ : ∃ L, L = (layS (z.take 6)).1 := ⟨_, rfl⟩
  rw [← hL] at ho hr hL6 hLv ⊢
  have HL := Lib.hid hL
  have HQ3 := Lib.hid (HQ2.out.step hb)
  have HO3 := Lib.hid ho
  have HR3 := Lib.hid hr
  have hs2 : w.heap.size ≤ w2.heap.size := HQ2.out.be.size
  clear hL hb b0 HQ2 ho hr
  obtain ⟨q1, q2, q3⟩ := HQ3.out.pair #[.slice none 0 0, .int .u16 0, .int .u16 0, .int .u16 0, .int .u16 0, .int .u16 0, .int .u16 0, .int .u16 0, .int .u16 0, .int .u16 0, .int .u16 0, .int .u16 0, .int .u16 0, .int .u16 0, .int .u16 0, .int .u16 0, .int .u16 0] #[.slice none 0 0, .int .u16 0, .int .u16 0, .int .u16 0, .int .u16 0, .int .u16 0, .int .u16 0, .int .u16 0, .int .u16 0, .int .u16 0, .int .u16 0, .int .u16 0, .int .u16 0, .int .u16 0, .int .u16 0, .int .u16 0, .int .u16 0] #[.slice a1 L.length c1, .int .u16 ((lk 0 : Nat) : Int), .int .u16 ((lk 1 : Nat) : Int), .int .u16 ((lk 2 : Nat) : Int), .int .u16 ((lk 3 : Nat) : Int), .int .u16 ((lk 4 : Nat) : Int), .int .u16 ((lk 5 : Nat) : Int), .int .u16 ((lk 6 : Nat) : Int), .int .u16 ((lk 7 : Nat) : Int), .int .u16 ((lk 8 : Nat) : Int), .int .u16 ((lk 9 : Nat) : Int), .int .u16 ((lk 10 : Nat) : Int), .int .u16 ((lk 11 : Nat) : Int), .int .u16 ((lk 12 : Nat) : Int), .int .u16 ((lk 13 : Nat) : Int), .int .u16 ((lk 14 : Nat) : Int), .int .u16 ((lk 15 : Nat) : Int)] #[.slice a2 L.length c2, .int .u16 ((lk 0 : Nat) : Int), .int .u16 ((lk 1 : Nat) : Int), .int .u16 ((lk 2 : Nat) : Int), .int .u16 ((lk 3 : Nat) : Int), .int .u16 ((lk 4 : Nat) : Int), .int .u16 ((lk 5 : Nat) : Int), .int .u16 ((lk 6 : Nat) : Int), .int .u16 ((lk 7 : Nat) : Int), .int .u16 ((lk 8 : Nat) : Int), .int .u16 ((lk 9 : Nat) : Int), .int .u16 ((lk 10 : Nat) : Int), .int .u16 ((lk 11 : Nat) : Int), .int .u16 ((lk 12 : Nat) : Int), .int .u16 ((lk 13 : Nat) : Int), .int .u16 ((lk 14 : Nat) : Int), .int .u16 ((lk 15 : Nat) : Int)] 65 69
  have o1 := own_keepZ HO3.out (((Below.refl w3.heap.size w3).alloc (Nat.le_refl _) (.cells #[.slice none 0 0, .int .u16 0, .int .u16 0, .int .u16 0, .int .u16 0, .int .u16 0, .int .u16 0, .int .u16 0, .int .u16 0, .int .u16 0, .int .u16 0, .int .u16 0, .int .u16 0, .int .u16 0, .int .u16 0, .int .u16 0, .int .u16 0] 65)).alloc (by simp) (.cells #[.slice none 0 0, .int .u16 0, .int .u16 0, .int .u16 0, .int .u16 0, .int .u16 0, .int .u16 0, .int .u16 0, .int .u16 0, .int .u16 0, .int .u16 0, .int .u16 0, .int .u16 0, .int .u16 0, .int .u16 0, .int .u16 0, .int .u16 0] 69))
  have r1 := HR3.out.kept (((Below.refl w3.heap.size w3).alloc (Nat.le_refl _) (.cells #[.slice none 0 0, .int .u16 0, .int .u16 0, .int .u16 0, .int .u16 0, .int .u16 0, .int .u16 0, .int .u16 0, .int .u16 0, .int .u16 0, .int .u16 0, .int .u16 0, .int .u16 0, .int .u16 0, .int .u16 0, .int .u16 0, .int .u16 0] 65)).alloc (by simp) (.cells #[.slice none 0 0, .int .u16 0, .int .u16 0, .int .u16 0, .int .u16 0, .int .u16 0, .int .u16 0, .int .u16 0, .int .u16 0, .int .u16 0, .int .u16 0, .int .u16 0, .int .u16 0, .int .u16 0, .int .u16 0, .int .u16 0, .int .u16 0] 69))
  obtain ⟨wA, hwA⟩ : ∃ xW, (w3.alloc (.cells #[.slice none 0 0, .int .u16 0, .int .u16 0, .int .u16 0, .int .u16 0, .int .u16 0, .int .u16 0, .int .u16 0, .int .u16 0, .int .u16 0, .int .u16 0, .int .u16 0, .int .u16 0, .int .u16 0, .int .u16 0, .int .u16 0, .int .u16 0] 65)).alloc (.cells #[.slice none 0 0, .int .u16 0, .int .u16 0, .int .u16 0, .int .u16 0, .int .u16 0, .int .u16 0, .int .u16 0, .int .u16 0, .int .u16 0, .int .u16 0, .int .u16 0, .int .u16 0, .int .u16 0, .int .u16 0, .int .u16 0, .int .u16 0] 69) = xW := ⟨_, rfl⟩
  rw [hwA] at q1 q2 q3 o1 r1
  have o2 := o1.kept (grown_rowS wA w3.heap.size #[.slice a1 L.length c1, .int .u16 ((lk 0 : Nat) : Int), .int .u16 ((lk 1 : Nat) : Int), .int .u16 ((lk 2 : Nat) : Int), .int .u16 ((lk 3 : Nat) : Int), .int .u16 ((lk 4 : Nat) : Int), .int .u16 ((lk 5 : Nat) : Int), .int .u16 ((lk 6 : Nat) : Int), .int .u16 ((lk 7 : Nat) : Int), .int .u16 ((lk 8 : Nat) : Int), .int .u16 ((lk 9 : Nat) : Int), .int .u16 ((lk 10 : Nat) : Int), .int .u16 ((lk 11 : Nat) : Int), .int .u16 ((lk 12 : Nat) : Int), .int .u16 ((lk 13 : Nat) : Int), .int .u16 ((lk 14 : Nat) : Int), .int .u16 ((lk 15 : Nat) : Int)]) (.inr (Ne.symm (box_apart q2 o1 (by decide))))
  have r2 := r1.box (grown_rowS wA w3.heap.size #[.slice a1 L.length c1, .int .u16 ((lk 0 : Nat) : Int), .int .u16 ((lk 1 : Nat) : Int), .int .u16 ((lk 2 : Nat) : Int), .int .u16 ((lk 3 : Nat) : Int), .int .u16 ((lk 4 : Nat) : Int), .int .u16 ((lk 5 : Nat) : Int), .int .u16 ((lk 6 : Nat) : Int), .int .u16 ((lk 7 : Nat) : Int), .int .u16 ((lk 8 : Nat) : Int), .int .u16 ((lk 9 : Nat) : Int), .int .u16 ((lk 10 : Nat) : Int), .int .u16 ((lk 11 : Nat) : Int), .int .u16 ((lk 12 : Nat) : Int), .int .u16 ((lk 13 : Nat) : Int), .int .u16 ((lk 14 : Nat) : Int), .int .u16 ((lk 15 : Nat) : Int)]) q2 (by decide) (by decide)
  obtain ⟨wB, hwB⟩ : ∃ xW, wA.setRow w3.heap.size #[.slice a1 L.length c1, .int .u16 ((lk 0 : Nat) : Int), .int .u16 ((lk 1 : Nat) : Int), .int .u16 ((lk 2 : Nat) : Int), .int .u16 ((lk 3 : Nat) : Int), .int .u16 ((lk 4 : Nat) : Int), .int .u16 ((lk 5 : Nat) : Int), .int .u16 ((lk 6 : Nat) : Int), .int .u16 ((lk 7 : Nat) : Int), .int .u16 ((lk 8 : Nat) : Int), .int .u16 ((lk 9 : Nat) : Int), .int .u16 ((lk 10 : Nat) : Int), .int .u16 ((lk 11 : Nat) : Int), .int .u16 ((lk 12 : Nat) : Int), .int .u16 ((lk 13 : Nat) : Int), .int .u16 ((lk 14 : Nat) : Int), .int .u16 ((lk 15 : Nat) : Int)] = xW := ⟨_, rfl⟩
  rw [hwB] at q1 q3 o2 r2
  have o3 := o2.kept (grown_rowS wB (w3.heap.size + 1) #[.slice a2 L.length c2, .int .u16 ((lk 0 : Nat) : Int), .int .u16 ((lk 1 : Nat) : Int), .int .u16 ((lk 2 : Nat) : Int), .int .u16 ((lk 3 : Nat) : Int), .int .u16 ((lk 4 : Nat) : Int), .int .u16 ((lk 5 : Nat) : Int), .int .u16 ((lk 6 : Nat) : Int), .int .u16 ((lk 7 : Nat) : Int), .int .u16 ((lk 8 : Nat) : Int), .int .u16 ((lk 9 : Nat) : Int), .int .u16 ((lk 10 : Nat) : Int), .int .u16 ((lk 11 : Nat) : Int), .int .u16 ((lk 12 : Nat) : Int), .int .u16 ((lk 13 : Nat) : Int), .int .u16 ((lk 14 : Nat) : Int), .int .u16 ((lk 15 : Nat) : Int)]) (.inr (Ne.symm (box_apart q3 o2 (by decide))))
  have r3 := r2.box (grown_rowS wB (w3.heap.size + 1) #[.slice a2 L.length c2, .int .u16 ((lk 0 : Nat) : Int), .int .u16 ((lk 1 : Nat) : Int), .int .u16 ((lk 2 : Nat) : Int), .int .u16 ((lk 3 : Nat) : Int), .int .u16 ((lk 4 : Nat) : Int), .int .u16 ((lk 5 : Nat) : Int), .int .u16 ((lk 6 : Nat) : Int), .int .u16 ((lk 7 : Nat) : Int), .int .u16 ((lk 8 : Nat) : Int), .int .u16 ((lk 9 : Nat) : Int), .int .u16 ((lk 10 : Nat) : Int), .int .u16 ((lk 11 : Nat) : Int), .int .u16 ((lk 12 : Nat) : Int), .int .u16 ((lk 13 : Nat) : Int), .int .u16 ((lk 14 : Nat) : Int), .int .u16 ((lk 15 : Nat) : Int)]) q3 (by decide) (by decide)
  obtain ⟨wC, hwC⟩ : ∃ xW, wB.setRow (w3.heap.size + 1) #[.slice a2 L.length c2, .int .u16 ((lk 0 : Nat) : Int), .int .u16 ((lk 1 : Nat) : Int), .int .u16 ((lk 2 : Nat) : Int), .int .u16 ((lk 3 : Nat) : Int), .int .u16 ((lk 4 : Nat) : Int), .int .u16 ((lk 5 : Nat) : Int), .int .u16 ((lk 6 : Nat) : Int), .int .u16 ((lk 7 : Nat) : Int), .int .u16 ((lk 8 : Nat) : Int), .int .u16 ((lk 9 : Nat) : Int), .int .u16 ((lk 10 : Nat) : Int), .int .u16 ((lk 11 : Nat) : Int), .int .u16 ((lk 12 : Nat) : Int), .int .u16 ((lk 13 : Nat) : Int), .int .u16 ((lk 14 : Nat) : Int), .int .u16 ((lk 15 : Nat) : Int)] = xW := ⟨_, rfl⟩
  rw [hwC] at q1 o3 r3
  clear o1 r1 o2 r2 HO3 HR3 HQ3
  go_upto_region 4 with (first | ((with_reducible show wpList _ _ _ (_ :: _) _ _); (try rw [hwA]); refine wpList_store_row rfl 65 _ _ rfl _ _ rfl rfl _ _ q2 (by exact size_mp) (by rfl) (by simp [Value.oneCell']) ?_; rw [hwB]) | ((with_reducible show wpList _ _ _ (_ :: _) _ _); refine wpList_store_row rfl 69 _ _ rfl _ _ rfl rfl _ _ q3 (by exact size_rm) (by rfl) (by simp [Value.oneCell']) ?_; rw [hwC]))
  obtain ⟨ga, hga⟩ : ∃ g, g = w3.heap.size := ⟨_, rfl⟩
  obtain ⟨gb, hgb⟩ : ∃ g, g = w3.heap.size + 1 := ⟨_, rfl⟩
  rw [← hgb, ← hga] at q1
  rw [← hgb, ← hga]
  have HQC := Lib.hid (show Bq w wC [(g0, #[.int .u16 ((lk 0 : Nat) : Int), .int .u16 ((lk 1 : Nat) : Int), .int .u16 ((lk 2 : Nat) : Int), .int .u16 ((lk 3 : Nat) : Int), .int .u16 ((lk 4 : Nat) : Int), .int .u16 ((lk 5 : Nat) : Int), .int .u16 ((lk 6 : Nat) : Int), .int .u16 ((lk 7 : Nat) : Int), .int .u16 ((lk 8 : Nat) : Int), .int .u16 ((lk 9 : Nat) : Int), .int .u16 ((lk 10 : Nat) : Int), .int .u16 ((lk 11 : Nat) : Int), .int .u16 ((lk 12 : Nat) : Int), .int .u16 ((lk 13 : Nat) : Int), .int .u16 ((lk 14 : Nat) : Int), .int .u16 ((lk 15 : Nat) : Int)], 62), (g8, #[.int .i8 (c 0), .int .i8 (c 1), .int .i8 (c 2), .int .i8 (c 3), .int .i8 (c 4), .int .i8 (c 5)], 76), (ga, #[.slice a1 L.length c1, .int .u16 ((lk 0 : Nat) : Int), .int .u16 ((lk 1 : Nat) : Int), .int .u16 ((lk 2 : Nat) : Int), .int .u16 ((lk 3 : Nat) : Int), .int .u16 ((lk 4 : Nat) : Int), .int .u16 ((lk 5 : Nat) : Int), .int .u16 ((lk 6 : Nat) : Int), .int .u16 ((lk 7 : Nat) : Int), .int .u16 ((lk 8 : Nat) : Int), .int .u16 ((lk 9 : Nat) : Int), .int .u16 ((lk 10 : Nat) : Int), .int .u16 ((lk 11 : Nat) : Int), .int .u16 ((lk 12 : Nat) : Int), .int .u16 ((lk 13 : Nat) : Int), .int .u16 ((lk 14 : Nat) : Int), .int .u16 ((lk 15 : Nat) : Int)], 65), (gb, #[.slice a2 L.length c2, .int .u16 ((lk 0 : Nat) : Int), .int .u16 ((lk 1 : Nat) : Int), .int .u16 ((lk 2 : Nat) : Int), .int .u16 ((lk 3 : Nat) : Int), .int .u16 ((lk 4 : Nat) : Int), .int .u16 ((lk 5 : Nat) : Int), .int .u16 ((lk 6 : Nat) : Int), .int .u16 ((lk 7 : Nat) : Int), .int .u16 ((lk 8 : Nat) : Int), .int .u16 ((lk 9 : Nat) : Int), .int .u16 ((lk 10 : Nat) : Int), .int .u16 ((lk 11 : Nat) : Int), .int .u16 ((lk 12 : Nat) : Int), .int .u16 ((lk 13 : Nat) : Int), .int .u16 ((lk 14 : Nat) : Int), .int .u16 ((lk 15 : Nat) : Int)], 69)] from q1)
  have HOC := Lib.hid o3
  have HRC := Lib.hid r3
  clear hga hgb q1 q2 q3 o3 r3 hwA hwB hwC hzm hzr
  have b2 := HQC.out.of 3 rfl
  (try simp only [Act.put])
  go_wp2_with ((with_reducible show wpList _ _ _ (_ :: _) _ _); refine wpList_load_row rfl 69 _ rfl _ rfl _ _ _ _ b2 Try.underlying69 rfl (by exact size_rm) ?_; (try go_simp))
  go_at_call 31
  refine (All_is w2.heap.size a2 c2 0 L lk wC HRC.out HLK.out (by decide) hL6 hLv).mono ?_
  rintro e w4 ⟨vA, rfl, hoA, hb⟩
  have hmem := fun x => @DD_mem L lk 0 x
  have hEl : (DD L lk 0).length ≤ 16777216 := by rw [← findR_n L lk noneC 0]; exact findR_le L lk noneC 0 hL6
  obtain ⟨E, hE⟩ : ∃ E, DD L lk 0 = E := ⟨_, rfl⟩
  rw [hE] at hoA hmem hEl
  obtain ⟨n, hn⟩ : ∃ n, E.length = n := ⟨_, rfl⟩
  rw [hn] at hoA hEl
  obtain ⟨aA, cA, rfl⟩ := own_formC hoA
  have HMEM := Lib.hid hmem
  have HN := Lib.hid hn
  have HOA := Lib.hid hoA
  have HQ4 := Lib.hid (HQC.out.step hb)
  have HO4 := Lib.hid (own_keepZ HOC.out hb)
  have HR4 := Lib.hid (HRC.out.kept hb)
  clear b2 hb hoA hmem hn hE HQC HOC HRC
  by_cases h0 : 0 < n
  · have hgt : decide ((0 : Int) < ((n : Nat) : Int)) = true := decide_eq_true (by omega)
    by_cases h4 : 0 < pick % 4
    · have hg4 : decide ((0 : Int) < ((pick : Nat) : Int) % 4) = true := decide_eq_true (by omega)
      obtain ⟨m, hm⟩ : ∃ m, pick % n = m := ⟨_, rfl⟩
      have hmn : m < n := by rw [← hm]; exact Nat.mod_lt _ h0
      have hrm : Int.tmod ((pick : Nat) : Int) ((n : Nat) : Int) = ((m : Nat) : Int) := by rw [Int.tmod_eq_emod_of_nonneg (by omega), ← hm]; rfl
      obtain ⟨g, rfl, hgb, hgw, hrg⟩ := own_rangeC HOA.out HN.out hmn
      have hxm : E.getD m [] ∈ E := by rw [List.getD, List.getElem?_eq_getElem (by rw [HN.out]; exact hmn)]; exact List.getElem_mem _
      have hko := chain_ok (HMEM.out _ hxm).2
      obtain ⟨k, hk⟩ : ∃ k, chainC (E.getD m []) = k := ⟨_, rfl⟩
      rw [hk] at hrg hko
      have HKO := Lib.hid hko
      clear hm hk hko hxm hgb
      have b8 := HQ4.out.of 1 rfl
      have hq5 := HQ4.out.put 1 rfl #[.int .i8 (k 0), .int .i8 (k 1), .int .i8 (k 2), .int .i8 (k 3), .int .i8 (k 4), .int .i8 (k 5)]
      have ho5 := HO4.out.kept (grown_rowS w4 g8 #[.int .i8 (k 0), .int .i8 (k 1), .int .i8 (k 2), .int .i8 (k 3), .int .i8 (k 4), .int .i8 (k 5)]) (.inr (Ne.symm (box_apart b8 HO4.out (by decide))))
      have hr5 := HR4.out.box (grown_rowS w4 g8 #[.int .i8 (k 0), .int .i8 (k 1), .int .i8 (k 2), .int .i8 (k 3), .int .i8 (k 4), .int .i8 (k 5)]) b8 (by decide) (by decide)
      go_upto_region 6 with fail
      go_upto_region 7 with (first | ((with_reducible show wpList _ _ _ (_ :: _) _ _); refine wpList_load_mid rfl 75 _ rfl _ (m * 6) rfl (chl k) _ hrg Try.underlying75 rfl size_six ?_; rw [show (chl k).toArray = #[.int .i8 (k 0), .int .i8 (k 1), .int .i8 (k 2), .int .i8 (k 3), .int .i8 (k 4), .int .i8 (k 5)] from rfl]; (try go_simp)) | ((with_reducible show wpList _ _ _ (_ :: _) _ _); refine wpList_store_row rfl 76 _ _ rfl _ _ rfl rfl _ _ b8 (by exact size_ch) (by rfl) (by simp [Value.oneCell']) ?_))
      obtain ⟨w5, hw5⟩ : ∃ w5, w5 = w4.setRow g8 #[.int .i8 (k 0), .int .i8 (k 1), .int .i8 (k 2), .int .i8 (k 3), .int .i8 (k 4), .int .i8 (k 5)] := ⟨_, rfl⟩
      rw [← hw5] at hq5 ho5 hr5 ⊢
      have HQ := Lib.hid (show Bq w w5 [(g0, #[.int .u16 ((lk 0 : Nat) : Int), .int .u16 ((lk 1 : Nat) : Int), .int .u16 ((lk 2 : Nat) : Int), .int .u16 ((lk 3 : Nat) : Int), .int .u16 ((lk 4 : Nat) : Int), .int .u16 ((lk 5 : Nat) : Int), .int .u16 ((lk 6 : Nat) : Int), .int .u16 ((lk 7 : Nat) : Int), .int .u16 ((lk 8 : Nat) : Int), .int .u16 ((lk 9 : Nat) : Int), .int .u16 ((lk 10 : Nat) : Int), .int .u16 ((lk 11 : Nat) : Int), .int .u16 ((lk 12 : Nat) : Int), .int .u16 ((lk 13 : Nat) : Int), .int .u16 ((lk 14 : Nat) : Int), .int .u16 ((lk 15 : Nat) : Int)], 62), (g8, #[.int .i8 (k 0), .int .i8 (k 1), .int .i8 (k 2), .int .i8 (k 3), .int .i8 (k 4), .int .i8 (k 5)], 76), (ga, #[.slice a1 L.length c1, .int .u16 ((lk 0 : Nat) : Int), .int .u16 ((lk 1 : Nat) : Int), .int .u16 ((lk 2 : Nat) : Int), .int .u16 ((lk 3 : Nat) : Int), .int .u16 ((lk 4 : Nat) : Int), .int .u16 ((lk 5 : Nat) : Int), .int .u16 ((lk 6 : Nat) : Int), .int .u16 ((lk 7 : Nat) : Int), .int .u16 ((lk 8 : Nat) : Int), .int .u16 ((lk 9 : Nat) : Int), .int .u16 ((lk 10 : Nat) : Int), .int .u16 ((lk 11 : Nat) : Int), .int .u16 ((lk 12 : Nat) : Int), .int .u16 ((lk 13 : Nat) : Int), .int .u16 ((lk 14 : Nat) : Int), .int .u16 ((lk 15 : Nat) : Int)], 65), (gb, #[.slice a2 L.length c2, .int .u16 ((lk 0 : Nat) : Int), .int .u16 ((lk 1 : Nat) : Int), .int .u16 ((lk 2 : Nat) : Int), .int .u16 ((lk 3 : Nat) : Int), .int .u16 ((lk 4 : Nat) : Int), .int .u16 ((lk 5 : Nat) : Int), .int .u16 ((lk 6 : Nat) : Int), .int .u16 ((lk 7 : Nat) : Int), .int .u16 ((lk 8 : Nat) : Int), .int .u16 ((lk 9 : Nat) : Int), .int .u16 ((lk 10 : Nat) : Int), .int .u16 ((lk 11 : Nat) : Int), .int .u16 ((lk 12 : Nat) : Int), .int .u16 ((lk 13 : Nat) : Int), .int .u16 ((lk 14 : Nat) : Int), .int .u16 ((lk 15 : Nat) : Int)], 69)] from hq5)
      have HO := Lib.hid ho5
      have HRR := Lib.hid hr5
      clear hw5 hq5 ho5 hr5 b8 hrg hgw hgt hg4 hrm HQ4 HO4 HR4 HOA
      (try simp only [Act.put])
      skip
      have HM := Lib.hid (map_own HO.out hLv HLK.out hL6)
      have hni := near_is L lk k bad hL6
      have hown := near_own L lk k bad hL6
      have hdok := near_ok L lk k bad hL6
      obtain ⟨X, hX⟩ : ∃ X, findR L lk k bad = X := ⟨_, rfl⟩
      rw [hX] at hni hown hdok
      obtain ⟨d, hd⟩ : ∃ d, nearC X = d := ⟨_, rfl⟩
      rw [hd] at hni hown hdok
      obtain ⟨bX, hbX⟩ : ∃ b, decide (0 < X.n) = b := ⟨_, rfl⟩
      rw [hbX] at hni
      have T1 := Lib.hid (show (.tuple #[.agg #[.int .i8 ((nearC (findR L lk k bad)) 0), .int .i8 ((nearC (findR L lk k bad)) 1), .int .i8 ((nearC (findR L lk k bad)) 2), .int .i8 ((nearC (findR L lk k bad)) 3), .int .i8 ((nearC (findR L lk k bad)) 4), .int .i8 ((nearC (findR L lk k bad)) 5)], .bool (decide (0 < (findR L lk k bad).n))] : Value) = .tuple #[.agg #[.int .i8 (d 0), .int .i8 (d 1), .int .i8 (d 2), .int .i8 (d 3), .int .i8 (d 4), .int .i8 (d 5)], .bool bX] by rw [hX, hd, hbX])
      have T2 := Lib.hid (show (.tuple #[.agg #[.int .i8 ((bestF k (DD L lk bad)).1 0), .int .i8 ((bestF k (DD L lk bad)).1 1), .int .i8 ((bestF k (DD L lk bad)).1 2), .int .i8 ((bestF k (DD L lk bad)).1 3), .int .i8 ((bestF k (DD L lk bad)).1 4), .int .i8 ((bestF k (DD L lk bad)).1 5)], .bool (bestF k (DD L lk bad)).2] : Value) = .tuple #[.agg #[.int .i8 (d 0), .int .i8 (d 1), .int .i8 (d 2), .int .i8 (d 3), .int .i8 (d 4), .int .i8 (d 5)], .bool bX] by rw [hni.1, hni.2])
      obtain ⟨R, hR⟩ : ∃ R, allB (passB L lk k bad) = R := ⟨_, rfl⟩
      rw [hR] at hown
      have HR := Lib.hid hR
      have HOWN := Lib.hid hown
      have HDO := Lib.hid (show ChOk d from hdok)
      clear hni hown hdok hX hd hbX hR
      have b1 := HQ.out.of 2 rfl
      have b8 := HQ.out.of 1 rfl
      go_wp2_with (first | ((with_reducible show wpList _ _ _ (_ :: _) _ _); refine wpList_load_row rfl 65 _ rfl _ rfl _ _ _ _ b1 Try.underlying65 rfl (by exact size_mp) ?_; (try go_simp)) | ((with_reducible show wpList _ _ _ (_ :: _) _ _); refine wpList_load_row rfl 76 _ rfl _ rfl _ _ _ _ b8 Try.underlying76 rfl (by exact size_ch) ?_; (try go_simp)))
      go_at_call 39
      refine (Near_any HM.out k bad hbad).mono ?_
      rintro e w6 ⟨rfl, hb⟩
      rw [T1.out]
      have HQ6 := Lib.hid (HQ.out.step hb)
      have HO6 := Lib.hid (own_keepZ HO.out hb)
      have HR6 := Lib.hid (HRR.out.kept hb)
      have hqn := HQ6.out.new #[.int .i8 (d 0), .int .i8 (d 1), .int .i8 (d 2), .int .i8 (d 3), .int .i8 (d 4), .int .i8 (d 5)] 76
      have hal := (Below.refl w6.heap.size w6).alloc (Nat.le_refl _) (.cells #[.int .i8 (d 0), .int .i8 (d 1), .int .i8 (d 2), .int .i8 (d 3), .int .i8 (d 4), .int .i8 (d 5)] 76)
      have hon := own_keepZ HO6.out hal
      have hrn := HR6.out.kept hal
      clear hb b1 b8 hal HM HQ HO HRR
      go_upto_region 8 with ((with_reducible show wpList _ _ _ (_ :: _) _ _); refine wpList_store_row rfl 76 _ _ rfl _ _ rfl rfl _ _ (heap_alloc_new _ _) (by exact size_ch) (by rfl) (by simp [Value.oneCell']) ?_; rw [World.setRow_alloc_new])
      obtain ⟨w7, hw7⟩ : ∃ w7, w7 = w6.alloc (.cells #[.int .i8 (d 0), .int .i8 (d 1), .int .i8 (d 2), .int .i8 (d 3), .int .i8 (d 4), .int .i8 (d 5)] 76) := ⟨_, rfl⟩
      obtain ⟨gd, hgd⟩ : ∃ g, g = w6.heap.size := ⟨_, rfl⟩
      rw [← hw7] at hqn hon hrn ⊢
      rw [← hgd] at hqn ⊢
      have HQ7 := Lib.hid hqn
      have HO7 := Lib.hid hon
      have HR7 := Lib.hid hrn
      clear hw7 hgd hqn hon hrn HQ6 HO6 HR6
      have b2 := HQ7.out.of 3 rfl
      have b8 := HQ7.out.of 1 rfl
      (try simp only [Act.put])
      go_wp2_with (first | ((with_reducible show wpList _ _ _ (_ :: _) _ _); refine wpList_load_row rfl 69 _ rfl _ rfl _ _ _ _ b2 Try.underlying69 rfl (by exact size_rm) ?_; (try go_simp)) | ((with_reducible show wpList _ _ _ (_ :: _) _ _); refine wpList_load_row rfl 76 _ rfl _ rfl _ _ _ _ b8 Try.underlying76 rfl (by exact size_ch) ?_; (try go_simp)))
      go_at_call 40
      refine (rNear_any w2.heap.size a2 c2 bad L lk k w7 HR7.out HLK.out hbad hL6 hLv).mono ?_
      rintro e w8 ⟨rfl, hb⟩
      rw [T2.out]
      have HQ8 := Lib.hid (HQ7.out.step hb)
      have HO8 := Lib.hid (own_keepZ HO7.out hb)
      have hqn := HQ8.out.new #[.int .i8 (d 0), .int .i8 (d 1), .int .i8 (d 2), .int .i8 (d 3), .int .i8 (d 4), .int .i8 (d 5)] 75
      have hal := (Below.refl w8.heap.size w8).alloc (Nat.le_refl _) (.cells #[.int .i8 (d 0), .int .i8 (d 1), .int .i8 (d 2), .int .i8 (d 3), .int .i8 (d 4), .int .i8 (d 5)] 75)
      have hon := own_keepZ HO8.out hal
      clear hb b2 b8 hal HQ7 HO7 HR7
      have hz6 := zero_six
      go_upto_region 9 with ((with_reducible show wpList _ _ _ (_ :: _) _ _); refine wpList_store_row rfl 75 _ _ rfl _ _ rfl rfl _ _ (heap_alloc_new _ _) (by exact size_six) (by rfl) (by simp [Value.oneCell']) ?_; rw [World.setRow_alloc_new])
      obtain ⟨w9, hw9⟩ : ∃ w9, w9 = w8.alloc (.cells #[.int .i8 (d 0), .int .i8 (d 1), .int .i8 (d 2), .int .i8 (d 3), .int .i8 (d 4), .int .i8 (d 5)] 75) := ⟨_, rfl⟩
      obtain ⟨ge, hge⟩ : ∃ g, g = w8.heap.size := ⟨_, rfl⟩
      rw [← hw9] at hqn hon ⊢
      rw [← hge] at hqn ⊢
      have HQ9 := Lib.hid hqn
      have HM9 := Lib.hid (map_own hon hLv HLK.out hL6)
      clear hw9 hge hqn hon HQ8 HO8 hz6
      have b1 := HQ9.out.of 2 rfl
      have b8 := HQ9.out.of 1 rfl
      have bd := HQ9.out.of 4 rfl
      have be := HQ9.out.of 5 rfl
      have he := eqlCh HDO.out HDO.out
      simp only [sameC_refl] at he
      (try simp only [Act.put])
      go_wp2_with (first | (refine wpLoadGT (by (first | exact Go.Mix.wanted_none rfl | exact Go.Mix.wanted_tt rfl rfl rfl | exact Go.Mix.wanted_ff rfl rfl rfl)) 65 _ rfl _ rfl _ _ _ _ b1 Try.underlying65 rfl (by exact size_mp) ?_; (try go_simp)) | (refine wpLoadGT (by (first | exact Go.Mix.wanted_none rfl | exact Go.Mix.wanted_tt rfl rfl rfl | exact Go.Mix.wanted_ff rfl rfl rfl)) 76 _ rfl _ rfl _ _ _ _ b8 Try.underlying76 rfl (by exact size_ch) ?_; (try go_simp)) | (refine wpLoadGT (by (first | exact Go.Mix.wanted_none rfl | exact Go.Mix.wanted_tt rfl rfl rfl | exact Go.Mix.wanted_ff rfl rfl rfl)) 76 _ rfl _ rfl _ _ _ _ bd Try.underlying76 rfl (by exact size_ch) ?_; (try go_simp)) | (refine wpLoadGT (by (first | exact Go.Mix.wanted_none rfl | exact Go.Mix.wanted_tt rfl rfl rfl | exact Go.Mix.wanted_ff rfl rfl rfl)) 75 _ rfl _ rfl _ _ _ _ be Try.underlying75 rfl (by exact size_six) ?_; (try go_simp)))
      go_at_call 36
      refine (Admits_any HM9.out k bad hbad HKO.out).mono ?_
      rintro e w10 ⟨rfl, hb⟩
      rw [HR.out]
      have HQX := Lib.hid (HQ9.out.step hb)
      clear hb b1 b8 bd be HQ9 HM9
      cases R
      · go_wp2_with fail
        go_ret
        exact ⟨rfl, HQX.out.be⟩
      · have hs : sameC d k = true := by
          rw [sameC_iff]
          have := HOWN.out rfl
          rw [this 0 (by omega), this 1 (by omega), this 2 (by omega), this 3 (by omega), this 4 (by omega), this 5 (by omega)]
        have he2 := eqlCh HDO.out HKO.out
        simp only [hs] at he2
        have bd := HQX.out.of 4 rfl
        have b8 := HQX.out.of 1 rfl
        clear he hs
        go_wp2_with (first | (refine wpLoadGT (by (first | exact Go.Mix.wanted_none rfl | exact Go.Mix.wanted_tt rfl rfl rfl | exact Go.Mix.wanted_ff rfl rfl rfl)) 76 _ rfl _ rfl _ _ _ _ b8 Try.underlying76 rfl (by exact size_ch) ?_; (try go_simp)) | (refine wpLoadGT (by (first | exact Go.Mix.wanted_none rfl | exact Go.Mix.wanted_tt rfl rfl rfl | exact Go.Mix.wanted_ff rfl rfl rfl)) 76 _ rfl _ rfl _ _ _ _ bd Try.underlying76 rfl (by exact size_ch) ?_; (try go_simp)))
        go_ret
        exact ⟨rfl, HQX.out.be⟩
    · have hg4 : decide ((0 : Int) < ((pick : Nat) : Int) % 4) = false := decide_eq_false (by omega)
      go_upto_region 7 with fail
      obtain ⟨k, rfl⟩ : ∃ k, k = c := ⟨_, rfl⟩
      have HQ := HQ4
      have HO := HO4
      have HRR := HR4
      have HKO := HCO
      clear HQ4 HO4 HR4 HCO hgt hg4 HOA
      skip
      have HM := Lib.hid (map_own HO.out hLv HLK.out hL6)
      have hni := near_is L lk k bad hL6
      have hown := near_own L lk k bad hL6
      have hdok := near_ok L lk k bad hL6
      obtain ⟨X, hX⟩ : ∃ X, findR L lk k bad = X := ⟨_, rfl⟩
      rw [hX] at hni hown hdok
      obtain ⟨d, hd⟩ : ∃ d, nearC X = d := ⟨_, rfl⟩
      rw [hd] at hni hown hdok
      obtain ⟨bX, hbX⟩ : ∃ b, decide (0 < X.n) = b := ⟨_, rfl⟩
      rw [hbX] at hni
      have T1 := Lib.hid (show (.tuple #[.agg #[.int .i8 ((nearC (findR L lk k bad)) 0), .int .i8 ((nearC (findR L lk k bad)) 1), .int .i8 ((nearC (findR L lk k bad)) 2), .int .i8 ((nearC (findR L lk k bad)) 3), .int .i8 ((nearC (findR L lk k bad)) 4), .int .i8 ((nearC (findR L lk k bad)) 5)], .bool (decide (0 < (findR L lk k bad).n))] : Value) = .tuple #[.agg #[.int .i8 (d 0), .int .i8 (d 1), .int .i8 (d 2), .int .i8 (d 3), .int .i8 (d 4), .int .i8 (d 5)], .bool bX] by rw [hX, hd, hbX])
      have T2 := Lib.hid (show (.tuple #[.agg #[.int .i8 ((bestF k (DD L lk bad)).1 0), .int .i8 ((bestF k (DD L lk bad)).1 1), .int .i8 ((bestF k (DD L lk bad)).1 2), .int .i8 ((bestF k (DD L lk bad)).1 3), .int .i8 ((bestF k (DD L lk bad)).1 4), .int .i8 ((bestF k (DD L lk bad)).1 5)], .bool (bestF k (DD L lk bad)).2] : Value) = .tuple #[.agg #[.int .i8 (d 0), .int .i8 (d 1), .int .i8 (d 2), .int .i8 (d 3), .int .i8 (d 4), .int .i8 (d 5)], .bool bX] by rw [hni.1, hni.2])
      obtain ⟨R, hR⟩ : ∃ R, allB (passB L lk k bad) = R := ⟨_, rfl⟩
      rw [hR] at hown
      have HR := Lib.hid hR
      have HOWN := Lib.hid hown
      have HDO := Lib.hid (show ChOk d from hdok)
      clear hni hown hdok hX hd hbX hR
      have b1 := HQ.out.of 2 rfl
      have b8 := HQ.out.of 1 rfl
      go_wp2_with (first | ((with_reducible show wpList _ _ _ (_ :: _) _ _); refine wpList_load_row rfl 65 _ rfl _ rfl _ _ _ _ b1 Try.underlying65 rfl (by exact size_mp) ?_; (try go_simp)) | ((with_reducible show wpList _ _ _ (_ :: _) _ _); refine wpList_load_row rfl 76 _ rfl _ rfl _ _ _ _ b8 Try.underlying76 rfl (by exact size_ch) ?_; (try go_simp)))
      go_at_call 39
      refine (Near_any HM.out k bad hbad).mono ?_
      rintro e w6 ⟨rfl, hb⟩
      rw [T1.out]
      have HQ6 := Lib.hid (HQ.out.step hb)
      have HO6 := Lib.hid (own_keepZ HO.out hb)
      have HR6 := Lib.hid (HRR.out.kept hb)
      have hqn := HQ6.out.new #[.int .i8 (d 0), .int .i8 (d 1), .int .i8 (d 2), .int .i8 (d 3), .int .i8 (d 4), .int .i8 (d 5)] 76
      have hal := (Below.refl w6.heap.size w6).alloc (Nat.le_refl _) (.cells #[.int .i8 (d 0), .int .i8 (d 1), .int .i8 (d 2), .int .i8 (d 3), .int .i8 (d 4), .int .i8 (d 5)] 76)
      have hon := own_keepZ HO6.out hal
      have hrn := HR6.out.kept hal
      clear hb b1 b8 hal HM HQ HO HRR
      go_upto_region 8 with ((with_reducible show wpList _ _ _ (_ :: _) _ _); refine wpList_store_row rfl 76 _ _ rfl _ _ rfl rfl _ _ (heap_alloc_new _ _) (by exact size_ch) (by rfl) (by simp [Value.oneCell']) ?_; rw [World.setRow_alloc_new])
      obtain ⟨w7, hw7⟩ : ∃ w7, w7 = w6.alloc (.cells #[.int .i8 (d 0), .int .i8 (d 1), .int .i8 (d 2), .int .i8 (d 3), .int .i8 (d 4), .int .i8 (d 5)] 76) := ⟨_, rfl⟩
      obtain ⟨gd, hgd⟩ : ∃ g, g = w6.heap.size := ⟨_, rfl⟩
      rw [← hw7] at hqn hon hrn ⊢
      rw [← hgd] at hqn ⊢
      have HQ7 := Lib.hid hqn
      have HO7 := Lib.hid hon
      have HR7 := Lib.hid hrn
      clear hw7 hgd hqn hon hrn HQ6 HO6 HR6
      have b2 := HQ7.out.of 3 rfl
      have b8 := HQ7.out.of 1 rfl
      (try simp only [Act.put])
      go_wp2_with (first | ((with_reducible show wpList _ _ _ (_ :: _) _ _); refine wpList_load_row rfl 69 _ rfl _ rfl _ _ _ _ b2 Try.underlying69 rfl (by exact size_rm) ?_; (try go_simp)) | ((with_reducible show wpList _ _ _ (_ :: _) _ _); refine wpList_load_row rfl 76 _ rfl _ rfl _ _ _ _ b8 Try.underlying76 rfl (by exact size_ch) ?_; (try go_simp)))
      go_at_call 40
      refine (rNear_any w2.heap.size a2 c2 bad L lk k w7 HR7.out HLK.out hbad hL6 hLv).mono ?_
      rintro e w8 ⟨rfl, hb⟩
      rw [T2.out]
      have HQ8 := Lib.hid (HQ7.out.step hb)
      have HO8 := Lib.hid (own_keepZ HO7.out hb)
      have hqn := HQ8.out.new #[.int .i8 (d 0), .int .i8 (d 1), .int .i8 (d 2), .int .i8 (d 3), .int .i8 (d 4), .int .i8 (d 5)] 75
      have hal := (Below.refl w8.heap.size w8).alloc (Nat.le_refl _) (.cells #[.int .i8 (d 0), .int .i8 (d 1), .int .i8 (d 2), .int .i8 (d 3), .int .i8 (d 4), .int .i8 (d 5)] 75)
      have hon := own_keepZ HO8.out hal
      clear hb b2 b8 hal HQ7 HO7 HR7
      have hz6 := zero_six
      go_upto_region 9 with ((with_reducible show wpList _ _ _ (_ :: _) _ _); refine wpList_store_row rfl 75 _ _ rfl _ _ rfl rfl _ _ (heap_alloc_new _ _) (by exact size_six) (by rfl) (by simp [Value.oneCell']) ?_; rw [World.setRow_alloc_new])
      obtain ⟨w9, hw9⟩ : ∃ w9, w9 = w8.alloc (.cells #[.int .i8 (d 0), .int .i8 (d 1), .int .i8 (d 2), .int .i8 (d 3), .int .i8 (d 4), .int .i8 (d 5)] 75) := ⟨_, rfl⟩
      obtain ⟨ge, hge⟩ : ∃ g, g = w8.heap.size := ⟨_, rfl⟩
      rw [← hw9] at hqn hon ⊢
      rw [← hge] at hqn ⊢
      have HQ9 := Lib.hid hqn
      have HM9 := Lib.hid (map_own hon hLv HLK.out hL6)
      clear hw9 hge hqn hon HQ8 HO8 hz6
      have b1 := HQ9.out.of 2 rfl
      have b8 := HQ9.out.of 1 rfl
      have bd := HQ9.out.of 4 rfl
      have be := HQ9.out.of 5 rfl
      have he := eqlCh HDO.out HDO.out
      simp only [sameC_refl] at he
      (try simp only [Act.put])
      go_wp2_with (first | (refine wpLoadGT (by (first | exact Go.Mix.wanted_none rfl | exact Go.Mix.wanted_tt rfl rfl rfl | exact Go.Mix.wanted_ff rfl rfl rfl)) 65 _ rfl _ rfl _ _ _ _ b1 Try.underlying65 rfl (by exact size_mp) ?_; (try go_simp)) | (refine wpLoadGT (by (first | exact Go.Mix.wanted_none rfl | exact Go.Mix.wanted_tt rfl rfl rfl | exact Go.Mix.wanted_ff rfl rfl rfl)) 76 _ rfl _ rfl _ _ _ _ b8 Try.underlying76 rfl (by exact size_ch) ?_; (try go_simp)) | (refine wpLoadGT (by (first | exact Go.Mix.wanted_none rfl | exact Go.Mix.wanted_tt rfl rfl rfl | exact Go.Mix.wanted_ff rfl rfl rfl)) 76 _ rfl _ rfl _ _ _ _ bd Try.underlying76 rfl (by exact size_ch) ?_; (try go_simp)) | (refine wpLoadGT (by (first | exact Go.Mix.wanted_none rfl | exact Go.Mix.wanted_tt rfl rfl rfl | exact Go.Mix.wanted_ff rfl rfl rfl)) 75 _ rfl _ rfl _ _ _ _ be Try.underlying75 rfl (by exact size_six) ?_; (try go_simp)))
      go_at_call 36
      refine (Admits_any HM9.out k bad hbad HKO.out).mono ?_
      rintro e w10 ⟨rfl, hb⟩
      rw [HR.out]
      have HQX := Lib.hid (HQ9.out.step hb)
      clear hb b1 b8 bd be HQ9 HM9
      cases R
      · go_wp2_with fail
        go_ret
        exact ⟨rfl, HQX.out.be⟩
      · have hs : sameC d k = true := by
          rw [sameC_iff]
          have := HOWN.out rfl
          rw [this 0 (by omega), this 1 (by omega), this 2 (by omega), this 3 (by omega), this 4 (by omega), this 5 (by omega)]
        have he2 := eqlCh HDO.out HKO.out
        simp only [hs] at he2
        have bd := HQX.out.of 4 rfl
        have b8 := HQX.out.of 1 rfl
        clear he hs
        go_wp2_with (first | (refine wpLoadGT (by (first | exact Go.Mix.wanted_none rfl | exact Go.Mix.wanted_tt rfl rfl rfl | exact Go.Mix.wanted_ff rfl rfl rfl)) 76 _ rfl _ rfl _ _ _ _ b8 Try.underlying76 rfl (by exact size_ch) ?_; (try go_simp)) | (refine wpLoadGT (by (first | exact Go.Mix.wanted_none rfl | exact Go.Mix.wanted_tt rfl rfl rfl | exact Go.Mix.wanted_ff rfl rfl rfl)) 76 _ rfl _ rfl _ _ _ _ bd Try.underlying76 rfl (by exact size_ch) ?_; (try go_simp)))
        go_ret
        exact ⟨rfl, HQX.out.be⟩
  · have hgt : decide ((0 : Int) < ((n : Nat) : Int)) = false := decide_eq_false (by omega)
    go_upto_region 7 with fail
    obtain ⟨k, rfl⟩ : ∃ k, k = c := ⟨_, rfl⟩
    have HQ := HQ4
    have HO := HO4
    have HRR := HR4
    have HKO := HCO
    clear HQ4 HO4 HR4 HCO hgt HOA
    skip
    have HM := Lib.hid (map_own HO.out hLv HLK.out hL6)
    have hni := near_is L lk k bad hL6
    have hown := near_own L lk k bad hL6
    have hdok := near_ok L lk k bad hL6
    obtain ⟨X, hX⟩ : ∃ X, findR L lk k bad = X := ⟨_, rfl⟩
    rw [hX] at hni hown hdok
    obtain ⟨d, hd⟩ : ∃ d, nearC X = d := ⟨_, rfl⟩
    rw [hd] at hni hown hdok
    obtain ⟨bX, hbX⟩ : ∃ b, decide (0 < X.n) = b := ⟨_, rfl⟩
    rw [hbX] at hni
    have T1 := Lib.hid (show (.tuple #[.agg #[.int .i8 ((nearC (findR L lk k bad)) 0), .int .i8 ((nearC (findR L lk k bad)) 1), .int .i8 ((nearC (findR L lk k bad)) 2), .int .i8 ((nearC (findR L lk k bad)) 3), .int .i8 ((nearC (findR L lk k bad)) 4), .int .i8 ((nearC (findR L lk k bad)) 5)], .bool (decide (0 < (findR L lk k bad).n))] : Value) = .tuple #[.agg #[.int .i8 (d 0), .int .i8 (d 1), .int .i8 (d 2), .int .i8 (d 3), .int .i8 (d 4), .int .i8 (d 5)], .bool bX] by rw [hX, hd, hbX])
    have T2 := Lib.hid (show (.tuple #[.agg #[.int .i8 ((bestF k (DD L lk bad)).1 0), .int .i8 ((bestF k (DD L lk bad)).1 1), .int .i8 ((bestF k (DD L lk bad)).1 2), .int .i8 ((bestF k (DD L lk bad)).1 3), .int .i8 ((bestF k (DD L lk bad)).1 4), .int .i8 ((bestF k (DD L lk bad)).1 5)], .bool (bestF k (DD L lk bad)).2] : Value) = .tuple #[.agg #[.int .i8 (d 0), .int .i8 (d 1), .int .i8 (d 2), .int .i8 (d 3), .int .i8 (d 4), .int .i8 (d 5)], .bool bX] by rw [hni.1, hni.2])
    obtain ⟨R, hR⟩ : ∃ R, allB (passB L lk k bad) = R := ⟨_, rfl⟩
    rw [hR] at hown
    have HR := Lib.hid hR
    have HOWN := Lib.hid hown
    have HDO := Lib.hid (show ChOk d from hdok)
    clear hni hown hdok hX hd hbX hR
    have b1 := HQ.out.of 2 rfl
    have b8 := HQ.out.of 1 rfl
    go_wp2_with (first | ((with_reducible show wpList _ _ _ (_ :: _) _ _); refine wpList_load_row rfl 65 _ rfl _ rfl _ _ _ _ b1 Try.underlying65 rfl (by exact size_mp) ?_; (try go_simp)) | ((with_reducible show wpList _ _ _ (_ :: _) _ _); refine wpList_load_row rfl 76 _ rfl _ rfl _ _ _ _ b8 Try.underlying76 rfl (by exact size_ch) ?_; (try go_simp)))
    go_at_call 39
    refine (Near_any HM.out k bad hbad).mono ?_
    rintro e w6 ⟨rfl, hb⟩
    rw [T1.out]
    have HQ6 := Lib.hid (HQ.out.step hb)
    have HO6 := Lib.hid (own_keepZ HO.out hb)
    have HR6 := Lib.hid (HRR.out.kept hb)
    have hqn := HQ6.out.new #[.int .i8 (d 0), .int .i8 (d 1), .int .i8 (d 2), .int .i8 (d 3), .int .i8 (d 4), .int .i8 (d 5)] 76
    have hal := (Below.refl w6.heap.size w6).alloc (Nat.le_refl _) (.cells #[.int .i8 (d 0), .int .i8 (d 1), .int .i8 (d 2), .int .i8 (d 3), .int .i8 (d 4), .int .i8 (d 5)] 76)
    have hon := own_keepZ HO6.out hal
    have hrn := HR6.out.kept hal
    clear hb b1 b8 hal HM HQ HO HRR
    go_upto_region 8 with ((with_reducible show wpList _ _ _ (_ :: _) _ _); refine wpList_store_row rfl 76 _ _ rfl _ _ rfl rfl _ _ (heap_alloc_new _ _) (by exact size_ch) (by rfl) (by simp [Value.oneCell']) ?_; rw [World.setRow_alloc_new])
    obtain ⟨w7, hw7⟩ : ∃ w7, w7 = w6.alloc (.cells #[.int .i8 (d 0), .int .i8 (d 1), .int .i8 (d 2), .int .i8 (d 3), .int .i8 (d 4), .int .i8 (d 5)] 76) := ⟨_, rfl⟩
    obtain ⟨gd, hgd⟩ : ∃ g, g = w6.heap.size := ⟨_, rfl⟩
    rw [← hw7] at hqn hon hrn ⊢
    rw [← hgd] at hqn ⊢
    have HQ7 := Lib.hid hqn
    have HO7 := Lib.hid hon
    have HR7 := Lib.hid hrn
    clear hw7 hgd hqn hon hrn HQ6 HO6 HR6
    have b2 := HQ7.out.of 3 rfl
    have b8 := HQ7.out.of 1 rfl
    (try simp only [Act.put])
    go_wp2_with (first | ((with_reducible show wpList _ _ _ (_ :: _) _ _); refine wpList_load_row rfl 69 _ rfl _ rfl _ _ _ _ b2 Try.underlying69 rfl (by exact size_rm) ?_; (try go_simp)) | ((with_reducible show wpList _ _ _ (_ :: _) _ _); refine wpList_load_row rfl 76 _ rfl _ rfl _ _ _ _ b8 Try.underlying76 rfl (by exact size_ch) ?_; (try go_simp)))
    go_at_call 40
    refine (rNear_any w2.heap.size a2 c2 bad L lk k w7 HR7.out HLK.out hbad hL6 hLv).mono ?_
    rintro e w8 ⟨rfl, hb⟩
    rw [T2.out]
    have HQ8 := Lib.hid (HQ7.out.step hb)
    have HO8 := Lib.hid (own_keepZ HO7.out hb)
    have hqn := HQ8.out.new #[.int .i8 (d 0), .int .i8 (d 1), .int .i8 (d 2), .int .i8 (d 3), .int .i8 (d 4), .int .i8 (d 5)] 75
    have hal := (Below.refl w8.heap.size w8).alloc (Nat.le_refl _) (.cells #[.int .i8 (d 0), .int .i8 (d 1), .int .i8 (d 2), .int .i8 (d 3), .int .i8 (d 4), .int .i8 (d 5)] 75)
    have hon := own_keepZ HO8.out hal
    clear hb b2 b8 hal HQ7 HO7 HR7
    have hz6 := zero_six
    go_upto_region 9 with ((with_reducible show wpList _ _ _ (_ :: _) _ _); refine wpList_store_row rfl 75 _ _ rfl _ _ rfl rfl _ _ (heap_alloc_new _ _) (by exact size_six) (by rfl) (by simp [Value.oneCell']) ?_; rw [World.setRow_alloc_new])
    obtain ⟨w9, hw9⟩ : ∃ w9, w9 = w8.alloc (.cells #[.int .i8 (d 0), .int .i8 (d 1), .int .i8 (d 2), .int .i8 (d 3), .int .i8 (d 4), .int .i8 (d 5)] 75) := ⟨_, rfl⟩
    obtain ⟨ge, hge⟩ : ∃ g, g = w8.heap.size := ⟨_, rfl⟩
    rw [← hw9] at hqn hon ⊢
    rw [← hge] at hqn ⊢
    have HQ9 := Lib.hid hqn
    have HM9 := Lib.hid (map_own hon hLv HLK.out hL6)
    clear hw9 hge hqn hon HQ8 HO8 hz6
    have b1 := HQ9.out.of 2 rfl
    have b8 := HQ9.out.of 1 rfl
    have bd := HQ9.out.of 4 rfl
    have be := HQ9.out.of 5 rfl
    have he := eqlCh HDO.out HDO.out
    simp only [sameC_refl] at he
    (try simp only [Act.put])
    go_wp2_with (first | (refine wpLoadGT (by (first | exact Go.Mix.wanted_none rfl | exact Go.Mix.wanted_tt rfl rfl rfl | exact Go.Mix.wanted_ff rfl rfl rfl)) 65 _ rfl _ rfl _ _ _ _ b1 Try.underlying65 rfl (by exact size_mp) ?_; (try go_simp)) | (refine wpLoadGT (by (first | exact Go.Mix.wanted_none rfl | exact Go.Mix.wanted_tt rfl rfl rfl | exact Go.Mix.wanted_ff rfl rfl rfl)) 76 _ rfl _ rfl _ _ _ _ b8 Try.underlying76 rfl (by exact size_ch) ?_; (try go_simp)) | (refine wpLoadGT (by (first | exact Go.Mix.wanted_none rfl | exact Go.Mix.wanted_tt rfl rfl rfl | exact Go.Mix.wanted_ff rfl rfl rfl)) 76 _ rfl _ rfl _ _ _ _ bd Try.underlying76 rfl (by exact size_ch) ?_; (try go_simp)) | (refine wpLoadGT (by (first | exact Go.Mix.wanted_none rfl | exact Go.Mix.wanted_tt rfl rfl rfl | exact Go.Mix.wanted_ff rfl rfl rfl)) 75 _ rfl _ rfl _ _ _ _ be Try.underlying75 rfl (by exact size_six) ?_; (try go_simp)))
    go_at_call 36
    refine (Admits_any HM9.out k bad hbad HKO.out).mono ?_
    rintro e w10 ⟨rfl, hb⟩
    rw [HR.out]
    have HQX := Lib.hid (HQ9.out.step hb)
    clear hb b1 b8 bd be HQ9 HM9
    cases R
    · go_wp2_with fail
      go_ret
      exact ⟨rfl, HQX.out.be⟩
    · have hs : sameC d k = true := by
        rw [sameC_iff]
        have := HOWN.out rfl
        rw [this 0 (by omega), this 1 (by omega), this 2 (by omega), this 3 (by omega), this 4 (by omega), this 5 (by omega)]
      have he2 := eqlCh HDO.out HKO.out
      simp only [hs] at he2
      have bd := HQX.out.of 4 rfl
      have b8 := HQX.out.of 1 rfl
      clear he hs
      go_wp2_with (first | (refine wpLoadGT (by (first | exact Go.Mix.wanted_none rfl | exact Go.Mix.wanted_tt rfl rfl rfl | exact Go.Mix.wanted_ff rfl rfl rfl)) 76 _ rfl _ rfl _ _ _ _ b8 Try.underlying76 rfl (by exact size_ch) ?_; (try go_simp)) | (refine wpLoadGT (by (first | exact Go.Mix.wanted_none rfl | exact Go.Mix.wanted_tt rfl rfl rfl | exact Go.Mix.wanted_ff rfl rfl rfl)) 76 _ rfl _ rfl _ _ _ _ bd Try.underlying76 rfl (by exact size_ch) ?_; (try go_simp)))
      go_ret
      exact ⟨rfl, HQX.out.be⟩
end Go.Proofs.Ytioclbkgfbjpdaa
