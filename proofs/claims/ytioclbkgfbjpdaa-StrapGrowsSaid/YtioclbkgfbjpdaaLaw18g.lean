/- StrapGrows. -/
import Derived.Test.YtioclbkgfbjpdaaLaw18
namespace Go.Proofs.Ytioclbkgfbjpdaa
open Go.RowKit Go.Own Bs
set_option linter.unusedVariables false
set_option linter.unusedSimpArgs false
set_option maxRecDepth 100000 in
set_option maxHeartbeats 8000000 in
theorem walk_StrapGrows (a0 : Option Addr) (len0 cap0 : Nat) (z0 z1 : List Int) (a2 a3 : Int) (w : World) (w0 : IsRow .u16 w a0 len0 cap0 z0) (l1 : z1.length = 16) (w1 : ∀ x ∈ z1, (Lit.int .u16 x).wf = true) (w2 : (Lit.int .u16 a2).wf = true) (w3 : (Lit.int .u16 a3).wf = true) :
    Calls Try.prog 9 #[.slice a0 len0 cap0, .agg (z1.map (Value.int .u16)).toArray, .int .u16 a2, .int .u16 a3] w fun e w' => e = .returned (.bool true) ∧ Below w.heap.size w w' := by
  skip
  obtain ⟨z, hzl, hzv, hzr⟩ := isRow_u16S w0
  obtain ⟨lk, hlk, elk⟩ := lk_of l1 w1
  rw [elk]
  obtain ⟨hL6, hLv⟩ := layS_six hzv
  have HZR := Lib.hid hzr
  have HZV := Lib.hid hzv
  have HLK := Lib.hid hlk
  have hzm := zero_mp
  have hzr := zero_rm
  have hzc := zero_ch
  have hq := (Bq.nil w).new #[.int .u16 ((lk 0 : Nat) : Int), .int .u16 ((lk 1 : Nat) : Int), .int .u16 ((lk 2 : Nat) : Int), .int .u16 ((lk 3 : Nat) : Int), .int .u16 ((lk 4 : Nat) : Int), .int .u16 ((lk 5 : Nat) : Int), .int .u16 ((lk 6 : Nat) : Int), .int .u16 ((lk 7 : Nat) : Int), .int .u16 ((lk 8 : Nat) : Int), .int .u16 ((lk 9 : Nat) : Int), .int .u16 ((lk 10 : Nat) : Int), .int .u16 ((lk 11 : Nat) : Int), .int .u16 ((lk 12 : Nat) : Int), .int .u16 ((lk 13 : Nat) : Int), .int .u16 ((lk 14 : Nat) : Int), .int .u16 ((lk 15 : Nat) : Int)] 62
  clear w0 l1 w1 elk hzv hlk
  obtain ⟨bad, rfl⟩ := Int.eq_ofNat_of_zero_le (bounds_u16 w2).1
  obtain ⟨more, rfl⟩ := Int.eq_ofNat_of_zero_le (bounds_u16 w3).1
  have hbad : bad < 65536 := by have := (bounds_u16 w2).2; omega
  have hmore : more < 65536 := by have := (bounds_u16 w3).2; omega
  clear w2 w3
  go_enter Try.func9, Try.ntmps9
  skip
  go_upto_region 1 with fail
  obtain ⟨w1, hw1⟩ : ∃ w1, w1 = w.alloc (.cells #[.int .u16 ((lk 0 : Nat) : Int), .int .u16 ((lk 1 : Nat) : Int), .int .u16 ((lk 2 : Nat) : Int), .int .u16 ((lk 3 : Nat) : Int), .int .u16 ((lk 4 : Nat) : Int), .int .u16 ((lk 5 : Nat) : Int), .int .u16 ((lk 6 : Nat) : Int), .int .u16 ((lk 7 : Nat) : Int), .int .u16 ((lk 8 : Nat) : Int), .int .u16 ((lk 9 : Nat) : Int), .int .u16 ((lk 10 : Nat) : Int), .int .u16 ((lk 11 : Nat) : Int), .int .u16 ((lk 12 : Nat) : Int), .int .u16 ((lk 13 : Nat) : Int), .int .u16 ((lk 14 : Nat) : Int), .int .u16 ((lk 15 : Nat) : Int)] 62) := ⟨_, rfl⟩
  obtain ⟨g0, hg0⟩ : ∃ b, b = w.heap.size := ⟨_, rfl⟩
  rw [← hw1] at hq ⊢
  rw [← hg0]
  have HQ1 := Lib.hid (show Bq w w1 [(g0, #[.int .u16 ((lk 0 : Nat) : Int), .int .u16 ((lk 1 : Nat) : Int), .int .u16 ((lk 2 : Nat) : Int), .int .u16 ((lk 3 : Nat) : Int), .int .u16 ((lk 4 : Nat) : Int), .int .u16 ((lk 5 : Nat) : Int), .int .u16 ((lk 6 : Nat) : Int), .int .u16 ((lk 7 : Nat) : Int), .int .u16 ((lk 8 : Nat) : Int), .int .u16 ((lk 9 : Nat) : Int), .int .u16 ((lk 10 : Nat) : Int), .int .u16 ((lk 11 : Nat) : Int), .int .u16 ((lk 12 : Nat) : Int), .int .u16 ((lk 13 : Nat) : Int), .int .u16 ((lk 14 : Nat) : Int), .int .u16 ((lk 15 : Nat) : Int)], 62)] by rw [hg0]; exact hq)
  clear hw1 hg0 hq
  go_wp2_with fail
  go_at_call 29
  refine (awake18 w1).mono ?_
  rintro e w2 ⟨rfl, hb⟩
  have HQ2 := Lib.hid (HQ1.out.step hb)
  clear hb HQ1
  have b0 := HQ2.out.of 0 rfl
  go_wp2_with (refine wpList_load_row rfl 62 _ rfl _ rfl _ _ _ _ b0 Try.underlying62 rfl (by exact size_lk) ?_; (try go_simp))
  go_at_call 30
  refine (lay_any a0 len0 cap0 w.heap.size z lk w2 hzl HZV.out HLK.out HQ2.out.be.size (HZR.out.below HQ2.out.be)).mono ?_
  rintro e w3 ⟨a1, c1, a2, c2, rfl, ho, hr, hb⟩
  obtain ⟨L, hL⟩ : ∃ L, L = (layS (z.take 6)).1 := ⟨_, rfl⟩
  rw [← hL] at ho hr hL6 hLv ⊢
  have HL := Lib.hid hL
  have HQ3 := Lib.hid (HQ2.out.step hb)
  have HO3 := Lib.hid ho
  have HR3 := Lib.hid hr
  have hs2 : w.heap.size ≤ w2.heap.size := HQ2.out.be.size
  clear hL hb b0 HQ2 ho hr
  obtain ⟨q1, q2, q3⟩ := HQ3.out.pair #[.slice none 0 0, .int .u16 0, .int .u16 0, .int .u16 0, .int .u16 0, .int .u16 0, .int .u16 0, .int .u16 0, .int .u16 0, .int .u16 0, .int .u16 0, .int .u16 0, .int .u16 0, .int .u16 0, .int .u16 0, .int .u16 0, .int .u16 0] #[.slice none 0 0, .int .u16 0, .int .u16 0, .int .u16 0, .int .u16 0, .int .u16 0, .int .u16 0, .int .u16 0, .int .u16 0, .int .u16 0, .int .u16 0, .int .u16 0, .int .u16 0, .int .u16 0, .int .u16 0, .int .u16 0, .int .u16 0] #[.slice a1 L.length c1, .int .u16 ((lk 0 : Nat) : Int), .int .u16 ((lk 1 : Nat) : Int), .int .u16 ((lk 2 : Nat) : Int), .int .u16 ((lk 3 : Nat) : Int), .int .u16 ((lk 4 : Nat) : Int), .int .u16 ((lk 5 : Nat) : Int), .int .u16 ((lk 6 : Nat) : Int), .int .u16 ((lk 7 : Nat) : Int), .int .u16 ((lk 8 : Nat) : Int), .int .u16 ((lk 9 : Nat) : Int), .int .u16 ((lk 10 : Nat) : Int), .int .u16 ((lk 11 : Nat) : Int), .int .u16 ((lk 12 : Nat) : Int), .int .u16 ((lk 13 : Nat) : Int), .int .u16 ((lk 14 : Nat) : Int), .int .u16 ((lk 15 : Nat) : Int)] #[.slice a2 L.length c2, .int .u16 ((lk 0 : Nat) : Int), .int .u16 ((lk 1 : Nat) : Int), .int .u16 ((lk 2 : Nat) : Int), .int .u16 ((lk 3 : Nat) : Int), .int .u16 ((lk 4 : Nat) : Int), .int .u16 ((lk 5 : Nat) : Int), .int .u16 ((lk 6 : Nat) : Int), .int .u16 ((lk 7 : Nat) : Int), .int .u16 ((lk 8 : Nat) : Int), .int .u16 ((lk 9 : Nat) : Int), .int .u16 ((lk 10 : Nat) : Int), .int .u16 ((lk 11 : Nat) : Int), .int .u16 ((lk 12 : Nat) : Int), .int .u16 ((lk 13 : Nat) : Int), .int .u16 ((lk 14 : Nat) : Int), .int .u16 ((lk 15 : Nat) : Int)] 65 69
  have o1 := own_keepZ HO3.out (((Below.refl w3.heap.size w3).alloc (Nat.le_refl _) (.cells #[.slice none 0 0, .int .u16 0, .int .u16 0, .int .u16 0, .int .u16 0, .int .u16 0, .int .u16 0, .int .u16 0, .int .u16 0, .int .u16 0, .int .u16 0, .int .u16 0, .int .u16 0, .int .u16 0, .int .u16 0, .int .u16 0, .int .u16 0] 65)).alloc (by simp) (.cells #[.slice none 0 0, .int .u16 0, .int .u16 0, .int .u16 0, .int .u16 0, .int .u16 0, .int .u16 0, .int .u16 0, .int .u16 0, .int .u16 0, .int .u16 0, .int .u16 0, .int .u16 0, .int .u16 0, .int .u16 0, .int .u16 0, .int .u16 0] 69))
  have r1 := HR3.out.kept (((Below.refl w3.heap.size w3).alloc (Nat.le_refl _) (.cells #[.slice none 0 0, .int .u16 0, .int .u16 0, .int .u16 0, .int .u16 0, .int .u16 0, .int .u16 0, .int .u16 0, .int .u16 0, .int .u16 0, .int .u16 0, .int .u16 0, .int .u16 0, .int .u16 0, .int .u16 0, .int .u16 0, .int .u16 0] 65)).alloc (by simp) (.cells #[.slice none 0 0, .int .u16 0, .int .u16 0, .int .u16 0, .int .u16 0, .int .u16 0, .int .u16 0, .int .u16 0, .int .u16 0, .int .u16 0, .int .u16 0, .int .u16 0, .int .u16 0, .int .u16 0, .int .u16 0, .int .u16 0, .int .u16 0] 69))
  obtain ⟨wA, hwA⟩ : ∃ xW, (w3.alloc (.cells #[.slice none 0 0, .int .u16 0, .int .u16 0, .int .u16 0, .int .u16 0, .int .u16 0, .int .u16 0, .int .u16 0, .int .u16 0, .int .u16 0, .int .u16 0, .int .u16 0, .int .u16 0, .int .u16 0, .int .u16 0, .int .u16 0, .int .u16 0] 65)).alloc (.cells #[.slice none 0 0, .int .u16 0, .int .u16 0, .int .u16 0, .int .u16 0, .int .u16 0, .int .u16 0, .int .u16 0, .int .u16 0, .int .u16 0, .int .u16 0, .int .u16 0, .int .u16 0, .int .u16 0, .int .u16 0, .int .u16 0, .int .u16 0] 69) = xW := ⟨_, rfl⟩
  rw [hwA] at q1 q2 q3 o1 r1
  have o2 := o1.kept (grown_rowS wA w3.heap.size #[.slice a1 L.length c1, .int .u16 ((lk 0 : Nat) : Int), .int .u16 ((lk 1 : Nat) : Int), .int .u16 ((lk 2 : Nat) : Int), .int .u16 ((lk 3 : Nat) : Int), .int .u16 ((lk 4 : Nat) : Int), .int .u16 ((lk 5 : Nat) : Int), .int .u16 ((lk 6 : Nat) : Int), .int .u16 ((lk 7 : Nat) : Int), .int .u16 ((lk 8 : Nat) : Int), .int .u16 ((lk 9 : Nat) : Int), .int .u16 ((lk 10 : Nat) : Int), .int .u16 ((lk 11 : Nat) : Int), .int .u16 ((lk 12 : Nat) : Int), .int .u16 ((lk 13 : Nat) : Int), .int .u16 ((lk 14 : Nat) : Int), .int .u16 ((lk 15 : Nat) : Int)]) (.inr (Ne.symm (box_apart q2 o1 (by decide))))
  have r2 := r1.box (grown_rowS wA w3.heap.size #[.slice a1 L.length c1, .int .u16 ((lk 0 : Nat) : Int), .int .u16 ((lk 1 : Nat) : Int), .int .u16 ((lk 2 : Nat) : Int), .int .u16 ((lk 3 : Nat) : Int), .int .u16 ((lk 4 : Nat) : Int), .int .u16 ((lk 5 : Nat) : Int), .int .u16 ((lk 6 : Nat) : Int), .int .u16 ((lk 7 : Nat) : Int), .int .u16 ((lk 8 : Nat) : Int), .int .u16 ((lk 9 : Nat) : Int), .int .u16 ((lk 10 : Nat) : Int), .int .u16 ((lk 11 : Nat) : Int), .int .u16 ((lk 12 : Nat) : Int), .int .u16 ((lk 13 : Nat) : Int), .int .u16 ((lk 14 : Nat) : Int), .int .u16 ((lk 15 : Nat) : Int)]) q2 (by decide) (by decide)
  obtain ⟨wB, hwB⟩ : ∃ xW, wA.setRow w3.heap.size #[.slice a1 L.length c1, .int .u16 ((lk 0 : Nat) : Int), .int .u16 ((lk 1 : Nat) : Int), .int .u16 ((lk 2 : Nat) : Int), .int .u16 ((lk 3 : Nat) : Int), .int .u16 ((lk 4 : Nat) : Int), .int .u16 ((lk 5 : Nat) : Int), .int .u16 ((lk 6 : Nat) : Int), .int .u16 ((lk 7 : Nat) : Int), .int .u16 ((lk 8 : Nat) : Int), .int .u16 ((lk 9 : Nat) : Int), .int .u16 ((lk 10 : Nat) : Int), .int .u16 ((lk 11 : Nat) : Int), .int .u16 ((lk 12 : Nat) : Int), .int .u16 ((lk 13 : Nat) : Int), .int .u16 ((lk 14 : Nat) : Int), .int .u16 ((lk 15 : Nat) : Int)] = xW := ⟨_, rfl⟩
  rw [hwB] at q1 q3 o2 r2
  have o3 := o2.kept (grown_rowS wB (w3.heap.size + 1) #[.slice a2 L.length c2, .int .u16 ((lk 0 : Nat) : Int), .int .u16 ((lk 1 : Nat) : Int), .int .u16 ((lk 2 : Nat) : Int), .int .u16 ((lk 3 : Nat) : Int), .int .u16 ((lk 4 : Nat) : Int), .int .u16 ((lk 5 : Nat) : Int), .int .u16 ((lk 6 : Nat) : Int), .int .u16 ((lk 7 : Nat) : Int), .int .u16 ((lk 8 : Nat) : Int), .int .u16 ((lk 9 : Nat) : Int), .int .u16 ((lk 10 : Nat) : Int), .int .u16 ((lk 11 : Nat) : Int), .int .u16 ((lk 12 : Nat) : Int), .int .u16 ((lk 13 : Nat) : Int), .int .u16 ((lk 14 : Nat) : Int), .int .u16 ((lk 15 : Nat) : Int)]) (.inr (Ne.symm (box_apart q3 o2 (by decide))))
  have r3 := r2.box (grown_rowS wB (w3.heap.size + 1) #[.slice a2 L.length c2, .int .u16 ((lk 0 : Nat) : Int), .int .u16 ((lk 1 : Nat) : Int), .int .u16 ((lk 2 : Nat) : Int), .int .u16 ((lk 3 : Nat) : Int), .int .u16 ((lk 4 : Nat) : Int), .int .u16 ((lk 5 : Nat) : Int), .int .u16 ((lk 6 : Nat) : Int), .int .u16 ((lk 7 : Nat) : Int), .int .u16 ((lk 8 : Nat) : Int), .int .u16 ((lk 9 : Nat) : Int), .int .u16 ((lk 10 : Nat) : Int), .int .u16 ((lk 11 : Nat) : Int), .int .u16 ((lk 12 : Nat) : Int), .int .u16 ((lk 13 : Nat) : Int), .int .u16 ((lk 14 : Nat) : Int), .int .u16 ((lk 15 : Nat) : Int)]) q3 (by decide) (by decide)
  obtain ⟨wC, hwC⟩ : ∃ xW, wB.setRow (w3.heap.size + 1) #[.slice a2 L.length c2, .int .u16 ((lk 0 : Nat) : Int), .int .u16 ((lk 1 : Nat) : Int), .int .u16 ((lk 2 : Nat) : Int), .int .u16 ((lk 3 : Nat) : Int), .int .u16 ((lk 4 : Nat) : Int), .int .u16 ((lk 5 : Nat) : Int), .int .u16 ((lk 6 : Nat) : Int), .int .u16 ((lk 7 : Nat) : Int), .int .u16 ((lk 8 : Nat) : Int), .int .u16 ((lk 9 : Nat) : Int), .int .u16 ((lk 10 : Nat) : Int), .int .u16 ((lk 11 : Nat) : Int), .int .u16 ((lk 12 : Nat) : Int), .int .u16 ((lk 13 : Nat) : Int), .int .u16 ((lk 14 : Nat) : Int), .int .u16 ((lk 15 : Nat) : Int)] = xW := ⟨_, rfl⟩
  rw [hwC] at q1 o3 r3
  clear o1 r1 o2 r2 HO3 HR3 HQ3
  go_upto_region 4 with (first | ((with_reducible show wpList _ _ _ (_ :: _) _ _); (try rw [hwA]); refine wpList_store_row rfl 65 _ _ rfl _ _ rfl rfl _ _ q2 (by exact size_mp) (by rfl) (by simp [Value.oneCell']) ?_; rw [hwB]) | ((with_reducible show wpList _ _ _ (_ :: _) _ _); refine wpList_store_row rfl 69 _ _ rfl _ _ rfl rfl _ _ q3 (by exact size_rm) (by rfl) (by simp [Value.oneCell']) ?_; rw [hwC]))
  obtain ⟨ga, hga⟩ : ∃ g, g = w3.heap.size := ⟨_, rfl⟩
  obtain ⟨gb, hgb⟩ : ∃ g, g = w3.heap.size + 1 := ⟨_, rfl⟩
  rw [← hgb, ← hga] at q1
  rw [← hgb, ← hga]
  have HQC := Lib.hid (show Bq w wC [(g0, #[.int .u16 ((lk 0 : Nat) : Int), .int .u16 ((lk 1 : Nat) : Int), .int .u16 ((lk 2 : Nat) : Int), .int .u16 ((lk 3 : Nat) : Int), .int .u16 ((lk 4 : Nat) : Int), .int .u16 ((lk 5 : Nat) : Int), .int .u16 ((lk 6 : Nat) : Int), .int .u16 ((lk 7 : Nat) : Int), .int .u16 ((lk 8 : Nat) : Int), .int .u16 ((lk 9 : Nat) : Int), .int .u16 ((lk 10 : Nat) : Int), .int .u16 ((lk 11 : Nat) : Int), .int .u16 ((lk 12 : Nat) : Int), .int .u16 ((lk 13 : Nat) : Int), .int .u16 ((lk 14 : Nat) : Int), .int .u16 ((lk 15 : Nat) : Int)], 62), (ga, #[.slice a1 L.length c1, .int .u16 ((lk 0 : Nat) : Int), .int .u16 ((lk 1 : Nat) : Int), .int .u16 ((lk 2 : Nat) : Int), .int .u16 ((lk 3 : Nat) : Int), .int .u16 ((lk 4 : Nat) : Int), .int .u16 ((lk 5 : Nat) : Int), .int .u16 ((lk 6 : Nat) : Int), .int .u16 ((lk 7 : Nat) : Int), .int .u16 ((lk 8 : Nat) : Int), .int .u16 ((lk 9 : Nat) : Int), .int .u16 ((lk 10 : Nat) : Int), .int .u16 ((lk 11 : Nat) : Int), .int .u16 ((lk 12 : Nat) : Int), .int .u16 ((lk 13 : Nat) : Int), .int .u16 ((lk 14 : Nat) : Int), .int .u16 ((lk 15 : Nat) : Int)], 65), (gb, #[.slice a2 L.length c2, .int .u16 ((lk 0 : Nat) : Int), .int .u16 ((lk 1 : Nat) : Int), .int .u16 ((lk 2 : Nat) : Int), .int .u16 ((lk 3 : Nat) : Int), .int .u16 ((lk 4 : Nat) : Int), .int .u16 ((lk 5 : Nat) : Int), .int .u16 ((lk 6 : Nat) : Int), .int .u16 ((lk 7 : Nat) : Int), .int .u16 ((lk 8 : Nat) : Int), .int .u16 ((lk 9 : Nat) : Int), .int .u16 ((lk 10 : Nat) : Int), .int .u16 ((lk 11 : Nat) : Int), .int .u16 ((lk 12 : Nat) : Int), .int .u16 ((lk 13 : Nat) : Int), .int .u16 ((lk 14 : Nat) : Int), .int .u16 ((lk 15 : Nat) : Int)], 69)] from q1)
  have HOC := Lib.hid o3
  have HRC := Lib.hid r3
  clear hga hgb q1 q2 q3 o3 r3 hwA hwB hwC hzm hzr
  have hbm : bad ||| more < 65536 := Nat.or_lt_two_pow (n := 16) hbad hmore
  have f1 := len_more L lk bad more hbad hmore
  have f2 := head_stays (l := L) (lk := lk) hbad hmore hL6
  have f4 := fun i => head_more (l := L) (lk := lk) (i := i) hbad hmore
  have n1 := findR_n L lk noneC bad
  have n2 := findR_n L lk noneC (bad ||| more)
  have s1 := search_is L lk bad
  have s2 := search_is L lk (bad ||| more)
  have k1 := findR_le L lk noneC bad hL6
  have k2 := findR_le L lk noneC (bad ||| more) hL6
  obtain ⟨c, hc⟩ : ∃ c, headC (DD L lk bad) = c := ⟨_, rfl⟩
  obtain ⟨d, hd⟩ : ∃ d, headC (DD L lk (bad ||| more)) = d := ⟨_, rfl⟩
  have hcok : ChOk c := fun k hk => by rw [← hc]; exact headC_ok L lk bad k
  have hdok : ChOk d := fun k hk => by rw [← hd]; exact headC_ok L lk (bad ||| more) k
  rw [← n1, ← n2] at f1
  have f2' : 0 < (findR L lk noneC bad).n → unitsS c 6 &&& more = 0 → 0 < (findR L lk noneC (bad ||| more)).n ∧ d = c := fun h1 h2 => by
    obtain ⟨h3, h4⟩ := f2 (by rw [n1] at h1; exact List.length_pos_iff.1 h1) (by rw [hc]; exact h2)
    exact ⟨by rw [n2]; exact List.length_pos_iff.2 h3, by rw [← hc, ← hd]; exact h4⟩
  have f4' : 0 < (findR L lk noneC (bad ||| more)).n → ∀ i, (∀ j, j < i → c j = d j) → c i ≠ d i → c i < d i := fun h1 i h2 h3 => by
    have := f4 i (by rw [n2] at h1; exact List.length_pos_iff.1 h1)
    rw [hc, hd] at this
    exact this h2 h3
  rw [hc] at s1
  rw [hd] at s2
  obtain ⟨nX, hnX⟩ : ∃ n, (findR L lk noneC bad).n = n := ⟨_, rfl⟩
  obtain ⟨nY, hnY⟩ : ∃ n, (findR L lk noneC (bad ||| more)).n = n := ⟨_, rfl⟩
  rw [hnX, hnY] at f1
  rw [hnX] at k1 f2'
  rw [hnY] at k2 f2' f4'
  obtain ⟨bX, hbX⟩ : ∃ b, decide (0 < nX) = b := ⟨_, rfl⟩
  obtain ⟨bY, hbY⟩ : ∃ b, decide (0 < nY) = b := ⟨_, rfl⟩
  have T1 := Lib.hid (show (.tuple #[.agg #[.int .i8 ((nearC (findR L lk noneC bad)) 0), .int .i8 ((nearC (findR L lk noneC bad)) 1), .int .i8 ((nearC (findR L lk noneC bad)) 2), .int .i8 ((nearC (findR L lk noneC bad)) 3), .int .i8 ((nearC (findR L lk noneC bad)) 4), .int .i8 ((nearC (findR L lk noneC bad)) 5)], .bool (decide (0 < (findR L lk noneC bad).n))] : Value) = .tuple #[.agg #[.int .i8 (c 0), .int .i8 (c 1), .int .i8 (c 2), .int .i8 (c 3), .int .i8 (c 4), .int .i8 (c 5)], .bool bX] by rw [s1, hnX, hbX])
  have T2 := Lib.hid (show (.tuple #[.agg #[.int .i8 ((nearC (findR L lk noneC (bad ||| more))) 0), .int .i8 ((nearC (findR L lk noneC (bad ||| more))) 1), .int .i8 ((nearC (findR L lk noneC (bad ||| more))) 2), .int .i8 ((nearC (findR L lk noneC (bad ||| more))) 3), .int .i8 ((nearC (findR L lk noneC (bad ||| more))) 4), .int .i8 ((nearC (findR L lk noneC (bad ||| more))) 5)], .bool (decide (0 < (findR L lk noneC (bad ||| more)).n))] : Value) = .tuple #[.agg #[.int .i8 (d 0), .int .i8 (d 1), .int .i8 (d 2), .int .i8 (d 3), .int .i8 (d 4), .int .i8 (d 5)], .bool bY] by rw [s2, hnY, hbY])
  have N1 := Lib.hid hnX
  have N2 := Lib.hid hnY
  have F2 := Lib.hid f2'
  have F4 := Lib.hid f4'
  have BX := Lib.hid hbX
  have BY := Lib.hid hbY
  have HCO := Lib.hid hcok
  have HDO := Lib.hid hdok
  clear f2 f4 n1 n2 s1 s2 hc hd hnX hnY hbX hbY f2' f4' hcok hdok
  have b1 := HQC.out.of 1 rfl
  (try simp only [Act.put])
  go_wp2_with ((with_reducible show wpList _ _ _ (_ :: _) _ _); refine wpList_load_row rfl 65 _ rfl _ rfl _ _ _ _ b1 Try.underlying65 rfl (by exact size_mp) ?_; (try go_simp))
  go_at_call 32
  refine (Search_any (map_own HOC.out hLv HLK.out hL6) bad hbad).mono ?_
  rintro e w4 ⟨rfl, hb⟩
  rw [T1.out]
  have HQ4 := Lib.hid (HQC.out.step hb)
  have HO4 := Lib.hid (own_keepZ HOC.out hb)
  have hqn := HQ4.out.new #[.int .i8 (c 0), .int .i8 (c 1), .int .i8 (c 2), .int .i8 (c 3), .int .i8 (c 4), .int .i8 (c 5)] 76
  have hon := own_keepZ HO4.out ((Below.refl w4.heap.size w4).alloc (Nat.le_refl _) (.cells #[.int .i8 (c 0), .int .i8 (c 1), .int .i8 (c 2), .int .i8 (c 3), .int .i8 (c 4), .int .i8 (c 5)] 76))
  clear hb HQC HOC HRC b1
  go_upto_region 5 with ((with_reducible show wpList _ _ _ (_ :: _) _ _); refine wpList_store_row rfl 76 _ _ rfl _ _ rfl rfl _ _ (heap_alloc_new _ _) (by exact size_ch) (by rfl) (by simp [Value.oneCell']) ?_; rw [World.setRow_alloc_new])
  obtain ⟨w5, hw5⟩ : ∃ w5, w5 = w4.alloc (.cells #[.int .i8 (c 0), .int .i8 (c 1), .int .i8 (c 2), .int .i8 (c 3), .int .i8 (c 4), .int .i8 (c 5)] 76) := ⟨_, rfl⟩
  obtain ⟨gc, hgc⟩ : ∃ g, g = w4.heap.size := ⟨_, rfl⟩
  rw [← hw5] at hqn hon ⊢
  rw [← hgc] at hqn ⊢
  have HQ5 := Lib.hid hqn
  have HO5 := Lib.hid hon
  clear hw5 hgc hqn hon HQ4 HO4
  have b1 := HQ5.out.of 1 rfl
  have z1 := box_lt b1
  have eo : orS bad [more] = bad ||| more := by simp [orS]
  have EO := Lib.hid eo
  clear eo
  obtain ⟨I, W, hne, hWI, hIW⟩ := Go.Mix.family (fun v => Below w5.heap.size w5 v) (Below.refl _ _)
  have HJ := Lib.hid hIW
  have HW := Lib.hid hWI
  clear hWI hIW
  refine Go.Flo3.wp_region (fun w' => ∃ i, w' = W i) 10 [Go.Flo.Spec.row w5.heap.size 1 #[.int .u16 ((more : Nat) : Int)] 61, Go.Flo.Spec.is (.int .u16 ((bad ||| more : Nat) : Int)), Go.Flo.Spec.is (.tuple #[.agg #[.int .i8 (d 0), .int .i8 (d 1), .int .i8 (d 2), .int .i8 (d 3), .int .i8 (d 4), .int .i8 (d 5)], .bool bY]), Go.Flo.Spec.ptr w5.heap.size (#[.int .i8 0, .int .i8 0, .int .i8 0, .int .i8 0, .int .i8 0, .int .i8 0] : Array Value) 76] (by kernel_rfl) (by kernel_rfl) (by decide) (by rintro _ w' ⟨i, rfl⟩ hb; exact HJ.out _ ((HW.out i).trans (hb.mono (HW.out i).size))) (HJ.out _ (Below.refl _ _).drew) ?_
  simp only [Go.Flo.pair, Go.Mix.calm, List.take, List.drop, if_true, Bool.false_eq_true, if_false, Nat.reduceAdd, Nat.reduceSub]
  (refine Go.Flo.fw_calm rfl ?_ (fun K hK => ?_); (first | exact Go.Mix.wanted_none rfl | exact Go.Mix.wanted_tt rfl rfl rfl | exact Go.Mix.wanted_ff rfl rfl rfl); refine Go.Flo.quiet_load_row 65 _ rfl ga rfl _ #[.slice a1 L.length c1, .int .u16 ((lk 0 : Nat) : Int), .int .u16 ((lk 1 : Nat) : Int), .int .u16 ((lk 2 : Nat) : Int), .int .u16 ((lk 3 : Nat) : Int), .int .u16 ((lk 4 : Nat) : Int), .int .u16 ((lk 5 : Nat) : Int), .int .u16 ((lk 6 : Nat) : Int), .int .u16 ((lk 7 : Nat) : Int), .int .u16 ((lk 8 : Nat) : Int), .int .u16 ((lk 9 : Nat) : Int), .int .u16 ((lk 10 : Nat) : Int), .int .u16 ((lk 11 : Nat) : Int), .int .u16 ((lk 12 : Nat) : Int), .int .u16 ((lk 13 : Nat) : Int), .int .u16 ((lk 14 : Nat) : Int), .int .u16 ((lk 15 : Nat) : Int)] _ (by rintro _ ⟨i, rfl⟩; exact ((HW.out i).block ga z1).trans b1) Try.underlying65 rfl size_mp ?_; go_simp; refine hK _ ?_; clear hK K)
  (repeat (first | (refine Go.Flo.fw_calm rfl ?_ (fun K hK => ?_); (first | exact Go.Mix.wanted_none rfl | exact Go.Mix.wanted_tt rfl rfl rfl | exact Go.Mix.wanted_ff rfl rfl rfl); go_big_quiet_op; refine hK _ ?_; clear hK K) | (refine Go.Flo.fw_skip ?_ (fun K hK => ?_); (first | exact Go.Mix.wanted_tf rfl rfl rfl | exact Go.Mix.wanted_ft rfl rfl rfl); go_simp; refine hK _ ?_; clear hK K) | (refine Go.Flo.fw_any rfl ?_ (fun K hK => ?_); (first | exact Go.Mix.wanted_none rfl | exact Go.Mix.wanted_tt rfl rfl rfl | exact Go.Mix.wanted_ff rfl rfl rfl); go_simp; (try (go_ints; try go_simp)); refine hK _ ?_; clear hK K)))
  refine Go.Flo.fw_loud rfl ?_ rfl (by simp) (fun wv hwv hav K hK => ?_) (fun v hv K hK => ?_)
  · (first | exact Go.Mix.wanted_none rfl | exact Go.Mix.wanted_tt rfl rfl rfl | exact Go.Mix.wanted_ff rfl rfl rfl)
  · obtain ⟨iv, rfl⟩ := hwv
    (first | go_big_op | go_simp)
    refine hK _ _ (Go.Flo.owes_row (HW.out iv).size)
  obtain ⟨xd, hxd, rfl⟩ := hv.row
  go_simp
  refine hK _ ?_
  clear hK K hv
  refine Go.Flo.fw_loud rfl ?_ rfl (by simp) (fun wv hwv hav K hK => ?_) (fun v hv K hK => ?_)
  · (first | exact Go.Mix.wanted_none rfl | exact Go.Mix.wanted_tt rfl rfl rfl | exact Go.Mix.wanted_ff rfl rfl rfl)
  · obtain ⟨iv, rfl⟩ := hwv
    have hbv := HW.out iv
    (first | go_big_op | go_simp)
    have hrow := Go.Flo.says_row ((hav 34 (by decide +kernel)).2 rfl).1
    go_at_call 48
    refine (Or_any _ 1 1 _ bad [more] _ hbad rfl (fun z hz => by simp at hz; omega) (Nat.le_refl _) (rd_setsS (l := [more]) hrow (by simp))).mono ?_
    rintro e w' ⟨rfl, hb⟩
    rw [EO.out]
    exact hK _ _ (Go.Flo.owes_is _ rfl (by rw [hb]; exact Below.refl _ _))
  obtain rfl := hv.is
  go_simp
  refine hK _ ?_
  clear hK K hv
  refine Go.Flo.fw_loud rfl ?_ rfl (by simp) (fun wv hwv hav K hK => ?_) (fun v hv K hK => ?_)
  · (first | exact Go.Mix.wanted_none rfl | exact Go.Mix.wanted_tt rfl rfl rfl | exact Go.Mix.wanted_ff rfl rfl rfl)
  · obtain ⟨iv, rfl⟩ := hwv
    have hbv := HW.out iv
    (first | go_big_op | go_simp)
    go_at_call 32
    refine (Search_any (map_own (own_keepZ HO5.out hbv) hLv HLK.out hL6) (bad ||| more) hbm).mono ?_
    rintro e w' ⟨rfl, hb⟩
    rw [T2.out]
    exact hK _ _ (Go.Flo.owes_is _ rfl hb)
  obtain rfl := hv.is
  go_simp
  refine hK _ ?_
  clear hK K hv
  (repeat (first | (refine Go.Flo.fw_calm rfl ?_ (fun K hK => ?_); (first | exact Go.Mix.wanted_none rfl | exact Go.Mix.wanted_tt rfl rfl rfl | exact Go.Mix.wanted_ff rfl rfl rfl); go_big_quiet_op; refine hK _ ?_; clear hK K) | (refine Go.Flo.fw_skip ?_ (fun K hK => ?_); (first | exact Go.Mix.wanted_tf rfl rfl rfl | exact Go.Mix.wanted_ft rfl rfl rfl); go_simp; refine hK _ ?_; clear hK K) | (refine Go.Flo.fw_any rfl ?_ (fun K hK => ?_); (first | exact Go.Mix.wanted_none rfl | exact Go.Mix.wanted_tt rfl rfl rfl | exact Go.Mix.wanted_ff rfl rfl rfl); go_simp; (try (go_ints; try go_simp)); refine hK _ ?_; clear hK K)))
  refine Go.Flo.fw_loud rfl ?_ rfl (by simp) (fun wv hwv hav K hK => ?_) (fun v hv K hK => ?_)
  · (first | exact Go.Mix.wanted_none rfl | exact Go.Mix.wanted_tt rfl rfl rfl | exact Go.Mix.wanted_ff rfl rfl rfl)
  · obtain ⟨iv, rfl⟩ := hwv
    (first | go_big_op | go_simp)
    refine hK _ _ (Go.Flo.owes_ptr (HW.out iv).size)
  obtain ⟨gd, hgd, rfl, hngd⟩ := hv.ptr rfl
  go_simp
  refine hK _ ?_
  clear hK K hv
  refine Go.Flo.fw_nil ?_
  intro w6 hww6 hfw6 huw6
  obtain ⟨iend, hiend⟩ := hww6
  have hbw6 := HW.out iend
  rw [← hiend] at hbw6
  clear hiend iend huw6
  have h6 := Go.Flo.says_ptr ((hfw6 (some 13)).2 rfl).1
  have hq6 := HQ5.out.step hbw6
  have ngd : ∀ x ∈ ([(g0, #[.int .u16 ((lk 0 : Nat) : Int), .int .u16 ((lk 1 : Nat) : Int), .int .u16 ((lk 2 : Nat) : Int), .int .u16 ((lk 3 : Nat) : Int), .int .u16 ((lk 4 : Nat) : Int), .int .u16 ((lk 5 : Nat) : Int), .int .u16 ((lk 6 : Nat) : Int), .int .u16 ((lk 7 : Nat) : Int), .int .u16 ((lk 8 : Nat) : Int), .int .u16 ((lk 9 : Nat) : Int), .int .u16 ((lk 10 : Nat) : Int), .int .u16 ((lk 11 : Nat) : Int), .int .u16 ((lk 12 : Nat) : Int), .int .u16 ((lk 13 : Nat) : Int), .int .u16 ((lk 14 : Nat) : Int), .int .u16 ((lk 15 : Nat) : Int)], 62), (ga, #[.slice a1 L.length c1, .int .u16 ((lk 0 : Nat) : Int), .int .u16 ((lk 1 : Nat) : Int), .int .u16 ((lk 2 : Nat) : Int), .int .u16 ((lk 3 : Nat) : Int), .int .u16 ((lk 4 : Nat) : Int), .int .u16 ((lk 5 : Nat) : Int), .int .u16 ((lk 6 : Nat) : Int), .int .u16 ((lk 7 : Nat) : Int), .int .u16 ((lk 8 : Nat) : Int), .int .u16 ((lk 9 : Nat) : Int), .int .u16 ((lk 10 : Nat) : Int), .int .u16 ((lk 11 : Nat) : Int), .int .u16 ((lk 12 : Nat) : Int), .int .u16 ((lk 13 : Nat) : Int), .int .u16 ((lk 14 : Nat) : Int), .int .u16 ((lk 15 : Nat) : Int)], 65), (gb, #[.slice a2 L.length c2, .int .u16 ((lk 0 : Nat) : Int), .int .u16 ((lk 1 : Nat) : Int), .int .u16 ((lk 2 : Nat) : Int), .int .u16 ((lk 3 : Nat) : Int), .int .u16 ((lk 4 : Nat) : Int), .int .u16 ((lk 5 : Nat) : Int), .int .u16 ((lk 6 : Nat) : Int), .int .u16 ((lk 7 : Nat) : Int), .int .u16 ((lk 8 : Nat) : Int), .int .u16 ((lk 9 : Nat) : Int), .int .u16 ((lk 10 : Nat) : Int), .int .u16 ((lk 11 : Nat) : Int), .int .u16 ((lk 12 : Nat) : Int), .int .u16 ((lk 13 : Nat) : Int), .int .u16 ((lk 14 : Nat) : Int), .int .u16 ((lk 15 : Nat) : Int)], 69), (gc, #[.int .i8 (c 0), .int .i8 (c 1), .int .i8 (c 2), .int .i8 (c 3), .int .i8 (c 4), .int .i8 (c 5)], 76)] : List (Nat × Array Value × TypeId)), x.1 ≠ gd := fun x hx => by have := HQ5.out.lt x hx; omega
  have hq7 := (hq6.more (g := gd) ngd (Nat.le_trans HQ5.out.be.size hgd) h6).put 4 rfl #[.int .i8 (d 0), .int .i8 (d 1), .int .i8 (d 2), .int .i8 (d 3), .int .i8 (d 4), .int .i8 (d 5)]
  have ho6 := own_keepZ HO5.out hbw6
  have ho7 := ho6.kept (grown_rowS w6 gd #[.int .i8 (d 0), .int .i8 (d 1), .int .i8 (d 2), .int .i8 (d 3), .int .i8 (d 4), .int .i8 (d 5)]) (.inr (Ne.symm (box_apart h6 ho6 (by decide))))
  clear hfw6 HJ HW hne hbw6 hq6 ngd hngd hgd b1 z1 ho6
  clear W I
  refine ⟨fun _ => True, trivial, ?_⟩

  (refine Go.Mix.walk_loud rfl ?_ (fun K hK => ?_); (first | exact Go.Mix.wanted_none rfl | exact Go.Mix.wanted_tt rfl rfl rfl | exact Go.Mix.wanted_ff rfl rfl rfl); refine wp_store_row 76 _ _ rfl _ #[.int .i8 (d 0), .int .i8 (d 1), .int .i8 (d 2), .int .i8 (d 3), .int .i8 (d 4), .int .i8 (d 5)] rfl rfl 76 _ h6 size_ch rfl (by simp [Value.oneCell']) (hK _ _ trivial ?_); clear hK K)
  (repeat (first | (refine Go.Mix.walk_calm rfl ?_ (fun K hK => ?_); (first | exact Go.Mix.wanted_none rfl | exact Go.Mix.wanted_tt rfl rfl rfl | exact Go.Mix.wanted_ff rfl rfl rfl); go_big_quiet_op; refine hK _ ?_; clear hK K) | (refine Go.Mix.walk_skip ?_ (fun K hK => ?_); (first | exact Go.Mix.wanted_tf rfl rfl rfl | exact Go.Mix.wanted_ft rfl rfl rfl); go_simp; refine hK _ ?_; clear hK K) | (refine Go.Mix.walk_loud rfl ?_ (fun K hK => ?_); (first | exact Go.Mix.wanted_none rfl | exact Go.Mix.wanted_tt rfl rfl rfl | exact Go.Mix.wanted_ff rfl rfl rfl); (first | go_big_op | go_simp); (first | (refine hK _ _ trivial ?_; clear hK K) | (fail; (try dsimp only); refine hK _ _ trivial ?_; clear hK K))) | (refine Go.Mix.walk_step (fun K hK => ?_); go_simp; (try (go_ints; try go_simp)); refine hK _ _ ?_; clear hK K)))
  refine Go.Mix.walk_nil ?_
  (try simp only [Act.put])
  obtain ⟨w7, hw7⟩ : ∃ w7, w7 = w6.setRow gd #[.int .i8 (d 0), .int .i8 (d 1), .int .i8 (d 2), .int .i8 (d 3), .int .i8 (d 4), .int .i8 (d 5)] := ⟨_, rfl⟩
  rw [← hw7] at hq7 ho7 ⊢
  have HQ7 := Lib.hid hq7
  have HO7 := Lib.hid ho7
  clear hw7 h6 hq7 ho7 HQ5 HO5
  have b1 := HQ7.out.of 1 rfl
  have z1 := box_lt b1
  go_upto_region 6 with fail
  have hgt : ¬ ((nX : Nat) : Int) < ((nY : Nat) : Int) := by omega
  have hgt2 : decide (((nX : Nat) : Int) < ((nY : Nat) : Int)) = false := decide_eq_false hgt
  cases bX
  · cases bY
    · skip
      obtain ⟨I, W, hne, hWI, hIW⟩ := Go.Mix.family (fun v => Below w7.heap.size w7 v) (Below.refl _ _)
      have HJ := Lib.hid hIW
      have HW := Lib.hid hWI
      clear hWI hIW
      refine Go.Flo3.wp_region (fun w' => ∃ i, w' = W i) 17 [Go.Flo.Spec.row w7.heap.size 1 #[.int .u16 ((more : Nat) : Int)] 61, Go.Flo.Spec.is (.int .u16 ((bad ||| more : Nat) : Int)), Go.Flo.Spec.is (.int .i64 ((nY : Nat) : Int)), Go.Flo.Spec.is (.int .i64 ((nX : Nat) : Int))] (by kernel_rfl) (by kernel_rfl) (by decide) (by rintro _ w' ⟨i, rfl⟩ hb; exact HJ.out _ ((HW.out i).trans (hb.mono (HW.out i).size))) (HJ.out _ (Below.refl _ _).drew) ?_
      simp only [Go.Flo.pair, Go.Mix.calm, List.take, List.drop, if_true, Bool.false_eq_true, if_false, Nat.reduceAdd, Nat.reduceSub]
      (refine Go.Flo.fw_calm rfl ?_ (fun K hK => ?_); (first | exact Go.Mix.wanted_none rfl | exact Go.Mix.wanted_tt rfl rfl rfl | exact Go.Mix.wanted_ff rfl rfl rfl); refine Go.Flo.quiet_load_row 65 _ rfl ga rfl _ #[.slice a1 L.length c1, .int .u16 ((lk 0 : Nat) : Int), .int .u16 ((lk 1 : Nat) : Int), .int .u16 ((lk 2 : Nat) : Int), .int .u16 ((lk 3 : Nat) : Int), .int .u16 ((lk 4 : Nat) : Int), .int .u16 ((lk 5 : Nat) : Int), .int .u16 ((lk 6 : Nat) : Int), .int .u16 ((lk 7 : Nat) : Int), .int .u16 ((lk 8 : Nat) : Int), .int .u16 ((lk 9 : Nat) : Int), .int .u16 ((lk 10 : Nat) : Int), .int .u16 ((lk 11 : Nat) : Int), .int .u16 ((lk 12 : Nat) : Int), .int .u16 ((lk 13 : Nat) : Int), .int .u16 ((lk 14 : Nat) : Int), .int .u16 ((lk 15 : Nat) : Int)] _ (by rintro _ ⟨i, rfl⟩; exact ((HW.out i).block ga z1).trans b1) Try.underlying65 rfl size_mp ?_; go_simp; refine hK _ ?_; clear hK K)
      (repeat (first | (refine Go.Flo.fw_calm rfl ?_ (fun K hK => ?_); (first | exact Go.Mix.wanted_none rfl | exact Go.Mix.wanted_tt rfl rfl rfl | exact Go.Mix.wanted_ff rfl rfl rfl); go_big_quiet_op; refine hK _ ?_; clear hK K) | (refine Go.Flo.fw_skip ?_ (fun K hK => ?_); (first | exact Go.Mix.wanted_tf rfl rfl rfl | exact Go.Mix.wanted_ft rfl rfl rfl); go_simp; refine hK _ ?_; clear hK K) | (refine Go.Flo.fw_any rfl ?_ (fun K hK => ?_); (first | exact Go.Mix.wanted_none rfl | exact Go.Mix.wanted_tt rfl rfl rfl | exact Go.Mix.wanted_ff rfl rfl rfl); go_simp; (try (go_ints; try go_simp)); refine hK _ ?_; clear hK K)))
      refine Go.Flo.fw_loud rfl ?_ rfl (by simp) (fun wv hwv hav K hK => ?_) (fun v hv K hK => ?_)
      · (first | exact Go.Mix.wanted_none rfl | exact Go.Mix.wanted_tt rfl rfl rfl | exact Go.Mix.wanted_ff rfl rfl rfl)
      · obtain ⟨iv, rfl⟩ := hwv
        (first | go_big_op | go_simp)
        refine hK _ _ (Go.Flo.owes_row (HW.out iv).size)
      obtain ⟨xe, hxe, rfl⟩ := hv.row
      go_simp
      refine hK _ ?_
      clear hK K hv
      refine Go.Flo.fw_loud rfl ?_ rfl (by simp) (fun wv hwv hav K hK => ?_) (fun v hv K hK => ?_)
      · (first | exact Go.Mix.wanted_none rfl | exact Go.Mix.wanted_tt rfl rfl rfl | exact Go.Mix.wanted_ff rfl rfl rfl)
      · obtain ⟨iv, rfl⟩ := hwv
        have hbv := HW.out iv
        (first | go_big_op | go_simp)
        have hrow := Go.Flo.says_row ((hav 42 (by decide +kernel)).2 rfl).1
        go_at_call 48
        refine (Or_any _ 1 1 _ bad [more] _ hbad rfl (fun z hz => by simp at hz; omega) (Nat.le_refl _) (rd_setsS (l := [more]) hrow (by simp))).mono ?_
        rintro e w' ⟨rfl, hb⟩
        rw [EO.out]
        exact hK _ _ (Go.Flo.owes_is _ rfl (by rw [hb]; exact Below.refl _ _))
      obtain rfl := hv.is
      go_simp
      refine hK _ ?_
      clear hK K hv
      refine Go.Flo.fw_loud rfl ?_ rfl (by simp) (fun wv hwv hav K hK => ?_) (fun v hv K hK => ?_)
      · (first | exact Go.Mix.wanted_none rfl | exact Go.Mix.wanted_tt rfl rfl rfl | exact Go.Mix.wanted_ff rfl rfl rfl)
      · obtain ⟨iv, rfl⟩ := hwv
        have hbv := HW.out iv
        (first | go_big_op | go_simp)
        go_at_call 34
        refine (Count_any' (map_own (own_keepZ HO7.out hbv) hLv HLK.out hL6) (bad ||| more) hbm).mono ?_
        rintro e w' ⟨rfl, hb⟩
        rw [N2.out]
        exact hK _ _ (Go.Flo.owes_is _ rfl hb)
      obtain rfl := hv.is
      go_simp
      refine hK _ ?_
      clear hK K hv
      (refine Go.Flo.fw_calm rfl ?_ (fun K hK => ?_); (first | exact Go.Mix.wanted_none rfl | exact Go.Mix.wanted_tt rfl rfl rfl | exact Go.Mix.wanted_ff rfl rfl rfl); refine Go.Flo.quiet_load_row 65 _ rfl ga rfl _ #[.slice a1 L.length c1, .int .u16 ((lk 0 : Nat) : Int), .int .u16 ((lk 1 : Nat) : Int), .int .u16 ((lk 2 : Nat) : Int), .int .u16 ((lk 3 : Nat) : Int), .int .u16 ((lk 4 : Nat) : Int), .int .u16 ((lk 5 : Nat) : Int), .int .u16 ((lk 6 : Nat) : Int), .int .u16 ((lk 7 : Nat) : Int), .int .u16 ((lk 8 : Nat) : Int), .int .u16 ((lk 9 : Nat) : Int), .int .u16 ((lk 10 : Nat) : Int), .int .u16 ((lk 11 : Nat) : Int), .int .u16 ((lk 12 : Nat) : Int), .int .u16 ((lk 13 : Nat) : Int), .int .u16 ((lk 14 : Nat) : Int), .int .u16 ((lk 15 : Nat) : Int)] _ (by rintro _ ⟨i, rfl⟩; exact ((HW.out i).block ga z1).trans b1) Try.underlying65 rfl size_mp ?_; go_simp; refine hK _ ?_; clear hK K)
      (repeat (first | (refine Go.Flo.fw_calm rfl ?_ (fun K hK => ?_); (first | exact Go.Mix.wanted_none rfl | exact Go.Mix.wanted_tt rfl rfl rfl | exact Go.Mix.wanted_ff rfl rfl rfl); go_big_quiet_op; refine hK _ ?_; clear hK K) | (refine Go.Flo.fw_skip ?_ (fun K hK => ?_); (first | exact Go.Mix.wanted_tf rfl rfl rfl | exact Go.Mix.wanted_ft rfl rfl rfl); go_simp; refine hK _ ?_; clear hK K) | (refine Go.Flo.fw_any rfl ?_ (fun K hK => ?_); (first | exact Go.Mix.wanted_none rfl | exact Go.Mix.wanted_tt rfl rfl rfl | exact Go.Mix.wanted_ff rfl rfl rfl); go_simp; (try (go_ints; try go_simp)); refine hK _ ?_; clear hK K)))
      refine Go.Flo.fw_loud rfl ?_ rfl (by simp) (fun wv hwv hav K hK => ?_) (fun v hv K hK => ?_)
      · (first | exact Go.Mix.wanted_none rfl | exact Go.Mix.wanted_tt rfl rfl rfl | exact Go.Mix.wanted_ff rfl rfl rfl)
      · obtain ⟨iv, rfl⟩ := hwv
        have hbv := HW.out iv
        (first | go_big_op | go_simp)
        go_at_call 34
        refine (Count_any' (map_own (own_keepZ HO7.out hbv) hLv HLK.out hL6) bad hbad).mono ?_
        rintro e w' ⟨rfl, hb⟩
        rw [N1.out]
        exact hK _ _ (Go.Flo.owes_is _ rfl hb)
      obtain rfl := hv.is
      go_simp
      refine hK _ ?_
      clear hK K hv
      (repeat (first | (refine Go.Flo.fw_calm rfl ?_ (fun K hK => ?_); (first | exact Go.Mix.wanted_none rfl | exact Go.Mix.wanted_tt rfl rfl rfl | exact Go.Mix.wanted_ff rfl rfl rfl); go_big_quiet_op; refine hK _ ?_; clear hK K) | (refine Go.Flo.fw_skip ?_ (fun K hK => ?_); (first | exact Go.Mix.wanted_tf rfl rfl rfl | exact Go.Mix.wanted_ft rfl rfl rfl); go_simp; refine hK _ ?_; clear hK K) | (refine Go.Flo.fw_any rfl ?_ (fun K hK => ?_); (first | exact Go.Mix.wanted_none rfl | exact Go.Mix.wanted_tt rfl rfl rfl | exact Go.Mix.wanted_ff rfl rfl rfl); go_simp; (try (go_ints; try go_simp)); refine hK _ ?_; clear hK K)))
      refine Go.Flo.fw_nil ?_
      intro w8 hww8 hfw8 huw8
      obtain ⟨iend, hiend⟩ := hww8
      have hbw8 := HW.out iend
      rw [← hiend] at hbw8
      clear hiend iend huw8
      have HQ8 := Lib.hid (HQ7.out.step hbw8)
      clear hfw8 HJ HW hne hbw8 b1 z1 HO7 HQ7
      clear W I
      refine ⟨fun _ => True, trivial, ?_⟩

      refine Go.Mix.walk_nil ?_
      (try simp only [Act.put])
      go_wp2_with fail
      go_ret
      exact ⟨rfl, HQ8.out.be⟩
    · exfalso
      have h1 := BY.out
      have h2 := BX.out
      simp at h1 h2
      omega
  · have hu := unitsS_lt c 6
    have hX : 0 < nX := by have := BX.out; simpa using this
    have g2 := F2.out hX
    have G4 := F4
    obtain ⟨u, hue⟩ : ∃ u, unitsS c 6 = u := ⟨_, rfl⟩
    rw [hue] at hu g2
    have HU := Lib.hid hue
    obtain ⟨q, hqe⟩ : ∃ q, u &&& more = q := ⟨_, rfl⟩
    rw [hqe] at g2
    have HQQ := Lib.hid hqe
    have G2 := Lib.hid g2
    have HXX := Lib.hid hX
    clear hue hqe g2 hX F2 F4
    cases bY
    · skip
      obtain ⟨I, W, hne, hWI, hIW⟩ := Go.Mix.family (fun v => Below w7.heap.size w7 v) (Below.refl _ _)
      have HJ := Lib.hid hIW
      have HW := Lib.hid hWI
      clear hWI hIW
      refine Go.Flo3.wp_region (fun w' => ∃ i, w' = W i) 17 [Go.Flo.Spec.row w7.heap.size 1 #[.int .u16 ((more : Nat) : Int)] 61, Go.Flo.Spec.is (.int .u16 ((bad ||| more : Nat) : Int)), Go.Flo.Spec.is (.int .i64 ((nY : Nat) : Int)), Go.Flo.Spec.is (.int .i64 ((nX : Nat) : Int))] (by kernel_rfl) (by kernel_rfl) (by decide) (by rintro _ w' ⟨i, rfl⟩ hb; exact HJ.out _ ((HW.out i).trans (hb.mono (HW.out i).size))) (HJ.out _ (Below.refl _ _).drew) ?_
      simp only [Go.Flo.pair, Go.Mix.calm, List.take, List.drop, if_true, Bool.false_eq_true, if_false, Nat.reduceAdd, Nat.reduceSub]
      (refine Go.Flo.fw_calm rfl ?_ (fun K hK => ?_); (first | exact Go.Mix.wanted_none rfl | exact Go.Mix.wanted_tt rfl rfl rfl | exact Go.Mix.wanted_ff rfl rfl rfl); refine Go.Flo.quiet_load_row 65 _ rfl ga rfl _ #[.slice a1 L.length c1, .int .u16 ((lk 0 : Nat) : Int), .int .u16 ((lk 1 : Nat) : Int), .int .u16 ((lk 2 : Nat) : Int), .int .u16 ((lk 3 : Nat) : Int), .int .u16 ((lk 4 : Nat) : Int), .int .u16 ((lk 5 : Nat) : Int), .int .u16 ((lk 6 : Nat) : Int), .int .u16 ((lk 7 : Nat) : Int), .int .u16 ((lk 8 : Nat) : Int), .int .u16 ((lk 9 : Nat) : Int), .int .u16 ((lk 10 : Nat) : Int), .int .u16 ((lk 11 : Nat) : Int), .int .u16 ((lk 12 : Nat) : Int), .int .u16 ((lk 13 : Nat) : Int), .int .u16 ((lk 14 : Nat) : Int), .int .u16 ((lk 15 : Nat) : Int)] _ (by rintro _ ⟨i, rfl⟩; exact ((HW.out i).block ga z1).trans b1) Try.underlying65 rfl size_mp ?_; go_simp; refine hK _ ?_; clear hK K)
      (repeat (first | (refine Go.Flo.fw_calm rfl ?_ (fun K hK => ?_); (first | exact Go.Mix.wanted_none rfl | exact Go.Mix.wanted_tt rfl rfl rfl | exact Go.Mix.wanted_ff rfl rfl rfl); go_big_quiet_op; refine hK _ ?_; clear hK K) | (refine Go.Flo.fw_skip ?_ (fun K hK => ?_); (first | exact Go.Mix.wanted_tf rfl rfl rfl | exact Go.Mix.wanted_ft rfl rfl rfl); go_simp; refine hK _ ?_; clear hK K) | (refine Go.Flo.fw_any rfl ?_ (fun K hK => ?_); (first | exact Go.Mix.wanted_none rfl | exact Go.Mix.wanted_tt rfl rfl rfl | exact Go.Mix.wanted_ff rfl rfl rfl); go_simp; (try (go_ints; try go_simp)); refine hK _ ?_; clear hK K)))
      refine Go.Flo.fw_loud rfl ?_ rfl (by simp) (fun wv hwv hav K hK => ?_) (fun v hv K hK => ?_)
      · (first | exact Go.Mix.wanted_none rfl | exact Go.Mix.wanted_tt rfl rfl rfl | exact Go.Mix.wanted_ff rfl rfl rfl)
      · obtain ⟨iv, rfl⟩ := hwv
        (first | go_big_op | go_simp)
        refine hK _ _ (Go.Flo.owes_row (HW.out iv).size)
      obtain ⟨xe, hxe, rfl⟩ := hv.row
      go_simp
      refine hK _ ?_
      clear hK K hv
      refine Go.Flo.fw_loud rfl ?_ rfl (by simp) (fun wv hwv hav K hK => ?_) (fun v hv K hK => ?_)
      · (first | exact Go.Mix.wanted_none rfl | exact Go.Mix.wanted_tt rfl rfl rfl | exact Go.Mix.wanted_ff rfl rfl rfl)
      · obtain ⟨iv, rfl⟩ := hwv
        have hbv := HW.out iv
        (first | go_big_op | go_simp)
        have hrow := Go.Flo.says_row ((hav 42 (by decide +kernel)).2 rfl).1
        go_at_call 48
        refine (Or_any _ 1 1 _ bad [more] _ hbad rfl (fun z hz => by simp at hz; omega) (Nat.le_refl _) (rd_setsS (l := [more]) hrow (by simp))).mono ?_
        rintro e w' ⟨rfl, hb⟩
        rw [EO.out]
        exact hK _ _ (Go.Flo.owes_is _ rfl (by rw [hb]; exact Below.refl _ _))
      obtain rfl := hv.is
      go_simp
      refine hK _ ?_
      clear hK K hv
      refine Go.Flo.fw_loud rfl ?_ rfl (by simp) (fun wv hwv hav K hK => ?_) (fun v hv K hK => ?_)
      · (first | exact Go.Mix.wanted_none rfl | exact Go.Mix.wanted_tt rfl rfl rfl | exact Go.Mix.wanted_ff rfl rfl rfl)
      · obtain ⟨iv, rfl⟩ := hwv
        have hbv := HW.out iv
        (first | go_big_op | go_simp)
        go_at_call 34
        refine (Count_any' (map_own (own_keepZ HO7.out hbv) hLv HLK.out hL6) (bad ||| more) hbm).mono ?_
        rintro e w' ⟨rfl, hb⟩
        rw [N2.out]
        exact hK _ _ (Go.Flo.owes_is _ rfl hb)
      obtain rfl := hv.is
      go_simp
      refine hK _ ?_
      clear hK K hv
      (refine Go.Flo.fw_calm rfl ?_ (fun K hK => ?_); (first | exact Go.Mix.wanted_none rfl | exact Go.Mix.wanted_tt rfl rfl rfl | exact Go.Mix.wanted_ff rfl rfl rfl); refine Go.Flo.quiet_load_row 65 _ rfl ga rfl _ #[.slice a1 L.length c1, .int .u16 ((lk 0 : Nat) : Int), .int .u16 ((lk 1 : Nat) : Int), .int .u16 ((lk 2 : Nat) : Int), .int .u16 ((lk 3 : Nat) : Int), .int .u16 ((lk 4 : Nat) : Int), .int .u16 ((lk 5 : Nat) : Int), .int .u16 ((lk 6 : Nat) : Int), .int .u16 ((lk 7 : Nat) : Int), .int .u16 ((lk 8 : Nat) : Int), .int .u16 ((lk 9 : Nat) : Int), .int .u16 ((lk 10 : Nat) : Int), .int .u16 ((lk 11 : Nat) : Int), .int .u16 ((lk 12 : Nat) : Int), .int .u16 ((lk 13 : Nat) : Int), .int .u16 ((lk 14 : Nat) : Int), .int .u16 ((lk 15 : Nat) : Int)] _ (by rintro _ ⟨i, rfl⟩; exact ((HW.out i).block ga z1).trans b1) Try.underlying65 rfl size_mp ?_; go_simp; refine hK _ ?_; clear hK K)
      (repeat (first | (refine Go.Flo.fw_calm rfl ?_ (fun K hK => ?_); (first | exact Go.Mix.wanted_none rfl | exact Go.Mix.wanted_tt rfl rfl rfl | exact Go.Mix.wanted_ff rfl rfl rfl); go_big_quiet_op; refine hK _ ?_; clear hK K) | (refine Go.Flo.fw_skip ?_ (fun K hK => ?_); (first | exact Go.Mix.wanted_tf rfl rfl rfl | exact Go.Mix.wanted_ft rfl rfl rfl); go_simp; refine hK _ ?_; clear hK K) | (refine Go.Flo.fw_any rfl ?_ (fun K hK => ?_); (first | exact Go.Mix.wanted_none rfl | exact Go.Mix.wanted_tt rfl rfl rfl | exact Go.Mix.wanted_ff rfl rfl rfl); go_simp; (try (go_ints; try go_simp)); refine hK _ ?_; clear hK K)))
      refine Go.Flo.fw_loud rfl ?_ rfl (by simp) (fun wv hwv hav K hK => ?_) (fun v hv K hK => ?_)
      · (first | exact Go.Mix.wanted_none rfl | exact Go.Mix.wanted_tt rfl rfl rfl | exact Go.Mix.wanted_ff rfl rfl rfl)
      · obtain ⟨iv, rfl⟩ := hwv
        have hbv := HW.out iv
        (first | go_big_op | go_simp)
        go_at_call 34
        refine (Count_any' (map_own (own_keepZ HO7.out hbv) hLv HLK.out hL6) bad hbad).mono ?_
        rintro e w' ⟨rfl, hb⟩
        rw [N1.out]
        exact hK _ _ (Go.Flo.owes_is _ rfl hb)
      obtain rfl := hv.is
      go_simp
      refine hK _ ?_
      clear hK K hv
      (repeat (first | (refine Go.Flo.fw_calm rfl ?_ (fun K hK => ?_); (first | exact Go.Mix.wanted_none rfl | exact Go.Mix.wanted_tt rfl rfl rfl | exact Go.Mix.wanted_ff rfl rfl rfl); go_big_quiet_op; refine hK _ ?_; clear hK K) | (refine Go.Flo.fw_skip ?_ (fun K hK => ?_); (first | exact Go.Mix.wanted_tf rfl rfl rfl | exact Go.Mix.wanted_ft rfl rfl rfl); go_simp; refine hK _ ?_; clear hK K) | (refine Go.Flo.fw_any rfl ?_ (fun K hK => ?_); (first | exact Go.Mix.wanted_none rfl | exact Go.Mix.wanted_tt rfl rfl rfl | exact Go.Mix.wanted_ff rfl rfl rfl); go_simp; (try (go_ints; try go_simp)); refine hK _ ?_; clear hK K)))
      refine Go.Flo.fw_nil ?_
      intro w8 hww8 hfw8 huw8
      obtain ⟨iend, hiend⟩ := hww8
      have hbw8 := HW.out iend
      rw [← hiend] at hbw8
      clear hiend iend huw8
      have HQ8 := Lib.hid (HQ7.out.step hbw8)
      clear hfw8 HJ HW hne hbw8 b1 z1 HO7 HQ7
      clear W I
      refine ⟨fun _ => True, trivial, ?_⟩

      refine Go.Mix.walk_nil ?_
      (try simp only [Act.put])
      have hq0 : q ≠ 0 := fun h => by
        have h1 := BY.out
        have h2 := (G2.out h).1
        simp at h1
        omega
      skip
      have b3 := HQ8.out.of 3 rfl
      go_wp2_with (refine wpLoadGT (by (first | exact Go.Mix.wanted_none rfl | exact Go.Mix.wanted_tt rfl rfl rfl | exact Go.Mix.wanted_ff rfl rfl rfl)) 76 _ rfl _ rfl _ _ _ _ b3 Try.underlying76 rfl (by exact size_ch) ?_; (try go_simp))
      go_at_call 37
      refine (Units_any c w8 HCO.out).mono ?_
      rintro e w9 ⟨rfl, hb⟩
      rw [HU.out]
      have HQ9 := Lib.hid (HQ8.out.step hb)
      clear hb b3 HQ8
      go_wp2_with fail
      go_at_call 38
      refine (And_any u more w9 hu hmore).mono ?_
      rintro e wa ⟨rfl, rfl⟩
      rw [HQQ.out]
      have HQA := HQ9
      clear HQ9
      have hqb : (((q : Nat) : Int) == 0) = false := by rw [beq_eq_false_iff_ne]; omega
      clear hq0
      go_wp2_with fail
      go_ret
      exact ⟨rfl, HQA.out.be⟩
    · skip
      obtain ⟨I, W, hne, hWI, hIW⟩ := Go.Mix.family (fun v => Below w7.heap.size w7 v) (Below.refl _ _)
      have HJ := Lib.hid hIW
      have HW := Lib.hid hWI
      clear hWI hIW
      refine Go.Flo3.wp_region (fun w' => ∃ i, w' = W i) 17 [Go.Flo.Spec.row w7.heap.size 1 #[.int .u16 ((more : Nat) : Int)] 61, Go.Flo.Spec.is (.int .u16 ((bad ||| more : Nat) : Int)), Go.Flo.Spec.is (.int .i64 ((nY : Nat) : Int)), Go.Flo.Spec.is (.int .i64 ((nX : Nat) : Int))] (by kernel_rfl) (by kernel_rfl) (by decide) (by rintro _ w' ⟨i, rfl⟩ hb; exact HJ.out _ ((HW.out i).trans (hb.mono (HW.out i).size))) (HJ.out _ (Below.refl _ _).drew) ?_
      simp only [Go.Flo.pair, Go.Mix.calm, List.take, List.drop, if_true, Bool.false_eq_true, if_false, Nat.reduceAdd, Nat.reduceSub]
      (refine Go.Flo.fw_calm rfl ?_ (fun K hK => ?_); (first | exact Go.Mix.wanted_none rfl | exact Go.Mix.wanted_tt rfl rfl rfl | exact Go.Mix.wanted_ff rfl rfl rfl); refine Go.Flo.quiet_load_row 65 _ rfl ga rfl _ #[.slice a1 L.length c1, .int .u16 ((lk 0 : Nat) : Int), .int .u16 ((lk 1 : Nat) : Int), .int .u16 ((lk 2 : Nat) : Int), .int .u16 ((lk 3 : Nat) : Int), .int .u16 ((lk 4 : Nat) : Int), .int .u16 ((lk 5 : Nat) : Int), .int .u16 ((lk 6 : Nat) : Int), .int .u16 ((lk 7 : Nat) : Int), .int .u16 ((lk 8 : Nat) : Int), .int .u16 ((lk 9 : Nat) : Int), .int .u16 ((lk 10 : Nat) : Int), .int .u16 ((lk 11 : Nat) : Int), .int .u16 ((lk 12 : Nat) : Int), .int .u16 ((lk 13 : Nat) : Int), .int .u16 ((lk 14 : Nat) : Int), .int .u16 ((lk 15 : Nat) : Int)] _ (by rintro _ ⟨i, rfl⟩; exact ((HW.out i).block ga z1).trans b1) Try.underlying65 rfl size_mp ?_; go_simp; refine hK _ ?_; clear hK K)
      (repeat (first | (refine Go.Flo.fw_calm rfl ?_ (fun K hK => ?_); (first | exact Go.Mix.wanted_none rfl | exact Go.Mix.wanted_tt rfl rfl rfl | exact Go.Mix.wanted_ff rfl rfl rfl); go_big_quiet_op; refine hK _ ?_; clear hK K) | (refine Go.Flo.fw_skip ?_ (fun K hK => ?_); (first | exact Go.Mix.wanted_tf rfl rfl rfl | exact Go.Mix.wanted_ft rfl rfl rfl); go_simp; refine hK _ ?_; clear hK K) | (refine Go.Flo.fw_any rfl ?_ (fun K hK => ?_); (first | exact Go.Mix.wanted_none rfl | exact Go.Mix.wanted_tt rfl rfl rfl | exact Go.Mix.wanted_ff rfl rfl rfl); go_simp; (try (go_ints; try go_simp)); refine hK _ ?_; clear hK K)))
      refine Go.Flo.fw_loud rfl ?_ rfl (by simp) (fun wv hwv hav K hK => ?_) (fun v hv K hK => ?_)
      · (first | exact Go.Mix.wanted_none rfl | exact Go.Mix.wanted_tt rfl rfl rfl | exact Go.Mix.wanted_ff rfl rfl rfl)
      · obtain ⟨iv, rfl⟩ := hwv
        (first | go_big_op | go_simp)
        refine hK _ _ (Go.Flo.owes_row (HW.out iv).size)
      obtain ⟨xe, hxe, rfl⟩ := hv.row
      go_simp
      refine hK _ ?_
      clear hK K hv
      refine Go.Flo.fw_loud rfl ?_ rfl (by simp) (fun wv hwv hav K hK => ?_) (fun v hv K hK => ?_)
      · (first | exact Go.Mix.wanted_none rfl | exact Go.Mix.wanted_tt rfl rfl rfl | exact Go.Mix.wanted_ff rfl rfl rfl)
      · obtain ⟨iv, rfl⟩ := hwv
        have hbv := HW.out iv
        (first | go_big_op | go_simp)
        have hrow := Go.Flo.says_row ((hav 42 (by decide +kernel)).2 rfl).1
        go_at_call 48
        refine (Or_any _ 1 1 _ bad [more] _ hbad rfl (fun z hz => by simp at hz; omega) (Nat.le_refl _) (rd_setsS (l := [more]) hrow (by simp))).mono ?_
        rintro e w' ⟨rfl, hb⟩
        rw [EO.out]
        exact hK _ _ (Go.Flo.owes_is _ rfl (by rw [hb]; exact Below.refl _ _))
      obtain rfl := hv.is
      go_simp
      refine hK _ ?_
      clear hK K hv
      refine Go.Flo.fw_loud rfl ?_ rfl (by simp) (fun wv hwv hav K hK => ?_) (fun v hv K hK => ?_)
      · (first | exact Go.Mix.wanted_none rfl | exact Go.Mix.wanted_tt rfl rfl rfl | exact Go.Mix.wanted_ff rfl rfl rfl)
      · obtain ⟨iv, rfl⟩ := hwv
        have hbv := HW.out iv
        (first | go_big_op | go_simp)
        go_at_call 34
        refine (Count_any' (map_own (own_keepZ HO7.out hbv) hLv HLK.out hL6) (bad ||| more) hbm).mono ?_
        rintro e w' ⟨rfl, hb⟩
        rw [N2.out]
        exact hK _ _ (Go.Flo.owes_is _ rfl hb)
      obtain rfl := hv.is
      go_simp
      refine hK _ ?_
      clear hK K hv
      (refine Go.Flo.fw_calm rfl ?_ (fun K hK => ?_); (first | exact Go.Mix.wanted_none rfl | exact Go.Mix.wanted_tt rfl rfl rfl | exact Go.Mix.wanted_ff rfl rfl rfl); refine Go.Flo.quiet_load_row 65 _ rfl ga rfl _ #[.slice a1 L.length c1, .int .u16 ((lk 0 : Nat) : Int), .int .u16 ((lk 1 : Nat) : Int), .int .u16 ((lk 2 : Nat) : Int), .int .u16 ((lk 3 : Nat) : Int), .int .u16 ((lk 4 : Nat) : Int), .int .u16 ((lk 5 : Nat) : Int), .int .u16 ((lk 6 : Nat) : Int), .int .u16 ((lk 7 : Nat) : Int), .int .u16 ((lk 8 : Nat) : Int), .int .u16 ((lk 9 : Nat) : Int), .int .u16 ((lk 10 : Nat) : Int), .int .u16 ((lk 11 : Nat) : Int), .int .u16 ((lk 12 : Nat) : Int), .int .u16 ((lk 13 : Nat) : Int), .int .u16 ((lk 14 : Nat) : Int), .int .u16 ((lk 15 : Nat) : Int)] _ (by rintro _ ⟨i, rfl⟩; exact ((HW.out i).block ga z1).trans b1) Try.underlying65 rfl size_mp ?_; go_simp; refine hK _ ?_; clear hK K)
      (repeat (first | (refine Go.Flo.fw_calm rfl ?_ (fun K hK => ?_); (first | exact Go.Mix.wanted_none rfl | exact Go.Mix.wanted_tt rfl rfl rfl | exact Go.Mix.wanted_ff rfl rfl rfl); go_big_quiet_op; refine hK _ ?_; clear hK K) | (refine Go.Flo.fw_skip ?_ (fun K hK => ?_); (first | exact Go.Mix.wanted_tf rfl rfl rfl | exact Go.Mix.wanted_ft rfl rfl rfl); go_simp; refine hK _ ?_; clear hK K) | (refine Go.Flo.fw_any rfl ?_ (fun K hK => ?_); (first | exact Go.Mix.wanted_none rfl | exact Go.Mix.wanted_tt rfl rfl rfl | exact Go.Mix.wanted_ff rfl rfl rfl); go_simp; (try (go_ints; try go_simp)); refine hK _ ?_; clear hK K)))
      refine Go.Flo.fw_loud rfl ?_ rfl (by simp) (fun wv hwv hav K hK => ?_) (fun v hv K hK => ?_)
      · (first | exact Go.Mix.wanted_none rfl | exact Go.Mix.wanted_tt rfl rfl rfl | exact Go.Mix.wanted_ff rfl rfl rfl)
      · obtain ⟨iv, rfl⟩ := hwv
        have hbv := HW.out iv
        (first | go_big_op | go_simp)
        go_at_call 34
        refine (Count_any' (map_own (own_keepZ HO7.out hbv) hLv HLK.out hL6) bad hbad).mono ?_
        rintro e w' ⟨rfl, hb⟩
        rw [N1.out]
        exact hK _ _ (Go.Flo.owes_is _ rfl hb)
      obtain rfl := hv.is
      go_simp
      refine hK _ ?_
      clear hK K hv
      (repeat (first | (refine Go.Flo.fw_calm rfl ?_ (fun K hK => ?_); (first | exact Go.Mix.wanted_none rfl | exact Go.Mix.wanted_tt rfl rfl rfl | exact Go.Mix.wanted_ff rfl rfl rfl); go_big_quiet_op; refine hK _ ?_; clear hK K) | (refine Go.Flo.fw_skip ?_ (fun K hK => ?_); (first | exact Go.Mix.wanted_tf rfl rfl rfl | exact Go.Mix.wanted_ft rfl rfl rfl); go_simp; refine hK _ ?_; clear hK K) | (refine Go.Flo.fw_any rfl ?_ (fun K hK => ?_); (first | exact Go.Mix.wanted_none rfl | exact Go.Mix.wanted_tt rfl rfl rfl | exact Go.Mix.wanted_ff rfl rfl rfl); go_simp; (try (go_ints; try go_simp)); refine hK _ ?_; clear hK K)))
      refine Go.Flo.fw_nil ?_
      intro w8 hww8 hfw8 huw8
      obtain ⟨iend, hiend⟩ := hww8
      have hbw8 := HW.out iend
      rw [← hiend] at hbw8
      clear hiend iend huw8
      have HQ8 := Lib.hid (HQ7.out.step hbw8)
      clear hfw8 HJ HW hne hbw8 b1 z1 HO7 HQ7
      clear W I
      refine ⟨fun _ => True, trivial, ?_⟩

      refine Go.Mix.walk_nil ?_
      (try simp only [Act.put])
      skip
      have b3 := HQ8.out.of 3 rfl
      go_wp2_with (refine wpLoadGT (by (first | exact Go.Mix.wanted_none rfl | exact Go.Mix.wanted_tt rfl rfl rfl | exact Go.Mix.wanted_ff rfl rfl rfl)) 76 _ rfl _ rfl _ _ _ _ b3 Try.underlying76 rfl (by exact size_ch) ?_; (try go_simp))
      go_at_call 37
      refine (Units_any c w8 HCO.out).mono ?_
      rintro e w9 ⟨rfl, hb⟩
      rw [HU.out]
      have HQ9 := Lib.hid (HQ8.out.step hb)
      clear hb b3 HQ8
      go_wp2_with fail
      go_at_call 38
      refine (And_any u more w9 hu hmore).mono ?_
      rintro e wa ⟨rfl, rfl⟩
      rw [HQQ.out]
      have HQA := HQ9
      clear HQ9
      by_cases hq0 : q = 0
      · obtain ⟨_, rfl⟩ := G2.out hq0
        have hqb : (((q : Nat) : Int) == 0) = true := by simp [hq0]
        clear hq0
        have b3 := HQA.out.of 3 rfl
        have b4 := HQA.out.of 4 rfl
        have he : ∀ w, (binOp .eql 76 (.agg #[.int .i8 (d 0), .int .i8 (d 1), .int .i8 (d 2), .int .i8 (d 3), .int .i8 (d 4), .int .i8 (d 5)]) (.agg #[.int .i8 (d 0), .int .i8 (d 1), .int .i8 (d 2), .int .i8 (d 3), .int .i8 (d 4), .int .i8 (d 5)])).run Try.prog w = .ok (.bool true) w := fun w => by rw [eqlCh HCO.out HCO.out, sameC_refl]
        go_wp2_with (first | (refine wpLoadGT (by (first | exact Go.Mix.wanted_none rfl | exact Go.Mix.wanted_tt rfl rfl rfl | exact Go.Mix.wanted_ff rfl rfl rfl)) 76 _ rfl _ rfl _ _ _ _ b4 Try.underlying76 rfl (by exact size_ch) ?_; (try go_simp)) | (refine wpLoadGT (by (first | exact Go.Mix.wanted_none rfl | exact Go.Mix.wanted_tt rfl rfl rfl | exact Go.Mix.wanted_ff rfl rfl rfl)) 76 _ rfl _ rfl _ _ _ _ b3 Try.underlying76 rfl (by exact size_ch) ?_; (try go_simp)))
        go_ret
        exact ⟨rfl, HQA.out.be⟩
      · have hqb : (((q : Nat) : Int) == 0) = false := by rw [beq_eq_false_iff_ne]; omega
        clear hq0
        have hYp : 0 < nY := by have := BY.out; simpa using this
        have G5 := Lib.hid (G4.out hYp)
        clear hYp G4 G2
        go_wp2_with fail
        go_loopw [74] (fun v wr => ∃ k : Nat, k ≤ 6 ∧ v = .int .i64 (k : Nat) ∧ (∀ j, j < k → c j = d j) ∧ Bq w wr [(g0, #[.int .u16 ((lk 0 : Nat) : Int), .int .u16 ((lk 1 : Nat) : Int), .int .u16 ((lk 2 : Nat) : Int), .int .u16 ((lk 3 : Nat) : Int), .int .u16 ((lk 4 : Nat) : Int), .int .u16 ((lk 5 : Nat) : Int), .int .u16 ((lk 6 : Nat) : Int), .int .u16 ((lk 7 : Nat) : Int), .int .u16 ((lk 8 : Nat) : Int), .int .u16 ((lk 9 : Nat) : Int), .int .u16 ((lk 10 : Nat) : Int), .int .u16 ((lk 11 : Nat) : Int), .int .u16 ((lk 12 : Nat) : Int), .int .u16 ((lk 13 : Nat) : Int), .int .u16 ((lk 14 : Nat) : Int), .int .u16 ((lk 15 : Nat) : Int)], 62), (ga, #[.slice a1 L.length c1, .int .u16 ((lk 0 : Nat) : Int), .int .u16 ((lk 1 : Nat) : Int), .int .u16 ((lk 2 : Nat) : Int), .int .u16 ((lk 3 : Nat) : Int), .int .u16 ((lk 4 : Nat) : Int), .int .u16 ((lk 5 : Nat) : Int), .int .u16 ((lk 6 : Nat) : Int), .int .u16 ((lk 7 : Nat) : Int), .int .u16 ((lk 8 : Nat) : Int), .int .u16 ((lk 9 : Nat) : Int), .int .u16 ((lk 10 : Nat) : Int), .int .u16 ((lk 11 : Nat) : Int), .int .u16 ((lk 12 : Nat) : Int), .int .u16 ((lk 13 : Nat) : Int), .int .u16 ((lk 14 : Nat) : Int), .int .u16 ((lk 15 : Nat) : Int)], 65), (gb, #[.slice a2 L.length c2, .int .u16 ((lk 0 : Nat) : Int), .int .u16 ((lk 1 : Nat) : Int), .int .u16 ((lk 2 : Nat) : Int), .int .u16 ((lk 3 : Nat) : Int), .int .u16 ((lk 4 : Nat) : Int), .int .u16 ((lk 5 : Nat) : Int), .int .u16 ((lk 6 : Nat) : Int), .int .u16 ((lk 7 : Nat) : Int), .int .u16 ((lk 8 : Nat) : Int), .int .u16 ((lk 9 : Nat) : Int), .int .u16 ((lk 10 : Nat) : Int), .int .u16 ((lk 11 : Nat) : Int), .int .u16 ((lk 12 : Nat) : Int), .int .u16 ((lk 13 : Nat) : Int), .int .u16 ((lk 14 : Nat) : Int), .int .u16 ((lk 15 : Nat) : Int)], 69), (gc, #[.int .i8 (c 0), .int .i8 (c 1), .int .i8 (c 2), .int .i8 (c 3), .int .i8 (c 4), .int .i8 (c 5)], 76), (gd, #[.int .i8 (d 0), .int .i8 (d 1), .int .i8 (d 2), .int .i8 (d 3), .int .i8 (d 4), .int .i8 (d 5)], 76)]) (fun v _ => 6 - (intOf v).toNat)
        case atStart => exact ⟨0, Nat.zero_le _, rfl, fun j hj => absurd hj (by omega), HQA.out⟩
        case round =>
          clear HQA
          obtain ⟨k, hk, rfl, hs, hq⟩ := hrel
          have HQ := Lib.hid hq
          have HSS := Lib.hid hs
          clear hq hs
          by_cases hk6 : k < 6
          · have e1 := cell_of_row _ gc k _ _ _ (HQ.out.of 3 rfl)
            rw [ch_cell c hk6] at e1
            have e2 := cell_of_row _ gd k _ _ _ (HQ.out.of 4 rfl)
            rw [ch_cell d hk6] at e2
            obtain ⟨x, hx⟩ : ∃ x, c k = x := ⟨_, rfl⟩
            obtain ⟨y, hy⟩ : ∃ y, d k = y := ⟨_, rfl⟩
            rw [hx] at e1
            rw [hy] at e2
            have HX := Lib.hid hx
            have HY := Lib.hid hy
            clear hx hy
            have HQd := Lib.hid (fun n => HQ.out.step (bel_drewV wr n))
            by_cases hxy : x = y
            · subst hxy
              have hne : (x != x) = false := by simp
              go_upto_region 14 with fail
              go_quiet (fail)
              go_wp2_with fail
              go_roundw
              case rel => exact ⟨k + 1, by omega, by go_num, fun j hj => by rcases Nat.lt_succ_iff_lt_or_eq.1 hj with h | rfl; exact HSS.out j h; rw [HX.out, HY.out], HQd.out _⟩
              case measure => simp [intOf]; omega
            · have hne : (x != y) = true := by simp [hxy]
              have hlt : x < y := by
                have := G5.out k HSS.out (by rw [HX.out, HY.out]; exact hxy)
                rwa [HX.out, HY.out] at this
              have hlt2 : decide (x < y) = true := decide_eq_true hlt
              go_upto_region 14 with fail
              go_quiet (fail)
              obtain ⟨w5', hw5'⟩ : ∃ w5, w5 = wr.drewN nq := ⟨_, rfl⟩
              have HQ5 := Lib.hid (HQd.out nq)
              rw [← hw5'] at HQ5 ⊢
              have e1 := cell_of_row _ gc k _ _ _ (HQ5.out.of 3 rfl)
              rw [ch_cell c hk6, HX.out] at e1
              have e2 := cell_of_row _ gd k _ _ _ (HQ5.out.of 4 rfl)
              rw [ch_cell d hk6, HY.out] at e2
              have HQd5 := Lib.hid (fun n => HQ5.out.step (bel_drewV w5' n))
              clear hw5' HQd
              go_upto_region 15 with fail
              go_quiet (fail)
              go_wp2_with fail
              go_ret
              exact ⟨rfl, (HQd5.out _).be⟩
          · obtain rfl : k = 6 := by omega
            go_wp2_with fail
            go_ret
            exact ⟨rfl, HQ.out.be⟩
end Go.Proofs.Ytioclbkgfbjpdaa
