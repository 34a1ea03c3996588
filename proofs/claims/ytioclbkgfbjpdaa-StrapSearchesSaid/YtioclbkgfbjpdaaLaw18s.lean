/- StrapSearches. -/
import Derived.Test.YtioclbkgfbjpdaaLaw18m
namespace Go.Proofs.Ytioclbkgfbjpdaa
open Go.RowKit Go.Own Bs
set_option linter.unusedVariables false
set_option linter.unusedSimpArgs false
set_option maxRecDepth 100000 in
set_option maxHeartbeats 8000000 in
theorem walk_StrapSearches (a0 : Option Addr) (len0 cap0 : Nat) (z0 z1 : List Int) (a2 : Int) (w : World) (w0 : IsRow .u16 w a0 len0 cap0 z0) (l1 : z1.length = 16) (w1 : ∀ x ∈ z1, (Lit.int .u16 x).wf = true) (w2 : (Lit.int .u16 a2).wf = true) :
    Calls Try.prog 5 #[.slice a0 len0 cap0, .agg (z1.map (Value.int .u16)).toArray, .int .u16 a2] w fun e w' => e = .returned (.bool true) ∧ Below w.heap.size w w' := by
  skip
  obtain ⟨z, hzl, hzv, hzr⟩ := isRow_u16S w0
  obtain ⟨lk, hlk, elk⟩ := lk_of l1 w1
  rw [elk]
  obtain ⟨hL6, hLv⟩ := layS_six hzv
  have HZR := Lib.hid hzr
  have HZV := Lib.hid hzv
  have HLK := Lib.hid hlk
  have hzm := zero_mp
  have hzr := zero_rm
  have hzc := zero_ch
  have hq := (Bq.nil w).new #[.int .u16 ((lk 0 : Nat) : Int), .int .u16 ((lk 1 : Nat) : Int), .int .u16 ((lk 2 : Nat) : Int), .int .u16 ((lk 3 : Nat) : Int), .int .u16 ((lk 4 : Nat) : Int), .int .u16 ((lk 5 : Nat) : Int), .int .u16 ((lk 6 : Nat) : Int), .int .u16 ((lk 7 : Nat) : Int), .int .u16 ((lk 8 : Nat) : Int), .int .u16 ((lk 9 : Nat) : Int), .int .u16 ((lk 10 : Nat) : Int), .int .u16 ((lk 11 : Nat) : Int), .int .u16 ((lk 12 : Nat) : Int), .int .u16 ((lk 13 : Nat) : Int), .int .u16 ((lk 14 : Nat) : Int), .int .u16 ((lk 15 : Nat) : Int)] 62
  clear w0 l1 w1 elk hzv hlk
  have hLR := lay_right HZV.out
  obtain ⟨bad, rfl⟩ := Int.eq_ofNat_of_zero_le (bounds_u16 w2).1
  have hbad : bad < 65536 := by have := (bounds_u16 w2).2; omega
  clear w2
  go_enter Try.func5, Try.ntmps5
  skip
  go_upto_region 1 with fail
  obtain ⟨w1, hw1⟩ : ∃ w1, w1 = w.alloc (.cells #[.int .u16 ((lk 0 : Nat) : Int), .int .u16 ((lk 1 : Nat) : Int), .int .u16 ((lk 2 : Nat) : Int), .int .u16 ((lk 3 : Nat) : Int), .int .u16 ((lk 4 : Nat) : Int), .int .u16 ((lk 5 : Nat) : Int), .int .u16 ((lk 6 : Nat) : Int), .int .u16 ((lk 7 : Nat) : Int), .int .u16 ((lk 8 : Nat) : Int), .int .u16 ((lk 9 : Nat) : Int), .int .u16 ((lk 10 : Nat) : Int), .int .u16 ((lk 11 : Nat) : Int), .int .u16 ((lk 12 : Nat) : Int), .int .u16 ((lk 13 : Nat) : Int), .int .u16 ((lk 14 : Nat) : Int), .int .u16 ((lk 15 : Nat) : Int)] 62) := ⟨_, rfl⟩
  obtain ⟨g0, hg0⟩ : ∃ b, b = w.heap.size := ⟨_, rfl⟩
  rw [← hw1] at hq ⊢
  rw [← hg0]
  have HQ1 := Lib.hid (show Bq w w1 [(g0, #[.int .u16 ((lk 0 : Nat) : Int), .int .u16 ((lk 1 : Nat) : Int), .int .u16 ((lk 2 : Nat) : Int), .int .u16 ((lk 3 : Nat) : Int), .int .u16 ((lk 4 : Nat) : Int), .int .u16 ((lk 5 : Nat) : Int), .int .u16 ((lk 6 : Nat) : Int), .int .u16 ((lk 7 : Nat) : Int), .int .u16 ((lk 8 : Nat) : Int), .int .u16 ((lk 9 : Nat) : Int), .int .u16 ((lk 10 : Nat) : Int), .int .u16 ((lk 11 : Nat) : Int), .int .u16 ((lk 12 : Nat) : Int), .int .u16 ((lk 13 : Nat) : Int), .int .u16 ((lk 14 : Nat) : Int), .int .u16 ((lk 15 : Nat) : Int)], 62)] by rw [hg0]; exact hq)
  clear hw1 hg0 hq
  go_wp2_with fail
  go_at_call 29
  refine (awake18 w1).mono ?_
  rintro e w2 ⟨rfl, hb⟩
  have HQ2 := Lib.hid (HQ1.out.step hb)
  clear hb HQ1
  have b0 := HQ2.out.of 0 rfl
  go_wp2_with (refine wpList_load_row rfl 62 _ rfl _ rfl _ _ _ _ b0 Try.underlying62 rfl (by exact size_lk) ?_; (try go_simp))
  go_at_call 30
  refine (lay_any a0 len0 cap0 w.heap.size z lk w2 hzl HZV.out HLK.out HQ2.out.be.size (HZR.out.below HQ2.out.be)).mono ?_
  rintro e w3 ⟨a1, c1, a2, c2, rfl, ho, hr, hb⟩
  obtain ⟨L, hL⟩ : ∃ L, L = (layS (z.take 6)).1 := ⟨_, rfl⟩
  rw [← hL] at ho hr hL6 hLv ⊢
  have HL := Lib.hid hL
  have HQ3 := Lib.hid (HQ2.out.step hb)
  have HO3 := Lib.hid ho
  have HR3 := Lib.hid hr
  have hs2 : w.heap.size ≤ w2.heap.size := HQ2.out.be.size
  clear hL hb b0 HQ2 ho hr
  obtain ⟨q1, q2, q3⟩ := HQ3.out.pair #[.slice none 0 0, .int .u16 0, .int .u16 0, .int .u16 0, .int .u16 0, .int .u16 0, .int .u16 0, .int .u16 0, .int .u16 0, .int .u16 0, .int .u16 0, .int .u16 0, .int .u16 0, .int .u16 0, .int .u16 0, .int .u16 0, .int .u16 0] #[.slice none 0 0, .int .u16 0, .int .u16 0, .int .u16 0, .int .u16 0, .int .u16 0, .int .u16 0, .int .u16 0, .int .u16 0, .int .u16 0, .int .u16 0, .int .u16 0, .int .u16 0, .int .u16 0, .int .u16 0, .int .u16 0, .int .u16 0] #[.slice a1 L.length c1, .int .u16 ((lk 0 : Nat) : Int), .int .u16 ((lk 1 : Nat) : Int), .int .u16 ((lk 2 : Nat) : Int), .int .u16 ((lk 3 : Nat) : Int), .int .u16 ((lk 4 : Nat) : Int), .int .u16 ((lk 5 : Nat) : Int), .int .u16 ((lk 6 : Nat) : Int), .int .u16 ((lk 7 : Nat) : Int), .int .u16 ((lk 8 : Nat) : Int), .int .u16 ((lk 9 : Nat) : Int), .int .u16 ((lk 10 : Nat) : Int), .int .u16 ((lk 11 : Nat) : Int), .int .u16 ((lk 12 : Nat) : Int), .int .u16 ((lk 13 : Nat) : Int), .int .u16 ((lk 14 : Nat) : Int), .int .u16 ((lk 15 : Nat) : Int)] #[.slice a2 L.length c2, .int .u16 ((lk 0 : Nat) : Int), .int .u16 ((lk 1 : Nat) : Int), .int .u16 ((lk 2 : Nat) : Int), .int .u16 ((lk 3 : Nat) : Int), .int .u16 ((lk 4 : Nat) : Int), .int .u16 ((lk 5 : Nat) : Int), .int .u16 ((lk 6 : Nat) : Int), .int .u16 ((lk 7 : Nat) : Int), .int .u16 ((lk 8 : Nat) : Int), .int .u16 ((lk 9 : Nat) : Int), .int .u16 ((lk 10 : Nat) : Int), .int .u16 ((lk 11 : Nat) : Int), .int .u16 ((lk 12 : Nat) : Int), .int .u16 ((lk 13 : Nat) : Int), .int .u16 ((lk 14 : Nat) : Int), .int .u16 ((lk 15 : Nat) : Int)] 65 69
  have o1 := own_keepZ HO3.out (((Below.refl w3.heap.size w3).alloc (Nat.le_refl _) (.cells #[.slice none 0 0, .int .u16 0, .int .u16 0, .int .u16 0, .int .u16 0, .int .u16 0, .int .u16 0, .int .u16 0, .int .u16 0, .int .u16 0, .int .u16 0, .int .u16 0, .int .u16 0, .int .u16 0, .int .u16 0, .int .u16 0, .int .u16 0] 65)).alloc (by simp) (.cells #[.slice none 0 0, .int .u16 0, .int .u16 0, .int .u16 0, .int .u16 0, .int .u16 0, .int .u16 0, .int .u16 0, .int .u16 0, .int .u16 0, .int .u16 0, .int .u16 0, .int .u16 0, .int .u16 0, .int .u16 0, .int .u16 0, .int .u16 0] 69))
  have r1 := HR3.out.kept (((Below.refl w3.heap.size w3).alloc (Nat.le_refl _) (.cells #[.slice none 0 0, .int .u16 0, .int .u16 0, .int .u16 0, .int .u16 0, .int .u16 0, .int .u16 0, .int .u16 0, .int .u16 0, .int .u16 0, .int .u16 0, .int .u16 0, .int .u16 0, .int .u16 0, .int .u16 0, .int .u16 0, .int .u16 0] 65)).alloc (by simp) (.cells #[.slice none 0 0, .int .u16 0, .int .u16 0, .int .u16 0, .int .u16 0, .int .u16 0, .int .u16 0, .int .u16 0, .int .u16 0, .int .u16 0, .int .u16 0, .int .u16 0, .int .u16 0, .int .u16 0, .int .u16 0, .int .u16 0, .int .u16 0] 69))
  obtain ⟨wA, hwA⟩ : ∃ xW, (w3.alloc (.cells #[.slice none 0 0, .int .u16 0, .int .u16 0, .int .u16 0, .int .u16 0, .int .u16 0, .int .u16 0, .int .u16 0, .int .u16 0, .int .u16 0, .int .u16 0, .int .u16 0, .int .u16 0, .int .u16 0, .int .u16 0, .int .u16 0, .int .u16 0] 65)).alloc (.cells #[.slice none 0 0, .int .u16 0, .int .u16 0, .int .u16 0, .int .u16 0, .int .u16 0, .int .u16 0, .int .u16 0, .int .u16 0, .int .u16 0, .int .u16 0, .int .u16 0, .int .u16 0, .int .u16 0, .int .u16 0, .int .u16 0, .int .u16 0] 69) = xW := ⟨_, rfl⟩
  rw [hwA] at q1 q2 q3 o1 r1
  have o2 := o1.kept (grown_rowS wA w3.heap.size #[.slice a1 L.length c1, .int .u16 ((lk 0 : Nat) : Int), .int .u16 ((lk 1 : Nat) : Int), .int .u16 ((lk 2 : Nat) : Int), .int .u16 ((lk 3 : Nat) : Int), .int .u16 ((lk 4 : Nat) : Int), .int .u16 ((lk 5 : Nat) : Int), .int .u16 ((lk 6 : Nat) : Int), .int .u16 ((lk 7 : Nat) : Int), .int .u16 ((lk 8 : Nat) : Int), .int .u16 ((lk 9 : Nat) : Int), .int .u16 ((lk 10 : Nat) : Int), .int .u16 ((lk 11 : Nat) : Int), .int .u16 ((lk 12 : Nat) : Int), .int .u16 ((lk 13 : Nat) : Int), .int .u16 ((lk 14 : Nat) : Int), .int .u16 ((lk 15 : Nat) : Int)]) (.inr (Ne.symm (box_apart q2 o1 (by decide))))
  have r2 := r1.box (grown_rowS wA w3.heap.size #[.slice a1 L.length c1, .int .u16 ((lk 0 : Nat) : Int), .int .u16 ((lk 1 : Nat) : Int), .int .u16 ((lk 2 : Nat) : Int), .int .u16 ((lk 3 : Nat) : Int), .int .u16 ((lk 4 : Nat) : Int), .int .u16 ((lk 5 : Nat) : Int), .int .u16 ((lk 6 : Nat) : Int), .int .u16 ((lk 7 : Nat) : Int), .int .u16 ((lk 8 : Nat) : Int), .int .u16 ((lk 9 : Nat) : Int), .int .u16 ((lk 10 : Nat) : Int), .int .u16 ((lk 11 : Nat) : Int), .int .u16 ((lk 12 : Nat) : Int), .int .u16 ((lk 13 : Nat) : Int), .int .u16 ((lk 14 : Nat) : Int), .int .u16 ((lk 15 : Nat) : Int)]) q2 (by decide) (by decide)
  obtain ⟨wB, hwB⟩ : ∃ xW, wA.setRow w3.heap.size #[.slice a1 L.length c1, .int .u16 ((lk 0 : Nat) : Int), .int .u16 ((lk 1 : Nat) : Int), .int .u16 ((lk 2 : Nat) : Int), .int .u16 ((lk 3 : Nat) : Int), .int .u16 ((lk 4 : Nat) : Int), .int .u16 ((lk 5 : Nat) : Int), .int .u16 ((lk 6 : Nat) : Int), .int .u16 ((lk 7 : Nat) : Int), .int .u16 ((lk 8 : Nat) : Int), .int .u16 ((lk 9 : Nat) : Int), .int .u16 ((lk 10 : Nat) : Int), .int .u16 ((lk 11 : Nat) : Int), .int .u16 ((lk 12 : Nat) : Int), .int .u16 ((lk 13 : Nat) : Int), .int .u16 ((lk 14 : Nat) : Int), .int .u16 ((lk 15 : Nat) : Int)] = xW := ⟨_, rfl⟩
  rw [hwB] at q1 q3 o2 r2
  have o3 := o2.kept (grown_rowS wB (w3.heap.size + 1) #[.slice a2 L.length c2, .int .u16 ((lk 0 : Nat) : Int), .int .u16 ((lk 1 : Nat) : Int), .int .u16 ((lk 2 : Nat) : Int), .int .u16 ((lk 3 : Nat) : Int), .int .u16 ((lk 4 : Nat) : Int), .int .u16 ((lk 5 : Nat) : Int), .int .u16 ((lk 6 : Nat) : Int), .int .u16 ((lk 7 : Nat) : Int), .int .u16 ((lk 8 : Nat) : Int), .int .u16 ((lk 9 : Nat) : Int), .int .u16 ((lk 10 : Nat) : Int), .int .u16 ((lk 11 : Nat) : Int), .int .u16 ((lk 12 : Nat) : Int), .int .u16 ((lk 13 : Nat) : Int), .int .u16 ((lk 14 : Nat) : Int), .int .u16 ((lk 15 : Nat) : Int)]) (.inr (Ne.symm (box_apart q3 o2 (by decide))))
  have r3 := r2.box (grown_rowS wB (w3.heap.size + 1) #[.slice a2 L.length c2, .int .u16 ((lk 0 : Nat) : Int), .int .u16 ((lk 1 : Nat) : Int), .int .u16 ((lk 2 : Nat) : Int), .int .u16 ((lk 3 : Nat) : Int), .int .u16 ((lk 4 : Nat) : Int), .int .u16 ((lk 5 : Nat) : Int), .int .u16 ((lk 6 : Nat) : Int), .int .u16 ((lk 7 : Nat) : Int), .int .u16 ((lk 8 : Nat) : Int), .int .u16 ((lk 9 : Nat) : Int), .int .u16 ((lk 10 : Nat) : Int), .int .u16 ((lk 11 : Nat) : Int), .int .u16 ((lk 12 : Nat) : Int), .int .u16 ((lk 13 : Nat) : Int), .int .u16 ((lk 14 : Nat) : Int), .int .u16 ((lk 15 : Nat) : Int)]) q3 (by decide) (by decide)
  obtain ⟨wC, hwC⟩ : ∃ xW, wB.setRow (w3.heap.size + 1) #[.slice a2 L.length c2, .int .u16 ((lk 0 : Nat) : Int), .int .u16 ((lk 1 : Nat) : Int), .int .u16 ((lk 2 : Nat) : Int), .int .u16 ((lk 3 : Nat) : Int), .int .u16 ((lk 4 : Nat) : Int), .int .u16 ((lk 5 : Nat) : Int), .int .u16 ((lk 6 : Nat) : Int), .int .u16 ((lk 7 : Nat) : Int), .int .u16 ((lk 8 : Nat) : Int), .int .u16 ((lk 9 : Nat) : Int), .int .u16 ((lk 10 : Nat) : Int), .int .u16 ((lk 11 : Nat) : Int), .int .u16 ((lk 12 : Nat) : Int), .int .u16 ((lk 13 : Nat) : Int), .int .u16 ((lk 14 : Nat) : Int), .int .u16 ((lk 15 : Nat) : Int)] = xW := ⟨_, rfl⟩
  rw [hwC] at q1 o3 r3
  clear o1 r1 o2 r2 HO3 HR3 HQ3
  go_upto_region 4 with (first | ((with_reducible show wpList _ _ _ (_ :: _) _ _); (try rw [hwA]); refine wpList_store_row rfl 65 _ _ rfl _ _ rfl rfl _ _ q2 (by exact size_mp) (by rfl) (by simp [Value.oneCell']) ?_; rw [hwB]) | ((with_reducible show wpList _ _ _ (_ :: _) _ _); refine wpList_store_row rfl 69 _ _ rfl _ _ rfl rfl _ _ q3 (by exact size_rm) (by rfl) (by simp [Value.oneCell']) ?_; rw [hwC]))
  obtain ⟨ga, hga⟩ : ∃ g, g = w3.heap.size := ⟨_, rfl⟩
  obtain ⟨gb, hgb⟩ : ∃ g, g = w3.heap.size + 1 := ⟨_, rfl⟩
  rw [← hgb, ← hga] at q1
  rw [← hgb, ← hga]
  have HQC := Lib.hid (show Bq w wC [(g0, #[.int .u16 ((lk 0 : Nat) : Int), .int .u16 ((lk 1 : Nat) : Int), .int .u16 ((lk 2 : Nat) : Int), .int .u16 ((lk 3 : Nat) : Int), .int .u16 ((lk 4 : Nat) : Int), .int .u16 ((lk 5 : Nat) : Int), .int .u16 ((lk 6 : Nat) : Int), .int .u16 ((lk 7 : Nat) : Int), .int .u16 ((lk 8 : Nat) : Int), .int .u16 ((lk 9 : Nat) : Int), .int .u16 ((lk 10 : Nat) : Int), .int .u16 ((lk 11 : Nat) : Int), .int .u16 ((lk 12 : Nat) : Int), .int .u16 ((lk 13 : Nat) : Int), .int .u16 ((lk 14 : Nat) : Int), .int .u16 ((lk 15 : Nat) : Int)], 62), (ga, #[.slice a1 L.length c1, .int .u16 ((lk 0 : Nat) : Int), .int .u16 ((lk 1 : Nat) : Int), .int .u16 ((lk 2 : Nat) : Int), .int .u16 ((lk 3 : Nat) : Int), .int .u16 ((lk 4 : Nat) : Int), .int .u16 ((lk 5 : Nat) : Int), .int .u16 ((lk 6 : Nat) : Int), .int .u16 ((lk 7 : Nat) : Int), .int .u16 ((lk 8 : Nat) : Int), .int .u16 ((lk 9 : Nat) : Int), .int .u16 ((lk 10 : Nat) : Int), .int .u16 ((lk 11 : Nat) : Int), .int .u16 ((lk 12 : Nat) : Int), .int .u16 ((lk 13 : Nat) : Int), .int .u16 ((lk 14 : Nat) : Int), .int .u16 ((lk 15 : Nat) : Int)], 65), (gb, #[.slice a2 L.length c2, .int .u16 ((lk 0 : Nat) : Int), .int .u16 ((lk 1 : Nat) : Int), .int .u16 ((lk 2 : Nat) : Int), .int .u16 ((lk 3 : Nat) : Int), .int .u16 ((lk 4 : Nat) : Int), .int .u16 ((lk 5 : Nat) : Int), .int .u16 ((lk 6 : Nat) : Int), .int .u16 ((lk 7 : Nat) : Int), .int .u16 ((lk 8 : Nat) : Int), .int .u16 ((lk 9 : Nat) : Int), .int .u16 ((lk 10 : Nat) : Int), .int .u16 ((lk 11 : Nat) : Int), .int .u16 ((lk 12 : Nat) : Int), .int .u16 ((lk 13 : Nat) : Int), .int .u16 ((lk 14 : Nat) : Int), .int .u16 ((lk 15 : Nat) : Int)], 69)] from q1)
  have HOC := Lib.hid o3
  have HRC := Lib.hid r3
  clear hga hgb q1 q2 q3 o3 r3 hwA hwB hwC hzm hzr
  rw [← HL.out] at hLR
  have HLR := Lib.hid hLR
  clear hLR
  have b2 := HQC.out.of 2 rfl
  (try simp only [Act.put])
  go_wp2_with ((with_reducible show wpList _ _ _ (_ :: _) _ _); refine wpList_load_row rfl 69 _ rfl _ rfl _ _ _ _ b2 Try.underlying69 rfl (by exact size_rm) ?_; (try go_simp))
  go_at_call 31
  refine (All_is w2.heap.size a2 c2 bad L lk wC HRC.out HLK.out hbad hL6 hLv).mono ?_
  rintro e w4 ⟨vA, rfl, hoA, hb⟩
  have hn1 := findR_n L lk noneC bad
  have hs1 := search_is L lk bad
  have hmem := fun x => @DD_mem L lk bad x
  have hgood := fun x => @chain_good L lk bad x hbad
  have hadm := fun c => admits_is L lk c bad hL6
  obtain ⟨D, hD⟩ : ∃ D, DD L lk bad = D := ⟨_, rfl⟩
  rw [hD] at hoA hn1 hs1 hmem hgood hadm
  obtain ⟨aA, cA, rfl⟩ := own_formC hoA
  obtain ⟨nX, hnX⟩ : ∃ n, (findR L lk noneC bad).n = n := ⟨_, rfl⟩
  have hnD : D.length = nX := by rw [← hn1, hnX]
  rw [hnD] at hoA ⊢
  obtain ⟨c, hc⟩ : ∃ c, headC D = c := ⟨_, rfl⟩
  rw [hc] at hs1
  obtain ⟨bX, hbX⟩ : ∃ b, decide (0 < nX) = b := ⟨_, rfl⟩
  have T1 := Lib.hid (show (.tuple #[.agg #[.int .i8 ((nearC (findR L lk noneC bad)) 0), .int .i8 ((nearC (findR L lk noneC bad)) 1), .int .i8 ((nearC (findR L lk noneC bad)) 2), .int .i8 ((nearC (findR L lk noneC bad)) 3), .int .i8 ((nearC (findR L lk noneC bad)) 4), .int .i8 ((nearC (findR L lk noneC bad)) 5)], .bool (decide (0 < (findR L lk noneC bad).n))] : Value) = .tuple #[.agg #[.int .i8 (c 0), .int .i8 (c 1), .int .i8 (c 2), .int .i8 (c 3), .int .i8 (c 4), .int .i8 (c 5)], .bool bX] by rw [hs1, hnX, hbX])
  have N1 := Lib.hid hnX
  have ND := Lib.hid hnD
  have HC := Lib.hid hc
  have BX := Lib.hid hbX
  have HMEM := Lib.hid hmem
  have HGOOD := Lib.hid hgood
  have HADM := Lib.hid hadm
  have HOA := Lib.hid hoA
  have HQ4 := Lib.hid (HQC.out.step hb)
  have HO4 := Lib.hid (own_keepZ HOC.out hb)
  have hn16 : nX ≤ 16777216 := by rw [← hnX]; exact findR_le L lk noneC bad hL6
  clear hb HQC HOC HRC b2 hoA hn1 hs1 hmem hgood hadm hD hnX hnD hc hbX
  have b1 := HQ4.out.of 1 rfl
  go_wp2_with ((with_reducible show wpList _ _ _ (_ :: _) _ _); refine wpList_load_row rfl 65 _ rfl _ rfl _ _ _ _ b1 Try.underlying65 rfl (by exact size_mp) ?_; (try go_simp))
  go_at_call 32
  refine (Search_any (map_own HO4.out hLv HLK.out hL6) bad hbad).mono ?_
  rintro e w5 ⟨rfl, hb⟩
  rw [T1.out]
  have HQ5 := Lib.hid (HQ4.out.step hb)
  have HO5 := Lib.hid (own_keepZ HO4.out hb)
  have HOA5 := Lib.hid (own_keepZ HOA.out hb)
  have hqn := HQ5.out.new #[.int .i8 (c 0), .int .i8 (c 1), .int .i8 (c 2), .int .i8 (c 3), .int .i8 (c 4), .int .i8 (c 5)] 76
  have hal := (Below.refl w5.heap.size w5).alloc (Nat.le_refl _) (.cells #[.int .i8 (c 0), .int .i8 (c 1), .int .i8 (c 2), .int .i8 (c 3), .int .i8 (c 4), .int .i8 (c 5)] 76)
  have hon := own_keepZ HO5.out hal
  have hoa := own_keepZ HOA5.out hal
  clear hb HQ4 HO4 HOA b1 hal
  go_upto_region 6 with ((with_reducible show wpList _ _ _ (_ :: _) _ _); refine wpList_store_row rfl 76 _ _ rfl _ _ rfl rfl _ _ (heap_alloc_new _ _) (by exact size_ch) (by rfl) (by simp [Value.oneCell']) ?_; rw [World.setRow_alloc_new])
  obtain ⟨w6, hw6⟩ : ∃ w6, w6 = w5.alloc (.cells #[.int .i8 (c 0), .int .i8 (c 1), .int .i8 (c 2), .int .i8 (c 3), .int .i8 (c 4), .int .i8 (c 5)] 76) := ⟨_, rfl⟩
  obtain ⟨gc, hgc⟩ : ∃ g, g = w5.heap.size := ⟨_, rfl⟩
  rw [← hw6] at hqn hon hoa ⊢
  rw [← hgc] at hqn ⊢
  have HQ6 := Lib.hid hqn
  have HO6 := Lib.hid hon
  have HOA6 := Lib.hid hoa
  clear hw6 hgc hqn hon hoa HQ5 HO5 HOA5
  have b1 := HQ6.out.of 1 rfl
  (try simp only [Act.put])
  go_wp2_with ((with_reducible show wpList _ _ _ (_ :: _) _ _); refine wpList_load_row rfl 65 _ rfl _ rfl _ _ _ _ b1 Try.underlying65 rfl (by exact size_mp) ?_; (try go_simp))
  go_at_call 33
  have hM := map_own (lk := lk) HO6.out hLv HLK.out hL6
  refine (Right_any a1 L.length c1 w6.heap.size L lk w6 rfl hLv (Nat.le_refl _) hM.hr).mono ?_
  rintro e w7 ⟨rfl, hb⟩
  rw [HLR.out, decide_eq_true hL6]
  have HQ7 := Lib.hid (HQ6.out.step hb)
  have HO7 := Lib.hid (own_keepZ HO6.out hb)
  have HOA7 := Lib.hid (own_keepZ HOA6.out hb)
  clear hb b1 hM HQ6 HO6 HOA6
  have b1 := HQ7.out.of 1 rfl
  by_cases h0 : 0 < nX
  · have hbx : bX = true := by rw [← BX.out]; exact decide_eq_true h0
    subst hbx
    have hgt : decide ((0 : Int) < ((nX : Nat) : Int)) = true := decide_eq_true (by omega)
    have hgt2 : (0 : Int) < ((nX : Nat) : Int) := by omega
    skip
    go_wp2_with (refine wpLoadGT (by (first | exact Go.Mix.wanted_none rfl | exact Go.Mix.wanted_tt rfl rfl rfl | exact Go.Mix.wanted_ff rfl rfl rfl)) 65 _ rfl _ rfl _ _ _ _ b1 Try.underlying65 rfl (by exact size_mp) ?_; (try go_simp))
    go_at_call 34
    refine (Count_any' (map_own HO7.out hLv HLK.out hL6) bad hbad).mono ?_
    rintro e w8 ⟨rfl, hb⟩
    rw [N1.out]
    have HQ8 := Lib.hid (HQ7.out.step hb)
    have HO8 := Lib.hid (own_keepZ HO7.out hb)
    have HOA8 := Lib.hid (own_keepZ HOA7.out hb)
    clear hb b1 HQ7 HO7 HOA7
    go_upto_region 8 with fail
    go_wp2_with fail
    clear hgt hgt2
    obtain ⟨hh1, hh2⟩ := head_is (D := D) (by rw [ND.out]; exact h0)
    rw [HC.out] at hh1
    obtain ⟨g, rfl, hgb, hgw, hrg⟩ := own_rangeC HOA8.out ND.out h0
    have hmx := HMEM.out _ hh2
    have hgx := HGOOD.out _ hh2
    have hax := (HADM.out c).2 ⟨_, hh2, fun j _ => by rw [hh1]⟩
    rw [← hh1] at hrg hgx
    have hcok : ChOk c := by rw [hh1]; exact chain_ok hmx.2
    have HAX := Lib.hid hax
    have HGX := Lib.hid hgx
    have hlu := unitsS_lt c 6
    obtain ⟨u, hu⟩ : ∃ u, unitsS c 6 = u := ⟨_, rfl⟩
    rw [hu] at HGX hlu
    have HU := Lib.hid hu
    have he := eqlCh hcok hcok
    simp only [sameC_refl] at he
    have HCO := Lib.hid hcok
    clear hmx hgx hax hh1 hh2 hu hgb hcok
    go_upto_region 10 with fail
    have z1 := box_lt (HQ8.out.of 1 rfl)
    have zc := box_lt (HQ8.out.of 3 rfl)
    have hr0 : ∀ w', Below w8.heap.size w8 w' → w'.rangeAt g 0 (chl c) := fun w' hb j v hv => (hb.cell (p := ⟨g, 0 + j, none⟩) hgw).trans (by have := hrg j v hv; simpa using this)
    clear hrg
    obtain ⟨I, W, hne, hWI, hIW⟩ := Go.Mix.family (fun v => Below w8.heap.size w8 v) (Below.refl _ _)
    have HJ := Lib.hid hIW
    have HW := Lib.hid hWI
    clear hWI hIW
    refine Go.Flo3.wp_region (fun w' => ∃ i, w' = W i) 19 [Go.Flo.Spec.is (.bool true), Go.Flo.Spec.is (.int .u16 ((u : Nat) : Int)), Go.Flo.Spec.is (.int .u16 ((0 : Nat) : Int))] (by kernel_rfl) (by kernel_rfl) (by decide) (by rintro _ w' ⟨i, rfl⟩ hb; exact HJ.out _ ((HW.out i).trans (hb.mono (HW.out i).size))) (HJ.out _ (Below.refl _ _).drew) ?_
    simp only [Go.Flo.pair, Go.Mix.calm, List.take, List.drop, if_true, Bool.false_eq_true, if_false, Nat.reduceAdd, Nat.reduceSub]
    (refine Go.Flo.fw_calm rfl ?_ (fun K hK => ?_); (first | exact Go.Mix.wanted_none rfl | exact Go.Mix.wanted_tt rfl rfl rfl | exact Go.Mix.wanted_ff rfl rfl rfl); refine Go.Flo.quiet_load_row 76 _ rfl gc rfl _ #[.int .i8 (c 0), .int .i8 (c 1), .int .i8 (c 2), .int .i8 (c 3), .int .i8 (c 4), .int .i8 (c 5)] _ (by rintro _ ⟨i, rfl⟩; exact ((HW.out i).block gc zc).trans (HQ8.out.of 3 rfl)) Try.underlying76 rfl size_ch ?_; go_simp; refine hK _ ?_; clear hK K)
    (repeat (first | (refine Go.Flo.fw_calm rfl ?_ (fun K hK => ?_); (first | exact Go.Mix.wanted_none rfl | exact Go.Mix.wanted_tt rfl rfl rfl | exact Go.Mix.wanted_ff rfl rfl rfl); go_big_quiet_op; refine hK _ ?_; clear hK K) | (refine Go.Flo.fw_skip ?_ (fun K hK => ?_); (first | exact Go.Mix.wanted_tf rfl rfl rfl | exact Go.Mix.wanted_ft rfl rfl rfl); go_simp; refine hK _ ?_; clear hK K) | (refine Go.Flo.fw_any rfl ?_ (fun K hK => ?_); (first | exact Go.Mix.wanted_none rfl | exact Go.Mix.wanted_tt rfl rfl rfl | exact Go.Mix.wanted_ff rfl rfl rfl); go_simp; (try (go_ints; try go_simp)); refine hK _ ?_; clear hK K)))
    (refine Go.Flo.fw_calm rfl ?_ (fun K hK => ?_); (first | exact Go.Mix.wanted_none rfl | exact Go.Mix.wanted_tt rfl rfl rfl | exact Go.Mix.wanted_ff rfl rfl rfl); refine Go.Flo.quiet_load_midS 75 _ rfl g 0 rfl (chl c) (by rintro _ ⟨i, rfl⟩; exact hr0 _ (HW.out i)) Try.underlying75 rfl size_six ?_; rw [show (chl c).toArray = #[.int .i8 (c 0), .int .i8 (c 1), .int .i8 (c 2), .int .i8 (c 3), .int .i8 (c 4), .int .i8 (c 5)] from rfl]; go_simp; refine hK _ ?_; clear hK K)
    (repeat (first | (refine Go.Flo.fw_calm rfl ?_ (fun K hK => ?_); (first | exact Go.Mix.wanted_none rfl | exact Go.Mix.wanted_tt rfl rfl rfl | exact Go.Mix.wanted_ff rfl rfl rfl); go_big_quiet_op; refine hK _ ?_; clear hK K) | (refine Go.Flo.fw_skip ?_ (fun K hK => ?_); (first | exact Go.Mix.wanted_tf rfl rfl rfl | exact Go.Mix.wanted_ft rfl rfl rfl); go_simp; refine hK _ ?_; clear hK K) | (refine Go.Flo.fw_any rfl ?_ (fun K hK => ?_); (first | exact Go.Mix.wanted_none rfl | exact Go.Mix.wanted_tt rfl rfl rfl | exact Go.Mix.wanted_ff rfl rfl rfl); go_simp; (try (go_ints; try go_simp)); refine hK _ ?_; clear hK K)))
    (refine Go.Flo.fw_calm rfl ?_ (fun K hK => ?_); (first | exact Go.Mix.wanted_none rfl | exact Go.Mix.wanted_tt rfl rfl rfl | exact Go.Mix.wanted_ff rfl rfl rfl); refine Go.Flo.quiet_load_row 65 _ rfl ga rfl _ #[.slice a1 L.length c1, .int .u16 ((lk 0 : Nat) : Int), .int .u16 ((lk 1 : Nat) : Int), .int .u16 ((lk 2 : Nat) : Int), .int .u16 ((lk 3 : Nat) : Int), .int .u16 ((lk 4 : Nat) : Int), .int .u16 ((lk 5 : Nat) : Int), .int .u16 ((lk 6 : Nat) : Int), .int .u16 ((lk 7 : Nat) : Int), .int .u16 ((lk 8 : Nat) : Int), .int .u16 ((lk 9 : Nat) : Int), .int .u16 ((lk 10 : Nat) : Int), .int .u16 ((lk 11 : Nat) : Int), .int .u16 ((lk 12 : Nat) : Int), .int .u16 ((lk 13 : Nat) : Int), .int .u16 ((lk 14 : Nat) : Int), .int .u16 ((lk 15 : Nat) : Int)] _ (by rintro _ ⟨i, rfl⟩; exact ((HW.out i).block ga z1).trans (HQ8.out.of 1 rfl)) Try.underlying65 rfl size_mp ?_; go_simp; refine hK _ ?_; clear hK K)
    (refine Go.Flo.fw_calm rfl ?_ (fun K hK => ?_); (first | exact Go.Mix.wanted_none rfl | exact Go.Mix.wanted_tt rfl rfl rfl | exact Go.Mix.wanted_ff rfl rfl rfl); refine Go.Flo.quiet_load_row 76 _ rfl gc rfl _ #[.int .i8 (c 0), .int .i8 (c 1), .int .i8 (c 2), .int .i8 (c 3), .int .i8 (c 4), .int .i8 (c 5)] _ (by rintro _ ⟨i, rfl⟩; exact ((HW.out i).block gc zc).trans (HQ8.out.of 3 rfl)) Try.underlying76 rfl size_ch ?_; go_simp; refine hK _ ?_; clear hK K)
    (repeat (first | (refine Go.Flo.fw_calm rfl ?_ (fun K hK => ?_); (first | exact Go.Mix.wanted_none rfl | exact Go.Mix.wanted_tt rfl rfl rfl | exact Go.Mix.wanted_ff rfl rfl rfl); go_big_quiet_op; refine hK _ ?_; clear hK K) | (refine Go.Flo.fw_skip ?_ (fun K hK => ?_); (first | exact Go.Mix.wanted_tf rfl rfl rfl | exact Go.Mix.wanted_ft rfl rfl rfl); go_simp; refine hK _ ?_; clear hK K) | (refine Go.Flo.fw_any rfl ?_ (fun K hK => ?_); (first | exact Go.Mix.wanted_none rfl | exact Go.Mix.wanted_tt rfl rfl rfl | exact Go.Mix.wanted_ff rfl rfl rfl); go_simp; (try (go_ints; try go_simp)); refine hK _ ?_; clear hK K)))
    refine Go.Flo.fw_loud rfl ?_ rfl (by simp) (fun wv hwv hav K hK => ?_) (fun v hv K hK => ?_)
    · (first | exact Go.Mix.wanted_none rfl | exact Go.Mix.wanted_tt rfl rfl rfl | exact Go.Mix.wanted_ff rfl rfl rfl)
    · obtain ⟨iv, rfl⟩ := hwv
      have hbv := HW.out iv
      (first | go_big_op | go_simp)
      go_at_call 36
      refine (Admits_any (map_own (own_keepZ HO8.out hbv) hLv HLK.out hL6) c bad hbad HCO.out).mono ?_
      rintro e w' ⟨rfl, hb⟩
      rw [HAX.out]
      exact hK _ _ (Go.Flo.owes_is _ rfl hb)
    obtain rfl := hv.is
    go_simp
    refine hK _ ?_
    clear hK K hv
    (repeat (first | (refine Go.Flo.fw_calm rfl ?_ (fun K hK => ?_); (first | exact Go.Mix.wanted_none rfl | exact Go.Mix.wanted_tt rfl rfl rfl | exact Go.Mix.wanted_ff rfl rfl rfl); go_big_quiet_op; refine hK _ ?_; clear hK K) | (refine Go.Flo.fw_skip ?_ (fun K hK => ?_); (first | exact Go.Mix.wanted_tf rfl rfl rfl | exact Go.Mix.wanted_ft rfl rfl rfl); go_simp; refine hK _ ?_; clear hK K) | (refine Go.Flo.fw_any rfl ?_ (fun K hK => ?_); (first | exact Go.Mix.wanted_none rfl | exact Go.Mix.wanted_tt rfl rfl rfl | exact Go.Mix.wanted_ff rfl rfl rfl); go_simp; (try (go_ints; try go_simp)); refine hK _ ?_; clear hK K)))
    (refine Go.Flo.fw_calm rfl ?_ (fun K hK => ?_); (first | exact Go.Mix.wanted_none rfl | exact Go.Mix.wanted_tt rfl rfl rfl | exact Go.Mix.wanted_ff rfl rfl rfl); refine Go.Flo.quiet_load_row 76 _ rfl gc rfl _ #[.int .i8 (c 0), .int .i8 (c 1), .int .i8 (c 2), .int .i8 (c 3), .int .i8 (c 4), .int .i8 (c 5)] _ (by rintro _ ⟨i, rfl⟩; exact ((HW.out i).block gc zc).trans (HQ8.out.of 3 rfl)) Try.underlying76 rfl size_ch ?_; go_simp; refine hK _ ?_; clear hK K)
    refine Go.Flo.fw_loud rfl ?_ rfl (by simp) (fun wv hwv hav K hK => ?_) (fun v hv K hK => ?_)
    · (first | exact Go.Mix.wanted_none rfl | exact Go.Mix.wanted_tt rfl rfl rfl | exact Go.Mix.wanted_ff rfl rfl rfl)
    · obtain ⟨iv, rfl⟩ := hwv
      have hbv := HW.out iv
      (first | go_big_op | go_simp)
      go_at_call 37
      refine (Units_any c _ HCO.out).mono ?_
      rintro e w' ⟨rfl, hb⟩
      rw [HU.out]
      exact hK _ _ (Go.Flo.owes_is _ rfl hb)
    obtain rfl := hv.is
    go_simp
    refine hK _ ?_
    clear hK K hv
    (repeat (first | (refine Go.Flo.fw_calm rfl ?_ (fun K hK => ?_); (first | exact Go.Mix.wanted_none rfl | exact Go.Mix.wanted_tt rfl rfl rfl | exact Go.Mix.wanted_ff rfl rfl rfl); go_big_quiet_op; refine hK _ ?_; clear hK K) | (refine Go.Flo.fw_skip ?_ (fun K hK => ?_); (first | exact Go.Mix.wanted_tf rfl rfl rfl | exact Go.Mix.wanted_ft rfl rfl rfl); go_simp; refine hK _ ?_; clear hK K) | (refine Go.Flo.fw_any rfl ?_ (fun K hK => ?_); (first | exact Go.Mix.wanted_none rfl | exact Go.Mix.wanted_tt rfl rfl rfl | exact Go.Mix.wanted_ff rfl rfl rfl); go_simp; (try (go_ints; try go_simp)); refine hK _ ?_; clear hK K)))
    refine Go.Flo.fw_loud rfl ?_ rfl (by simp) (fun wv hwv hav K hK => ?_) (fun v hv K hK => ?_)
    · (first | exact Go.Mix.wanted_none rfl | exact Go.Mix.wanted_tt rfl rfl rfl | exact Go.Mix.wanted_ff rfl rfl rfl)
    · obtain ⟨iv, rfl⟩ := hwv
      have hbv := HW.out iv
      (first | go_big_op | go_simp)
      go_at_call 38
      refine (And_any u bad _ hlu hbad).mono ?_
      rintro e w' ⟨rfl, hw⟩
      rw [HGX.out]
      exact hK _ _ (Go.Flo.owes_is _ rfl (by rw [hw]; exact Below.refl _ _))
    obtain rfl := hv.is
    go_simp
    refine hK _ ?_
    clear hK K hv
    (repeat (first | (refine Go.Flo.fw_calm rfl ?_ (fun K hK => ?_); (first | exact Go.Mix.wanted_none rfl | exact Go.Mix.wanted_tt rfl rfl rfl | exact Go.Mix.wanted_ff rfl rfl rfl); go_big_quiet_op; refine hK _ ?_; clear hK K) | (refine Go.Flo.fw_skip ?_ (fun K hK => ?_); (first | exact Go.Mix.wanted_tf rfl rfl rfl | exact Go.Mix.wanted_ft rfl rfl rfl); go_simp; refine hK _ ?_; clear hK K) | (refine Go.Flo.fw_any rfl ?_ (fun K hK => ?_); (first | exact Go.Mix.wanted_none rfl | exact Go.Mix.wanted_tt rfl rfl rfl | exact Go.Mix.wanted_ff rfl rfl rfl); go_simp; (try (go_ints; try go_simp)); refine hK _ ?_; clear hK K)))
    refine Go.Flo.fw_nil ?_
    intro w9 hww9 hfw9 huw9
    obtain ⟨iend, hiend⟩ := hww9
    have hbw9 := HW.out iend
    rw [← hiend] at hbw9
    clear hiend iend huw9
    have HQ9 := Lib.hid (HQ8.out.step hbw9)
    clear hfw9 HJ HW hne hbw9 z1 zc hr0
    clear W I
    refine ⟨fun _ => True, trivial, ?_⟩

    refine Go.Mix.walk_nil ?_
    (try simp only [Act.put])
    go_wp2_with fail
    go_ret
    exact ⟨rfl, HQ9.out.be⟩
  · have hn0 : nX = 0 := by omega
    have hbx : bX = false := by rw [← BX.out]; exact decide_eq_false h0
    subst hbx
    have hcn : c = noneC := by
      rw [← HC.out]
      have : D = [] := List.length_eq_zero_iff.1 (by rw [ND.out, hn0])
      rw [this]; rfl
    subst hcn
    have hgt : decide ((0 : Int) < ((nX : Nat) : Int)) = false := decide_eq_false (by omega)
    have hgt2 : ¬ (0 : Int) < ((nX : Nat) : Int) := by omega
    clear hn0 h0
    skip
    go_wp2_with (refine wpLoadGT (by (first | exact Go.Mix.wanted_none rfl | exact Go.Mix.wanted_tt rfl rfl rfl | exact Go.Mix.wanted_ff rfl rfl rfl)) 65 _ rfl _ rfl _ _ _ _ b1 Try.underlying65 rfl (by exact size_mp) ?_; (try go_simp))
    go_at_call 34
    refine (Count_any' (map_own HO7.out hLv HLK.out hL6) bad hbad).mono ?_
    rintro e w8 ⟨rfl, hb⟩
    rw [N1.out]
    have HQ8 := Lib.hid (HQ7.out.step hb)
    have HO8 := Lib.hid (own_keepZ HO7.out hb)
    have HOA8 := Lib.hid (own_keepZ HOA7.out hb)
    clear hb b1 HQ7 HO7 HOA7
    go_upto_region 8 with fail
    go_wp2_with fail
    clear hgt hgt2
    have hno : ChOk noneC := fun _ _ => ⟨by unfold noneC; omega, by unfold noneC; omega⟩
    have he := eqlCh hno hno
    simp only [sameC_refl] at he
    go_upto_region 9 with fail
    have zc := box_lt (HQ8.out.of 3 rfl)
    obtain ⟨I, W, hne, hWI, hIW⟩ := Go.Mix.family (fun v => Below w8.heap.size w8 v) (Below.refl _ _)
    have HJ := Lib.hid hIW
    have HW := Lib.hid hWI
    clear hWI hIW
    refine Go.Flo3.wp_region (fun w' => ∃ i, w' = W i) 4 [Go.Flo.Spec.is (.agg #[.int .i8 (noneC 0), .int .i8 (noneC 1), .int .i8 (noneC 2), .int .i8 (noneC 3), .int .i8 (noneC 4), .int .i8 (noneC 5)])] (by kernel_rfl) (by kernel_rfl) (by decide) (by rintro _ w' ⟨i, rfl⟩ hb; exact HJ.out _ ((HW.out i).trans (hb.mono (HW.out i).size))) (HJ.out _ (Below.refl _ _).drew) ?_
    simp only [Go.Flo.pair, Go.Mix.calm, List.take, List.drop, if_true, Bool.false_eq_true, if_false, Nat.reduceAdd, Nat.reduceSub]
    (refine Go.Flo.fw_calm rfl ?_ (fun K hK => ?_); (first | exact Go.Mix.wanted_none rfl | exact Go.Mix.wanted_tt rfl rfl rfl | exact Go.Mix.wanted_ff rfl rfl rfl); refine Go.Flo.quiet_load_row 76 _ rfl gc rfl _ #[.int .i8 (noneC 0), .int .i8 (noneC 1), .int .i8 (noneC 2), .int .i8 (noneC 3), .int .i8 (noneC 4), .int .i8 (noneC 5)] _ (by rintro _ ⟨i, rfl⟩; exact ((HW.out i).block gc zc).trans (HQ8.out.of 3 rfl)) Try.underlying76 rfl size_ch ?_; go_simp; refine hK _ ?_; clear hK K)
    refine Go.Flo.fw_loud rfl ?_ rfl (by simp) (fun wv hwv hav K hK => ?_) (fun v hv K hK => ?_)
    · (first | exact Go.Mix.wanted_none rfl | exact Go.Mix.wanted_tt rfl rfl rfl | exact Go.Mix.wanted_ff rfl rfl rfl)
    · obtain ⟨iv, rfl⟩ := hwv
      have hbv := HW.out iv
      (first | go_big_op | go_simp)
      go_at_call 35
      refine (None_any _).mono ?_
      rintro e w' ⟨rfl, hb⟩
      exact hK _ _ (Go.Flo.owes_is _ rfl hb)
    obtain rfl := hv.is
    go_simp
    refine hK _ ?_
    clear hK K hv
    (repeat (first | (refine Go.Flo.fw_calm rfl ?_ (fun K hK => ?_); (first | exact Go.Mix.wanted_none rfl | exact Go.Mix.wanted_tt rfl rfl rfl | exact Go.Mix.wanted_ff rfl rfl rfl); go_big_quiet_op; refine hK _ ?_; clear hK K) | (refine Go.Flo.fw_skip ?_ (fun K hK => ?_); (first | exact Go.Mix.wanted_tf rfl rfl rfl | exact Go.Mix.wanted_ft rfl rfl rfl); go_simp; refine hK _ ?_; clear hK K) | (refine Go.Flo.fw_any rfl ?_ (fun K hK => ?_); (first | exact Go.Mix.wanted_none rfl | exact Go.Mix.wanted_tt rfl rfl rfl | exact Go.Mix.wanted_ff rfl rfl rfl); go_simp; (try (go_ints; try go_simp)); refine hK _ ?_; clear hK K)))
    refine Go.Flo.fw_nil ?_
    intro w9 hww9 hfw9 huw9
    obtain ⟨iend, hiend⟩ := hww9
    have hbw9 := HW.out iend
    rw [← hiend] at hbw9
    clear hiend iend huw9
    have HQ9 := Lib.hid (HQ8.out.step hbw9)
    clear hfw9 HJ HW hne hbw9 zc
    clear W I
    refine ⟨fun _ => True, trivial, ?_⟩

    refine Go.Mix.walk_nil ?_
    (try simp only [Act.put])
    go_wp2_with fail
    go_ret
    exact ⟨rfl, HQ9.out.be⟩
end Go.Proofs.Ytioclbkgfbjpdaa
