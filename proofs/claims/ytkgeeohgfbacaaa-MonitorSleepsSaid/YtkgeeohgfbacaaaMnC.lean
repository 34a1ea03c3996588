/- Monitors: contracts: asked. -/
import Derived.Test.YtkgeeohgfbacaaaMn
import Derived.Test.YtkgeeohgfbacaaaLaw15r
namespace Go.Proofs.Ytkgeeohgfbacaaa
open Go.RowKit Go.Own
set_option linter.unusedVariables false
set_option linter.unusedSimpArgs false
def Rl.right (r : Rl) : Bool := r.d.right && decide (1 ≤ r.rep) && decide (r.lev ≤ 4) && decide (-1 ≤ r.un) && decide (r.un < 16)
/-- Its fields are of their types. -/
structure Rl.ok (r : Rl) : Prop where
  d : r.d.ok
  rep0 : 0 ≤ r.rep
  rep1 : r.rep ≤ 255
  ev0 : 0 ≤ r.ev
  ev1 : r.ev ≤ 255
  lev0 : 0 ≤ r.lev
  lev1 : r.lev ≤ 255
  un0 : -9223372036854775808 ≤ r.un
  un1 : r.un ≤ 9223372036854775807
/- #1 the function, #2 the definition's, #3 its contract -/
set_option maxRecDepth 100000 in
set_option maxHeartbeats 2000000 in
theorem rRight (r : Rl) (t : Bool) (w : World) (hok : r.ok) (ht : r.right = t) : Calls Try.prog 107 #[.agg r.cs] w fun e w' => e = .returned (.bool t) ∧ Below w.heap.size w w' := by
  skip
  have hb0 : Below w.heap.size w (w.alloc (.cells r.cs 117)) := (Below.refl _ _).alloc (Nat.le_refl _) _
  have g0 := heap_alloc_new w (.cells r.cs 117)
  have HOK := Lib.hid hok
  have HT := Lib.hid ht
  clear hok ht
  have a0 : _ = some (Value.int .u8 r.d.k) := cell_of_row _ _ 0 _ _ _ g0
  have a1 : _ = some (Value.int .i64 r.d.p) := cell_of_row _ _ 1 _ _ _ g0
  have a2 : _ = some (Value.int .i32 r.d.l) := cell_of_row _ _ 2 _ _ _ g0
  have a3 : _ = some (Value.int .i32 r.d.h) := cell_of_row _ _ 3 _ _ _ g0
  have a4 : _ = some (Value.int .u32 ((r.d.m : Nat) : Int)) := cell_of_row _ _ 4 _ _ _ g0
  have a5 : _ = some (Value.int .u32 ((r.d.n : Nat) : Int)) := cell_of_row _ _ 5 _ _ _ g0
  have a6 : _ = some (Value.int .u8 r.rep) := cell_of_row _ _ 6 _ _ _ g0
  have a8 : _ = some (Value.int .u8 r.lev) := cell_of_row _ _ 8 _ _ _ g0
  have a9 : _ = some (Value.int .i64 r.un) := cell_of_row _ _ 9 _ _ _ g0
  go_enter Try.func107, Try.ntmps107
  go_wp2_with fail
  obtain ⟨g, hg⟩ : ∃ g, g = w.heap.size := ⟨_, rfl⟩
  obtain ⟨wa, hwa⟩ : ∃ wa, wa = w.alloc (.cells r.cs 117) := ⟨_, rfl⟩
  rw [← hwa] at hb0 g0 ⊢
  rw [← hg] at g0 ⊢
  clear hwa hg a0 a1 a2 a3 a4 a5 a6 a8 a9
  go_at_call 147
  refine (Right_at r.d.k r.d.p r.d.l r.d.h r.d.m r.d.n r.d.right _ rfl).mono ?_
  rintro e w1 ⟨rfl, hb⟩
  have g1 := box_below g0 hb (box_lt g0)
  have HB1 := Lib.hid (hb0.trans (hb.mono hb0.size))
  clear g0 hb hb0
  have a0 : _ = some (Value.int .u8 r.d.k) := cell_of_row _ _ 0 _ _ _ g1
  have a1 : _ = some (Value.int .i64 r.d.p) := cell_of_row _ _ 1 _ _ _ g1
  have a2 : _ = some (Value.int .i32 r.d.l) := cell_of_row _ _ 2 _ _ _ g1
  have a3 : _ = some (Value.int .i32 r.d.h) := cell_of_row _ _ 3 _ _ _ g1
  have a4 : _ = some (Value.int .u32 ((r.d.m : Nat) : Int)) := cell_of_row _ _ 4 _ _ _ g1
  have a5 : _ = some (Value.int .u32 ((r.d.n : Nat) : Int)) := cell_of_row _ _ 5 _ _ _ g1
  have a6 : _ = some (Value.int .u8 r.rep) := cell_of_row _ _ 6 _ _ _ g1
  have a8 : _ = some (Value.int .u8 r.lev) := cell_of_row _ _ 8 _ _ _ g1
  have a9 : _ = some (Value.int .i64 r.un) := cell_of_row _ _ 9 _ _ _ g1
  by_cases h0 : r.d.right = true
  · rw [h0]
    by_cases h1 : 1 ≤ r.rep
    · by_cases h2 : r.lev ≤ 4
      · by_cases h3 : -1 ≤ r.un
        · obtain rfl : decide (r.un < 16) = t := (show r.right = decide (r.un < 16) by simp [Rl.right, h0, h1, h2, h3]).symm.trans HT.out
          skip
          go_wp2
          go_ret
          exact ⟨rfl, HB1.out⟩
        · obtain rfl : false = t := (show r.right = false by simp [Rl.right, h3]).symm.trans HT.out
          have : r.un < -1 := by omega
          clear h3
          skip
          go_wp2
          go_ret
          exact ⟨rfl, HB1.out⟩
      · obtain rfl : false = t := (show r.right = false by simp [Rl.right, h2]).symm.trans HT.out
        have : 4 < r.lev := by omega
        have : 5 ≤ r.lev := by omega
        clear h2
        skip
        go_wp2
        go_ret
        exact ⟨rfl, HB1.out⟩
    · obtain rfl : false = t := (show r.right = false by simp [Rl.right, h1]).symm.trans HT.out
      have : r.rep < 1 := by omega
      have : r.rep ≤ 0 := by omega
      clear h1
      go_wp2
      go_ret
      exact ⟨rfl, HB1.out⟩
  · obtain rfl : false = t := (show r.right = false by simp [Rl.right, h0]).symm.trans HT.out
    rw [show r.d.right = false by simpa using h0]
    go_wp2
    go_ret
    exact ⟨rfl, HB1.out⟩
set_option maxRecDepth 100000 in
set_option maxHeartbeats 2000000 in
theorem lRight (r : Rl) (t : Bool) (w : World) (hok : r.ok) (ht : r.right = t) : Calls Try.prog 106 #[.agg r.cs] w fun e w' => e = .returned (.bool t) ∧ Below w.heap.size w w' := by
  skip
  have hb0 : Below w.heap.size w (w.alloc (.cells r.cs 117)) := (Below.refl _ _).alloc (Nat.le_refl _) _
  have g0 := heap_alloc_new w (.cells r.cs 117)
  have HOK := Lib.hid hok
  have HT := Lib.hid ht
  clear hok ht
  have a0 : _ = some (Value.int .u8 r.d.k) := cell_of_row _ _ 0 _ _ _ g0
  have a1 : _ = some (Value.int .i64 r.d.p) := cell_of_row _ _ 1 _ _ _ g0
  have a2 : _ = some (Value.int .i32 r.d.l) := cell_of_row _ _ 2 _ _ _ g0
  have a3 : _ = some (Value.int .i32 r.d.h) := cell_of_row _ _ 3 _ _ _ g0
  have a4 : _ = some (Value.int .u32 ((r.d.m : Nat) : Int)) := cell_of_row _ _ 4 _ _ _ g0
  have a5 : _ = some (Value.int .u32 ((r.d.n : Nat) : Int)) := cell_of_row _ _ 5 _ _ _ g0
  have a6 : _ = some (Value.int .u8 r.rep) := cell_of_row _ _ 6 _ _ _ g0
  have a8 : _ = some (Value.int .u8 r.lev) := cell_of_row _ _ 8 _ _ _ g0
  have a9 : _ = some (Value.int .i64 r.un) := cell_of_row _ _ 9 _ _ _ g0
  go_enter Try.func106, Try.ntmps106
  go_wp2_with fail
  obtain ⟨g, hg⟩ : ∃ g, g = w.heap.size := ⟨_, rfl⟩
  obtain ⟨wa, hwa⟩ : ∃ wa, wa = w.alloc (.cells r.cs 117) := ⟨_, rfl⟩
  rw [← hwa] at hb0 g0 ⊢
  rw [← hg] at g0 ⊢
  clear hwa hg a0 a1 a2 a3 a4 a5 a6 a8 a9
  go_at_call 146
  refine (rRightD r.d.k r.d.p r.d.l r.d.h r.d.m r.d.n r.d.right _ rfl).mono ?_
  rintro e w1 ⟨rfl, hb⟩
  have g1 := box_below g0 hb (box_lt g0)
  have HB1 := Lib.hid (hb0.trans (hb.mono hb0.size))
  clear g0 hb hb0
  have a0 : _ = some (Value.int .u8 r.d.k) := cell_of_row _ _ 0 _ _ _ g1
  have a1 : _ = some (Value.int .i64 r.d.p) := cell_of_row _ _ 1 _ _ _ g1
  have a2 : _ = some (Value.int .i32 r.d.l) := cell_of_row _ _ 2 _ _ _ g1
  have a3 : _ = some (Value.int .i32 r.d.h) := cell_of_row _ _ 3 _ _ _ g1
  have a4 : _ = some (Value.int .u32 ((r.d.m : Nat) : Int)) := cell_of_row _ _ 4 _ _ _ g1
  have a5 : _ = some (Value.int .u32 ((r.d.n : Nat) : Int)) := cell_of_row _ _ 5 _ _ _ g1
  have a6 : _ = some (Value.int .u8 r.rep) := cell_of_row _ _ 6 _ _ _ g1
  have a8 : _ = some (Value.int .u8 r.lev) := cell_of_row _ _ 8 _ _ _ g1
  have a9 : _ = some (Value.int .i64 r.un) := cell_of_row _ _ 9 _ _ _ g1
  by_cases h0 : r.d.right = true
  · rw [h0]
    by_cases h1 : 1 ≤ r.rep
    · by_cases h2 : r.lev ≤ 4
      · by_cases h3 : -1 ≤ r.un
        · obtain rfl : decide (r.un < 16) = t := (show r.right = decide (r.un < 16) by simp [Rl.right, h0, h1, h2, h3]).symm.trans HT.out
          skip
          go_wp2
          go_ret
          exact ⟨rfl, HB1.out⟩
        · obtain rfl : false = t := (show r.right = false by simp [Rl.right, h3]).symm.trans HT.out
          have : r.un < -1 := by omega
          clear h3
          skip
          go_wp2
          go_ret
          exact ⟨rfl, HB1.out⟩
      · obtain rfl : false = t := (show r.right = false by simp [Rl.right, h2]).symm.trans HT.out
        have : 4 < r.lev := by omega
        have : 5 ≤ r.lev := by omega
        clear h2
        skip
        go_wp2
        go_ret
        exact ⟨rfl, HB1.out⟩
    · obtain rfl : false = t := (show r.right = false by simp [Rl.right, h1]).symm.trans HT.out
      have : r.rep < 1 := by omega
      have : r.rep ≤ 0 := by omega
      clear h1
      go_wp2
      go_ret
      exact ⟨rfl, HB1.out⟩
  · obtain rfl : false = t := (show r.right = false by simp [Rl.right, h0]).symm.trans HT.out
    rw [show r.d.right = false by simpa using h0]
    go_wp2
    go_ret
    exact ⟨rfl, HB1.out⟩
def Mn.has (p : Mn) (i : Int) : Bool := decide (0 ≤ i) && decide (i < (p.n : Int))
set_option maxRecDepth 100000 in
set_option maxHeartbeats 1000000 in
theorem mHas (p : Mn) (i : Int) (w : World) : Calls Try.prog 109 #[.agg p.cs, .int .i64 i] w fun e w' => e = .returned (.bool (p.has i)) ∧ Below w.heap.size w w' := by
  have c0 := (MnB.new w p).cellC
  by_cases h0 : 0 ≤ i
  · by_cases h1 : i < (p.n : Int)
    · rw [show p.has i = true by simp [Mn.has, h0, h1]]
      go_enter Try.func109, Try.ntmps109
      go_wp2
      go_ret
      exact ⟨rfl, (Below.refl _ _).alloc (Nat.le_refl _) _⟩
    · rw [show p.has i = false by simp [Mn.has, h0, h1]]
      go_enter Try.func109, Try.ntmps109
      go_wp2
      go_ret
      exact ⟨rfl, (Below.refl _ _).alloc (Nat.le_refl _) _⟩
  · rw [show p.has i = false by simp [Mn.has, h0]]
    go_enter Try.func109, Try.ntmps109
    go_wp2
    go_ret
    exact ⟨rfl, (Below.refl _ _).alloc (Nat.le_refl _) _⟩
def Mn.stat (p : Mn) (i : Int) : Int := if p.has i = true then (p.x i.toNat).st else 0
set_option maxRecDepth 100000 in
set_option maxHeartbeats 1000000 in
theorem mStatus (p : Mn) (i : Int) (s : Int) (w : World) (hn : p.n ≤ 16) (hs : p.stat i = s) : Calls Try.prog 56 #[.agg p.cs, .int .i64 i] w fun e w' => e = .returned (.int .u8 s) ∧ Below w.heap.size w w' := by
  have HP := MnB.new w p
  have hb0 := (Below.refl w.heap.size w).alloc (Nat.le_refl _) (.cells p.cs 124)
  have HS := Lib.hid hs
  clear hs
  go_enter Try.func56, Try.ntmps56
  go_wp2_with (refine wpList_load_row rfl 124 _ rfl _ rfl _ _ _ _ HP Try.underlying124 rfl (by exact size_mn _) ?_; (try go_simp))
  obtain ⟨g, hg⟩ : ∃ g, g = w.heap.size := ⟨_, rfl⟩
  obtain ⟨wa, hwa⟩ : ∃ wa, wa = w.alloc (.cells p.cs 124) := ⟨_, rfl⟩
  rw [← hwa] at HP hb0 ⊢
  rw [← hg] at HP ⊢
  clear hwa hg
  go_at_call 109
  refine (mHas p i _).mono ?_
  rintro e w1 ⟨rfl, hb⟩
  have HP1 := HP.below hb (Nat.le_refl _)
  have HB := Lib.hid (hb0.trans (hb.mono hb0.size))
  clear hb0 hb HP
  cases hh : p.has i
  · have h0 := HS.out
    rw [Mn.stat, hh, if_neg (by decide)] at h0
    subst h0
    clear HS hh
    go_wp2
    go_ret
    exact ⟨rfl, HB.out⟩
  · obtain ⟨h0, h1⟩ : 0 ≤ i ∧ i < (p.n : Int) := by simpa [Mn.has] using hh
    obtain ⟨k, rfl⟩ := Int.eq_ofNat_of_zero_le h0
    have e1 := HS.out
    rw [Mn.stat, hh, if_pos rfl, Int.toNat_natCast] at e1
    have hk : k < 16 := by omega
    have c0 : w1.cell? ⟨g, k * 16 + 15, none⟩ = some (.int .u8 (p.x k).st) := HP1.cell (j := 15) hk rfl
    rw [e1] at c0
    clear hh h0 h1 HS e1
    go_wp2
    go_ret
    exact ⟨rfl, HB.out⟩
/-- The rule at a place; none where there is none. -/
def Mn.rule (p : Mn) (i : Int) : Rl := if p.has i = true then (p.x i.toNat).r else Rl.z
theorem MnB.rangeR {w : World} {g i : Nat} {p : Mn} (h : MnB w g p) (hi : i < 16) : w.rangeAt g (i * 16) (p.x i).r.cs.toList := fun j v hv => by
  refine h.cell hi ?_
  have hj : j < 11 := (List.getElem?_eq_some_iff.1 hv).1
  have : j = 0 ∨ j = 1 ∨ j = 2 ∨ j = 3 ∨ j = 4 ∨ j = 5 ∨ j = 6 ∨ j = 7 ∨ j = 8 ∨ j = 9 ∨ j = 10 := by omega
  rcases this with rfl | rfl | rfl | rfl | rfl | rfl | rfl | rfl | rfl | rfl | rfl <;> exact hv
@[go_sem] theorem zmn : Try.zeroCells124 = (Mn.empty 0).cs := by kernel_rfl
end Go.Proofs.Ytkgeeohgfbacaaa
