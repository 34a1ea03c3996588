/- Monitors: contracts: asked. -/
import Derived.Test.YtbomkneajmgckaaMn
import Derived.Test.YtbomkneajmgckaaLaw15r
namespace Go.Proofs.Ytbomkneajmgckaa
open Go.RowKit Go.Own
set_option linter.unusedVariables false
set_option linter.unusedSimpArgs false
def Rl.right (r : Rl) : Bool := r.d.right && decide (1 ≤ r.rep) && decide (r.lev ≤ 4) && decide (-1 ≤ r.un) && decide (r.un < 16)
/-- Its fields are of their types. -/
structure Rl.ok (r : Rl) : Prop where
  d : r.d.ok
  rep0 : 0 ≤ r.rep
  rep1 : r.rep ≤ 255
  ev0 : 0 ≤ r.ev
  ev1 : r.ev ≤ 255
  lev0 : 0 ≤ r.lev
  lev1 : r.lev ≤ 255
  un0 : -9223372036854775808 ≤ r.un
  un1 : r.un ≤ 9223372036854775807
/- #1 the function, #2 the definition's, #3 its contract -/
set_option maxRecDepth 100000 in
set_option maxHeartbeats 2000000 in
theorem rRight (r : Rl) (t : Bool) (w : World) (hok : r.ok) (ht : r.right = t) : Calls Try.prog 61 #[.agg r.cs] w fun e w' => e = .returned (.bool t) ∧ Below w.heap.size w w' := by
  skip
  have hb0 : Below w.heap.size w (w.alloc (.cells r.cs 114)) := (Below.refl _ _).alloc (Nat.le_refl _) _
  have g0 := heap_alloc_new w (.cells r.cs 114)
  have HOK := Lib.hid hok
  have HT := Lib.hid ht
  clear hok ht
  have a0 : _ = some (Value.int .u8 r.d.k) := cell_of_row _ _ 0 _ _ _ g0
  have a1 : _ = some (Value.int .i64 r.d.p) := cell_of_row _ _ 1 _ _ _ g0
  have a2 : _ = some (Value.int .i32 r.d.l) := cell_of_row _ _ 2 _ _ _ g0
  have a3 : _ = some (Value.int .i32 r.d.h) := cell_of_row _ _ 3 _ _ _ g0
  have a4 : _ = some (Value.int .u32 ((r.d.m : Nat) : Int)) := cell_of_row _ _ 4 _ _ _ g0
  have a5 : _ = some (Value.int .u32 ((r.d.n : Nat) : Int)) := cell_of_row _ _ 5 _ _ _ g0
  have a6 : _ = some (Value.int .u8 r.rep) := cell_of_row _ _ 6 _ _ _ g0
  have a8 : _ = some (Value.int .u8 r.lev) := cell_of_row _ _ 8 _ _ _ g0
  have a9 : _ = some (Value.int .i64 r.un) := cell_of_row _ _ 9 _ _ _ g0
  go_enter Try.func61, Try.ntmps61
  go_wp2_with fail
  obtain ⟨g, hg⟩ : ∃ g, g = w.heap.size := ⟨_, rfl⟩
  obtain ⟨wa, hwa⟩ : ∃ wa, wa = w.alloc (.cells r.cs 114) := ⟨_, rfl⟩
  rw [← hwa] at hb0 g0 ⊢
  rw [← hg] at g0 ⊢
  clear hwa hg a0 a1 a2 a3 a4 a5 a6 a8 a9
  go_at_call 44
  refine (Right_at r.d.k r.d.p r.d.l r.d.h r.d.m r.d.n r.d.right _ rfl).mono ?_
  rintro e w1 ⟨rfl, hb⟩
  have g1 := box_below g0 hb (box_lt g0)
  have HB1 := Lib.hid (hb0.trans (hb.mono hb0.size))
  clear g0 hb hb0
  have a0 : _ = some (Value.int .u8 r.d.k) := cell_of_row _ _ 0 _ _ _ g1
  have a1 : _ = some (Value.int .i64 r.d.p) := cell_of_row _ _ 1 _ _ _ g1
  have a2 : _ = some (Value.int .i32 r.d.l) := cell_of_row _ _ 2 _ _ _ g1
  have a3 : _ = some (Value.int .i32 r.d.h) := cell_of_row _ _ 3 _ _ _ g1
  have a4 : _ = some (Value.int .u32 ((r.d.m : Nat) : Int)) := cell_of_row _ _ 4 _ _ _ g1
  have a5 : _ = some (Value.int .u32 ((r.d.n : Nat) : Int)) := cell_of_row _ _ 5 _ _ _ g1
  have a6 : _ = some (Value.int .u8 r.rep) := cell_of_row _ _ 6 _ _ _ g1
  have a8 : _ = some (Value.int .u8 r.lev) := cell_of_row _ _ 8 _ _ _ g1
  have a9 : _ = some (Value.int .i64 r.un) := cell_of_row _ _ 9 _ _ _ g1
  by_cases h0 : r.d.right = true
  · rw [h0]
    by_cases h1 : 1 ≤ r.rep
    · by_cases h2 : r.lev ≤ 4
      · by_cases h3 : -1 ≤ r.un
        · obtain rfl : decide (r.un < 16) = t := (show r.right = decide (r.un < 16) by simp [Rl.right, h0, h1, h2, h3]).symm.trans HT.out
          skip
          go_wp2
          go_ret
          exact ⟨rfl, HB1.out⟩
        · obtain rfl : false = t := (show r.right = false by simp [Rl.right, h3]).symm.trans HT.out
          have : r.un < -1 := by omega
          clear h3
          skip
          go_wp2
          go_ret
          exact ⟨rfl, HB1.out⟩
      · obtain rfl : false = t := (show r.right = false by simp [Rl.right, h2]).symm.trans HT.out
        have : 4 < r.lev := by omega
        have : 5 ≤ r.lev := by omega
        clear h2
        skip
        go_wp2
        go_ret
        exact ⟨rfl, HB1.out⟩
    · obtain rfl : false = t := (show r.right = false by simp [Rl.right, h1]).symm.trans HT.out
      have : r.rep < 1 := by omega
      have : r.rep ≤ 0 := by omega
      clear h1
      go_wp2
      go_ret
      exact ⟨rfl, HB1.out⟩
  · obtain rfl : false = t := (show r.right = false by simp [Rl.right, h0]).symm.trans HT.out
    rw [show r.d.right = false by simpa using h0]
    go_wp2
    go_ret
    exact ⟨rfl, HB1.out⟩
set_option maxRecDepth 100000 in
set_option maxHeartbeats 2000000 in
theorem lRight (r : Rl) (t : Bool) (w : World) (hok : r.ok) (ht : r.right = t) : Calls Try.prog 60 #[.agg r.cs] w fun e w' => e = .returned (.bool t) ∧ Below w.heap.size w w' := by
  skip
  have hb0 : Below w.heap.size w (w.alloc (.cells r.cs 114)) := (Below.refl _ _).alloc (Nat.le_refl _) _
  have g0 := heap_alloc_new w (.cells r.cs 114)
  have HOK := Lib.hid hok
  have HT := Lib.hid ht
  clear hok ht
  have a0 : _ = some (Value.int .u8 r.d.k) := cell_of_row _ _ 0 _ _ _ g0
  have a1 : _ = some (Value.int .i64 r.d.p) := cell_of_row _ _ 1 _ _ _ g0
  have a2 : _ = some (Value.int .i32 r.d.l) := cell_of_row _ _ 2 _ _ _ g0
  have a3 : _ = some (Value.int .i32 r.d.h) := cell_of_row _ _ 3 _ _ _ g0
  have a4 : _ = some (Value.int .u32 ((r.d.m : Nat) : Int)) := cell_of_row _ _ 4 _ _ _ g0
  have a5 : _ = some (Value.int .u32 ((r.d.n : Nat) : Int)) := cell_of_row _ _ 5 _ _ _ g0
  have a6 : _ = some (Value.int .u8 r.rep) := cell_of_row _ _ 6 _ _ _ g0
  have a8 : _ = some (Value.int .u8 r.lev) := cell_of_row _ _ 8 _ _ _ g0
  have a9 : _ = some (Value.int .i64 r.un) := cell_of_row _ _ 9 _ _ _ g0
  go_enter Try.func60, Try.ntmps60
  go_wp2_with fail
  obtain ⟨g, hg⟩ : ∃ g, g = w.heap.size := ⟨_, rfl⟩
  obtain ⟨wa, hwa⟩ : ∃ wa, wa = w.alloc (.cells r.cs 114) := ⟨_, rfl⟩
  rw [← hwa] at hb0 g0 ⊢
  rw [← hg] at g0 ⊢
  clear hwa hg a0 a1 a2 a3 a4 a5 a6 a8 a9
  go_at_call 45
  refine (rRightD r.d.k r.d.p r.d.l r.d.h r.d.m r.d.n r.d.right _ rfl).mono ?_
  rintro e w1 ⟨rfl, hb⟩
  have g1 := box_below g0 hb (box_lt g0)
  have HB1 := Lib.hid (hb0.trans (hb.mono hb0.size))
  clear g0 hb hb0
  have a0 : _ = some (Value.int .u8 r.d.k) := cell_of_row _ _ 0 _ _ _ g1
  have a1 : _ = some (Value.int .i64 r.d.p) := cell_of_row _ _ 1 _ _ _ g1
  have a2 : _ = some (Value.int .i32 r.d.l) := cell_of_row _ _ 2 _ _ _ g1
  have a3 : _ = some (Value.int .i32 r.d.h) := cell_of_row _ _ 3 _ _ _ g1
  have a4 : _ = some (Value.int .u32 ((r.d.m : Nat) : Int)) := cell_of_row _ _ 4 _ _ _ g1
  have a5 : _ = some (Value.int .u32 ((r.d.n : Nat) : Int)) := cell_of_row _ _ 5 _ _ _ g1
  have a6 : _ = some (Value.int .u8 r.rep) := cell_of_row _ _ 6 _ _ _ g1
  have a8 : _ = some (Value.int .u8 r.lev) := cell_of_row _ _ 8 _ _ _ g1
  have a9 : _ = some (Value.int .i64 r.un) := cell_of_row _ _ 9 _ _ _ g1
  by_cases h0 : r.d.right = true
  · rw [h0]
    by_cases h1 : 1 ≤ r.rep
    · by_cases h2 : r.lev ≤ 4
      · by_cases h3 : -1 ≤ r.un
        · obtain rfl : decide (r.un < 16) = t := (show r.right = decide (r.un < 16) by simp [Rl.right, h0, h1, h2, h3]).symm.trans HT.out
          skip
          go_wp2
          go_ret
          exact ⟨rfl, HB1.out⟩
        · obtain rfl : false = t := (show r.right = false by simp [Rl.right, h3]).symm.trans HT.out
          have : r.un < -1 := by omega
          clear h3
          skip
          go_wp2
          go_ret
          exact ⟨rfl, HB1.out⟩
      · obtain rfl : false = t := (show r.right = false by simp [Rl.right, h2]).symm.trans HT.out
        have : 4 < r.lev := by omega
        have : 5 ≤ r.lev := by omega
        clear h2
        skip
        go_wp2
        go_ret
        exact ⟨rfl, HB1.out⟩
    · obtain rfl : false = t := (show r.right = false by simp [Rl.right, h1]).symm.trans HT.out
      have : r.rep < 1 := by omega
      have : r.rep ≤ 0 := by omega
      clear h1
      go_wp2
      go_ret
      exact ⟨rfl, HB1.out⟩
  · obtain rfl : false = t := (show r.right = false by simp [Rl.right, h0]).symm.trans HT.out
    rw [show r.d.right = false by simpa using h0]
    go_wp2
    go_ret
    exact ⟨rfl, HB1.out⟩
def Mn.has (p : Mn) (i : Int) : Bool := decide (0 ≤ i) && decide (i < (p.n : Int))
set_option maxRecDepth 100000 in
set_option maxHeartbeats 1000000 in
theorem mHas (p : Mn) (i : Int) (w : World) : Calls Try.prog 100 #[.agg p.cs, .int .i64 i] w fun e w' => e = .returned (.bool (p.has i)) ∧ Below w.heap.size w w' := by
  have c0 := (MnB.new w p).cellC
  by_cases h0 : 0 ≤ i
  · by_cases h1 : i < (p.n : Int)
    · rw [show p.has i = true by simp [Mn.has, h0, h1]]
      go_enter Try.func100, Try.ntmps100
      go_wp2
      go_ret
      exact ⟨rfl, (Below.refl _ _).alloc (Nat.le_refl _) _⟩
    · rw [show p.has i = false by simp [Mn.has, h0, h1]]
      go_enter Try.func100, Try.ntmps100
      go_wp2
      go_ret
      exact ⟨rfl, (Below.refl _ _).alloc (Nat.le_refl _) _⟩
  · rw [show p.has i = false by simp [Mn.has, h0]]
    go_enter Try.func100, Try.ntmps100
    go_wp2
    go_ret
    exact ⟨rfl, (Below.refl _ _).alloc (Nat.le_refl _) _⟩
set_option maxRecDepth 100000 in
set_option maxHeartbeats 1000000 in
theorem mLen (p : Mn) (w : World) : Calls Try.prog 62 #[.agg p.cs] w fun e w' => e = .returned (.int .i64 (p.n : Nat)) ∧ Below w.heap.size w w' := by
  have c0 := (MnB.new w p).cellC
  go_enter Try.func62, Try.ntmps62
  go_wp2
  go_ret
  exact ⟨rfl, (Below.refl _ _).alloc (Nat.le_refl _) _⟩
def Mn.stat (p : Mn) (i : Int) : Int := if p.has i = true then (p.x i.toNat).st else 0
set_option maxRecDepth 100000 in
set_option maxHeartbeats 1000000 in
theorem mStatus (p : Mn) (i : Int) (s : Int) (w : World) (hn : p.n ≤ 16) (hs : p.stat i = s) : Calls Try.prog 58 #[.agg p.cs, .int .i64 i] w fun e w' => e = .returned (.int .u8 s) ∧ Below w.heap.size w w' := by
  have HP := MnB.new w p
  have hb0 := (Below.refl w.heap.size w).alloc (Nat.le_refl _) (.cells p.cs 121)
  have HS := Lib.hid hs
  clear hs
  go_enter Try.func58, Try.ntmps58
  go_wp2_with (refine wpList_load_row rfl 121 _ rfl _ rfl _ _ _ _ HP Try.underlying121 rfl (by exact size_mn _) ?_; (try go_simp))
  obtain ⟨g, hg⟩ : ∃ g, g = w.heap.size := ⟨_, rfl⟩
  obtain ⟨wa, hwa⟩ : ∃ wa, wa = w.alloc (.cells p.cs 121) := ⟨_, rfl⟩
  rw [← hwa] at HP hb0 ⊢
  rw [← hg] at HP ⊢
  clear hwa hg
  go_at_call 100
  refine (mHas p i _).mono ?_
  rintro e w1 ⟨rfl, hb⟩
  have HP1 := HP.below hb (Nat.le_refl _)
  have HB := Lib.hid (hb0.trans (hb.mono hb0.size))
  clear hb0 hb HP
  cases hh : p.has i
  · have h0 := HS.out
    rw [Mn.stat, hh, if_neg (by decide)] at h0
    subst h0
    clear HS hh
    go_wp2
    go_ret
    exact ⟨rfl, HB.out⟩
  · obtain ⟨h0, h1⟩ : 0 ≤ i ∧ i < (p.n : Int) := by simpa [Mn.has] using hh
    obtain ⟨k, rfl⟩ := Int.eq_ofNat_of_zero_le h0
    have e1 := HS.out
    rw [Mn.stat, hh, if_pos rfl, Int.toNat_natCast] at e1
    have hk : k < 16 := by omega
    have c0 : w1.cell? ⟨g, k * 16 + 15, none⟩ = some (.int .u8 (p.x k).st) := HP1.cell (j := 15) hk rfl
    rw [e1] at c0
    clear hh h0 h1 HS e1
    go_wp2
    go_ret
    exact ⟨rfl, HB.out⟩
/-- The rule at a place; none where there is none. -/
def Mn.rule (p : Mn) (i : Int) : Rl := if p.has i = true then (p.x i.toNat).r else Rl.z
theorem MnB.rangeR {w : World} {g i : Nat} {p : Mn} (h : MnB w g p) (hi : i < 16) : w.rangeAt g (i * 16) (p.x i).r.cs.toList := fun j v hv => by
  refine h.cell hi ?_
  have hj : j < 11 := (List.getElem?_eq_some_iff.1 hv).1
  have : j = 0 ∨ j = 1 ∨ j = 2 ∨ j = 3 ∨ j = 4 ∨ j = 5 ∨ j = 6 ∨ j = 7 ∨ j = 8 ∨ j = 9 ∨ j = 10 := by omega
  rcases this with rfl | rfl | rfl | rfl | rfl | rfl | rfl | rfl | rfl | rfl | rfl <;> exact hv
@[go_sem] theorem zmn : Try.zeroCells121 = (Mn.empty 0).cs := by kernel_rfl
set_option maxRecDepth 100000 in
set_option maxHeartbeats 2000000 in
theorem mRule (p : Mn) (i : Int) (r : Rl) (w : World) (hn : p.n ≤ 16) (hs : p.rule i = r) : Calls Try.prog 63 #[.agg p.cs, .int .i64 i] w fun e w' => e = .returned (.tuple #[.agg r.cs, .bool (p.has i)]) ∧ Below w.heap.size w w' := by
  have hb0 : Below w.heap.size w ((w.alloc (.cells p.cs 121)).alloc (.cells Rl.z.cs 114)) := by repeat' (first | (with_reducible exact Below.refl _ _) | (with_reducible assumption) | (with_reducible refine Below.setCell ?_ ?_ _) | (with_reducible refine Below.alloc ?_ ?_ _) | (with_reducible refine Below.drew ?_) | (with_reducible refine Below.drawsN ?_ _) | go_size)
  have HP := (MnB.new w p).alloc (.cells Rl.z.cs 114)
  have g2 := heap_alloc2_new w (.cells p.cs 121) (.cells Rl.z.cs 114)
  have HS := Lib.hid hs
  clear hs
  go_enter Try.func63, Try.ntmps63
  go_wp2_with (refine wpList_load_row rfl 121 _ rfl _ rfl _ _ _ _ HP Try.underlying121 rfl (by exact size_mn _) ?_; (try go_simp))
  rw [show (#[.int .u8 0, .int .i64 0, .int .i32 0, .int .i32 0, .int .u32 0, .int .u32 0, .int .u8 0, .int .u8 0, .int .u8 0, .int .i64 0, .bool false] : Array Value) = Rl.z.cs from rfl]
  obtain ⟨g, hg⟩ : ∃ g, g = w.heap.size := ⟨_, rfl⟩
  obtain ⟨f, hf⟩ : ∃ g, g = w.heap.size + 1 := ⟨_, rfl⟩
  obtain ⟨wa, hwa⟩ : ∃ wa, wa = ((w.alloc (.cells p.cs 121)).alloc (.cells Rl.z.cs 114)) := ⟨_, rfl⟩
  have HF := Lib.hid (show w.heap.size ≤ f by omega)
  rw [← hwa] at HP g2 hb0 ⊢
  rw [← hf] at g2 ⊢
  rw [← hg] at HP ⊢
  clear hwa hf hg
  go_at_call 100
  refine (mHas p i _).mono ?_
  rintro e w1 ⟨rfl, hb⟩
  have HP1 := HP.below hb (Nat.le_refl _)
  have g3 := box_below g2 hb (box_lt g2)
  have HB := Lib.hid (hb0.trans (hb.mono hb0.size))
  clear hb0 hb HP g2
  cases hh : p.has i
  · have h0 := HS.out
    rw [Mn.rule, hh, if_neg (by decide)] at h0
    subst h0
    have HH := Lib.hid hh
    clear HS hh
    rw [show Rl.z.cs = (#[.int .u8 0, .int .i64 0, .int .i32 0, .int .i32 0, .int .u32 0, .int .u32 0, .int .u8 0, .int .u8 0, .int .u8 0, .int .i64 0, .bool false] : Array Value) from rfl] at g3
    go_wp2_with (refine wpList_store_row rfl 114 _ _ rfl _ _ rfl rfl _ _ g3 (by exact size_rl Rl.z) (by rfl) (by simp [Value.oneCell']) ?_; (try go_simp))
    refine bodyPost_ret (res_ct rfl _ _ _ _ (#[.int .u8 0, .int .i64 0, .int .i32 0, .int .i32 0, .int .u32 0, .int .u32 0, .int .u8 0, .int .u8 0, .int .u8 0, .int .i64 0, .bool false] : Array Value) _ rfl (setRow_heap _ _ _ _ _ _ g3) Try.underlying114 rfl (size_rl Rl.z)) rfl ?_
    exact ⟨by rw [HH.out]; rfl, bel_row HB.out HF.out _⟩
  · obtain ⟨h0, h1⟩ : 0 ≤ i ∧ i < (p.n : Int) := by simpa [Mn.has] using hh
    obtain ⟨k, rfl⟩ := Int.eq_ofNat_of_zero_le h0
    have e1 := HS.out
    rw [Mn.rule, hh, if_pos rfl, Int.toNat_natCast] at e1
    have hk : k < 16 := by omega
    have hrg := HP1.rangeR hk
    rw [e1] at hrg
    have HH := Lib.hid hh
    clear hh h0 h1 HS e1
    go_wp2_with (first | (refine wpList_load_mid rfl 114 _ rfl g (k * 16) rfl r.cs.toList _ hrg Try.underlying114 rfl (size_rl r) ?_; rw [Array.toArray_toList]; go_simp) | (refine wpList_store_row rfl 114 _ _ rfl _ (Rl.cs _) rfl rfl 114 _ g3 (size_rl _) rfl (Rl.one _) ?_; (try go_simp)))
    refine bodyPost_ret (res_ct rfl _ _ _ _ r.cs _ rfl (setRow_heap _ _ _ _ _ _ g3) Try.underlying114 rfl (size_rl r)) rfl ?_
    exact ⟨by rw [HH.out]; rfl, bel_row HB.out HF.out _⟩
end Go.Proofs.Ytbomkneajmgckaa
