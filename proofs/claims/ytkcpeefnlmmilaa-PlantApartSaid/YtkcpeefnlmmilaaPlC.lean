/- Plants: contracts of layer 14: asked. -/
import Derived.Test.YtkcpeefnlmmilaaPl
namespace Go.Proofs.Ytkcpeefnlmmilaa
open Go.RowKit Go.Own
set_option linter.unusedVariables false
set_option linter.unusedSimpArgs false
theorem PlB.new (w : World) (p : Pl) : PlB (w.alloc (.cells p.cs 133)) w.heap.size p := heap_alloc_new _ _
theorem PlB.alloc {w : World} {g : Nat} {p : Pl} (h : PlB w g p) (o : Obj) : PlB (w.alloc o) g p := (Below.heap_alloc w o _ (box_lt h)).trans h
def Pl.has (p : Pl) (i : Int) : Bool := decide (0 ≤ i) && decide (i < (p.n : Int))
set_option maxRecDepth 100000 in
set_option maxHeartbeats 1000000 in
theorem pHas (p : Pl) (i : Int) (w : World) : Calls Try.prog 107 #[.agg p.cs, .int .i64 i] w fun e w' => e = .returned (.bool (p.has i)) ∧ Below w.heap.size w w' := by
  have c0 := (PlB.new w p).cellC
  by_cases h0 : 0 ≤ i
  · by_cases h1 : i < (p.n : Int)
    · rw [show p.has i = true by simp [Pl.has, h0, h1]]
      go_enter Try.func107, Try.ntmps107
      go_wp2
      go_ret
      exact ⟨rfl, (Below.refl _ _).alloc (Nat.le_refl _) _⟩
    · rw [show p.has i = false by simp [Pl.has, h0, h1]]
      go_enter Try.func107, Try.ntmps107
      go_wp2
      go_ret
      exact ⟨rfl, (Below.refl _ _).alloc (Nat.le_refl _) _⟩
  · rw [show p.has i = false by simp [Pl.has, h0]]
    go_enter Try.func107, Try.ntmps107
    go_wp2
    go_ret
    exact ⟨rfl, (Below.refl _ _).alloc (Nat.le_refl _) _⟩
set_option maxRecDepth 100000 in
set_option maxHeartbeats 1000000 in
theorem pLen (p : Pl) (w : World) : Calls Try.prog 61 #[.agg p.cs] w fun e w' => e = .returned (.int .i64 (p.n : Nat)) ∧ Below w.heap.size w w' := by
  have c0 := (PlB.new w p).cellC
  go_enter Try.func61, Try.ntmps61
  go_wp2
  go_ret
  exact ⟨rfl, (Below.refl _ _).alloc (Nat.le_refl _) _⟩
/-- What lies at a place; nothing where there is none. -/
def Pl.at (p : Pl) (i : Int) : Un := if p.has i = true then p.u i.toNat else ⟨0, 0, 0⟩
def Pl.atW (p : Pl) (i : Int) : Int := if p.has i = true then p.wt i.toNat else 0
def Pl.atT (p : Pl) (i : Int) : Int := if p.has i = true then p.tol i.toNat else 0
theorem size_pos : (Try.prog.info? 130).map (·.size) = some 5 := by kernel_rfl
set_option maxRecDepth 100000 in
set_option maxHeartbeats 2000000 in
theorem pPos (p : Pl) (i : Int) (w : World) (hn : p.n ≤ 16) (s l b wt tol : Int) (hu : p.at i = ⟨s, l, b⟩) (hw : p.atW i = wt) (ht : p.atT i = tol) : Calls Try.prog 109 #[.agg p.cs, .int .i64 i] w fun e w' => e = .returned (.agg #[.int .u8 s, .int .u8 l, .int .u8 b, .int .u8 wt, .int .u8 tol]) ∧ Below w.heap.size w w' := by
  have hb0 : Below w.heap.size w ((w.alloc (.cells p.cs 133)).alloc (.cells #[.int .u8 0, .int .u8 0, .int .u8 0, .int .u8 0, .int .u8 0] 130)) := by repeat' (first | (with_reducible exact Below.refl _ _) | (with_reducible assumption) | (with_reducible refine Below.setCell ?_ ?_ _) | (with_reducible refine Below.alloc ?_ ?_ _) | (with_reducible refine Below.drew ?_) | (with_reducible refine Below.drawsN ?_ _) | go_size)
  have HP := (PlB.new w p).alloc (.cells #[.int .u8 0, .int .u8 0, .int .u8 0, .int .u8 0, .int .u8 0] 130)
  have g2 := heap_alloc2_new w (.cells p.cs 133) (.cells #[.int .u8 0, .int .u8 0, .int .u8 0, .int .u8 0, .int .u8 0] 130)
  have HU := Lib.hid (And.intro hu (And.intro hw ht))
  clear hu hw ht
  go_enter Try.func109, Try.ntmps109
  go_wp2_with (refine wpList_load_row rfl 133 _ rfl _ rfl _ _ _ _ HP Try.underlying133 rfl (by exact size_pl p) ?_; (try go_simp))
  obtain ⟨g, hg⟩ : ∃ g, g = w.heap.size := ⟨_, rfl⟩
  obtain ⟨wa, hwa⟩ : ∃ wa, wa = ((w.alloc (.cells p.cs 133)).alloc (.cells #[.int .u8 0, .int .u8 0, .int .u8 0, .int .u8 0, .int .u8 0] 130)) := ⟨_, rfl⟩
  have HG := Lib.hid hg
  rw [← hwa] at HP g2 hb0 ⊢
  rw [← hg] at HP g2 hb0 ⊢
  clear hwa hg
  go_at_call 107
  refine (pHas p i _).mono ?_
  rintro e w1 ⟨rfl, hb⟩
  have HP1 := HP.below hb (Nat.le_refl _)
  have g3 := box_below g2 hb (box_lt g2)
  have HB := Lib.hid (hb0.trans (hb.mono (Nat.le_of_lt (box_lt HP))))
  clear hb0 hb HP g2
  cases hh : p.has i
  · obtain ⟨e1, e2, e3⟩ := HU.out
    rw [Pl.at, hh, if_neg (by decide)] at e1
    rw [Pl.atW, hh, if_neg (by decide)] at e2
    rw [Pl.atT, hh, if_neg (by decide)] at e3
    obtain ⟨rfl, rfl, rfl⟩ := Un.inj e1
    subst e2 e3
    clear hh
    go_wp2_with (refine wpList_store_row rfl 130 _ _ rfl _ _ rfl rfl _ _ g3 (by exact size_pos) (by rfl) (by simp [Value.oneCell']) ?_; (try go_simp))
    rw [HG.out] at g3 HB ⊢
    refine bodyPost_ret (results_cell_row rfl _ _ _ _ _ _ _ rfl (setRow_heap _ _ _ _ _ _ g3) Try.underlying130 rfl size_pos) rfl ?_
    exact ⟨rfl, bel_row HB.out (by omega) _⟩
  · obtain ⟨h0, h1⟩ : 0 ≤ i ∧ i < (p.n : Int) := by simpa [Pl.has] using hh
    obtain ⟨k, rfl⟩ := Int.eq_ofNat_of_zero_le h0
    obtain ⟨e1, e2, e3⟩ := HU.out
    rw [Pl.at, hh, if_pos rfl, Int.toNat_natCast] at e1
    rw [Pl.atW, hh, if_pos rfl, Int.toNat_natCast] at e2
    rw [Pl.atT, hh, if_pos rfl, Int.toNat_natCast] at e3
    have hk : k < 16 := by omega
    have c0 := HP1.cellS hk
    have c1 := HP1.cellL hk
    have c2 := HP1.cellB hk
    have c3 := HP1.cellW hk
    have c4 := HP1.cellT hk
    rw [e1] at c0 c1 c2
    rw [e2] at c3
    rw [e3] at c4
    clear e1 e2 e3 hh h0 h1
    go_wp2_with (refine wpList_store_row rfl 130 _ _ rfl _ _ rfl rfl _ _ g3 (by exact size_pos) (by rfl) (by simp [Value.oneCell']) ?_; (try go_simp))
    rw [HG.out] at g3 HB ⊢
    refine bodyPost_ret (results_cell_row rfl _ _ _ _ _ _ _ rfl (setRow_heap _ _ _ _ _ _ g3) Try.underlying130 rfl size_pos) rfl ?_
    exact ⟨rfl, bel_row HB.out (by omega) _⟩
theorem size_rl : (Try.prog.info? 107).map (·.size) = some 2 := by kernel_rfl
@[go_sem] theorem fld_un (w : World) (s l b wt tol : Int) : (Instr.field 130 (.agg #[.int .u8 s, .int .u8 l, .int .u8 b, .int .u8 wt, .int .u8 tol]) 0).run Try.prog w = .ok (.agg #[.int .u8 s, .int .u8 l, .int .u8 b]) w := by kernel_rfl
@[go_sem] theorem fld_rl (w : World) (s l b wt tol : Int) : (Instr.field 130 (.agg #[.int .u8 s, .int .u8 l, .int .u8 b, .int .u8 wt, .int .u8 tol]) 1).run Try.prog w = .ok (.agg #[.int .u8 wt, .int .u8 tol]) w := by kernel_rfl
/- #1 the function, #2 the result's type, #3 its zero, #4 its cells, #5 its size's rule -/
set_option maxRecDepth 100000 in
set_option maxHeartbeats 2000000 in
theorem pAt (p : Pl) (i : Int) (w : World) (hn : p.n ≤ 16) (s l b wt tol : Int) (hu : p.at i = ⟨s, l, b⟩) (hw : p.atW i = wt) (ht : p.atT i = tol) : Calls Try.prog 66 #[.agg p.cs, .int .i64 i] w fun e w' => e = .returned (.agg #[.int .u8 s, .int .u8 l, .int .u8 b]) ∧ Below w.heap.size w w' := by
  skip
  have hb0 : Below w.heap.size w ((w.alloc (.cells p.cs 133)).alloc (.cells #[.int .u8 0, .int .u8 0, .int .u8 0] 110)) := by repeat' (first | (with_reducible exact Below.refl _ _) | (with_reducible assumption) | (with_reducible refine Below.setCell ?_ ?_ _) | (with_reducible refine Below.alloc ?_ ?_ _) | (with_reducible refine Below.drew ?_) | (with_reducible refine Below.drawsN ?_ _) | go_size)
  have HP := (PlB.new w p).alloc (.cells #[.int .u8 0, .int .u8 0, .int .u8 0] 110)
  have g2 := heap_alloc2_new w (.cells p.cs 133) (.cells #[.int .u8 0, .int .u8 0, .int .u8 0] 110)
  have HU := Lib.hid (And.intro hu (And.intro hw ht))
  clear hu hw ht
  go_enter Try.func66, Try.ntmps66
  go_wp2_with (refine wpList_load_row rfl 133 _ rfl _ rfl _ _ _ _ HP Try.underlying133 rfl (by exact size_pl p) ?_; (try go_simp))
  obtain ⟨g, hg⟩ : ∃ g, g = w.heap.size := ⟨_, rfl⟩
  obtain ⟨wa, hwa⟩ : ∃ wa, wa = ((w.alloc (.cells p.cs 133)).alloc (.cells #[.int .u8 0, .int .u8 0, .int .u8 0] 110)) := ⟨_, rfl⟩
  have HG := Lib.hid hg
  rw [← hwa] at HP g2 hb0 ⊢
  rw [← hg] at HP g2 hb0 ⊢
  clear hwa hg
  go_at_call 109
  refine (pPos p i _ hn s l b wt tol HU.out.1 HU.out.2.1 HU.out.2.2).mono ?_
  rintro e w1 ⟨rfl, hb⟩
  have g3 := box_below g2 hb (box_lt g2)
  have HB := Lib.hid (hb0.trans (hb.mono (Nat.le_of_lt (box_lt HP))))
  clear hb0 hb HP g2 HU
  go_wp2_with (refine wpList_store_row rfl 110 _ _ rfl _ _ rfl rfl _ _ g3 (by exact size_un) (by rfl) (by simp [Value.oneCell']) ?_; (try go_simp))
  rw [HG.out] at g3 HB ⊢
  refine bodyPost_ret (results_cell_row rfl _ _ _ _ #[.int .u8 s, .int .u8 l, .int .u8 b] _ _ rfl (setRow_heap _ _ _ _ _ _ g3) Try.underlying110 rfl size_un) rfl ?_
  exact ⟨rfl, bel_row HB.out (by omega) _⟩
set_option maxRecDepth 100000 in
set_option maxHeartbeats 2000000 in
theorem pRule (p : Pl) (i : Int) (w : World) (hn : p.n ≤ 16) (s l b wt tol : Int) (hu : p.at i = ⟨s, l, b⟩) (hw : p.atW i = wt) (ht : p.atT i = tol) : Calls Try.prog 65 #[.agg p.cs, .int .i64 i] w fun e w' => e = .returned (.agg #[.int .u8 wt, .int .u8 tol]) ∧ Below w.heap.size w w' := by
  skip
  have hb0 : Below w.heap.size w ((w.alloc (.cells p.cs 133)).alloc (.cells #[.int .u8 0, .int .u8 0] 107)) := by repeat' (first | (with_reducible exact Below.refl _ _) | (with_reducible assumption) | (with_reducible refine Below.setCell ?_ ?_ _) | (with_reducible refine Below.alloc ?_ ?_ _) | (with_reducible refine Below.drew ?_) | (with_reducible refine Below.drawsN ?_ _) | go_size)
  have HP := (PlB.new w p).alloc (.cells #[.int .u8 0, .int .u8 0] 107)
  have g2 := heap_alloc2_new w (.cells p.cs 133) (.cells #[.int .u8 0, .int .u8 0] 107)
  have HU := Lib.hid (And.intro hu (And.intro hw ht))
  clear hu hw ht
  go_enter Try.func65, Try.ntmps65
  go_wp2_with (refine wpList_load_row rfl 133 _ rfl _ rfl _ _ _ _ HP Try.underlying133 rfl (by exact size_pl p) ?_; (try go_simp))
  obtain ⟨g, hg⟩ : ∃ g, g = w.heap.size := ⟨_, rfl⟩
  obtain ⟨wa, hwa⟩ : ∃ wa, wa = ((w.alloc (.cells p.cs 133)).alloc (.cells #[.int .u8 0, .int .u8 0] 107)) := ⟨_, rfl⟩
  have HG := Lib.hid hg
  rw [← hwa] at HP g2 hb0 ⊢
  rw [← hg] at HP g2 hb0 ⊢
  clear hwa hg
  go_at_call 109
  refine (pPos p i _ hn s l b wt tol HU.out.1 HU.out.2.1 HU.out.2.2).mono ?_
  rintro e w1 ⟨rfl, hb⟩
  have g3 := box_below g2 hb (box_lt g2)
  have HB := Lib.hid (hb0.trans (hb.mono (Nat.le_of_lt (box_lt HP))))
  clear hb0 hb HP g2 HU
  go_wp2_with (refine wpList_store_row rfl 107 _ _ rfl _ _ rfl rfl _ _ g3 (by exact size_rl) (by rfl) (by simp [Value.oneCell']) ?_; (try go_simp))
  rw [HG.out] at g3 HB ⊢
  refine bodyPost_ret (results_cell_row rfl _ _ _ _ #[.int .u8 wt, .int .u8 tol] _ _ rfl (setRow_heap _ _ _ _ _ _ g3) Try.underlying107 rfl size_rl) rfl ?_
  exact ⟨rfl, bel_row HB.out (by omega) _⟩
end Go.Proofs.Ytkcpeefnlmmilaa
