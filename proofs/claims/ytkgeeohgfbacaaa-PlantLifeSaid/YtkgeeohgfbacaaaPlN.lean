/- Plants: New. -/
import Derived.Test.YtkgeeohgfbacaaaPlC
namespace Go.Proofs.Ytkgeeohgfbacaaa
open Go.RowKit Go.Own
set_option linter.unusedVariables false
set_option linter.unusedSimpArgs false
/-- A slice of rules. -/
structure RlS (w : World) (a : Option Addr) (len cap : Nat) (wt tol : Nat → Int) : Prop where
  le : len ≤ cap
  top : cap ≤ maxLen
  at_ : 0 < len → ∃ b off, a = some ⟨b, off, none⟩ ∧ b < w.heap.size ∧ ∀ i, i < len → w.cell? ⟨b, off + i * 2, none⟩ = some (.int .u8 (wt i)) ∧ w.cell? ⟨b, off + i * 2 + 1, none⟩ = some (.int .u8 (tol i))
theorem RlS.below {w w' : World} {a : Option Addr} {len cap k : Nat} {wt tol : Nat → Int} (h : RlS w a len cap wt tol) (hb : Below k w w') (hk : w.heap.size ≤ k) : RlS w' a len cap wt tol :=
  ⟨h.le, h.top, fun hl => by
    obtain ⟨b, off, e, hlt, hc⟩ := h.at_ hl
    exact ⟨b, off, e, Nat.lt_of_lt_of_le hlt hb.size, fun i hi => ⟨(hb.cell (p := ⟨b, off + i * 2, none⟩) (Nat.lt_of_lt_of_le hlt hk)).trans (hc i hi).1, (hb.cell (p := ⟨b, off + i * 2 + 1, none⟩) (Nat.lt_of_lt_of_le hlt hk)).trans (hc i hi).2⟩⟩⟩
/-- A new plant of which k places have their rules. -/
def Pl.part (n : Nat) (wt tol : Nat → Int) (k : Nat) : Pl := ⟨fun _ => ⟨0, 0, 0⟩, fun i => if i < k then wt i else 0, fun i => if i < k then tol i else 0, n⟩
theorem part0 (n : Nat) (wt tol : Nat → Int) : (Pl.empty n).cs = (Pl.part n wt tol 0).cs := by
  refine Pl.ext_cs (fun _ _ => rfl) (fun i _ => ?_) (fun i _ => ?_) rfl
  · show (0 : Int) = if i < 0 then wt i else 0
    rw [if_neg (Nat.not_lt_zero i)]
  · show (0 : Int) = if i < 0 then tol i else 0
    rw [if_neg (Nat.not_lt_zero i)]
@[go_sem] theorem zc : Try.zeroCells95 = (Pl.empty 0).cs := by kernel_rfl
@[go_sem] theorem zcn (n : Nat) : (Pl.empty 0).cs.setIfInBounds 80 (.int .i64 (n : Nat)) = (Pl.empty n).cs := by
  refine arr_set (by rw [Pl.size, Pl.size]) (by rw [Pl.size]; omega) (Pl.c _) fun j hj => ?_
  by_cases hk : j < 81
  · rw [Pl.at_ _ hk, Pl.at_ _ hk]
    congr 1
    unfold Pl.cell
    rw [if_pos (show j < 80 by omega), if_pos (show j < 80 by omega)]
    rfl
  · rw [Pl.none _ hk, Pl.none _ hk]
attribute [go_sem] Pl.size
/- a plant is stored whole: #1 what the block held, as a plant; #2 the fact -/
set_option maxRecDepth 100000 in
set_option maxHeartbeats 4000000 in
theorem pNew_bad (a : Option Addr) (len cap : Nat) (wt tol : Nat → Int) (w : World) (h : RlS w a len cap wt tol) (h16 : 16 < len) : Calls Try.prog 42 #[.slice a len cap] w fun e w' => e = .returned (.tuple #[.agg (Pl.empty 0).cs, .int .i64 1]) ∧ Below w.heap.size w w' := by
  have hle := h.le
  have htop := h.top
  unfold maxLen at htop
  have hg := PlB.new w (Pl.empty 0)
  have hb := (Below.refl w.heap.size w).alloc (Nat.le_refl _) (.cells (Pl.empty 0).cs 95)
  clear h
  go_enter Try.func42, Try.ntmps42
  go_wp2_with (refine wpList_store_row rfl 95 _ _ rfl _ (Pl.cs _) rfl rfl 95 _ hg (size_pl _) (by simp only [Pl.size]) (Pl.one _) ?_; (try go_simp))
  refine bodyPost_ret (res_ct rfl _ _ _ _ (Pl.empty 0).cs _ rfl (setRow_heap _ _ _ _ _ _ hg) Try.underlying95 rfl (size_pl _)) rfl ?_
  exact ⟨rfl, bel_row hb (Nat.le_refl _) _⟩
set_option maxRecDepth 100000 in
set_option maxHeartbeats 4000000 in
theorem pNew_ok (a : Option Addr) (len cap : Nat) (wt tol : Nat → Int) (w : World) (h : RlS w a len cap wt tol) (h16 : len ≤ 16) : Calls Try.prog 42 #[.slice a len cap] w fun e w' => e = .returned (.tuple #[.agg (Pl.part len wt tol len).cs, .int .i64 0]) ∧ Below w.heap.size w w' := by
  have hle := h.le
  have htop := h.top
  unfold maxLen at htop
  have H := Lib.hid h
  clear h
  have hg := heap_alloc2_new w (.cells (Pl.empty 0).cs 95) (.cells (Pl.empty 0).cs 95)
  go_enter Try.func42, Try.ntmps42
  go_wp2_with (refine wpList_store_row rfl 95 _ _ rfl _ (Pl.cs _) rfl rfl 95 _ hg (size_pl _) (by simp only [Pl.size]) (Pl.one _) ?_; (try go_simp))
  have HS : ∃ g2 g4, g2 = w.heap.size ∧ g4 = w.heap.size + 1 ∧ PlB (((w.alloc (.cells (Pl.empty 0).cs 95)).alloc (.cells (Pl.empty 0).cs 95)).setRow (w.heap.size + 1) (Pl.empty len).cs) g4 (Pl.part len wt tol 0) ∧
      PlB (((w.alloc (.cells (Pl.empty 0).cs 95)).alloc (.cells (Pl.empty 0).cs 95)).setRow (w.heap.size + 1) (Pl.empty len).cs) g2 (Pl.empty 0) ∧
      Below w.heap.size w (((w.alloc (.cells (Pl.empty 0).cs 95)).alloc (.cells (Pl.empty 0).cs 95)).setRow (w.heap.size + 1) (Pl.empty len).cs) := by
    refine ⟨_, _, rfl, rfl, ?_, (setRow_other _ _ _ _ (by omega)).trans (heap_alloc2_old _ _ _), bel_row (by repeat' (first | (with_reducible exact Below.refl _ _) | (with_reducible assumption) | (with_reducible refine Below.setCell ?_ ?_ _) | (with_reducible refine Below.alloc ?_ ?_ _) | (with_reducible refine Below.drew ?_) | (with_reducible refine Below.drawsN ?_ _) | go_size)) (by omega) _⟩
    unfold PlB
    rw [← part0 len wt tol]
    exact setRow_heap _ _ _ _ _ _ hg
  obtain ⟨g2, g4, e2, e4, hp4, hp2, hb0⟩ := HS
  obtain ⟨ws, hws⟩ : ∃ ws, ws = (((w.alloc (.cells (Pl.empty 0).cs 95)).alloc (.cells (Pl.empty 0).cs 95)).setRow (w.heap.size + 1) (Pl.empty len).cs) := ⟨_, rfl⟩
  have HE := Lib.hid (show w.heap.size ≤ g2 ∧ w.heap.size ≤ g4 ∧ g2 ≠ g4 by omega)
  rw [← hws] at hp4 hp2 hb0 ⊢
  rw [← e4, ← e2]
  have H0 := Lib.hid (And.intro hp4 (And.intro hp2 hb0))
  clear hws e2 e4 hg hp4 hp2 hb0
  go_loopw [16] (fun i wr => ∃ k : Nat, k ≤ len ∧ i = .int .i64 k ∧ PlB wr g4 (Pl.part len wt tol k) ∧ PlB wr g2 (Pl.empty 0) ∧ Below w.heap.size w wr) (fun i _ => len - (intOf i).toNat)
  case atStart => exact ⟨0, by omega, rfl, H0.out⟩
  case round =>
    obtain ⟨k, hk, rfl, hp4, hp2, hb⟩ := hrel
    clear H0
    by_cases hlt : k < len
    · obtain ⟨bb, off, rfl, hbb, hc⟩ := H.out.at_ (by omega)
      obtain ⟨hc0, hc1⟩ := hc k hlt
      have c0 := (hb.cell (p := ⟨bb, off + k * 2, none⟩) hbb).trans hc0
      have c1 := (hb.cell (p := ⟨bb, off + k * 2 + 1, none⟩) hbb).trans hc1
      have hk16 : k < 16 := by omega
      have h5 := hp4.alloc (.cells #[.int .u8 (wt k), .int .u8 (tol k)] 90)
      have d0 := h5.cellW hk16
      have d1 := h5.cellT hk16
      have f0 := frozen_of_row _ g4 (k * 5 + 3) _ _ h5
      have f1 := frozen_of_row _ g4 (k * 5 + 4) _ _ h5
      have hr := h5.rule hk16 (wt k) (tol k)
      have hr2 : Pl.cs ((Pl.part len wt tol k).rule k (wt k) (tol k)) = Pl.cs (Pl.part len wt tol (k + 1)) := by
        refine Pl.ext_cs (fun _ _ => rfl) (fun i _ => ?_) (fun i _ => ?_) rfl
        · show (if i = k then wt k else if i < k then wt i else 0) = if i < k + 1 then wt i else 0
          by_cases e : i = k
          · subst e; rw [if_pos rfl, if_pos (by omega)]
          · rw [if_neg e]
            by_cases e2 : i < k
            · rw [if_pos e2, if_pos (by omega)]
            · rw [if_neg e2, if_neg (by omega)]
        · show (if i = k then tol k else if i < k then tol i else 0) = if i < k + 1 then tol i else 0
          by_cases e : i = k
          · subst e; rw [if_pos rfl, if_pos (by omega)]
          · rw [if_neg e]
            by_cases e2 : i < k
            · rw [if_pos e2, if_pos (by omega)]
            · rw [if_neg e2, if_neg (by omega)]
      unfold PlB at hr
      rw [hr2] at hr
      have HR := Lib.hid hr
      have hbn := (hb.alloc hb.size (.cells #[.int .u8 (wt k), .int .u8 (tol k)] 90))
      have HB := Lib.hid ((hbn.setCell (p := ⟨g4, k * 5 + 3, none⟩) HE.out.2.1 (.int .u8 (wt k))).setCell (p := ⟨g4, k * 5 + 4, none⟩) HE.out.2.1 (.int .u8 (tol k)))
      have hp22 := hp2.alloc (.cells #[.int .u8 (wt k), .int .u8 (tol k)] 90)
      have HP2 := Lib.hid ((heap_setCell_other _ ⟨g4, k * 5 + 4, none⟩ g2 (.int .u8 (tol k)) HE.out.2.2).trans ((heap_setCell_other _ ⟨g4, k * 5 + 3, none⟩ g2 (.int .u8 (wt k)) HE.out.2.2).trans hp22))
      clear hc hc0 hc1 h5 hr hr2 hbn hp22 hp4 hp2 hb
      go_wp2_with fail
      go_roundw
      case rel => exact ⟨k + 1, by omega, by go_num, HR.out, HP2.out, HB.out⟩
      case measure => simp [intOf]; omega
    · obtain rfl : k = len := by omega
      have HB := Lib.hid hb
      clear hb
      go_wp2_with (first | (refine wpList_load_row rfl 95 _ rfl _ rfl _ _ _ _ hp4 Try.underlying95 rfl (by exact size_pl _) ?_; (try go_simp)) | (refine wpList_store_row rfl 95 _ _ rfl _ (Pl.cs _) rfl rfl 95 _ hp2 (size_pl _) (by simp only [Pl.size]) (Pl.one _) ?_; (try go_simp)))
      refine bodyPost_ret (res_ct rfl _ _ _ _ (Pl.part k wt tol k).cs _ rfl (setRow_heap _ _ _ _ _ _ hp2) Try.underlying95 rfl (size_pl _)) rfl ?_
      exact ⟨rfl, bel_row HB.out HE.out.1 _⟩
end Go.Proofs.Ytkgeeohgfbacaaa
