/- Monitors: New. -/
import Derived.Test.YtkgeeohgfbacaaaMnC
import Derived.Deep.CutBlock
import Derived.Deep.DeepCutAuto
namespace Go.Proofs.Ytkgeeohgfbacaaa
open Go.RowKit Go.Own
set_option linter.unusedVariables false
set_option linter.unusedSimpArgs false
theorem Mn.setR_cs (p : Mn) (i : Nat) (r : Rl) (h : i < 16) : arrSets p.cs (i * 16) r.cs.toList = (p.set i ⟨r, (p.x i).any, (p.x i).val, (p.x i).cand, (p.x i).times, (p.x i).st⟩).cs := by
  have hz := p.size
  obtain ⟨q, hq⟩ : ∃ q : Wt, q = ⟨r, (p.x i).any, (p.x i).val, (p.x i).cand, (p.x i).times, (p.x i).st⟩ := ⟨_, rfl⟩
  rw [← hq]
  have hl : r.cs.toList.length = 11 := rfl
  have hu : (p.set i q).x i = q := if_pos rfl
  apply Array.ext_getElem?
  intro k
  by_cases hk : i * 16 ≤ k ∧ k < i * 16 + 11
  · obtain ⟨j, rfl⟩ : ∃ j, k = i * 16 + j := ⟨k - i * 16, by omega⟩
    have hj : j < r.cs.toList.length := by omega
    have h1 : r.cs.toList[j]? = some (r.cs.toList[j]) := List.getElem?_eq_getElem hj
    rw [arrSets_in r.cs.toList (i * 16) p.cs j _ (by rw [hl, hz]; omega) h1]
    refine ((p.set i q).w h ?_).symm
    rw [hu, hq, ← h1]
    have : j = 0 ∨ j = 1 ∨ j = 2 ∨ j = 3 ∨ j = 4 ∨ j = 5 ∨ j = 6 ∨ j = 7 ∨ j = 8 ∨ j = 9 ∨ j = 10 := by omega
    rcases this with rfl | rfl | rfl | rfl | rfl | rfl | rfl | rfl | rfl | rfl | rfl <;> rfl
  · rw [arrSets_out _ _ _ _ (by rw [hl]; omega)]
    by_cases hk2 : k < 257
    · rw [p.at_ hk2, (p.set i q).at_ hk2]
      congr 1
      unfold Mn.cell
      by_cases h3 : k < 256
      · rw [if_pos h3, if_pos h3]
        by_cases h4 : k / 16 = i
        · rw [h4, hu, hq]
          have h5 : k % 16 = 11 ∨ k % 16 = 12 ∨ k % 16 = 13 ∨ k % 16 = 14 ∨ k % 16 = 15 := by omega
          rcases h5 with h5 | h5 | h5 | h5 | h5 <;> rw [h5] <;> rfl
        · have : (p.set i q).x (k / 16) = p.x (k / 16) := if_neg h4
          rw [this]
      · rw [if_neg h3, if_neg h3]
        rfl
    · rw [p.none hk2, (p.set i q).none hk2]
theorem MnB.setR {w : World} {g i : Nat} {p : Mn} (h : MnB w g p) (hi : i < 16) (r : Rl) : MnB (w.setCells g (i * 16) r.cs.toList) g (p.set i ⟨r, (p.x i).any, (p.x i).val, (p.x i).cand, (p.x i).times, (p.x i).st⟩) := by
  unfold MnB
  rw [← p.setR_cs i r hi]
  exact heap_setCells _ _ _ _ _ _ h
/-- A slice of rules. -/
structure RuS (w : World) (a : Option Addr) (len cap : Nat) (r : Nat → Rl) : Prop where
  le : len ≤ cap
  top : cap ≤ maxLen
  at_ : 0 < len → ∃ b off, a = some ⟨b, off, none⟩ ∧ b < w.heap.size ∧ ∀ i, i < len → w.rangeAt b (off + i * 11) (r i).cs.toList
theorem rangeAt_below {w w' : World} {b o k : Nat} {cs : List Value} (h : w.rangeAt b o cs) (hb : Below k w w') (hk : b < k) : w'.rangeAt b o cs := fun j v hv => (hb.cell (p := ⟨b, o + j, none⟩) hk).trans (h j v hv)
theorem RuS.below {w w' : World} {a : Option Addr} {len cap k : Nat} {r : Nat → Rl} (h : RuS w a len cap r) (hb : Below k w w') (hk : w.heap.size ≤ k) : RuS w' a len cap r :=
  ⟨h.le, h.top, fun hl => by
    obtain ⟨b, off, e, hlt, hc⟩ := h.at_ hl
    exact ⟨b, off, e, Nat.lt_of_lt_of_le hlt hb.size, fun i hi => rangeAt_below (hc i hi) hb (Nat.lt_of_lt_of_le hlt hk)⟩⟩
/-- A new monitor of which k places have their rules. -/
def Mn.part (n : Nat) (r : Nat → Rl) (k : Nat) : Mn := ⟨fun i => if i < k then ⟨r i, false, 0, 0, 0, 0⟩ else Wt.z, n⟩
theorem mpart0 (n : Nat) (r : Nat → Rl) : (Mn.empty n).cs = (Mn.part n r 0).cs := Mn.ext_cs (fun i _ => (show Wt.z = if i < 0 then (⟨r i, false, 0, 0, 0, 0⟩ : Wt) else Wt.z from (if_neg (Nat.not_lt_zero i)).symm)) rfl
theorem mpart_next (n : Nat) (r : Nat → Rl) (k : Nat) : ((Mn.part n r k).set k ⟨r k, ((Mn.part n r k).x k).any, ((Mn.part n r k).x k).val, ((Mn.part n r k).x k).cand, ((Mn.part n r k).x k).times, ((Mn.part n r k).x k).st⟩).cs = (Mn.part n r (k + 1)).cs := by
  have e0 : (Mn.part n r k).x k = Wt.z := if_neg (Nat.lt_irrefl k)
  rw [e0]
  refine Mn.ext_cs (fun i _ => ?_) rfl
  show (if i = k then (⟨r k, false, 0, 0, 0, 0⟩ : Wt) else if i < k then ⟨r i, false, 0, 0, 0, 0⟩ else Wt.z) = if i < k + 1 then ⟨r i, false, 0, 0, 0, 0⟩ else Wt.z
  by_cases e : i = k
  · subst e; rw [if_pos rfl, if_pos (by omega)]
  · rw [if_neg e]
    by_cases e2 : i < k
    · rw [if_pos e2, if_pos (by omega)]
    · rw [if_neg e2, if_neg (by omega)]
@[go_sem] theorem zmcn (n : Nat) : (Mn.empty 0).cs.setIfInBounds 256 (.int .i64 ((n : Nat) : Int)) = (Mn.empty n).cs := by
  apply Array.ext_getElem?
  intro j
  by_cases h : j = 256
  · subst h
    rw [Array.getElem?_setIfInBounds_self_of_lt (by rw [Mn.size]; omega), (Mn.empty n).c]
    rfl
  · rw [Array.getElem?_setIfInBounds_ne (Ne.symm h)]
    by_cases hk : j < 257
    · rw [Mn.at_ _ hk, Mn.at_ _ hk]
      congr 1
      unfold Mn.cell
      rw [if_pos (show j < 256 by omega), if_pos (show j < 256 by omega)]
      rfl
    · rw [Mn.none _ hk, Mn.none _ hk]
attribute [go_sem] Mn.size
/-- May these be rules of a monitor? -/
def newOk (len : Nat) (r : Nat → Rl) : Prop := len ≤ 16 ∧ ∀ i, i < len → (r i).right = true
def NewPost (w : World) (len : Nat) (r : Nat → Rl) (e : Ending) (w' : World) : Prop :=
  Below w.heap.size w w' ∧ ((newOk len r ∧ e = .returned (.tuple #[.agg (Mn.part len r len).cs, .int .i64 0])) ∨ (¬ newOk len r ∧ e = .returned (.tuple #[.agg (Mn.empty 0).cs, .int .i64 1])))
set_option maxRecDepth 100000 in
set_option maxHeartbeats 4000000 in
theorem mNew_bad (a : Option Addr) (len cap : Nat) (r : Nat → Rl) (w : World) (h : RuS w a len cap r) (h16 : 16 < len) : Calls Try.prog 54 #[.slice a len cap] w (NewPost w len r) := by
  have hle := h.le
  have htop := h.top
  unfold maxLen at htop
  have hg := MnB.new w (Mn.empty 0)
  have hb := (Below.refl w.heap.size w).alloc (Nat.le_refl _) (.cells (Mn.empty 0).cs 124)
  clear h
  go_enter Try.func54, Try.ntmps54
  go_wp2_with (refine wpList_store_row rfl 124 _ _ rfl _ (Mn.cs _) rfl rfl 124 _ hg (size_mn _) (by simp only [Mn.size]) (Mn.one _) ?_; (try go_simp))
  refine bodyPost_ret (res_ct rfl _ _ _ _ (Mn.empty 0).cs _ rfl (setRow_heap _ _ _ _ _ _ hg) Try.underlying124 rfl (size_mn _)) rfl ?_
  exact ⟨bel_row hb (Nat.le_refl _) _, .inr ⟨fun h => by have := h.1; omega, rfl⟩⟩
set_option maxRecDepth 100000 in
set_option maxHeartbeats 8000000 in
theorem mNew_16 (a : Option Addr) (len cap : Nat) (r : Nat → Rl) (w : World) (h : RuS w a len cap r) (hok : ∀ i, i < len → (r i).ok) (h16 : len ≤ 16) : Calls Try.prog 54 #[.slice a len cap] w (NewPost w len r) := by
  have hle := h.le
  have htop := h.top
  unfold maxLen at htop
  have H := Lib.hid h
  have HOK := Lib.hid hok
  clear h hok
  have hg := heap_alloc2_new w (.cells (Mn.empty 0).cs 124) (.cells (Mn.empty 0).cs 124)
  go_enter Try.func54, Try.ntmps54
  go_wp2_with (refine wpList_store_row rfl 124 _ _ rfl _ (Mn.cs _) rfl rfl 124 _ hg (size_mn _) (by simp only [Mn.size]) (Mn.one _) ?_; (try go_simp))
  have HS : ∃ g2 g4, g2 = w.heap.size ∧ g4 = w.heap.size + 1 ∧ MnB (((w.alloc (.cells (Mn.empty 0).cs 124)).alloc (.cells (Mn.empty 0).cs 124)).setRow (w.heap.size + 1) (Mn.empty len).cs) g4 (Mn.part len r 0) ∧
      MnB (((w.alloc (.cells (Mn.empty 0).cs 124)).alloc (.cells (Mn.empty 0).cs 124)).setRow (w.heap.size + 1) (Mn.empty len).cs) g2 (Mn.empty 0) ∧
      Below w.heap.size w (((w.alloc (.cells (Mn.empty 0).cs 124)).alloc (.cells (Mn.empty 0).cs 124)).setRow (w.heap.size + 1) (Mn.empty len).cs) := by
    refine ⟨_, _, rfl, rfl, ?_, (setRow_other _ _ _ _ (by omega)).trans (heap_alloc2_old _ _ _), bel_row (by repeat' (first | (with_reducible exact Below.refl _ _) | (with_reducible assumption) | (with_reducible refine Below.setCell ?_ ?_ _) | (with_reducible refine Below.alloc ?_ ?_ _) | (with_reducible refine Below.drew ?_) | (with_reducible refine Below.drawsN ?_ _) | go_size)) (by omega) _⟩
    unfold MnB
    rw [← mpart0 len r]
    exact setRow_heap _ _ _ _ _ _ hg
  obtain ⟨g2, g4, e2, e4, hp4, hp2, hb0⟩ := HS
  obtain ⟨ws, hws⟩ : ∃ ws, ws = (((w.alloc (.cells (Mn.empty 0).cs 124)).alloc (.cells (Mn.empty 0).cs 124)).setRow (w.heap.size + 1) (Mn.empty len).cs) := ⟨_, rfl⟩
  have HE := Lib.hid (show w.heap.size ≤ g2 ∧ w.heap.size ≤ g4 ∧ g2 ≠ g4 by omega)
  rw [← hws] at hp4 hp2 hb0 ⊢
  rw [← e4, ← e2]
  have H0 := Lib.hid (And.intro hp4 (And.intro hp2 hb0))
  clear hws e2 e4 hg hp4 hp2 hb0
  go_loopw [16] (fun i wr => ∃ k : Nat, k ≤ len ∧ i = .int .i64 k ∧ MnB wr g4 (Mn.part len r k) ∧ MnB wr g2 (Mn.empty 0) ∧ Below w.heap.size w wr ∧ ∀ i, i < k → (r i).right = true) (fun i _ => len - (intOf i).toNat)
  case atStart => exact ⟨0, by omega, rfl, H0.out.1, H0.out.2.1, H0.out.2.2, fun i hi => absurd hi (by omega)⟩
  case round =>
    obtain ⟨k, hk, rfl, hp4, hp2, hb, hall⟩ := hrel
    clear H0
    have HALL := Lib.hid hall
    clear hall
    by_cases hlt : k < len
    · obtain ⟨bb, off, rfl, hbb, hc⟩ := H.out.at_ (by omega)
      have hrg := rangeAt_below (hc k hlt) hb hbb
      have hk16 : k < 16 := by omega
      have hrok := HOK.out k hlt
      obtain ⟨x, hx⟩ : ∃ x, x = r k := ⟨_, rfl⟩
      rw [← hx] at hrg hrok
      have HX := Lib.hid hx
      have HP := Lib.hid (And.intro hp4 (And.intro hp2 hb))
      have HRK := Lib.hid hrok
      clear hx hc hp4 hp2 hb hrok
      go_upto_region 7 with (first | (refine wpList_load_mid rfl 117 _ rfl bb (off + k * 11) rfl x.cs.toList _ hrg Try.underlying117 rfl (size_rl x) ?_; rw [Array.toArray_toList]; go_simp) | (refine wpList_store_row rfl 117 _ _ rfl _ (Rl.cs _) rfl rfl 117 _ (heap_alloc_new wr (.cells (#[.int .u8 0, .int .i64 0, .int .i32 0, .int .i32 0, .int .u32 0, .int .u32 0, .int .u8 0, .int .u8 0, .int .u8 0, .int .i64 0, .bool false] : Array Value) 117)) (size_rl _) rfl (Rl.one _) ?_; rw [World.setRow_alloc_new]; (try go_simp)))
      have hal : Below wr.heap.size wr (wr.alloc (.cells x.cs 117)) := (Below.refl _ _).alloc (Nat.le_refl _) _
      have g6 := heap_alloc_new wr (.cells x.cs 117)
      have HP2 := Lib.hid (And.intro (HP.out.1.alloc (.cells x.cs 117)) (And.intro (HP.out.2.1.alloc (.cells x.cs 117)) (HP.out.2.2.trans (hal.mono HP.out.2.2.size))))
      obtain ⟨f, hf⟩ : ∃ f, f = wr.heap.size := ⟨_, rfl⟩
      obtain ⟨w2, hw2⟩ : ∃ w2, w2 = wr.alloc (.cells x.cs 117) := ⟨_, rfl⟩
      rw [← hw2] at g6 HP2
      rw [← hf] at g6
      rw [← hw2, ← hf]
      clear hw2 hf hal HP hrg
      go_wp2_with (refine wpList_load_row rfl 117 _ rfl _ rfl _ _ _ _ g6 Try.underlying117 rfl (by exact size_rl x) ?_; (try go_simp))
      go_at_call 107
      refine (rRight x x.right _ HRK.out rfl).mono ?_
      rintro e w3 ⟨rfl, hb3⟩
      have g7 := box_below g6 hb3 (box_lt g6)
      have HP3 := Lib.hid (And.intro (HP2.out.1.below hb3 (Nat.le_refl _)) (And.intro (HP2.out.2.1.below hb3 (Nat.le_refl _)) (HP2.out.2.2.trans (hb3.mono HP2.out.2.2.size))))
      clear g6 hb3 HP2
      cases hrt : x.right
      · have HNO := Lib.hid (show ¬ newOk len r from fun h => by
          have := h.2 k hlt
          rw [← HX.out, hrt] at this
          cases this)
        have hp2 := HP3.out.2.1
        clear hrt g7
        go_wp2_with (refine wpList_store_row rfl 124 _ _ rfl _ (Mn.cs _) rfl rfl 124 _ hp2 (size_mn _) (by simp only [Mn.size]) (Mn.one _) ?_; (try go_simp))
        refine bodyPost_ret (res_ct rfl _ _ _ _ (Mn.empty 0).cs _ rfl (setRow_heap _ _ _ _ _ _ hp2) Try.underlying124 rfl (size_mn _)) rfl ?_
        exact ⟨bel_row HP3.out.2.2 HE.out.1 _, .inr ⟨HNO.out, rfl⟩⟩
      · have HALL2 := Lib.hid (show ∀ i, i < k + 1 → (r i).right = true from fun i hi => by
          by_cases e : i = k
          · subst e; rw [← HX.out]; exact hrt
          · exact HALL.out i (by omega))
        have hth : w3.there g4 (k * 16) 11 := fun j hj => HP3.out.1.there hk16 j (by omega)
        have hN := mpart_next len r k
        rw [← HX.out] at hN
        have hS := HP3.out.1.setR hk16 x
        unfold MnB at hS
        rw [hN] at hS
        have HS := Lib.hid (And.intro (show MnB (w3.setCells g4 (k * 16) x.cs.toList) g4 (Mn.part len r (k + 1)) from hS) (And.intro (show MnB (w3.setCells g4 (k * 16) x.cs.toList) g2 (Mn.empty 0) from (heap_setCells_other _ _ _ _ _ HE.out.2.2).trans HP3.out.2.1) (below_setCells x.cs.toList (k * 16) w3 g4 HE.out.2.1 HP3.out.2.2)))
        clear hrt hN hS HP3
        go_upto_region 10 with (first | (refine wpList_load_row rfl 117 _ rfl _ rfl _ _ _ _ g7 Try.underlying117 rfl (by exact size_rl x) ?_; (try go_simp)) | (refine wpList_store_mid rfl 117 _ _ rfl g4 (k * 16) x.cs rfl rfl hth (size_rl x) (Rl.one _) ?_; go_simp))
        obtain ⟨w4, hw4⟩ : ∃ w4, w4 = w3.setCells g4 (k * 16) x.cs.toList := ⟨_, rfl⟩
        rw [← hw4] at HS ⊢
        clear hw4 hth g7
        go_wp2_with fail
        go_roundw
        case rel => exact ⟨k + 1, by omega, by go_num, HS.out.1, HS.out.2.1, HS.out.2.2, HALL2.out⟩
        case measure => simp [intOf]; omega
    · obtain rfl : k = len := by omega
      have HB := Lib.hid hb
      clear hb
      go_wp2_with (first | (refine wpList_load_row rfl 124 _ rfl _ rfl _ _ _ _ hp4 Try.underlying124 rfl (by exact size_mn _) ?_; (try go_simp)) | (refine wpList_store_row rfl 124 _ _ rfl _ (Mn.cs _) rfl rfl 124 _ hp2 (size_mn _) (by simp only [Mn.size]) (Mn.one _) ?_; (try go_simp)))
      refine bodyPost_ret (res_ct rfl _ _ _ _ (Mn.part k r k).cs _ rfl (setRow_heap _ _ _ _ _ _ hp2) Try.underlying124 rfl (size_mn _)) rfl ?_
      exact ⟨bel_row HB.out HE.out.1 _, .inl ⟨⟨h16, HALL.out⟩, rfl⟩⟩
theorem mNew (a : Option Addr) (len cap : Nat) (r : Nat → Rl) (w : World) (h : RuS w a len cap r) (hok : ∀ i, i < len → (r i).ok) : Calls Try.prog 54 #[.slice a len cap] w (NewPost w len r) := by
  by_cases h16 : len ≤ 16
  · exact mNew_16 a len cap r w h hok h16
  · exact mNew_bad a len cap r w h (by omega)
end Go.Proofs.Ytkgeeohgfbacaaa
