/- Layer 16: the law's rules. -/
import Derived.Test.YtkgeeohgfbacaaaLaw16g
import Derived.Test.YtkgeeohgfbacaaaKeep
namespace Go.Proofs.Ytkgeeohgfbacaaa
open Go.RowKit Go.Own
set_option linter.unusedVariables false
set_option linter.unusedSimpArgs false
theorem info_rule : (Try.prog.info? 117).map (fun i => (i.zero, i.size, i.bytes)) = some (some (.agg (#[.int .u8 0, .int .i64 0, .int .i32 0, .int .i32 0, .int .u32 0, .int .u32 0, .int .u8 0, .int .u8 0, .int .u8 0, .int .i64 0, .bool false] : Array Value)), 11, 56) := by kernel_rfl
theorem info_rref : (Try.prog.info? 209).map (fun i => (i.zero, i.size, i.bytes)) = some (some (.agg #[.int .u8 0, .int .i64 0, .int .i32 0, .int .i32 0, .int .u32 0, .int .u32 0, .int .i64 0, .bool false, .int .i64 0, .slice none 0 0, .int .i32 0, .bool false]), 12, 88) := by kernel_rfl
theorem lit_cells (w : World) (t : TypeId) (l : List Value) : ∀ (j : Nat) (u : Value), l[j]? = some u → (w.alloc (.cells l.toArray t)).cell? ((⟨w.heap.size, 0, none⟩ : Addr).add j) = some u := fun j u h => by
  rw [Addr.add_mid, Nat.zero_add]
  exact (cell_of_row _ _ j _ _ _ (heap_alloc_new w _)).trans (by rw [← h, ← Array.getElem?_toList])
def rll (l : List Rl) : List Value := l.flatMap fun r => r.cs.toList
theorem rll_snoc (l : List Rl) (r : Rl) : rll (l ++ [r]) = rll l ++ r.cs.toList := by simp [rll]
theorem rll_at : ∀ (l : List Rl) (i j : Nat) (v : Value), (h : i < l.length) → (l[i]).cs.toList[j]? = some v → (rll l)[i * 11 + j]? = some v
  | [], i, _, _, h, _ => absurd h (by simp)
  | r :: l, 0, j, v, h, hv => by
    have hj : j < r.cs.toList.length := (List.getElem?_eq_some_iff.1 hv).1
    show (r.cs.toList ++ rll l)[0 * 11 + j]? = some v
    rw [Nat.zero_mul, Nat.zero_add, List.getElem?_append_left hj]
    exact hv
  | r :: l, i + 1, j, v, h, hv => by
    have := rll_at l i j v (by simpa using h) (by simpa using hv)
    show (r.cs.toList ++ rll l)[(i + 1) * 11 + j]? = some v
    rw [List.getElem?_append_right (by show 11 ≤ _; omega), show (i + 1) * 11 + j - r.cs.toList.length = i * 11 + j from by show (i + 1) * 11 + j - 11 = _; omega]
    exact this
/-- An own row of rules is a slice of rules. -/
theorem rus_own {w : World} {base : Nat} {t : TypeId} {a : Option Addr} {m c : Nat} {l : List Rl} (h : w.ownsRow base t 11 (.slice a m c) l.length (rll l)) : m = l.length ∧ RuS w a m c (fun i => l.getD i Rl.z) := by
  obtain ⟨h1, ⟨h2, h3⟩ | ⟨g', cap, cur, hv, hb', hr, hle, hmx, hsz, ho⟩⟩ := h
  · simp only [Value.slice.injEq] at h2
    obtain ⟨rfl, rfl, rfl⟩ := h2
    exact ⟨h3.symm, Nat.le_refl _, by unfold maxLen; omega, fun h => absurd h (by omega)⟩
  · simp only [Value.slice.injEq] at hv
    obtain ⟨rfl, rfl, rfl⟩ := hv
    refine ⟨rfl, hle, hmx, fun _ => ⟨g', 0, rfl, (Array.getElem?_eq_some_iff.1 hr).1, fun i hi j v hj => ?_⟩⟩
    have hjl : j < 11 := by
      have := (List.getElem?_eq_some_iff.1 hj).1
      exact this
    have hg : l.getD i Rl.z = l[i] := by simp [List.getD, hi]
    rw [hg] at hj
    have h5 := rll_at l i j v hi hj
    rw [Nat.zero_add, cell_of_row w g' _ _ _ _ hr, ← Array.getElem?_toList]
    rw [← ho, List.getElem?_take] at h5
    split at h5
    · exact h5
    · cases h5
theorem own_formD {w : World} {base m : Nat} {e : TypeId} {size : Nat} {v : Value} {xs : List Value} (h : w.ownsRow base e size v m xs) : ∃ a c, v = .slice a m c := by
  obtain ⟨h1, ⟨h2, h3⟩ | ⟨g', cap, cur, hv, hb', hr, ho⟩⟩ := h
  · exact ⟨none, 0, by simp_all⟩
  · exact ⟨_, _, hv⟩
/-- What the law takes. -/
def RlPost (w : World) (e : Ending) (w' : World) : Prop :=
  ∃ a n cap r x, e = .returned (.tuple #[.slice a n cap, x]) ∧ RuS w' a n cap r ∧ n ≤ 16 ∧ (∀ i, i < n → (r i).ok ∧ (r i).right = true) ∧ Below w.heap.size w w'
set_option maxRecDepth 100000 in
set_option maxHeartbeats 8000000 in
theorem lRules (a : Option Addr) (len cap : Nat) (r : Nat → Rl) (w : World) (h : RuS w a len cap r) (hok : ∀ i, i < len → (r i).ok) : Calls Try.prog 53 #[.slice a len cap] w (RlPost w) := by
  obtain ⟨i0, hi, hz0, hz1, hz2⟩ := info_parts info_rule
  obtain ⟨i1, hj, hy0, hy1, hy2⟩ := info_parts info_rref
  have hle := h.le
  have htop := h.top
  unfold maxLen at htop
  have H := Lib.hid h
  have HOK := Lib.hid hok
  clear h hok
  go_enter Try.func53, Try.ntmps53
  go_wp2_with fail
  go_loopw [4, 5, 10] (fun u v i wr => ∃ (k : Nat) (L : List Rl) (M : List Value), k ≤ len ∧ i = .int .i64 (k : Nat) ∧ wr.ownsRow w.heap.size 117 11 u L.length (rll L) ∧ wr.ownsRow w.heap.size 209 12 v L.length M ∧ L.length ≤ 16 ∧ (∀ x, x ∈ L → x.ok ∧ x.right = true) ∧ Below w.heap.size w wr) (fun _ _ i _ => len - (intOf i).toNat)
  case atStart => exact ⟨0, [], [], Nat.zero_le _, rfl, ⟨rfl, .inl ⟨rfl, rfl⟩⟩, ⟨rfl, .inl ⟨rfl, rfl⟩⟩, by simp, fun x hx => absurd hx (by simp), Below.refl _ _⟩
  case round =>
    obtain ⟨k, L, M, hk, rfl, hO1, hO2, hL16, hall, hB⟩ := hrel
    by_cases hlt : k < len
    · obtain ⟨bb, off, rfl, hbb, hc⟩ := H.out.at_ (by omega)
      have hrg := rangeAt_below (hc k hlt) hB hbb
      have hxok := HOK.out k hlt
      obtain ⟨x, hx⟩ : ∃ x, x = r k := ⟨_, rfl⟩
      rw [← hx] at hrg hxok
      have HO1 := Lib.hid hO1
      have HO2 := Lib.hid hO2
      have HALL := Lib.hid hall
      have HX := Lib.hid hxok
      have HB := Lib.hid hB
      clear hc hx hB hxok hO1 hO2 hall
      go_upto_region 6 with (first | (refine wpList_load_mid rfl 117 _ rfl bb (off + k * 11) rfl x.cs.toList _ hrg Try.underlying117 rfl (size_rl x) ?_; rw [Array.toArray_toList]; go_simp) | (refine wpList_store_row rfl 117 _ _ rfl _ (Rl.cs _) rfl rfl 117 _ (heap_alloc_new wr (.cells (#[.int .u8 0, .int .i64 0, .int .i32 0, .int .i32 0, .int .u32 0, .int .u32 0, .int .u8 0, .int .u8 0, .int .u8 0, .int .i64 0, .bool false] : Array Value) 117)) (size_rl _) rfl (Rl.one _) ?_; rw [World.setRow_alloc_new]; (try go_simp)))
      have hal : Below wr.heap.size wr (wr.alloc (.cells x.cs 117)) := (Below.refl _ _).alloc (Nat.le_refl _) _
      have g6 := heap_alloc_new wr (.cells x.cs 117)
      have HB2 := Lib.hid (HB.out.trans (hal.mono HB.out.size))
      have HP1 := Lib.hid (own_keepC HO1.out hal)
      have HP2 := Lib.hid (own_keepC HO2.out hal)
      have hsz : w.heap.size ≤ wr.heap.size := HB.out.size
      have HNE := Lib.hid (show ∀ g, u4.ownBlock = some g → g < wr.heap.size from fun g hg => (HO1.out.lt g hg).2)
      have HNE5 := Lib.hid (show ∀ g, u5.ownBlock = some g → g < wr.heap.size from fun g hg => (HO2.out.lt g hg).2)
      obtain ⟨ua, uc, hu4⟩ := own_formD HO1.out
      subst hu4
      obtain ⟨f, hf⟩ : ∃ f, f = wr.heap.size := ⟨_, rfl⟩
      obtain ⟨w2, hw2⟩ : ∃ w2, w2 = wr.alloc (.cells x.cs 117) := ⟨_, rfl⟩
      have hfw : f < w2.heap.size := by rw [hw2, hf]; simp
      rw [← hw2] at g6 HB2 HP1 HP2
      rw [← hf] at g6 HNE HNE5 hsz
      rw [← hw2, ← hf]
      clear hw2 hf hal HB hrg HO1 HO2
      by_cases hl : L.length < 16
      · obtain ⟨t, ht⟩ : ∃ t, x.right = t := ⟨_, rfl⟩
        have hlI : ((L.length : Int) < 16) := by omega
        go_wp2_with (refine wpLoadWm (by (first | exact Go.Mix.wanted_none rfl | exact Go.Mix.wanted_tt rfl rfl rfl | exact Go.Mix.wanted_ff rfl rfl rfl)) 117 _ rfl _ rfl _ _ _ _ g6 Try.underlying117 rfl (size_rl _) ?_; (try go_simp))
        go_at_call 106
        refine (lRight x t _ HX.out ht).mono ?_
        rintro e w3 ⟨rfl, hb⟩
        have g7 := box_below g6 hb (box_lt g6)
        have HB3 := Lib.hid (HB2.out.trans (hb.mono HB2.out.size))
        have HP3 := Lib.hid (own_keepC HP1.out hb)
        have HP4 := Lib.hid (own_keepC HP2.out hb)
        have hfw3 := Nat.lt_of_lt_of_le hfw hb.size
        clear g6 hb HB2 HP1 HP2
        cases t
        · clear g7
          go_wp2_with fail
          go_roundw
          case rel => exact ⟨k + 1, L, M, by omega, by go_num, HP3.out, HP4.out, hL16, HALL.out, HB3.out⟩
          case measure => simp [intOf]; omega
        · have HT := Lib.hid ht
          clear ht
          have g7l : w3.heap[f]? = some (.cells #[.int .u8 x.d.k, .int .i64 x.d.p, .int .i32 x.d.l, .int .i32 x.d.h, .int .u32 ((x.d.m : Nat) : Int), .int .u32 ((x.d.n : Nat) : Int), .int .u8 x.rep, .int .u8 x.ev, .int .u8 x.lev, .int .i64 x.un, .bool x.en] 117 (0, 0)) := g7
          clear g7
          go_wp2_with (first | (refine wpList_load_row rfl 117 _ rfl _ rfl _ _ _ _ g7l Try.underlying117 rfl (by exact size_rl x) ?_; (try go_simp)) | (at_builtin; refine wpList_append_own _ rfl _ _ 109 rfl w.heap.size 117 i0 (.agg (#[.int .u8 0, .int .i64 0, .int .i32 0, .int .i32 0, .int .u32 0, .int .u32 0, .int .u8 0, .int .u8 0, .int .u8 0, .int .i64 0, .bool false] : Array Value)) 11 56 Try.underlying109 hi hz0 hz1 hz2 rfl (by decide) _ _ _ rfl (HP3.out.alloc _) ⟨w3.heap.size, 0, none⟩ 1 1 [.int .u8 x.d.k, .int .i64 x.d.p, .int .i32 x.d.l, .int .i32 x.d.h, .int .u32 ((x.d.m : Nat) : Int), .int .u32 ((x.d.n : Nat) : Int), .int .u8 x.rep, .int .u8 x.ev, .int .u8 x.lev, .int .i64 x.un, .bool x.en] rfl rfl (lit_cells _ _ _) (by simp [Value.oneCell']) (by unfold maxLen; omega) (by omega) (by have := HB3.out.size; simp; omega) ?_))
          intro v' w4 hown4 hgrow4 _
          have hwf : ∀ g, ua = some g → g.block ≠ f := fun g hg => by
            have := HNE.out g.block (by rw [hg]; rfl)
            omega
          have hal : Below w3.heap.size w3 (w3.alloc (.cells #[.int .u8 x.d.k, .int .i64 x.d.p, .int .i32 x.d.l, .int .i32 x.d.h, .int .u32 ((x.d.m : Nat) : Int), .int .u32 ((x.d.n : Nat) : Int), .int .u8 x.rep, .int .u8 x.ev, .int .u8 x.lev, .int .i64 x.un, .bool x.en] 117)) := (Below.refl _ _).alloc (Nat.le_refl _) _
          have hb4 : Below w.heap.size w3 w4 := ((Below.refl w.heap.size w3).alloc HB3.out.size _).grown hgrow4 (by have := HB3.out.size; simp; omega) (fun j hj => (HP3.out.lt j hj).1)
          have HB4 := Lib.hid (HB3.out.trans hb4)
          have HQ1 := Lib.hid (show w4.ownsRow w.heap.size 117 11 v' (L ++ [x]).length (rll (L ++ [x])) by rw [rll_snoc, List.length_append]; exact hown4)
          have HQ2 := Lib.hid ((HP4.out.alloc (.cells #[.int .u8 x.d.k, .int .i64 x.d.p, .int .i32 x.d.l, .int .i32 x.d.h, .int .u32 ((x.d.m : Nat) : Int), .int .u32 ((x.d.n : Nat) : Int), .int .u8 x.rep, .int .u8 x.ev, .int .u8 x.lev, .int .i64 x.un, .bool x.en] 117)).kept hgrow4 (own_apart (HP4.out.alloc (.cells #[.int .u8 x.d.k, .int .i64 x.d.p, .int .i32 x.d.l, .int .i32 x.d.h, .int .u32 ((x.d.m : Nat) : Int), .int .u32 ((x.d.n : Nat) : Int), .int .u8 x.rep, .int .u8 x.ev, .int .u8 x.lev, .int .i64 x.un, .bool x.en] 117)) (HP3.out.alloc (.cells #[.int .u8 x.d.k, .int .i64 x.d.p, .int .i32 x.d.l, .int .i32 x.d.h, .int .u32 ((x.d.m : Nat) : Int), .int .u32 ((x.d.n : Nat) : Int), .int .u8 x.rep, .int .u8 x.ev, .int .u8 x.lev, .int .i64 x.un, .bool x.en] 117)) (by decide)))
          have g8 : w4.heap[f]? = some (.cells #[.int .u8 x.d.k, .int .i64 x.d.p, .int .i32 x.d.l, .int .i32 x.d.h, .int .u32 ((x.d.m : Nat) : Int), .int .u32 ((x.d.n : Nat) : Int), .int .u8 x.rep, .int .u8 x.ev, .int .u8 x.lev, .int .i64 x.un, .bool x.en] 117 (0, 0)) := by
            rw [hgrow4.block f (by simp; omega) (by
              intro e
              have := HNE.out f e.symm
              omega)]
            exact (Below.heap_alloc w3 _ f hfw3).trans g7l
          clear hown4 hgrow4 hb4 hal g7l hwf HP3 HP4 HB3
          have a0 : _ = some (Value.int .u8 x.d.k) := cell_of_row _ _ 0 _ _ _ g8
          have a1 : _ = some (Value.int .i64 x.d.p) := cell_of_row _ _ 1 _ _ _ g8
          have a2 : _ = some (Value.int .i32 x.d.l) := cell_of_row _ _ 2 _ _ _ g8
          have a3 : _ = some (Value.int .i32 x.d.h) := cell_of_row _ _ 3 _ _ _ g8
          have a4 : _ = some (Value.int .u32 ((x.d.m : Nat) : Int)) := cell_of_row _ _ 4 _ _ _ g8
          have a5 : _ = some (Value.int .u32 ((x.d.n : Nat) : Int)) := cell_of_row _ _ 5 _ _ _ g8
          have a6 : _ = some (Value.int .u8 x.rep) := cell_of_row _ _ 6 _ _ _ g8
          have a10 : _ = some (Value.bool x.en) := cell_of_row _ _ 10 _ _ _ g8
          have hr0 := HX.out.rep0
          have hr1 := HX.out.rep1
          go_wp2_with (at_builtin; refine wpList_append_own _ rfl _ _ 111 rfl w.heap.size 209 i1 (.agg #[.int .u8 0, .int .i64 0, .int .i32 0, .int .i32 0, .int .u32 0, .int .u32 0, .int .i64 0, .bool false, .int .i64 0, .slice none 0 0, .int .i32 0, .bool false]) 12 88 Try.underlying111 hj hy0 hy1 hy2 rfl (by decide) _ _ _ rfl (HQ2.out.alloc _) ⟨w4.heap.size, 0, none⟩ 1 1 [.int .u8 x.d.k, .int .i64 x.d.p, .int .i32 x.d.l, .int .i32 x.d.h, .int .u32 ((x.d.m : Nat) : Int), .int .u32 ((x.d.n : Nat) : Int), .int .i64 x.rep, .bool x.en, .int .i64 0, .slice none 0 0, .int .i32 0, .bool false] rfl rfl (lit_cells _ _ _) (by simp [Value.oneCell']) (by unfold maxLen; omega) (by omega) (by have := HB4.out.size; simp; omega) ?_)
          intro v'' w5 hown5 hgrow5 _
          have hb5 : Below w.heap.size w4 w5 := ((Below.refl w.heap.size w4).alloc HB4.out.size _).grown hgrow5 (by have := HB4.out.size; simp; omega) (fun j hj => (HQ2.out.lt j hj).1)
          have HB5 := Lib.hid (HB4.out.trans hb5)
          have HR2 := Lib.hid (show w5.ownsRow w.heap.size 209 12 v'' (L ++ [x]).length _ by rw [List.length_append]; exact hown5)
          have HR1 := Lib.hid ((HQ1.out.alloc _).kept hgrow5 (own_apart HQ1.out HQ2.out (by decide)))
          have HLL := Lib.hid (show (L ++ [x]).length ≤ 16 ∧ ∀ y, y ∈ L ++ [x] → y.ok ∧ y.right = true from ⟨by simp; omega, fun y hy => by
            rcases List.mem_append.1 hy with h | h
            · exact HALL.out y h
            · rw [List.mem_singleton.1 h]; exact ⟨HX.out, HT.out⟩⟩)
          clear hown5 hgrow5 hb5 HQ1 HQ2 HB4 a0 a1 a2 a3 a4 a5 a6 a10 g8
          go_wp2_with fail
          go_roundw
          case rel => exact ⟨k + 1, L ++ [x], _, by omega, by go_num, HR1.out, HR2.out, HLL.out.1, HLL.out.2, HB5.out⟩
          case measure => simp [intOf]; omega
      · have hlI : (16 ≤ (L.length : Int)) := by omega
        clear g6
        go_wp2_with fail
        go_roundw
        case rel => exact ⟨k + 1, L, M, by omega, by go_num, HP1.out, HP2.out, hL16, HALL.out, HB2.out⟩
        case measure => simp [intOf]; omega
    · obtain rfl : k = len := by omega
      obtain ⟨ua, uc, hu4⟩ := own_formD hO1
      subst hu4
      obtain ⟨_, hru⟩ := rus_own hO1
      have HRU := Lib.hid hru
      have HALL := Lib.hid hall
      have HB := Lib.hid hB
      clear hO1 hO2 hru hall hB
      go_wp2
      go_ret2
      exact ⟨ua, L.length, uc, _, _, rfl, HRU.out, hL16, fun i hi => HALL.out _ (by rw [show L.getD i Rl.z = L[i] by simp [List.getD, hi]]; exact List.getElem_mem hi), HB.out⟩
end Go.Proofs.Ytkgeeohgfbacaaa
