/- Sets of units: all elements, one by one; collected. -/
import Derived.RangeFuncNested
import Derived.RangeFuncBox
import Derived.RangeFuncBound
import Derived.RangeFuncCalls
import Derived.RangeFuncLeaves
import Derived.Shelf.Abstract
import Derived.Shelf.AbstractIn
import Derived.Shelf.RegionOpen
import Derived.OwnWalkIn
import Derived.TacticsInMore
import Derived.LoopNIn
import Derived.LoopIn
import Derived.BigRegionIn
import Derived.Test.YtioclbkgfbjpdaaBs2
import Derived.Test.YtioclbkgfbjpdaaKeep
namespace Go.Proofs.Ytioclbkgfbjpdaa.Bs
open Go.RowKit Go.Own Go.Shelf
set_option linter.unusedVariables false
set_option linter.unusedSimpArgs false
attribute [local go_sem] Oper.semAt_some
/-- The elements below m. -/
def upTo (s m : Nat) : List Nat := (List.range m).filter (has s)
theorem upTo_len (s m : Nat) : (upTo s m).length ≤ m := by
  have := List.length_filter_le (has s) (List.range m)
  simpa [upTo] using this
theorem upTo_skip {s : Nat} {i j : Nat} (h : i ≤ j) (hno : ∀ k, i ≤ k → k < j → has s k = false) : upTo s j = upTo s i := by
  induction j with
  | zero => rw [show i = 0 by omega]
  | succ j ih =>
    by_cases e : i = j + 1
    · rw [e]
    · unfold upTo at *
      rw [List.range_succ, List.filter_append, ih (by omega) (fun k h1 h2 => hno k h1 (by omega))]
      simp [hno j (by omega) (by omega)]
theorem upTo_yes {s j : Nat} (h : has s j = true) : upTo s (j + 1) = upTo s j ++ [j] := by
  unfold upTo
  rw [List.range_succ, List.filter_append]
  simp [h]
/-- The blocks from lo on, below hi, stay as they are. -/
structure Mid (lo hi : Nat) (W W' : World) : Prop where
  same : ∀ k, lo ≤ k → k < hi → W'.heap[k]? = W.heap[k]?
  size : W.heap.size ≤ W'.heap.size
theorem Mid.trans {lo hi : Nat} {A B C : World} (h : Mid lo hi A B) (k : Mid lo hi B C) : Mid lo hi A C := ⟨fun i h1 h2 => (k.same i h1 h2).trans (h.same i h1 h2), Nat.le_trans h.size k.size⟩
theorem Mid.refl (lo hi : Nat) (A : World) : Mid lo hi A A := ⟨fun _ _ _ => rfl, Nat.le_refl _⟩
theorem Mid.below {lo hi : Nat} {W W' : World} (h : Below W.heap.size W W') (hh : hi ≤ W.heap.size) : Mid lo hi W W' := ⟨fun k _ h2 => h.block k (by omega), h.size⟩
theorem grown_below {W W' : World} (h : Below W.heap.size W W') : W.grownBy W' none := ⟨h.os, h.tape, h.output, h.size, fun k hk _ => h.block k hk⟩
set_option maxHeartbeats 1000000 in
theorem All_any (s : Nat) (w : World) : Calls Try.prog 91 #[.int .u16 s] w fun e w' => e = .returned (.func (.func 94) #[] #[.pointer (some ⟨w.heap.size, 0, none⟩)]) ∧ w' = w.alloc (.cells #[.int .u16 s] 61) := by
  go_enter Try.func91, Try.ntmps91
  go_wp2
  go_ret
  exact ⟨rfl, rfl⟩
set_option maxRecDepth 100000 in
set_option maxHeartbeats 2000000 in
theorem seq_in (n : Nat) (hn : 1 ≤ n) (l Bs : Nat) (s : Nat) (hs : s < 65536) (J Jx : List Nat → World → Prop)
    (hJ : ∀ pre W W', J pre W → Below W.heap.size W W' → J pre W')
    (hY : ∀ pre x W, J pre W → pre.length < 16 → YieldAt Fence.wide (n - 1) Try.prog l #[.int .i64 ((x : Nat) : Int)] W fun e W' =>
      (e = .returned (.bool true) ∧ J (pre ++ [x]) W' ∧ Mid Bs (Bs + 1) W W') ∨ (e = .returned (.bool false) ∧ Jx (pre ++ [x]) W'))
    (W : World) (hB : Bs < W.heap.size) (hBs : W.cell? ⟨Bs, 0, none⟩ = some (.int .u16 s)) (h0 : J [] W) :
    CallsIn Fence.wide n Try.prog 94 #[.func (.yield l) #[] #[], .pointer (some ⟨Bs, 0, none⟩)] W fun e W' => (∃ v, e = .returned v) ∧
      ((∃ ys, ys = upTo s 16 ∧ J ys W') ∨ (∃ pre, True ∧ Jx pre W')) := by
  refine callsIn_of_wp Try.func94 rfl trivial ?_ rfl
  simp only [Try.ntmps94, List.size_toArray, List.length_cons, List.length_nil, Nat.reduceAdd, Nat.reduceSub, Array.replicate_succ, Array.replicate_zero, List.push_toArray, List.append_toArray, List.nil_append, List.cons_append]
  have hf := First_any s W hs
  gi_wp2_with (refine ⟨trivial, ?_⟩; gi_at_call 95; refine (callsIn_wide.2 hf).mono ?_; rintro e W1 ⟨r, rfl, hr, hb⟩)
  have hJ1 := hJ _ _ _ h0 hb
  have hM1 : Mid Bs (Bs + 1) W W1 := Mid.below hb (by omega)
  clear hf h0 hb
  gi_loopw [3] (fun v wr => ∃ (m : Nat) (r : Int), m ≤ 16 ∧ v = .int .i64 r ∧ NextIs s m r ∧ J (upTo s m) wr ∧ Mid Bs (Bs + 1) W wr) (fun v _ => if intOf v = -1 then 0 else 17 - (intOf v).toNat)
  case atStart => exact ⟨0, r, Nat.zero_le _, rfl, hr, hJ1, hM1⟩
  case round =>
    clear hJ1 hM1 hr
    obtain ⟨m, q, hm, rfl, hq, hJs, hMs⟩ := hrel
    rcases hq with ⟨rfl, hno⟩ | ⟨j, rfl, hmj, hj16, hhas, hno⟩
    · have hys : upTo s 16 = upTo s m := upTo_skip hm (fun k h1 h2 => hno k h1 h2)
      rw [← hys] at hJs
      have HJS := Lib.hid hJs
      clear hys hno hJs
      gi_wp2
      go_end0
      exact ⟨⟨_, rfl⟩, .inl ⟨_, rfl, HJS.out⟩⟩
    · have hys : upTo s (j + 1) = upTo s m ++ [j] := by rw [upTo_yes hhas, upTo_skip hmj hno]
      have hlen := upTo_len s m
      have hcs : wr.cell? ⟨Bs, 0, none⟩ = some (.int .u16 s) := (World.cell?_of_block (a := ⟨Bs, 0, none⟩) (hMs.same Bs (Nat.le_refl _) (by omega))).trans hBs
      have hjn : ((j : Int) == -1) = false := by rw [beq_eq_false_iff_ne]; omega
      obtain ⟨fn, tmps, assign, body, hy, hR⟩ := hY (upTo s m) j wr hJs (by omega)
      (try dsimp only at hy)
      have HYS := Lib.hid hys
      have HMS := Lib.hid hMs
      clear hys hJs hno hhas hMs
      gi_wp2
      refine hR.mono ?_
      rintro e W3 (⟨rfl, hJ3, hk3⟩ | ⟨rfl, hJx3⟩)
      · have hM3 := HMS.out.trans hk3
        have hc3 : W3.cell? ⟨Bs, 0, none⟩ = some (.int .u16 s) := (World.cell?_of_block (a := ⟨Bs, 0, none⟩) (hM3.same Bs (Nat.le_refl _) (by omega))).trans hBs
        have hnx := Next_any s ((j : Int) + 1) W3 hs
        have HM3 := Lib.hid hM3
        have HJ3 := Lib.hid hJ3
        clear hM3 hJ3 hk3
        gi_wp2_with (refine ⟨trivial, ?_⟩; gi_at_call 96; refine (callsIn_wide.2 hnx).mono ?_; rintro e W4 ⟨r4, rfl, hr4, hb4⟩)
        rw [show (max ((j : Int) + 1) 0).toNat = j + 1 by omega] at hr4
        have hJ4 := hJ _ _ _ HJ3.out hb4
        rw [← HYS.out] at hJ4
        have hM4 := HM3.out.trans (Mid.below (lo := Bs) (hi := Bs + 1) hb4 (by have := HM3.out.size; omega))
        go_roundw
        case rel => exact ⟨j + 1, r4, by omega, rfl, hr4, hJ4, hM4⟩
        case measure =>
          rcases hr4 with ⟨rfl, _⟩ | ⟨j4, rfl, h1, h2, _⟩
          · simp [intOf]; omega
          · have h3 : ¬ ((j4 : Int) = -1) := by omega
            have h4 : ¬ ((j : Int) = -1) := by omega
            simp only [intOf, h3, h4, if_false, Int.toNat_natCast]
            omega
      · gi_wp2
        refine bodyPost_ret (results_none rfl _ _ _) rfl ?_
        exact ⟨⟨_, rfl⟩, .inr ⟨_, trivial, hJx3⟩⟩
theorem seq_stops (n : Nat) (hn : 1 ≤ n) (Bs : Nat) (s : Nat) (hs : s < 65536) (w : World) (hBs : Bs < w.heap.size) (hc : w.cell? ⟨Bs, 0, none⟩ = some (.int .u16 s)) :
    SeqStopsK Fence.wide n Try.prog 94 #[.pointer (some ⟨Bs, 0, none⟩)] (fun x : Nat => #[Value.int .i64 ((x : Nat) : Int)]) (Mid Bs (Bs + 1)) (fun ys => ys = upTo s 16) (fun _ => True) 16 w := fun l J Jx W hW hA _ hY h0 =>
  seq_in n hn l Bs s hs J Jx (fun pre W W' h hb => hA _ _ _ none h (grown_below hb) (fun r e => by cases e)) hY W (Nat.lt_of_lt_of_le hBs hW.size) ((hW.cell (p := ⟨Bs, 0, none⟩) hBs).trans hc) h0
theorem own_heapZ {w : World} {base e s n : Nat} {v : Value} {xs : List Value} (h : w.ownsRow base e s v n xs) {g : Nat} (hv : v.ownBlock = some g) : ∃ cur, w.heap[g]? = some (.cells cur e (0, 0)) := by
  rcases h.2 with ⟨h1, _⟩ | ⟨g', cap, cur, h1, _, hg, _⟩
  · rw [h1] at hv; simp [Value.ownBlock] at hv
  · rw [h1] at hv
    simp [Value.ownBlock] at hv
    subst hv
    exact ⟨cur, hg⟩
theorem own_formZ {w : World} {base n : Nat} {e : TypeId} {size : Nat} {v : Value} {xs : List Value} (h : w.ownsRow base e size v n xs) : ∃ a c, v = .slice a n c := by
  rcases h.2 with ⟨hv, hx⟩ | ⟨g, cap, cur, hv, _⟩
  · exact ⟨none, 0, by rw [hv, hx]⟩
  · exact ⟨_, _, hv⟩
theorem own_baseZ {w : World} {B B' : Nat} {e : TypeId} {s : Nat} {v : Value} {m : Nat} {xs : List Value} (h : w.ownsRow B' e s v m xs) (hB : B ≤ B') : w.ownsRow B e s v m xs := by
  obtain ⟨h1, h2 | ⟨g, cap, cur, hv, hg, hr⟩⟩ := h
  · exact ⟨h1, .inl h2⟩
  · exact ⟨h1, .inr ⟨g, cap, cur, hv, Nat.le_trans hB hg, hr⟩⟩
/-- The cells of a row of numbers. -/
def zl (l : List Nat) : List Value := l.map fun i => .int .i64 ((i : Nat) : Int)
theorem info_intZ : (Try.prog.info? 3).map (fun i => (i.zero, i.size, i.bytes)) = some (some (.int .i64 0), 1, 8) := by kernel_rfl
/-- Where a collecting stands. -/
structure Col (w : World) (B0 : Nat) (pre : List Nat) (W : World) : Prop where
  bo : ∃ v, W.heap[w.heap.size]? = some (.cells #[v] 89 (0, 0)) ∧ W.ownsRow B0 3 1 v pre.length (zl pre)
  be : Below w.heap.size w W
  sz : B0 ≤ W.heap.size
theorem Col.own {w : World} {B0 : Nat} (h3 : w.heap.size + 1 ≤ B0) : OwnFrom B0 (fun pre W => Col w B0 pre W) := by
  rintro pre W W' row ⟨⟨v, bo, ho⟩, be, sz⟩ hg hr
  have ne : ∀ (k : Nat) cs t, W.heap[k]? = some (.cells cs t (0, 0)) → some k ≠ row := by
    intro k cs t hk e
    obtain ⟨_, o, ho, hc⟩ := hr k e.symm
    rw [hk] at ho
    cases ho
    simp [Obj.isCells] at hc
  refine ⟨⟨v, box_kept bo hg (ne _ _ _ bo), ho.kept hg ?_⟩, be.grown hg be.size (fun k e => by have := (hr k e).1; omega), Nat.le_trans sz hg.size⟩
  cases hv : v.ownBlock with
  | none => exact .inl rfl
  | some g =>
    obtain ⟨cur, hc⟩ := own_heapZ ho hv
    exact .inr (ne _ _ _ hc)
/-- A round's writes. -/
theorem Col.next {w W w4 : World} {B0 Bs : Nat} {pre : List Nat} {x : Nat} {v v' : Value} {tmp : Obj} (h3 : w.heap.size + 1 ≤ B0) (hBs : Bs < w.heap.size)
    (h : Col w B0 pre W) (bo : W.heap[w.heap.size]? = some (.cells #[v] 89 (0, 0))) (ho : W.ownsRow B0 3 1 v pre.length (zl pre))
    (ho4 : w4.ownsRow B0 3 1 v' (pre.length + 1) (zl pre ++ [.int .i64 ((x : Nat) : Int)])) (hg : (W.alloc tmp).grownBy w4 v.ownBlock) :
    w4.heap[w.heap.size]? = some (.cells #[v] 89 (0, 0)) ∧ Col w B0 (pre ++ [x]) (w4.setCell ⟨w.heap.size, 0, none⟩ v') ∧ KeepsFrom B0 W (w4.setCell ⟨w.heap.size, 0, none⟩ v') ∧ Mid Bs (Bs + 1) W (w4.setCell ⟨w.heap.size, 0, none⟩ v') := by
  obtain ⟨_, be, sz⟩ := h
  have hvb : ∀ k, v.ownBlock = some k → B0 ≤ k := fun k hk => (ho.lt k hk).1
  have hvb' : ∀ k, v'.ownBlock = some k → B0 ≤ k := fun k hk => (ho4.lt k hk).1
  have eo : w4.heap[w.heap.size]? = some (.cells #[v] 89 (0, 0)) := box_kept (box_kept bo (World.grownBy_alloc _ tmp none) (by simp)) hg (fun e => by have := hvb _ e.symm; omega)
  have gs := grown_set w4 ⟨w.heap.size, 0, none⟩ v'
  have hsz : W.heap.size ≤ w4.heap.size := by have := hg.size; simp at this; omega
  have bel : Below w.heap.size w w4 := (be.alloc be.size tmp).grown hg (by simp; have := be.size; omega) (fun k e => by have := hvb k e; omega)
  refine ⟨eo, ⟨⟨v', box_set eo v', ?_⟩, bel.setCell (p := ⟨w.heap.size, 0, none⟩) (by simp) _, by simp; omega⟩, ?_, ?_, ?_⟩
  · rw [List.length_append, show zl (pre ++ [x]) = zl pre ++ [.int .i64 ((x : Nat) : Int)] by simp [zl]]
    exact ho4.kept gs (by
      cases hv : v'.ownBlock with
      | none => exact .inl rfl
      | some k => exact .inr (fun e => by have := hvb' k hv; injection e with e; simp at e; omega))
  · have k1 := KeepsOthers.alloc W tmp
    have k2 : KeepsOthers (W.alloc tmp) w4 := KeepsOthers.of_grownBy hg (fun j o hj hjo => by
      obtain ⟨cur, hc⟩ := own_heapZ (ho.alloc tmp) hj
      rw [hc] at hjo
      cases hjo
      rfl)
    exact ((k1.trans k2).trans (KeepsOthers.setCell w4 _ _)).from _
  · intro k h1 h2
    have e1 : (w4.setCell ⟨w.heap.size, 0, none⟩ v').heap[k]? = w4.heap[k]? := gs.block k (by omega) (by simp; omega)
    have e2 : w4.heap[k]? = _ := hg.block k (by simp; omega) (fun e => by have := hvb k e.symm; omega)
    rw [e1, e2, heap_alloc_old _ _ _ (by omega)]
  · simp; omega
theorem int_new (w : World) (x : Nat) : ∀ (i : Nat) (u : Value), [Value.int .i64 ((x : Nat) : Int)][i]? = some u → (w.alloc (.cells #[.int .i64 ((x : Nat) : Int)] 3)).cell? ((⟨w.heap.size, 0, none⟩ : Addr).add i) = some u := cell_one_new _ _ _
end Go.Proofs.Ytioclbkgfbjpdaa.Bs
