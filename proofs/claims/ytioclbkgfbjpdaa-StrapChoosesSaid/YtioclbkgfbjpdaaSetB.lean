/- Sets of units: all elements, one by one, each below 16. -/
import Derived.Test.YtioclbkgfbjpdaaSetA
namespace Go.Proofs.Ytioclbkgfbjpdaa.Bs
open Go.RowKit Go.Own Go.Shelf
set_option linter.unusedVariables false
set_option linter.unusedSimpArgs false
attribute [local go_sem] Oper.semAt_some
set_option maxRecDepth 100000 in
set_option maxHeartbeats 2000000 in
theorem seq_inB (n : Nat) (hn : 1 ≤ n) (l Bs : Nat) (s : Nat) (hs : s < 65536) (J Jx : List Nat → World → Prop)
    (hJ : ∀ pre W W', J pre W → Below W.heap.size W W' → J pre W')
    (hY : ∀ pre x W, J pre W → pre.length < 16 → x < 16 → YieldAt Fence.wide (n - 1) Try.prog l #[.int .i64 ((x : Nat) : Int)] W fun e W' =>
      (e = .returned (.bool true) ∧ J (pre ++ [x]) W' ∧ Mid Bs (Bs + 1) W W') ∨ (e = .returned (.bool false) ∧ Jx (pre ++ [x]) W'))
    (W : World) (hB : Bs < W.heap.size) (hBs : W.cell? ⟨Bs, 0, none⟩ = some (.int .u16 s)) (h0 : J [] W) :
    CallsIn Fence.wide n Try.prog 94 #[.func (.yield l) #[] #[], .pointer (some ⟨Bs, 0, none⟩)] W fun e W' => (∃ v, e = .returned v) ∧
      ((∃ ys, ys = upTo s 16 ∧ J ys W') ∨ (∃ pre, True ∧ Jx pre W')) := by
  refine callsIn_of_wp Try.func94 rfl trivial ?_ rfl
  simp only [Try.ntmps94, List.size_toArray, List.length_cons, List.length_nil, Nat.reduceAdd, Nat.reduceSub, Array.replicate_succ, Array.replicate_zero, List.push_toArray, List.append_toArray, List.nil_append, List.cons_append]
  have hf := First_any s W hs
  gi_wp2_with (refine ⟨trivial, ?_⟩; gi_at_call 95; refine (callsIn_wide.2 hf).mono ?_; rintro e W1 ⟨r, rfl, hr, hb⟩)
  have hJ1 := hJ _ _ _ h0 hb
  have hM1 : Mid Bs (Bs + 1) W W1 := Mid.below hb (by omega)
  clear hf h0 hb
  gi_loopw [3] (fun v wr => ∃ (m : Nat) (r : Int), m ≤ 16 ∧ v = .int .i64 r ∧ NextIs s m r ∧ J (upTo s m) wr ∧ Mid Bs (Bs + 1) W wr) (fun v _ => if intOf v = -1 then 0 else 17 - (intOf v).toNat)
  case atStart => exact ⟨0, r, Nat.zero_le _, rfl, hr, hJ1, hM1⟩
  case round =>
    clear hJ1 hM1 hr
    obtain ⟨m, q, hm, rfl, hq, hJs, hMs⟩ := hrel
    rcases hq with ⟨rfl, hno⟩ | ⟨j, rfl, hmj, hj16, hhas, hno⟩
    · have hys : upTo s 16 = upTo s m := upTo_skip hm (fun k h1 h2 => hno k h1 h2)
      rw [← hys] at hJs
      have HJS := Lib.hid hJs
      clear hys hno hJs
      gi_wp2
      go_end0
      exact ⟨⟨_, rfl⟩, .inl ⟨_, rfl, HJS.out⟩⟩
    · have hys : upTo s (j + 1) = upTo s m ++ [j] := by rw [upTo_yes hhas, upTo_skip hmj hno]
      have hlen := upTo_len s m
      have hcs : wr.cell? ⟨Bs, 0, none⟩ = some (.int .u16 s) := (World.cell?_of_block (a := ⟨Bs, 0, none⟩) (hMs.same Bs (Nat.le_refl _) (by omega))).trans hBs
      have hjn : ((j : Int) == -1) = false := by rw [beq_eq_false_iff_ne]; omega
      obtain ⟨fn, tmps, assign, body, hy, hR⟩ := hY (upTo s m) j wr hJs (by omega) hj16
      (try dsimp only at hy)
      have HYS := Lib.hid hys
      have HMS := Lib.hid hMs
      clear hys hJs hno hhas hMs
      gi_wp2
      refine hR.mono ?_
      rintro e W3 (⟨rfl, hJ3, hk3⟩ | ⟨rfl, hJx3⟩)
      · have hM3 := HMS.out.trans hk3
        have hc3 : W3.cell? ⟨Bs, 0, none⟩ = some (.int .u16 s) := (World.cell?_of_block (a := ⟨Bs, 0, none⟩) (hM3.same Bs (Nat.le_refl _) (by omega))).trans hBs
        have hnx := Next_any s ((j : Int) + 1) W3 hs
        have HM3 := Lib.hid hM3
        have HJ3 := Lib.hid hJ3
        clear hM3 hJ3 hk3
        gi_wp2_with (refine ⟨trivial, ?_⟩; gi_at_call 96; refine (callsIn_wide.2 hnx).mono ?_; rintro e W4 ⟨r4, rfl, hr4, hb4⟩)
        rw [show (max ((j : Int) + 1) 0).toNat = j + 1 by omega] at hr4
        have hJ4 := hJ _ _ _ HJ3.out hb4
        rw [← HYS.out] at hJ4
        have hM4 := HM3.out.trans (Mid.below (lo := Bs) (hi := Bs + 1) hb4 (by have := HM3.out.size; omega))
        go_roundw
        case rel => exact ⟨j + 1, r4, by omega, rfl, hr4, hJ4, hM4⟩
        case measure =>
          rcases hr4 with ⟨rfl, _⟩ | ⟨j4, rfl, h1, h2, _⟩
          · simp [intOf]; omega
          · have h3 : ¬ ((j4 : Int) = -1) := by omega
            have h4 : ¬ ((j : Int) = -1) := by omega
            simp only [intOf, h3, h4, if_false, Int.toNat_natCast]
            omega
      · gi_wp2
        refine bodyPost_ret (results_none rfl _ _ _) rfl ?_
        exact ⟨⟨_, rfl⟩, .inr ⟨_, trivial, hJx3⟩⟩
/-- A list of units. -/
def vals (l : List (Fin 16)) : List Nat := l.map (·.val)
theorem seq_stopsB (n : Nat) (hn : 1 ≤ n) (Bs : Nat) (s : Nat) (hs : s < 65536) (w : World) (hBs : Bs < w.heap.size) (hc : w.cell? ⟨Bs, 0, none⟩ = some (.int .u16 s)) :
    SeqStopsK Fence.wide n Try.prog 94 #[.pointer (some ⟨Bs, 0, none⟩)] (fun x : Fin 16 => #[Value.int .i64 ((x.val : Nat) : Int)]) (Mid Bs (Bs + 1)) (fun ys => vals ys = upTo s 16) (fun _ => True) 16 w := fun l J Jx W hW hA hA2 hY h0 => by
  have h := seq_inB n hn l Bs s hs (fun pre W => ∃ p : List (Fin 16), vals p = pre ∧ J p W) (fun pre W => ∃ p : List (Fin 16), vals p = pre ∧ Jx p W)
    (fun pre W W' ⟨p, hp, h⟩ hb => ⟨p, hp, hA _ _ _ none h (grown_below hb) (fun r e => by cases e)⟩)
    (fun pre x W ⟨p, hp, h⟩ hl hx => by
      have hy := hY p ⟨x, hx⟩ W h (by rw [← hp] at hl; simpa [vals] using hl)
      obtain ⟨fn, tmps, assign, body, hyy, hR⟩ := hy
      refine ⟨fn, tmps, assign, body, hyy, hR.mono ?_⟩
      rintro e W' (⟨rfl, h1, h2⟩ | ⟨rfl, h1⟩)
      · exact .inl ⟨rfl, ⟨p ++ [⟨x, hx⟩], by rw [← hp]; simp [vals], h1⟩, h2⟩
      · exact .inr ⟨rfl, ⟨p ++ [⟨x, hx⟩], by rw [← hp]; simp [vals], h1⟩⟩)
    W (Nat.lt_of_lt_of_le hBs hW.size) ((hW.cell (p := ⟨Bs, 0, none⟩) hBs).trans hc) ⟨[], rfl, h0⟩
  refine h.mono ?_
  rintro e W' ⟨hv, ⟨ys, hys, p, hp, hJ⟩ | ⟨pre, _, p, hp, hJ⟩⟩
  · exact ⟨hv, .inl ⟨p, (by show vals p = _; rw [hp, hys]), hJ⟩⟩
  · exact ⟨hv, .inr ⟨p, trivial, hJ⟩⟩
end Go.Proofs.Ytioclbkgfbjpdaa.Bs
