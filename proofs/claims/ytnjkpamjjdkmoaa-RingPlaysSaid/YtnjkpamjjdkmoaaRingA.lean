/- Layer 3: all elements of a ring, one by one. -/
import Derived.RangeFuncNested
import Derived.RangeFuncBox
import Derived.RangeFuncBound
import Derived.RangeFuncCalls
import Derived.RangeFuncLeaves
import Derived.Shelf.Abstract
import Derived.Shelf.RegionOpen
import Derived.OwnWalkIn
import Derived.TacticsInMore
import Derived.LoopNIn
import Derived.LoopIn
import Derived.Test.YtnjkpamjjdkmoaaLaw03
namespace Go.Proofs.Ytnjkpamjjdkmoaa
open Go.RowKit Go.Own Go.Shelf
set_option linter.unusedVariables false
set_option linter.unusedSimpArgs false
attribute [local go_sem] Oper.semAt_some

/-- Each element with its place. -/
def placed (zs : List Int) (k : Nat) : List (Nat × Int) := (List.range k).map fun j => (j, zs.getD j 0)
theorem placed_succ (zs : List Int) (k : Nat) : placed zs (k + 1) = placed zs k ++ [(k, zs.getD k 0)] := by simp [placed, List.range_succ]
theorem placed_len (zs : List Int) (k : Nat) : (placed zs k).length = k := by simp [placed]
/-- The blocks from lo on, below hi, stay as they are. -/
def Mid (lo hi : Nat) (W W' : World) : Prop := ∀ k, lo ≤ k → k < hi → W'.heap[k]? = W.heap[k]?
theorem Mid.trans {lo hi : Nat} {A B C : World} (h : Mid lo hi A B) (k : Mid lo hi B C) : Mid lo hi A C := fun i h1 h2 => (k i h1 h2).trans (h i h1 h2)
set_option maxRecDepth 100000 in
set_option maxHeartbeats 2000000 in
theorem seq_in (F : Fence) (n : Nat) (hfn : F.fn 141) (hro : F.round = none) (hn : 1 ≤ n) (l Bs lo hi : Nat) (a : Option Addr) (len cap : Nat) (zs : List Int) (hlen : len ≤ 100000) (J Jx : List (Nat × Int) → World → Prop)
    (hY : ∀ pre x W, J pre W → pre.length < len → YieldAt F (n - 1) Try.prog l #[.int .i64 (x.1 : Nat), .int .i64 x.2] W fun e W' =>
      (e = .returned (.bool true) ∧ J (pre ++ [x]) W' ∧ Mid lo hi W W') ∨ (e = .returned (.bool false) ∧ Jx (pre ++ [x]) W'))
    (W : World) (hBs : W.cell? ⟨Bs, 0, none⟩ = some (.slice a len cap)) (hr : Rd hi W a len cap (iv zs)) (hlo : ∀ x, a = some x → lo ≤ x.block) (h0 : J [] W) :
    CallsIn F n Try.prog 141 #[.func (.yield l) #[] #[], .pointer (some ⟨Bs, 0, none⟩)] W fun e W' => (∃ v, e = .returned v) ∧
      ((∃ ys, ys = placed zs len ∧ J ys W') ∨ (∃ pre, (∃ k, k ≤ len ∧ pre = placed zs k) ∧ Jx pre W')) := by
  refine callsIn_of_wp Try.func141 rfl hfn ?_ hro
  simp only [Try.ntmps141, List.size_toArray, List.length_cons, List.length_nil, Nat.reduceAdd, Nat.reduceSub, Array.replicate_succ, Array.replicate_zero, List.push_toArray, List.append_toArray, List.nil_append, List.cons_append]
  gi_wp2
  gi_loopw [7] (fun i wr => ∃ k : Nat, k ≤ len ∧ i = .int .i64 k ∧ J (placed zs k) wr ∧ Mid lo hi W wr) (fun i _ => len - (intOf i).toNat)
  case atStart => exact ⟨0, Nat.zero_le _, rfl, h0, fun _ _ _ => rfl⟩
  case round =>
    obtain ⟨k, hk, rfl, hJs, hnx⟩ := hrel
    by_cases hlt : k < len
    · obtain ⟨b, off, rfl, hb, hc0⟩ := hr.at hlt
      have hcx := (World.cell?_of_block (a := ⟨b, off + k, none⟩) (hnx b (hlo _ rfl) hb)).trans hc0
      unfold iv at hcx
      clear hc0
      obtain ⟨x, hx⟩ : ∃ x, x = zs.getD k 0 := ⟨_, rfl⟩
      rw [← hx] at hcx
      have hps : placed zs (k + 1) = placed zs k ++ [(k, x)] := by rw [placed_succ, hx]
      obtain ⟨fn, tmps, assign, body, hy, hR⟩ := hY (placed zs k) (k, x) wr hJs (by rw [placed_len]; exact hlt)
      dsimp only at hy
      have HPS := Lib.hid hps
      clear hps hx
      gi_wp2
      refine hR.mono ?_
      rintro e W3 (⟨rfl, hJ3, hk3⟩ | ⟨rfl, hJx3⟩)
      · gi_wp2
        go_roundw
        case rel => exact ⟨k + 1, by omega, by simp, by rw [HPS.out]; exact hJ3, hnx.trans hk3⟩
        case measure => simp [intOf]; omega
      · gi_wp2
        refine bodyPost_ret (results_none rfl _ _ _) rfl ?_
        exact ⟨⟨_, rfl⟩, .inr ⟨_, ⟨k + 1, by omega, HPS.out.symm⟩, hJx3⟩⟩
    · obtain rfl : k = len := by omega
      gi_wp2
      go_end0
      exact ⟨⟨_, rfl⟩, .inl ⟨_, rfl, hJs⟩⟩
theorem seq_stops (F : Fence) (n : Nat) (hfn : F.fn 141) (hro : F.round = none) (hn : 1 ≤ n) (Bs lo hi : Nat) (a : Option Addr) (len cap : Nat) (zs : List Int) (hlen : len ≤ 100000) (w : World) (hBs : Bs < w.heap.size) (hhi : hi ≤ w.heap.size)
    (hc : w.cell? ⟨Bs, 0, none⟩ = some (.slice a len cap)) (hr : Rd hi w a len cap (iv zs)) (hlo : ∀ x, a = some x → lo ≤ x.block) :
    SeqStopsK F n Try.prog 141 #[.pointer (some ⟨Bs, 0, none⟩)] (fun x : Nat × Int => #[Value.int .i64 (x.1 : Nat), Value.int .i64 x.2]) (Mid lo hi) (fun ys => ys = placed zs len) (fun pre => ∃ k, k ≤ len ∧ pre = placed zs k) len w := fun l J Jx W hW _ _ hY h0 =>
  seq_in F n hfn hro hn l Bs lo hi a len cap zs hlen J Jx hY W ((hW.cell (p := ⟨Bs, 0, none⟩) hBs).trans hc) (hr.below (hW.mono hhi)) hlo h0

set_option maxHeartbeats 1000000 in
theorem sAll_any (a : Option Addr) (len cap : Nat) (w : World) : Calls Try.prog 132 #[.slice a len cap] w fun e w' => e = .returned (.func (.func 141) #[] #[.pointer (some ⟨w.heap.size, 0, none⟩)]) ∧ w' = w.alloc (.cells #[.slice a len cap] 38) := by
  go_enter Try.func132, Try.ntmps132
  go_wp2
  go_ret
  exact ⟨rfl, rfl⟩
set_option maxHeartbeats 1000000 in
theorem rAllF {w : World} {g b n l d : Nat} {L : List Int} (h : Ring w g b n L l d) : Calls Try.prog 96 #[.pointer (some ⟨g, 0, none⟩)] w fun e w' => ∃ B a c, e = .returned (.func (.func 141) #[] #[.pointer (some ⟨B, 0, none⟩)]) ∧ w'.cell? ⟨B, 0, none⟩ = some (.slice a L.length c) ∧ Rd w'.heap.size w' a L.length c (iv L) ∧ (∀ x, a = some x → w.heap.size ≤ x.block) ∧ w.heap.size ≤ B ∧ B < w'.heap.size ∧ Below w.heap.size w w' := by
  have H := Lib.hid h
  clear h
  go_enter Try.func96, Try.ntmps96
  go_wp2_with fail
  go_at_call 130
  refine (rList H.out).mono ?_
  rintro e w1 ⟨v, rfl, hown, hb⟩
  obtain ⟨a, c, rfl⟩ := own_form hown
  have hr := rd_of_own (f := iv L) hown (fun i hi => il_at L hi)
  have hlo : ∀ x, a = some x → w.heap.size ≤ x.block := fun x hx => (hown.lt x.block (by rw [hx]; rfl)).1
  have HR := Lib.hid hr
  have HLO := Lib.hid hlo
  have HB := Lib.hid hb
  clear hown hr hlo hb
  go_wp2_with fail
  go_at_call 132
  refine (sAll_any a L.length c w1).mono ?_
  rintro e w2 ⟨rfl, rfl⟩
  go_wp2
  go_ret
  have hal : Below w1.heap.size w1 (w1.alloc (.cells #[.slice a L.length c] 38)) := (Below.refl _ _).alloc (Nat.le_refl _) _
  exact ⟨_, _, _, rfl, box_cell (heap_alloc_new _ _), (HR.out.below hal).mono hal.size, HLO.out, HB.out.size, by simp, HB.out.trans (hal.mono HB.out.size)⟩
end Go.Proofs.Ytnjkpamjjdkmoaa
