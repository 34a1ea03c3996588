/- Layer 3 (rings of entries): all elements, one by one. -/
import Derived.RangeFuncNested
import Derived.RangeFuncBox
import Derived.RangeFuncBound
import Derived.RangeFuncCalls
import Derived.RangeFuncLeaves
import Derived.Shelf.Abstract
import Derived.Shelf.AbstractIn
import Derived.Shelf.RegionOpen
import Derived.OwnWalkIn
import Derived.TacticsInMore
import Derived.LoopNIn
import Derived.LoopIn
import Derived.Test.YtkgeeohgfbacaaaEqN
namespace Go.Proofs.Ytkgeeohgfbacaaa.Je
open Go.RowKit Go.Own Go.Shelf
set_option linter.unusedVariables false
set_option linter.unusedSimpArgs false
attribute [local go_sem] Oper.semAt_some
/-- A slice of entries below B. -/
structure RdE (B : Nat) (w : World) (a : Option Addr) (len cap : Nat) (zs : List En) : Prop where
  le : len ≤ cap
  top : cap ≤ maxLen
  at' : ∀ {i : Nat}, i < len → ∃ b, a = some ⟨b, 0, none⟩ ∧ b < B ∧ w.rangeAt b (i * 5) (zs.getD i en0).cs
theorem RdE.below {B : Nat} {w w' : World} {a : Option Addr} {len cap : Nat} {zs : List En} (h : RdE B w a len cap zs) (hb : Below B w w') : RdE B w' a len cap zs :=
  ⟨h.le, h.top, fun hi => by obtain ⟨b, e, h1, h2⟩ := h.at' hi; exact ⟨b, e, h1, range_block h2 (hb.block b h1)⟩⟩
theorem RdE.mono {B B' : Nat} {w : World} {a : Option Addr} {len cap : Nat} {zs : List En} (h : RdE B w a len cap zs) (hb : B ≤ B') : RdE B' w a len cap zs :=
  ⟨h.le, h.top, fun hi => by obtain ⟨b, e, h1, h2⟩ := h.at' hi; exact ⟨b, e, by omega, h2⟩⟩
theorem rde_of_own {w : World} {base m : Nat} {a : Option Addr} {c : Nat} {l : List En} (h : w.ownsRow base 143 5 (.slice a m c) m (ql l)) (hl : l.length = m) : RdE w.heap.size w a m c l := by
  have hc : m ≤ c ∧ c ≤ maxLen := by
    rcases h.2 with ⟨hv, hx⟩ | ⟨g, cap, cur, hv, hb, hg, hn, hm, hs, ht⟩
    · simp only [Value.slice.injEq] at hv
      obtain ⟨_, h1, h2⟩ := hv
      exact ⟨by omega, by unfold maxLen; omega⟩
    · simp only [Value.slice.injEq] at hv
      obtain ⟨_, _, h2⟩ := hv
      exact ⟨by omega, by omega⟩
  exact ⟨hc.1, hc.2, fun hi => by obtain ⟨g, e, _, h1, h2⟩ := own_range h hl hi; exact ⟨g, e, h1, h2⟩⟩
/-- Each element with its place. -/
def placed (zs : List En) (k : Nat) : List (Nat × En) := (List.range k).map fun j => (j, zs.getD j en0)
theorem placed_succ (zs : List En) (k : Nat) : placed zs (k + 1) = placed zs k ++ [(k, zs.getD k en0)] := by simp [placed, List.range_succ]
theorem placed_len (zs : List En) (k : Nat) : (placed zs k).length = k := by simp [placed]
/-- The blocks from lo on, below hi, stay as they are. -/
structure Mid (lo hi : Nat) (W W' : World) : Prop where
  same : ∀ k, lo ≤ k → k < hi → W'.heap[k]? = W.heap[k]?
  size : W.heap.size ≤ W'.heap.size
theorem Mid.trans {lo hi : Nat} {A B C : World} (h : Mid lo hi A B) (k : Mid lo hi B C) : Mid lo hi A C := ⟨fun i h1 h2 => (k.same i h1 h2).trans (h.same i h1 h2), Nat.le_trans h.size k.size⟩
theorem Mid.refl (lo hi : Nat) (A : World) : Mid lo hi A A := ⟨fun _ _ _ => rfl, Nat.le_refl _⟩
theorem Mid.alloc {lo hi : Nat} {A : World} (o : Obj) (h : hi ≤ A.heap.size) : Mid lo hi A (A.alloc o) := ⟨fun k _ h2 => Below.heap_alloc _ _ _ (by omega), by simp⟩
set_option maxRecDepth 100000 in
set_option maxHeartbeats 2000000 in
theorem seq_in (F : Fence) (n : Nat) (hfn : F.fn 166) (hro : F.round = none) (hn : 1 ≤ n) (l Bs lo hi : Nat) (a : Option Addr) (len cap : Nat) (zs : List En) (hlen : len ≤ 100000) (J Jx : List (Nat × En) → World → Prop)
    (hJ : ∀ pre W o, J pre W → J pre (W.alloc o))
    (hY : ∀ pre x W, J pre W → pre.length < len → YieldAt F (n - 1) Try.prog l #[.int .i64 (x.1 : Nat), .agg #[.int .u32 (x.2.q : Nat), .int .u32 (x.2.t : Nat), .int .u8 (x.2.e : Nat), .int .u8 (x.2.g : Nat), .int .u32 (x.2.d : Nat)]] W fun e W' =>
      (e = .returned (.bool true) ∧ J (pre ++ [x]) W' ∧ Mid lo hi W W') ∨ (e = .returned (.bool false) ∧ Jx (pre ++ [x]) W'))
    (W : World) (hhi : hi ≤ W.heap.size) (hBs : W.cell? ⟨Bs, 0, none⟩ = some (.slice a len cap)) (hr : RdE hi W a len cap zs) (hlo : ∀ x, a = some x → lo ≤ x.block) (h0 : J [] W) :
    CallsIn F n Try.prog 166 #[.func (.yield l) #[] #[], .pointer (some ⟨Bs, 0, none⟩)] W fun e W' => (∃ v, e = .returned v) ∧
      ((∃ ys, ys = placed zs len ∧ J ys W') ∨ (∃ pre, (∃ k, k ≤ len ∧ pre = placed zs k) ∧ Jx pre W')) := by
  refine callsIn_of_wp Try.func166 rfl hfn ?_ hro
  simp only [Try.ntmps166, List.size_toArray, List.length_cons, List.length_nil, Nat.reduceAdd, Nat.reduceSub, Array.replicate_succ, Array.replicate_zero, List.push_toArray, List.append_toArray, List.nil_append, List.cons_append]
  gi_wp2
  gi_loopw [7] (fun i wr => ∃ k : Nat, k ≤ len ∧ i = .int .i64 k ∧ J (placed zs k) wr ∧ Mid lo hi W wr) (fun i _ => len - (intOf i).toNat)
  case atStart => exact ⟨0, Nat.zero_le _, rfl, h0, Mid.refl _ _ _⟩
  case round =>
    obtain ⟨k, hk, rfl, hJs, hnx⟩ := hrel
    by_cases hlt : k < len
    · obtain ⟨b, rfl, hb, hc0⟩ := hr.at' hlt
      have hcx := range_block hc0 (hnx.same b (hlo _ rfl) hb)
      clear hc0
      obtain ⟨x, hx⟩ : ∃ x, x = zs.getD k en0 := ⟨_, rfl⟩
      rw [← hx] at hcx
      have hps : placed zs (k + 1) = placed zs k ++ [(k, x)] := by rw [placed_succ, hx]
      have hJ4 := hJ _ _ (.cells #[.int .u32 (x.q : Nat), .int .u32 (x.t : Nat), .int .u8 (x.e : Nat), .int .u8 (x.g : Nat), .int .u32 (x.d : Nat)] 143) hJs
      have hM4 := hnx.trans (Mid.alloc (lo := lo) (.cells #[.int .u32 (x.q : Nat), .int .u32 (x.t : Nat), .int .u8 (x.e : Nat), .int .u8 (x.g : Nat), .int .u32 (x.d : Nat)] 143) (Nat.le_trans hhi hnx.size))
      obtain ⟨fn, tmps, assign, body, hy, hR⟩ := hY (placed zs k) (k, x) _ hJ4 (by rw [placed_len]; exact hlt)
      dsimp only at hy
      have q0 := hcx 0 _ rfl
      have q1 := hcx 1 _ rfl
      have q2 := hcx 2 _ rfl
      have q3 := hcx 3 _ rfl
      have q4 := hcx 4 _ rfl
      rw [Nat.add_zero] at q0
      have HPS := Lib.hid hps
      have HM4 := Lib.hid hM4
      clear hps hx hM4 hJ4 hcx
      gi_wp2
      refine hR.mono ?_
      rintro e W3 (⟨rfl, hJ3, hk3⟩ | ⟨rfl, hJx3⟩)
      · gi_wp2
        go_roundw
        case rel => exact ⟨k + 1, by omega, by simp, by rw [HPS.out]; exact hJ3, HM4.out.trans hk3⟩
        case measure => simp [intOf]; omega
      · gi_wp2
        refine bodyPost_ret (results_none rfl _ _ _) rfl ?_
        exact ⟨⟨_, rfl⟩, .inr ⟨_, ⟨k + 1, by omega, HPS.out.symm⟩, hJx3⟩⟩
    · obtain rfl : k = len := by omega
      gi_wp2
      go_end0
      exact ⟨⟨_, rfl⟩, .inl ⟨_, rfl, hJs⟩⟩
theorem seq_stops (F : Fence) (n : Nat) (hfn : F.fn 166) (hro : F.round = none) (hn : 1 ≤ n) (Bs lo hi : Nat) (a : Option Addr) (len cap : Nat) (zs : List En) (hlen : len ≤ 100000) (w : World) (hBs : Bs < w.heap.size) (hhi : hi ≤ w.heap.size)
    (hc : w.cell? ⟨Bs, 0, none⟩ = some (.slice a len cap)) (hr : RdE hi w a len cap zs) (hlo : ∀ x, a = some x → lo ≤ x.block) :
    SeqStopsK F n Try.prog 166 #[.pointer (some ⟨Bs, 0, none⟩)] (fun x : Nat × En => #[Value.int .i64 (x.1 : Nat), .agg #[.int .u32 (x.2.q : Nat), .int .u32 (x.2.t : Nat), .int .u8 (x.2.e : Nat), .int .u8 (x.2.g : Nat), .int .u32 (x.2.d : Nat)]]) (Mid lo hi) (fun ys => ys = placed zs len) (fun pre => ∃ k, k ≤ len ∧ pre = placed zs k) len w := fun l J Jx W hW hA _ hY h0 =>
  seq_in F n hfn hro hn l Bs lo hi a len cap zs hlen J Jx (fun pre W o h => hA _ _ _ none h (World.grownBy_alloc W o none) (fun r e => by cases e)) hY W (Nat.le_trans hhi hW.size) ((hW.cell (p := ⟨Bs, 0, none⟩) hBs).trans hc) (hr.below (hW.mono hhi)) hlo h0
set_option maxHeartbeats 1000000 in
theorem sAll_any (a : Option Addr) (len cap : Nat) (w : World) : Calls Try.prog 164 #[.slice a len cap] w fun e w' => e = .returned (.func (.func 166) #[] #[.pointer (some ⟨w.heap.size, 0, none⟩)]) ∧ w' = w.alloc (.cells #[.slice a len cap] 148) := by
  go_enter Try.func164, Try.ntmps164
  go_wp2
  go_ret
  exact ⟨rfl, rfl⟩
/-- What All hands back. -/
def AllPost (w : World) (L : List En) (e : Ending) (w' : World) : Prop := ∃ B a c, e = .returned (.func (.func 166) #[] #[.pointer (some ⟨B, 0, none⟩)]) ∧ w'.cell? ⟨B, 0, none⟩ = some (.slice a L.length c) ∧ RdE w'.heap.size w' a L.length c L ∧ (∀ x, a = some x → w.heap.size ≤ x.block) ∧ w.heap.size ≤ B ∧ B < w'.heap.size ∧ Below w.heap.size w w'
theorem own_form {w : World} {base n : Nat} {e : TypeId} {size : Nat} {v : Value} {xs : List Value} (h : w.ownsRow base e size v n xs) : ∃ a c, v = .slice a n c := by
  rcases h.2 with ⟨hv, hx⟩ | ⟨g, cap, cur, hv, _⟩
  · exact ⟨none, 0, by rw [hv, hx]⟩
  · exact ⟨_, _, hv⟩
set_option maxHeartbeats 1000000 in
theorem rAllP {w : World} {pt : Option Addr} {L : List En} (hF : Calls Try.prog 165 #[.pointer pt] w fun e w' => ∃ v, e = .returned v ∧ w'.ownsRow w.heap.size 143 5 v L.length (ql L) ∧ Below w.heap.size w w') : Calls Try.prog 154 #[.pointer pt] w (AllPost w L) := by
  have H := Lib.hid hF
  clear hF
  go_enter Try.func154, Try.ntmps154
  go_wp2_with fail
  go_at_call 165
  refine H.out.mono ?_
  rintro e w1 ⟨v, rfl, hown, hb⟩
  obtain ⟨a, c, rfl⟩ := own_form hown
  have hr := rde_of_own hown rfl
  have hlo : ∀ x, a = some x → w.heap.size ≤ x.block := fun x hx => (hown.lt x.block (by rw [hx]; rfl)).1
  have HR := Lib.hid hr
  have HLO := Lib.hid hlo
  have HB := Lib.hid hb
  clear hown hr hlo hb
  go_wp2_with fail
  go_at_call 164
  refine (sAll_any a L.length c w1).mono ?_
  rintro e w2 ⟨rfl, rfl⟩
  go_wp2
  go_ret
  have hal : Below w1.heap.size w1 (w1.alloc (.cells #[.slice a L.length c] 148)) := (Below.refl _ _).alloc (Nat.le_refl _) _
  exact ⟨_, _, _, rfl, box_cell (heap_alloc_new _ _), (HR.out.below hal).mono hal.size, HLO.out, HB.out.size, by simp, HB.out.trans (hal.mono HB.out.size)⟩
end Go.Proofs.Ytkgeeohgfbacaaa.Je
