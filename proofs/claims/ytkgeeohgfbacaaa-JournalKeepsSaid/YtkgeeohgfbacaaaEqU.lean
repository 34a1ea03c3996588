/- Layer 17: lists of entries that are alike; the last ones. -/
import Derived.Test.YtkgeeohgfbacaaaEqO
import Derived.Test.YtkgeeohgfbacaaaJoE
import Derived.BigQuiet
import Derived.Deep.CutBlock
import Derived.Deep.DeepCutAuto
namespace Go.Proofs.Ytkgeeohgfbacaaa.Je
open Go.RowKit Go.Own Go.Shelf
set_option linter.unusedVariables false
set_option linter.unusedSimpArgs false
/-- A slice of entries (of either type) below B. -/
structure RdF (B : Nat) (w : World) (a : Option Addr) (len cap : Nat) (zs : List En) : Prop where
  le : len ≤ cap
  top : cap ≤ maxLen
  at' : 0 < len → ∃ b off, a = some ⟨b, off, none⟩ ∧ b < B ∧ ∀ i, i < len → w.rangeAt b (off + i * 5) (zs.getD i en0).cs
theorem RdF.below {B : Nat} {w w' : World} {a : Option Addr} {len cap : Nat} {zs : List En} (h : RdF B w a len cap zs) (hb : Below B w w') : RdF B w' a len cap zs :=
  ⟨h.le, h.top, fun hi => by obtain ⟨b, o, e, h1, h2⟩ := h.at' hi; exact ⟨b, o, e, h1, fun i hi => range_block (h2 i hi) (hb.block b h1)⟩⟩
theorem RdF.mono {B B' : Nat} {w : World} {a : Option Addr} {len cap : Nat} {zs : List En} (h : RdF B w a len cap zs) (hb : B ≤ B') : RdF B' w a len cap zs :=
  ⟨h.le, h.top, fun hi => by obtain ⟨b, o, e, h1, h2⟩ := h.at' hi; exact ⟨b, o, e, by omega, h2⟩⟩
theorem RdF.grow {w w' : World} {a : Option Addr} {len cap : Nat} {zs : List En} (h : RdF w.heap.size w a len cap zs) (hb : Below w.heap.size w w') : RdF w'.heap.size w' a len cap zs := (h.below hb).mono hb.size
theorem rdf_of_own {w : World} {base m : Nat} {a : Option Addr} {c : Nat} {e : TypeId} {l : List En} (h : w.ownsRow base e 5 (.slice a m c) m (ql l)) (hl : l.length = m) : RdF w.heap.size w a m c l := by
  rcases h.2 with ⟨hv, hx⟩ | ⟨g, cap, cur, hv, hb, hg, hn, hm, hs, ht⟩
  · simp only [Value.slice.injEq] at hv
    obtain ⟨_, h1, h2⟩ := hv
    exact ⟨by omega, by unfold maxLen; omega, fun h => by omega⟩
  · simp only [Value.slice.injEq] at hv
    obtain ⟨rfl, _, rfl⟩ := hv
    refine ⟨hn, hm, fun h0 => ⟨g, 0, rfl, box_lt hg, fun i hi j v hv => ?_⟩⟩
    have hj : j < 5 := (List.getElem?_eq_some_iff.1 hv).1
    rw [Nat.zero_add, cell_of_row w g (i * 5 + j) _ _ _ hg]
    have e := ql_at l i (by omega) j hj
    rw [hv, ← ht, List.getElem?_take, if_pos (by omega)] at e
    simpa using e
set_option maxRecDepth 100000 in
set_option maxHeartbeats 2000000 in
theorem eSame (a b : Option Addr) (m ca cb B C : Nat) (l : List En) (w : World) (ra : RdF B w a m ca l) (rb : RdF C w b m cb l) :
    Calls Try.prog 62 #[.slice a m ca, .slice b m cb] w fun e w' => e = .returned (.bool true) ∧ Below w.heap.size w w' := by
  have h1 := ra.le
  have h2 := ra.top
  have h3 := rb.le
  have h4 := rb.top
  unfold maxLen at h2 h4
  go_enter Try.func62, Try.ntmps62
  go_wp2
  go_loopw [13] (fun i wr => ∃ k : Nat, k ≤ m ∧ i = .int .i64 k ∧ ∃ j, wr = w.drewN j) (fun i _ => m - (intOf i).toNat)
  case atStart => exact ⟨0, Nat.zero_le _, rfl, 0, rfl⟩
  case round =>
    obtain ⟨k, hk, rfl, j, rfl⟩ := hrel
    by_cases hlt : k < m
    · obtain ⟨ba, oa, rfl, _, hca⟩ := ra.at' (by omega)
      obtain ⟨bb, ob, rfl, _, hcb⟩ := rb.at' (by omega)
      have xa : (w.drewN j).rangeAt ba (oa + k * 5) _ := hca k hlt
      have xb : (w.drewN j).rangeAt bb (ob + k * 5) _ := hcb k hlt
      obtain ⟨x, hx⟩ : ∃ x, x = l.getD k en0 := ⟨_, rfl⟩
      rw [← hx] at xa xb
      have q0 := xa 0 _ rfl
      have q1 := xa 1 _ rfl
      have q2 := xa 2 _ rfl
      have q3 := xa 3 _ rfl
      have q4 := xa 4 _ rfl
      rw [Nat.add_zero] at q0
      have p0 := xb 0 _ rfl
      have p1 := xb 1 _ rfl
      have p2 := xb 2 _ rfl
      have p3 := xb 3 _ rfl
      have p4 := xb 4 _ rfl
      rw [Nat.add_zero] at p0
      have hne : ∀ w : World, (binOp .neq 142 (.agg #[.int .u32 (x.q : Nat), .int .u32 (x.t : Nat), .int .u8 (x.e : Nat), .int .u8 (x.g : Nat), .int .u32 (x.d : Nat)]) (.agg #[.int .u32 (x.q : Nat), .int .u32 (x.t : Nat), .int .u8 (x.e : Nat), .int .u8 (x.g : Nat), .int .u32 (x.d : Nat)])).run Try.prog w = .ok (.bool false) w := fun w => by rw [neqRe]; simp
      obtain ⟨wd, hwd⟩ : ∃ wd, wd = w.drewN j := ⟨_, rfl⟩
      rw [← hwd] at q0 q1 q2 q3 q4 p0 p1 p2 p3 p4 ⊢
      have HWD := Lib.hid hwd
      clear hwd xa xb hca hcb ra rb
      go_wp2
      go_quiet (fail)
      all_goals
        go_wp2
        go_roundw
        case rel => exact ⟨k + 1, by omega, by go_num, _, by rw [HWD.out]; exact World.drewN_drewN _ _ _⟩
        case measure => simp [intOf]; omega
    · obtain rfl : k = m := by omega
      go_wp2
      go_ret
      exact ⟨rfl, ⟨rfl, rfl, rfl, Nat.le_refl _, fun _ _ => rfl⟩⟩
/-- The last n. -/
theorem lastn_getD' {n : Nat} {M : List En} (h : n ≤ M.length) (i : Nat) : (lastn n M).getD i en0 = M.getD (M.length - n + i) en0 := by
  unfold lastn
  simp only [List.getD, List.getElem?_drop]
theorem RdF.last {B n : Nat} {w : World} {a : Option Addr} {m cap : Nat} {M : List En} (h : RdF B w a m cap M) (hm : M.length = m) (hn1 : 1 ≤ n) (hn : n < m) : RdF B w (a.map (·.add ((m - n) * 5))) n (cap - (m - n)) (lastn n M) := by
  have h1 := h.le
  refine ⟨by omega, Nat.le_trans (Nat.sub_le _ _) h.top, fun h0 => ?_⟩
  obtain ⟨b, o, rfl, hb, hx⟩ := h.at' (by omega)
  refine ⟨b, o + (m - n) * 5, by simp [Addr.add_mid], hb, fun i hi => ?_⟩
  have := hx (m - n + i) (by omega)
  rw [lastn_getD' (by omega), hm]
  rw [show o + (m - n) * 5 + i * 5 = o + (m - n + i) * 5 by omega]
  exact this
set_option maxRecDepth 100000 in
set_option maxHeartbeats 2000000 in
theorem rLast (a : Option Addr) (m cap B n : Nat) (M : List En) (w : World) (h : RdF B w a m cap M) (hm : M.length = m) (hn1 : 1 ≤ n) (hn2 : n ≤ 100) (hm2 : m ≤ 1000) :
    Calls Try.prog 64 #[.slice a m cap, .int .i64 (n : Nat)] w fun e w' => (∃ a' c', e = .returned (.slice a' (min n m) c') ∧ RdF B w a' (min n m) c' (lastn n M)) ∧ w = w' := by
  have h1 := h.le
  have h2 := h.top
  unfold maxLen at h2
  by_cases hlt : n < m
  · have hl := h.last hm hn1 hlt
    have hsl : ∀ w : World, (Instr.slice 137 (.slice a m cap) (some (.int .i64 ((m : Int) - (n : Int)))) none none).run Try.prog w = .ok (.slice (a.map (·.add ((m - n) * 5))) n (cap - (m - n))) w := by
      intro w
      rw [show (m : Int) - (n : Int) = ((m - n : Nat) : Int) by omega]
      rw [run_slice_l w 137 a m cap (by kernel_rfl) .i64 _ (by omega) (by omega)]
      have hz : (sizeOf (Try.prog.elem 137)).run Try.prog w = .ok 5 w := by kernel_rfl
      rw [hz]
      have hne : ¬ cap = m - n := by omega
      simp [sliced, Result.andThen, hne]
      omega
    have HL := Lib.hid hl
    have hmin : min n m = n := by omega
    rw [hmin]
    clear hl h
    go_enter Try.func64, Try.ntmps64
    go_wp2
    go_ret
    exact ⟨⟨_, _, rfl, HL.out⟩, rfl⟩
  · have hl : lastn n M = M := lastn_all (by omega)
    have hmin : min n m = m := by omega
    rw [hl, hmin]
    have HH := Lib.hid h
    clear h hl hmin
    go_enter Try.func64, Try.ntmps64
    go_wp2
    go_ret
    exact ⟨⟨_, _, rfl, HH.out⟩, rfl⟩
end Go.Proofs.Ytkgeeohgfbacaaa.Je
