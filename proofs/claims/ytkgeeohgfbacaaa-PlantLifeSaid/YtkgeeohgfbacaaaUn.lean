/- Units: the contracts of layer 13 and of the document's own answers. -/
import Derived.Test.YtkgeeohgfbacaaaChecked
import Derived.WalkKit
import Derived.WalkSpells
import Derived.Outline
import Derived.Lib.Hide
import Derived.OpenShut
import Derived.Below
import Derived.Handy
import Derived.Test.YtkgeeohgfbacaaaKeep
import Derived.Test.YtkgeeohgfbacaaaFrame
import Derived.RegionTactic
import Derived.Deep.RegionWith
import Derived.BigQuiet
import Derived.Deep.QuietTactic
import Derived.OwnWalk
import Derived.LoopTactic
import Derived.ChangeAlike
import Derived.Test.YtkgeeohgfbacaaaMix
import Derived.Test.YtkgeeohgfbacaaaFlo2
import Derived.Test.YtkgeeohgfbacaaaRes
namespace Go.Proofs.Ytkgeeohgfbacaaa
open Go.RowKit Go.Own
set_option linter.unusedVariables false
set_option linter.unusedSimpArgs false
/-- A unit: its state, Left, Bad. -/
structure Un where
  s : Int
  l : Int
  b : Int
def Un.tidy (u : Un) : Un := ⟨u.s, if u.s = 1 then u.l else 0, if u.s = 2 then u.b else 0⟩
def uOff : Un := ⟨0, 0, 0⟩
/-- What an order makes of it; is a command issued? -/
def uOrd (u : Un) (on : Bool) (wait : Int) : Un := if on = true then (if u.s = 0 ∨ u.s = 3 then ⟨1, wait, 0⟩ else u.tidy) else uOff
def uCmd (u : Un) (on : Bool) : Bool := if on = true then decide (u.s ≠ 1) && decide (u.s ≠ 2) else decide (u.s ≠ 0)
/-- What a cycle makes of it; what it has become. -/
def uStep (u : Un) (ack well : Bool) (tol : Int) : Un :=
  if u.s = 1 then (if ack = true then ⟨2, 0, 0⟩ else if u.l = 0 then ⟨3, 0, 0⟩ else ⟨1, u.l - 1, 0⟩)
  else if u.s = 2 then (if (ack && well) = true then ⟨2, 0, 0⟩ else if tol ≤ u.b then ⟨3, 0, 0⟩ else ⟨2, 0, u.b + 1⟩)
  else u.tidy
def uBec (u : Un) (ack well : Bool) (tol : Int) : Int :=
  if u.s = 1 then (if ack = true then 1 else if u.l = 0 then 2 else 0)
  else if u.s = 2 then (if (ack && well) = true then 0 else if tol ≤ u.b then 2 else 0)
  else 0
theorem ne_b {a b : Int} (h : a ≠ b) : (a == b) = false ∧ (a != b) = true := by simp [h]
theorem Un.tidy_eq (s l b : Int) : Un.tidy ⟨s, l, b⟩ = ⟨s, if s = 1 then l else 0, if s = 2 then b else 0⟩ := rfl
set_option maxRecDepth 100000 in
set_option maxHeartbeats 1000000 in
theorem tidy_at (s l b l' b' : Int) (w : World) (hl : (if s = 1 then l else 0) = l') (hb : (if s = 2 then b else 0) = b') : Calls Try.prog 138 #[.agg #[.int .u8 s, .int .u8 l, .int .u8 b]] w fun e w' => e = .returned (.agg #[.int .u8 s, .int .u8 l', .int .u8 b']) ∧ Below w.heap.size w w' := by
  by_cases h1 : s = 1
  · subst h1
    rw [if_pos rfl] at hl
    rw [if_neg (by decide)] at hb
    subst hl hb
    go_enter Try.func138, Try.ntmps138
    go_wp2
    exact bodyPost_ret (v := .agg #[.int .u8 1, .int .u8 l, .int .u8 0]) (by simp [results, Try.results138, go_sem]) rfl ⟨rfl, by repeat' (first | (with_reducible exact Below.refl _ _) | (with_reducible assumption) | (with_reducible refine Below.setCell ?_ ?_ _) | (with_reducible refine Below.alloc ?_ ?_ _) | (with_reducible refine Below.drew ?_) | (with_reducible refine Below.drawsN ?_ _) | go_size)⟩
  by_cases h2 : s = 2
  · subst h2
    rw [if_pos rfl] at hb
    rw [if_neg (by decide)] at hl
    subst hl hb
    go_enter Try.func138, Try.ntmps138
    go_wp2
    exact bodyPost_ret (v := .agg #[.int .u8 2, .int .u8 0, .int .u8 b]) (by simp [results, Try.results138, go_sem]) rfl ⟨rfl, by repeat' (first | (with_reducible exact Below.refl _ _) | (with_reducible assumption) | (with_reducible refine Below.setCell ?_ ?_ _) | (with_reducible refine Below.alloc ?_ ?_ _) | (with_reducible refine Below.drew ?_) | (with_reducible refine Below.drawsN ?_ _) | go_size)⟩
  · obtain ⟨a1, a2⟩ := ne_b h1
    obtain ⟨a3, a4⟩ := ne_b h2
    rw [if_neg h1] at hl
    rw [if_neg h2] at hb
    subst hl hb
    clear h1 h2
    go_enter Try.func138, Try.ntmps138
    go_wp2
    exact bodyPost_ret (v := .agg #[.int .u8 s, .int .u8 0, .int .u8 0]) (by simp [results, Try.results138, go_sem]) rfl ⟨rfl, by repeat' (first | (with_reducible exact Below.refl _ _) | (with_reducible assumption) | (with_reducible refine Below.setCell ?_ ?_ _) | (with_reducible refine Below.alloc ?_ ?_ _) | (with_reducible refine Below.drew ?_) | (with_reducible refine Below.drawsN ?_ _) | go_size)⟩
set_option maxRecDepth 100000 in
set_option maxHeartbeats 1000000 in
theorem Powered_at (s l b : Int) (t : Bool) (w : World) (ht : (decide (s = 1) || decide (s = 2)) = t) : Calls Try.prog 97 #[.agg #[.int .u8 s, .int .u8 l, .int .u8 b]] w fun e w' => e = .returned (.bool t) ∧ Below w.heap.size w w' := by
  by_cases h1 : s = 1
  · subst h1
    obtain rfl : true = t := ht
    go_enter Try.func97, Try.ntmps97
    go_wp2
    go_ret
    exact ⟨rfl, by repeat' (first | (with_reducible exact Below.refl _ _) | (with_reducible assumption) | (with_reducible refine Below.setCell ?_ ?_ _) | (with_reducible refine Below.alloc ?_ ?_ _) | (with_reducible refine Below.drew ?_) | (with_reducible refine Below.drawsN ?_ _) | go_size)⟩
  by_cases h2 : s = 2
  · subst h2
    obtain rfl : true = t := ht
    go_enter Try.func97, Try.ntmps97
    go_wp2
    go_ret
    exact ⟨rfl, by repeat' (first | (with_reducible exact Below.refl _ _) | (with_reducible assumption) | (with_reducible refine Below.setCell ?_ ?_ _) | (with_reducible refine Below.alloc ?_ ?_ _) | (with_reducible refine Below.drew ?_) | (with_reducible refine Below.drawsN ?_ _) | go_size)⟩
  · obtain ⟨a1, a2⟩ := ne_b h1
    obtain ⟨a3, a4⟩ := ne_b h2
    obtain rfl : false = t := by rw [← ht]; simp [h1, h2]
    clear h1 h2 ht
    go_enter Try.func97, Try.ntmps97
    go_wp2
    go_ret
    exact ⟨rfl, by repeat' (first | (with_reducible exact Below.refl _ _) | (with_reducible assumption) | (with_reducible refine Below.setCell ?_ ?_ _) | (with_reducible refine Below.alloc ?_ ?_ _) | (with_reducible refine Below.drew ?_) | (with_reducible refine Below.drawsN ?_ _) | go_size)⟩
set_option maxRecDepth 100000 in
set_option maxHeartbeats 1000000 in
theorem Works_at (s l b : Int) (w : World) : Calls Try.prog 98 #[.agg #[.int .u8 s, .int .u8 l, .int .u8 b]] w fun e w' => e = .returned (.bool (s == 2)) ∧ Below w.heap.size w w' := by
  go_enter Try.func98, Try.ntmps98
  go_wp2
  go_ret
  exact ⟨rfl, by repeat' (first | (with_reducible exact Below.refl _ _) | (with_reducible assumption) | (with_reducible refine Below.setCell ?_ ?_ _) | (with_reducible refine Below.alloc ?_ ?_ _) | (with_reducible refine Below.drew ?_) | (with_reducible refine Below.drawsN ?_ _) | go_size)⟩
/-- The facts on a state that is not 0, 1, 2, 3. -/
theorem st_ne {s k : Int} (h : s ≠ k) : (s == k) = false ∧ (s != k) = true := ne_b h
set_option maxRecDepth 100000 in
set_option maxHeartbeats 1000000 in
theorem start_at (s l b : Int) (ack : Bool) (w : World) (l0 : 0 ≤ l) (l1 : l ≤ 255) : Calls Try.prog 140 #[.agg #[.int .u8 s, .int .u8 l, .int .u8 b], .bool ack] w fun e w' => (e = .returned (if ack = true then .tuple #[.agg #[.int .u8 2, .int .u8 0, .int .u8 0], .int .u8 1] else if l = 0 then .tuple #[.agg #[.int .u8 3, .int .u8 0, .int .u8 0], .int .u8 2] else .tuple #[.agg #[.int .u8 1, .int .u8 (l-1), .int .u8 0], .int .u8 0])) ∧ Below w.heap.size w w' := by
  cases ack
  · rw [if_neg (by decide)]
    by_cases h : l = 0
    · subst h
      rw [if_pos rfl]
      go_enter Try.func140, Try.ntmps140
      go_wp2
      exact bodyPost_ret (v := .tuple #[.agg #[.int .u8 3, .int .u8 0, .int .u8 0], .int .u8 2]) (by simp [results, Try.results140, go_sem]) rfl ⟨rfl, by repeat' (first | (with_reducible exact Below.refl _ _) | (with_reducible assumption) | (with_reducible refine Below.setCell ?_ ?_ _) | (with_reducible refine Below.alloc ?_ ?_ _) | (with_reducible refine Below.drew ?_) | (with_reducible refine Below.drawsN ?_ _) | go_size)⟩
    · obtain ⟨a1, a2⟩ := ne_b h
      rw [if_neg h]
      have : 1 ≤ l := by omega
      clear h
      go_enter Try.func140, Try.ntmps140
      go_wp2
      exact bodyPost_ret (v := .tuple #[.agg #[.int .u8 1, .int .u8 (l-1), .int .u8 0], .int .u8 0]) (by simp [results, Try.results140, go_sem]) rfl ⟨rfl, by repeat' (first | (with_reducible exact Below.refl _ _) | (with_reducible assumption) | (with_reducible refine Below.setCell ?_ ?_ _) | (with_reducible refine Below.alloc ?_ ?_ _) | (with_reducible refine Below.drew ?_) | (with_reducible refine Below.drawsN ?_ _) | go_size)⟩
  · rw [if_pos rfl]
    go_enter Try.func140, Try.ntmps140
    go_wp2
    exact bodyPost_ret (v := .tuple #[.agg #[.int .u8 2, .int .u8 0, .int .u8 0], .int .u8 1]) (by simp [results, Try.results140, go_sem]) rfl ⟨rfl, by repeat' (first | (with_reducible exact Below.refl _ _) | (with_reducible assumption) | (with_reducible refine Below.setCell ?_ ?_ _) | (with_reducible refine Below.alloc ?_ ?_ _) | (with_reducible refine Below.drew ?_) | (with_reducible refine Below.drawsN ?_ _) | go_size)⟩
set_option maxRecDepth 100000 in
set_option maxHeartbeats 1000000 in
theorem run_at (s l b : Int) (well : Bool) (wt tol : Int) (w : World) (b0 : 0 ≤ b) (b1 : b ≤ 255) (t1 : tol ≤ 255) : Calls Try.prog 141 #[.agg #[.int .u8 s, .int .u8 l, .int .u8 b], .bool well, .agg #[.int .u8 wt, .int .u8 tol]] w fun e w' => (e = .returned (if well = true then .tuple #[.agg #[.int .u8 2, .int .u8 0, .int .u8 0], .int .u8 0] else if tol ≤ b then .tuple #[.agg #[.int .u8 3, .int .u8 0, .int .u8 0], .int .u8 2] else .tuple #[.agg #[.int .u8 2, .int .u8 0, .int .u8 (b+1)], .int .u8 0])) ∧ Below w.heap.size w w' := by
  cases well
  · rw [if_neg (by decide)]
    by_cases h : tol ≤ b
    · rw [if_pos h]
      go_enter Try.func141, Try.ntmps141
      go_wp2
      exact bodyPost_ret (v := .tuple #[.agg #[.int .u8 3, .int .u8 0, .int .u8 0], .int .u8 2]) (by simp [results, Try.results141, go_sem]) rfl ⟨rfl, by repeat' (first | (with_reducible exact Below.refl _ _) | (with_reducible assumption) | (with_reducible refine Below.setCell ?_ ?_ _) | (with_reducible refine Below.alloc ?_ ?_ _) | (with_reducible refine Below.drew ?_) | (with_reducible refine Below.drawsN ?_ _) | go_size)⟩
    · rw [if_neg h]
      have : b < tol := by omega
      have : b + 1 ≤ 255 := by omega
      go_enter Try.func141, Try.ntmps141
      go_wp2
      exact bodyPost_ret (v := .tuple #[.agg #[.int .u8 2, .int .u8 0, .int .u8 (b+1)], .int .u8 0]) (by simp [results, Try.results141, go_sem]) rfl ⟨rfl, by repeat' (first | (with_reducible exact Below.refl _ _) | (with_reducible assumption) | (with_reducible refine Below.setCell ?_ ?_ _) | (with_reducible refine Below.alloc ?_ ?_ _) | (with_reducible refine Below.drew ?_) | (with_reducible refine Below.drawsN ?_ _) | go_size)⟩
  · rw [if_pos rfl]
    go_enter Try.func141, Try.ntmps141
    go_wp2
    exact bodyPost_ret (v := .tuple #[.agg #[.int .u8 2, .int .u8 0, .int .u8 0], .int .u8 0]) (by simp [results, Try.results141, go_sem]) rfl ⟨rfl, by repeat' (first | (with_reducible exact Below.refl _ _) | (with_reducible assumption) | (with_reducible refine Below.setCell ?_ ?_ _) | (with_reducible refine Below.alloc ?_ ?_ _) | (with_reducible refine Below.drew ?_) | (with_reducible refine Below.drawsN ?_ _) | go_size)⟩
theorem bcell {W w1 : World} (hb : Below W.heap.size W w1) : (∀ b o, b < W.heap.size → w1.cell? ⟨b, o, none⟩ = W.cell? ⟨b, o, none⟩) ∧ (∀ b o, b < W.heap.size → w1.frozen? ⟨b, o, none⟩ = W.frozen? ⟨b, o, none⟩) :=
  ⟨fun b o h => hb.cell (p := ⟨b, o, none⟩) h, fun b o h => hb.frozen (p := ⟨b, o, none⟩) h⟩
theorem size_un : (Try.prog.info? 88).map (·.size) = some 3 := by kernel_rfl
set_option maxRecDepth 100000 in
set_option maxHeartbeats 2000000 in
theorem OrderOff_at (s l b wt tol : Int) (w : World) : Calls Try.prog 94 #[.agg #[.int .u8 s, .int .u8 l, .int .u8 b], .bool false, .agg #[.int .u8 wt, .int .u8 tol]] w fun e w' => e = .returned (.tuple #[.agg #[.int .u8 0, .int .u8 0, .int .u8 0], .bool (s != 0)]) ∧ Below w.heap.size w w' := by
  go_enter Try.func94, Try.ntmps94
  go_wp2
  go_region
  all_goals
    go_wp2
    exact bodyPost_ret (v := .tuple #[.agg #[.int .u8 0, .int .u8 0, .int .u8 0], .bool (s != 0)]) (by simp [results, Try.results94, go_sem]) rfl ⟨rfl, by repeat' (first | (with_reducible exact Below.refl _ _) | (with_reducible assumption) | (with_reducible refine Below.setCell ?_ ?_ _) | (with_reducible refine Below.alloc ?_ ?_ _) | (with_reducible refine Below.drew ?_) | (with_reducible refine Below.drawsN ?_ _) | go_size)⟩
set_option maxRecDepth 100000 in
set_option maxHeartbeats 2000000 in
theorem OrderOn_at (s l b wt tol l' b' : Int) (t : Bool) (w : World) (h0 : s ≠ 0) (h3 : s ≠ 3) (hl : (if s = 1 then l else 0) = l') (hb : (if s = 2 then b else 0) = b') (ht : (decide (s = 1) || decide (s = 2)) = t) : Calls Try.prog 94 #[.agg #[.int .u8 s, .int .u8 l, .int .u8 b], .bool true, .agg #[.int .u8 wt, .int .u8 tol]] w fun e w' => e = .returned (.tuple #[.agg #[.int .u8 s, .int .u8 l', .int .u8 b'], .bool (!t)]) ∧ Below w.heap.size w w' := by
  obtain ⟨a1, a2⟩ := ne_b h0
  obtain ⟨a3, a4⟩ := ne_b h3
  have HT := Lib.hid ht
  have HLB := Lib.hid (And.intro hl hb)
  have hb0 : Below w.heap.size w (((w.alloc (.cells #[.int .u8 s, .int .u8 l, .int .u8 b] 88)).alloc (.cells #[.int .u8 wt, .int .u8 tol] 90)).alloc (.cells #[.int .u8 0, .int .u8 0, .int .u8 0] 88)) := by repeat' (first | (with_reducible exact Below.refl _ _) | (with_reducible assumption) | (with_reducible refine Below.setCell ?_ ?_ _) | (with_reducible refine Below.alloc ?_ ?_ _) | (with_reducible refine Below.drew ?_) | (with_reducible refine Below.drawsN ?_ _) | go_size)
  clear h0 h3 hl hb ht
  go_enter Try.func94, Try.ntmps94
  go_wp2
  obtain ⟨g1, g2, g3⟩ := heap3s w (.cells #[.int .u8 s, .int .u8 l, .int .u8 b] 88) (.cells #[.int .u8 wt, .int .u8 tol] 90) (.cells #[.int .u8 0, .int .u8 0, .int .u8 0] 88)
  obtain ⟨w3, hw3⟩ : ∃ w3, w3 = (((w.alloc (.cells #[.int .u8 s, .int .u8 l, .int .u8 b] 88)).alloc (.cells #[.int .u8 wt, .int .u8 tol] 90)).alloc (.cells #[.int .u8 0, .int .u8 0, .int .u8 0] 88)) := ⟨_, rfl⟩
  rw [← hw3] at g1 g3 hb0
  rw [← hw3]
  clear g2 hw3 a1 a2 a3 a4
  obtain ⟨n, hn⟩ : ∃ n, n = w.heap.size := ⟨_, rfl⟩
  have HN := Lib.hid hn
  rw [← hn] at g1 g3 hb0 ⊢
  have hg1 := box_lt g1
  have hg3 := box_lt g3
  clear hn
  obtain ⟨I, W, hne, hWI, hIW⟩ := Go.Mix.family (fun v => Below w3.heap.size w3 v) (Below.refl _ _)
  have HJ := Lib.hid hIW
  have HW := Lib.hid hWI
  clear hWI hIW
  refine Go.Flo2.wp_region (fun w' => ∃ i, w' = W i) 4 [Go.Flo.Spec.is (.agg #[.int .u8 s, .int .u8 l', .int .u8 b']), Go.Flo.Spec.is (.bool t)] (by kernel_rfl) (by kernel_rfl) (by decide) (by rintro _ w' ⟨i, rfl⟩ hb; exact HJ.out _ ((HW.out i).trans (hb.mono (HW.out i).size))) (HJ.out _ (Below.refl _ _).drew) ?_
  simp only [Go.Flo.pair, Go.Mix.calm, List.take, List.drop, if_true, Bool.false_eq_true, if_false, Nat.reduceAdd, Nat.reduceSub]
  have e0 : ∀ i, (W i).cell? ⟨n, 0, none⟩ = some (.int .u8 s) := fun i => cell_of_row _ n 0 _ _ _ (((HW.out i).block n hg1).trans g1)
  have e1 : ∀ i, (W i).cell? ⟨n, 1, none⟩ = some (.int .u8 l) := fun i => cell_of_row _ n 1 _ _ _ (((HW.out i).block n hg1).trans g1)
  have e2 : ∀ i, (W i).cell? ⟨n, 2, none⟩ = some (.int .u8 b) := fun i => cell_of_row _ n 2 _ _ _ (((HW.out i).block n hg1).trans g1)
  (repeat (first | (refine Go.Flo.fw_calm rfl ?_ (fun K hK => ?_); (first | exact Go.Mix.wanted_none rfl | exact Go.Mix.wanted_tt rfl rfl rfl | exact Go.Mix.wanted_ff rfl rfl rfl); go_big_quiet_op; refine hK _ ?_; clear hK K) | (refine Go.Flo.fw_skip ?_ (fun K hK => ?_); (first | exact Go.Mix.wanted_tf rfl rfl rfl | exact Go.Mix.wanted_ft rfl rfl rfl); go_simp; refine hK _ ?_; clear hK K) | (refine Go.Flo.fw_any rfl ?_ (fun K hK => ?_); (first | exact Go.Mix.wanted_none rfl | exact Go.Mix.wanted_tt rfl rfl rfl | exact Go.Mix.wanted_ff rfl rfl rfl); go_simp; (try (go_ints; try go_simp)); refine hK _ ?_; clear hK K)))
  refine Go.Flo.fw_loud rfl ?_ rfl (by simp) (fun wv hwv hav K hK => ?_) (fun v hv K hK => ?_)
  · (first | exact Go.Mix.wanted_none rfl | exact Go.Mix.wanted_tt rfl rfl rfl | exact Go.Mix.wanted_ff rfl rfl rfl)
  · obtain ⟨iv, rfl⟩ := hwv
    have hbv := HW.out iv
    (first | go_big_op | go_simp)
    go_at_call 138
    refine (tidy_at s l b l' b' _ HLB.out.1 HLB.out.2).mono ?_
    rintro e w' ⟨rfl, hb⟩
    exact hK _ _ (Go.Flo.owes_is _ rfl hb)
  obtain rfl := hv.is
  go_simp
  refine hK _ ?_
  clear hK K hv
  (repeat (first | (refine Go.Flo.fw_calm rfl ?_ (fun K hK => ?_); (first | exact Go.Mix.wanted_none rfl | exact Go.Mix.wanted_tt rfl rfl rfl | exact Go.Mix.wanted_ff rfl rfl rfl); go_big_quiet_op; refine hK _ ?_; clear hK K) | (refine Go.Flo.fw_skip ?_ (fun K hK => ?_); (first | exact Go.Mix.wanted_tf rfl rfl rfl | exact Go.Mix.wanted_ft rfl rfl rfl); go_simp; refine hK _ ?_; clear hK K) | (refine Go.Flo.fw_any rfl ?_ (fun K hK => ?_); (first | exact Go.Mix.wanted_none rfl | exact Go.Mix.wanted_tt rfl rfl rfl | exact Go.Mix.wanted_ff rfl rfl rfl); go_simp; (try (go_ints; try go_simp)); refine hK _ ?_; clear hK K)))
  refine Go.Flo.fw_loud rfl ?_ rfl (by simp) (fun wv hwv hav K hK => ?_) (fun v hv K hK => ?_)
  · (first | exact Go.Mix.wanted_none rfl | exact Go.Mix.wanted_tt rfl rfl rfl | exact Go.Mix.wanted_ff rfl rfl rfl)
  · obtain ⟨iv, rfl⟩ := hwv
    have hbv := HW.out iv
    (first | go_big_op | go_simp)
    go_at_call 97
    refine (Powered_at s l b t _ HT.out).mono ?_
    rintro e w' ⟨rfl, hb⟩
    exact hK _ _ (Go.Flo.owes_is _ rfl hb)
  obtain rfl := hv.is
  go_simp
  refine hK _ ?_
  clear hK K hv
  refine Go.Flo.fw_nil ?_
  intro w4 hww4 hfw4 huw4
  obtain ⟨iend, hiend⟩ := hww4
  have hbw4 := HW.out iend
  rw [← hiend] at hbw4
  clear hiend iend huw4
  have g4 := (hbw4.block _ hg3).trans g3
  have hb4 := hb0.trans (hbw4.mono (Nat.le_of_lt hg1))
  clear hfw4 HJ HW hne e0 e1 e2 g1 g3 hbw4 hg1 hg3 hb0
  clear W I
  refine ⟨fun _ => True, trivial, ?_⟩

  (repeat (first | (refine Go.Mix.walk_calm rfl ?_ (fun K hK => ?_); (first | exact Go.Mix.wanted_none rfl | exact Go.Mix.wanted_tt rfl rfl rfl | exact Go.Mix.wanted_ff rfl rfl rfl); go_big_quiet_op; refine hK _ ?_; clear hK K) | (refine Go.Mix.walk_skip ?_ (fun K hK => ?_); (first | exact Go.Mix.wanted_tf rfl rfl rfl | exact Go.Mix.wanted_ft rfl rfl rfl); go_simp; refine hK _ ?_; clear hK K) | (refine Go.Mix.walk_loud rfl ?_ (fun K hK => ?_); (first | exact Go.Mix.wanted_none rfl | exact Go.Mix.wanted_tt rfl rfl rfl | exact Go.Mix.wanted_ff rfl rfl rfl); (first | go_big_op | go_simp); (first | (refine hK _ _ trivial ?_; clear hK K) | (fail; (try dsimp only); refine hK _ _ trivial ?_; clear hK K))) | (refine Go.Mix.walk_step (fun K hK => ?_); go_simp; (try (go_ints; try go_simp)); refine hK _ _ ?_; clear hK K)))
  (refine Go.Mix.walk_loud rfl ?_ (fun K hK => ?_); (first | exact Go.Mix.wanted_none rfl | exact Go.Mix.wanted_tt rfl rfl rfl | exact Go.Mix.wanted_ff rfl rfl rfl); refine wp_store_row 88 _ _ rfl _ #[.int .u8 s, .int .u8 l', .int .u8 b'] rfl rfl 88 _ g4 size_un rfl (by simp [Value.oneCell']) (hK _ _ trivial ?_); clear hK K)
  (repeat (first | (refine Go.Mix.walk_calm rfl ?_ (fun K hK => ?_); (first | exact Go.Mix.wanted_none rfl | exact Go.Mix.wanted_tt rfl rfl rfl | exact Go.Mix.wanted_ff rfl rfl rfl); go_big_quiet_op; refine hK _ ?_; clear hK K) | (refine Go.Mix.walk_skip ?_ (fun K hK => ?_); (first | exact Go.Mix.wanted_tf rfl rfl rfl | exact Go.Mix.wanted_ft rfl rfl rfl); go_simp; refine hK _ ?_; clear hK K) | (refine Go.Mix.walk_loud rfl ?_ (fun K hK => ?_); (first | exact Go.Mix.wanted_none rfl | exact Go.Mix.wanted_tt rfl rfl rfl | exact Go.Mix.wanted_ff rfl rfl rfl); (first | go_big_op | go_simp); (first | (refine hK _ _ trivial ?_; clear hK K) | (fail; (try dsimp only); refine hK _ _ trivial ?_; clear hK K))) | (refine Go.Mix.walk_step (fun K hK => ?_); go_simp; (try (go_ints; try go_simp)); refine hK _ _ ?_; clear hK K)))
  refine Go.Mix.walk_nil ?_
  go_wp2
  refine bodyPost_ret (res_ct rfl _ _ _ _ _ _ rfl (setRow_heap _ _ _ _ _ _ g4) Try.underlying88 rfl size_un) rfl ?_
  rw [HN.out] at hb4 ⊢
  exact ⟨rfl, bel_row hb4 (by omega) _⟩

/-- What an order leaves, and whether a command is issued. -/
def OrdPost (u : Un) (on : Bool) (wt : Int) (w : World) (e : Ending) (w' : World) : Prop :=
  ∃ (s l b : Int) (t : Bool), e = .returned (.tuple #[.agg #[.int .u8 s, .int .u8 l, .int .u8 b], .bool t]) ∧ Un.mk s l b = uOrd u on wt ∧ t = uCmd u on ∧ Below w.heap.size w w'
def StepPost (u : Un) (ack well : Bool) (tol : Int) (w : World) (e : Ending) (w' : World) : Prop :=
  ∃ (s l b n : Int), e = .returned (.tuple #[.agg #[.int .u8 s, .int .u8 l, .int .u8 b], .int .u8 n]) ∧ Un.mk s l b = uStep u ack well tol ∧ n = uBec u ack well tol ∧ Below w.heap.size w w'
set_option maxRecDepth 100000 in
set_option maxHeartbeats 1000000 in
theorem OrderNew_at (s l b wt tol : Int) (w : World) (h : s = 0 ∨ s = 3) : Calls Try.prog 94 #[.agg #[.int .u8 s, .int .u8 l, .int .u8 b], .bool true, .agg #[.int .u8 wt, .int .u8 tol]] w fun e w' => e = .returned (.tuple #[.agg #[.int .u8 1, .int .u8 wt, .int .u8 0], .bool true]) ∧ Below w.heap.size w w' := by
  rcases h with rfl | rfl
  all_goals
    go_enter Try.func94, Try.ntmps94
    go_wp2
    exact bodyPost_ret (v := .tuple #[.agg #[.int .u8 1, .int .u8 wt, .int .u8 0], .bool true]) (by simp [results, Try.results94, go_sem]) rfl ⟨rfl, by repeat' (first | (with_reducible exact Below.refl _ _) | (with_reducible assumption) | (with_reducible refine Below.setCell ?_ ?_ _) | (with_reducible refine Below.alloc ?_ ?_ _) | (with_reducible refine Below.drew ?_) | (with_reducible refine Below.drawsN ?_ _) | go_size)⟩
theorem Order_any (s l b : Int) (on : Bool) (wt tol : Int) (w : World) : Calls Try.prog 94 #[.agg #[.int .u8 s, .int .u8 l, .int .u8 b], .bool on, .agg #[.int .u8 wt, .int .u8 tol]] w (OrdPost ⟨s, l, b⟩ on wt w) := by
  cases on
  · exact (OrderOff_at s l b wt tol w).mono fun e w' h => ⟨0, 0, 0, _, h.1, rfl, by rw [uCmd, if_neg (by decide)]; by_cases h : s = 0 <;> simp [h], h.2⟩
  by_cases h : s = 0 ∨ s = 3
  · refine (OrderNew_at s l b wt tol w h).mono fun e w' k => ⟨1, wt, 0, true, k.1, by simp only [uOrd, if_true]; rw [if_pos h], ?_, k.2⟩
    rcases h with rfl | rfl <;> rfl
  · refine (OrderOn_at s l b wt tol _ _ _ w (fun e => h (.inl e)) (fun e => h (.inr e)) rfl rfl rfl).mono fun e w' k => ⟨s, _, _, _, k.1, ?_, ?_, k.2⟩
    · simp only [uOrd, if_true]
      rw [if_neg h]
      rfl
    · simp [uCmd]
theorem start_post (l b : Int) (ack well : Bool) (tol : Int) (w : World) (l0 : 0 ≤ l) (l1 : l ≤ 255) : Calls Try.prog 140 #[.agg #[.int .u8 1, .int .u8 l, .int .u8 b], .bool ack] w (StepPost ⟨1, l, b⟩ ack well tol w) := by
  refine (start_at 1 l b ack w l0 l1).mono fun e w' ⟨h, k⟩ => ?_
  by_cases ha : ack = true
  · rw [if_pos ha] at h
    exact ⟨2, 0, 0, 1, h, by simp [uStep, ha], by simp [uBec, ha], k⟩
  rw [if_neg ha] at h
  by_cases hl : l = 0
  · rw [if_pos hl] at h
    exact ⟨3, 0, 0, 2, h, by simp [uStep, ha, hl], by simp [uBec, ha, hl], k⟩
  · rw [if_neg hl] at h
    exact ⟨1, l - 1, 0, 0, h, by simp [uStep, ha, hl], by simp [uBec, ha, hl], k⟩
theorem run_post (l b : Int) (ack well : Bool) (wt tol : Int) (w : World) (b0 : 0 ≤ b) (b1 : b ≤ 255) (t1 : tol ≤ 255) : Calls Try.prog 141 #[.agg #[.int .u8 2, .int .u8 l, .int .u8 b], .bool (ack && well), .agg #[.int .u8 wt, .int .u8 tol]] w (StepPost ⟨2, l, b⟩ ack well tol w) := by
  refine (run_at 2 l b (ack && well) wt tol w b0 b1 t1).mono fun e w' ⟨h, k⟩ => ?_
  by_cases ha : (ack && well) = true
  · rw [if_pos ha] at h
    exact ⟨2, 0, 0, 0, h, by unfold uStep; rw [if_neg (show ¬ (2 : Int) = 1 by decide), if_pos rfl, if_pos ha], by unfold uBec; rw [if_neg (show ¬ (2 : Int) = 1 by decide), if_pos rfl, if_pos ha], k⟩
  rw [if_neg ha] at h
  by_cases hl : tol ≤ b
  · rw [if_pos hl] at h
    exact ⟨3, 0, 0, 2, h, by unfold uStep; rw [if_neg (show ¬ (2 : Int) = 1 by decide), if_pos rfl, if_neg ha, if_pos hl], by unfold uBec; rw [if_neg (show ¬ (2 : Int) = 1 by decide), if_pos rfl, if_neg ha, if_pos hl], k⟩
  · rw [if_neg hl] at h
    exact ⟨2, 0, b + 1, 0, h, by unfold uStep; rw [if_neg (show ¬ (2 : Int) = 1 by decide), if_pos rfl, if_neg ha, if_neg hl], by unfold uBec; rw [if_neg (show ¬ (2 : Int) = 1 by decide), if_pos rfl, if_neg ha, if_neg hl], k⟩
theorem tidy_post (s l b : Int) (ack well : Bool) (tol : Int) (w : World) (h1 : s ≠ 1) (h2 : s ≠ 2) : Calls Try.prog 138 #[.agg #[.int .u8 s, .int .u8 l, .int .u8 b]] w fun e w' => e = .returned (.agg #[.int .u8 s, .int .u8 0, .int .u8 0]) ∧ Below w.heap.size w w' := tidy_at s l b 0 0 w (if_neg h1) (if_neg h2)
/- #1 the state, #2 the function, #3 the contract, #4 the result's rule -/
set_option maxRecDepth 100000 in
set_option maxHeartbeats 2000000 in
theorem Step_any (s l b : Int) (ack well : Bool) (wt tol : Int) (w : World) (l0 : 0 ≤ l) (l1 : l ≤ 255) (b0 : 0 ≤ b) (b1 : b ≤ 255) (t1 : tol ≤ 255) : Calls Try.prog 99 #[.agg #[.int .u8 s, .int .u8 l, .int .u8 b], .bool ack, .bool well, .agg #[.int .u8 wt, .int .u8 tol]] w (StepPost ⟨s, l, b⟩ ack well tol w) := by
  by_cases h1 : s = 1
  · subst h1
    go_enter Try.func99, Try.ntmps99
    go_wp2_with fail
    skip
    have hb0 : Below w.heap.size w (((w.alloc (.cells #[.int .u8 1, .int .u8 l, .int .u8 b] 88)).alloc (.cells #[.int .u8 wt, .int .u8 tol] 90)).alloc (.cells #[.int .u8 0, .int .u8 0, .int .u8 0] 88)) := by repeat' (first | (with_reducible exact Below.refl _ _) | (with_reducible assumption) | (with_reducible refine Below.setCell ?_ ?_ _) | (with_reducible refine Below.alloc ?_ ?_ _) | (with_reducible refine Below.drew ?_) | (with_reducible refine Below.drawsN ?_ _) | go_size)
    have g3 := (heap3s w (.cells #[.int .u8 1, .int .u8 l, .int .u8 b] 88) (.cells #[.int .u8 wt, .int .u8 tol] 90) (.cells #[.int .u8 0, .int .u8 0, .int .u8 0] 88)).2.2
    have hsz : w.heap.size + 2 < (((w.alloc (.cells #[.int .u8 1, .int .u8 l, .int .u8 b] 88)).alloc (.cells #[.int .u8 wt, .int .u8 tol] 90)).alloc (.cells #[.int .u8 0, .int .u8 0, .int .u8 0] 88)).heap.size := by simp
    obtain ⟨w3, hw3⟩ : ∃ w3, w3 = (((w.alloc (.cells #[.int .u8 1, .int .u8 l, .int .u8 b] 88)).alloc (.cells #[.int .u8 wt, .int .u8 tol] 90)).alloc (.cells #[.int .u8 0, .int .u8 0, .int .u8 0] 88)) := ⟨_, rfl⟩
    rw [← hw3] at g3 hsz hb0 ⊢
    clear hw3
    go_at_call 140
    refine (start_post l b ack well tol _ l0 l1).mono ?_
    rintro e w' ⟨s', l', b', n', rfl, hu, hn, hb⟩
    have g4 := (hb.block _ hsz).trans g3
    have HB := Lib.hid (hb0.trans (hb.mono hb0.size))
    have HU := Lib.hid (And.intro hu hn)
    clear hb0 g3 hsz hu hn hb
    go_wp2_with (refine wpList_store_row rfl 88 _ _ rfl _ _ rfl rfl _ _ g4 (by exact size_un) (by rfl) (by simp [Value.oneCell']) ?_; (try go_simp))
    refine bodyPost_ret (res_ct rfl _ _ _ _ _ _ rfl (setRow_heap _ _ _ _ _ _ g4) Try.underlying88 rfl size_un) rfl ?_
    exact ⟨_, _, _, _, rfl, HU.out.1, HU.out.2, bel_row HB.out (by omega) _⟩
  by_cases h2 : s = 2
  · subst h2
    have hand : ack = true ∧ (ack && well) = well ∨ ack = false ∧ (ack && well) = false := by cases ack <;> simp
    have hr := fun w => run_post l b ack well wt tol w b0 b1 t1
    rcases hand with ⟨rfl, he⟩ | ⟨rfl, he⟩
    all_goals
      rw [he] at hr
      have HR := Lib.hid hr
      clear hr he
      go_enter Try.func99, Try.ntmps99
      go_wp2_with fail
    · skip
      have hb0 : Below w.heap.size w (((w.alloc (.cells #[.int .u8 2, .int .u8 l, .int .u8 b] 88)).alloc (.cells #[.int .u8 wt, .int .u8 tol] 90)).alloc (.cells #[.int .u8 0, .int .u8 0, .int .u8 0] 88)) := by repeat' (first | (with_reducible exact Below.refl _ _) | (with_reducible assumption) | (with_reducible refine Below.setCell ?_ ?_ _) | (with_reducible refine Below.alloc ?_ ?_ _) | (with_reducible refine Below.drew ?_) | (with_reducible refine Below.drawsN ?_ _) | go_size)
      have g3 := (heap3s w (.cells #[.int .u8 2, .int .u8 l, .int .u8 b] 88) (.cells #[.int .u8 wt, .int .u8 tol] 90) (.cells #[.int .u8 0, .int .u8 0, .int .u8 0] 88)).2.2
      have hsz : w.heap.size + 2 < (((w.alloc (.cells #[.int .u8 2, .int .u8 l, .int .u8 b] 88)).alloc (.cells #[.int .u8 wt, .int .u8 tol] 90)).alloc (.cells #[.int .u8 0, .int .u8 0, .int .u8 0] 88)).heap.size := by simp
      obtain ⟨w3, hw3⟩ : ∃ w3, w3 = (((w.alloc (.cells #[.int .u8 2, .int .u8 l, .int .u8 b] 88)).alloc (.cells #[.int .u8 wt, .int .u8 tol] 90)).alloc (.cells #[.int .u8 0, .int .u8 0, .int .u8 0] 88)) := ⟨_, rfl⟩
      rw [← hw3] at g3 hsz hb0 ⊢
      clear hw3
      go_at_call 141
      refine (HR.out _).mono ?_
      rintro e w' ⟨s', l', b', n', rfl, hu, hn, hb⟩
      have g4 := (hb.block _ hsz).trans g3
      have HB := Lib.hid (hb0.trans (hb.mono hb0.size))
      have HU := Lib.hid (And.intro hu hn)
      clear hb0 g3 hsz hu hn hb
      go_wp2_with (refine wpList_store_row rfl 88 _ _ rfl _ _ rfl rfl _ _ g4 (by exact size_un) (by rfl) (by simp [Value.oneCell']) ?_; (try go_simp))
      refine bodyPost_ret (res_ct rfl _ _ _ _ _ _ rfl (setRow_heap _ _ _ _ _ _ g4) Try.underlying88 rfl size_un) rfl ?_
      exact ⟨_, _, _, _, rfl, HU.out.1, HU.out.2, bel_row HB.out (by omega) _⟩
    · skip
      have hb0 : Below w.heap.size w (((w.alloc (.cells #[.int .u8 2, .int .u8 l, .int .u8 b] 88)).alloc (.cells #[.int .u8 wt, .int .u8 tol] 90)).alloc (.cells #[.int .u8 0, .int .u8 0, .int .u8 0] 88)) := by repeat' (first | (with_reducible exact Below.refl _ _) | (with_reducible assumption) | (with_reducible refine Below.setCell ?_ ?_ _) | (with_reducible refine Below.alloc ?_ ?_ _) | (with_reducible refine Below.drew ?_) | (with_reducible refine Below.drawsN ?_ _) | go_size)
      have g3 := (heap3s w (.cells #[.int .u8 2, .int .u8 l, .int .u8 b] 88) (.cells #[.int .u8 wt, .int .u8 tol] 90) (.cells #[.int .u8 0, .int .u8 0, .int .u8 0] 88)).2.2
      have hsz : w.heap.size + 2 < (((w.alloc (.cells #[.int .u8 2, .int .u8 l, .int .u8 b] 88)).alloc (.cells #[.int .u8 wt, .int .u8 tol] 90)).alloc (.cells #[.int .u8 0, .int .u8 0, .int .u8 0] 88)).heap.size := by simp
      obtain ⟨w3, hw3⟩ : ∃ w3, w3 = (((w.alloc (.cells #[.int .u8 2, .int .u8 l, .int .u8 b] 88)).alloc (.cells #[.int .u8 wt, .int .u8 tol] 90)).alloc (.cells #[.int .u8 0, .int .u8 0, .int .u8 0] 88)) := ⟨_, rfl⟩
      rw [← hw3] at g3 hsz hb0 ⊢
      clear hw3
      go_at_call 141
      refine (HR.out _).mono ?_
      rintro e w' ⟨s', l', b', n', rfl, hu, hn, hb⟩
      have g4 := (hb.block _ hsz).trans g3
      have HB := Lib.hid (hb0.trans (hb.mono hb0.size))
      have HU := Lib.hid (And.intro hu hn)
      clear hb0 g3 hsz hu hn hb
      go_wp2_with (refine wpList_store_row rfl 88 _ _ rfl _ _ rfl rfl _ _ g4 (by exact size_un) (by rfl) (by simp [Value.oneCell']) ?_; (try go_simp))
      refine bodyPost_ret (res_ct rfl _ _ _ _ _ _ rfl (setRow_heap _ _ _ _ _ _ g4) Try.underlying88 rfl size_un) rfl ?_
      exact ⟨_, _, _, _, rfl, HU.out.1, HU.out.2, bel_row HB.out (by omega) _⟩
  · obtain ⟨a1, a2⟩ := ne_b h1
    obtain ⟨a3, a4⟩ := ne_b h2
    have H1 := Lib.hid h1
    have H2 := Lib.hid h2
    clear h1 h2
    have ht := fun w => tidy_post s l b ack well tol w H1.out H2.out
    have HT := Lib.hid ht
    clear ht
    go_enter Try.func99, Try.ntmps99
    go_wp2_with fail
    have hb0 : Below w.heap.size w (((w.alloc (.cells #[.int .u8 s, .int .u8 l, .int .u8 b] 88)).alloc (.cells #[.int .u8 wt, .int .u8 tol] 90)).alloc (.cells #[.int .u8 0, .int .u8 0, .int .u8 0] 88)) := by repeat' (first | (with_reducible exact Below.refl _ _) | (with_reducible assumption) | (with_reducible refine Below.setCell ?_ ?_ _) | (with_reducible refine Below.alloc ?_ ?_ _) | (with_reducible refine Below.drew ?_) | (with_reducible refine Below.drawsN ?_ _) | go_size)
    have g3 := (heap3s w (.cells #[.int .u8 s, .int .u8 l, .int .u8 b] 88) (.cells #[.int .u8 wt, .int .u8 tol] 90) (.cells #[.int .u8 0, .int .u8 0, .int .u8 0] 88)).2.2
    have hsz : w.heap.size + 2 < (((w.alloc (.cells #[.int .u8 s, .int .u8 l, .int .u8 b] 88)).alloc (.cells #[.int .u8 wt, .int .u8 tol] 90)).alloc (.cells #[.int .u8 0, .int .u8 0, .int .u8 0] 88)).heap.size := by simp
    obtain ⟨w3, hw3⟩ : ∃ w3, w3 = (((w.alloc (.cells #[.int .u8 s, .int .u8 l, .int .u8 b] 88)).alloc (.cells #[.int .u8 wt, .int .u8 tol] 90)).alloc (.cells #[.int .u8 0, .int .u8 0, .int .u8 0] 88)) := ⟨_, rfl⟩
    rw [← hw3] at g3 hsz hb0 ⊢
    clear hw3
    go_at_call 138
    refine (HT.out _).mono ?_
    rintro e w' ⟨rfl, hb⟩
    have g4 := (hb.block _ hsz).trans g3
    have HB := Lib.hid (hb0.trans (hb.mono hb0.size))
    clear hb0 g3 hsz hb
    go_wp2_with (refine wpList_store_row rfl 88 _ _ rfl _ _ rfl rfl _ _ g4 (by exact size_un) (by rfl) (by simp [Value.oneCell']) ?_; (try go_simp))
    refine bodyPost_ret (res_ct rfl _ _ _ _ _ _ rfl (setRow_heap _ _ _ _ _ _ g4) Try.underlying88 rfl size_un) rfl ?_
    have h1 := H1.out
    have h2 := H2.out
    exact ⟨_, _, _, _, rfl, by simp [uStep, Un.tidy, h1, h2], by simp [uBec, h1, h2], bel_row HB.out (by omega) _⟩

/-- May it be? -/
structure Un.Right (u : Un) (wt tol : Int) : Prop where
  st : u.s = 0 ∨ u.s = 1 ∨ u.s = 2 ∨ u.s = 3
  l : u.s ≠ 1 → u.l = 0
  b : u.s ≠ 2 → u.b = 0
  l0 : 0 ≤ u.l
  l1 : u.l ≤ wt
  b0 : 0 ≤ u.b
  b1 : u.b ≤ tol
theorem Un.Right.off {wt tol : Int} (h : 0 ≤ wt) (k : 0 ≤ tol) : Un.Right ⟨0, 0, 0⟩ wt tol := ⟨.inl rfl, fun _ => rfl, fun _ => rfl, by simp, h, by simp, k⟩
theorem Un.Right.tidy {u : Un} {wt tol : Int} (h : u.Right wt tol) : u.tidy = u := by
  obtain ⟨s, l, b⟩ := u
  have h1 := h.l
  have h2 := h.b
  simp only [Un.tidy, Un.mk.injEq, true_and]
  simp only at h1 h2
  constructor
  · split
    · rfl
    · exact (h1 ‹_›).symm
  · split
    · rfl
    · exact (h2 ‹_›).symm
theorem Un.Right.ord {u : Un} {wt tol : Int} (h : u.Right wt tol) (k : 0 ≤ tol) (on : Bool) : (uOrd u on wt).Right wt tol := by
  have hw := Int.le_trans h.l0 h.l1
  unfold uOrd
  split
  · split
    · exact ⟨.inr (.inl rfl), fun e => absurd rfl e, fun _ => rfl, hw, Int.le_refl _, by simp, k⟩
    · rw [h.tidy]
      exact h
  · exact Un.Right.off hw k
theorem Un.Right.step {u : Un} {wt tol : Int} (h : u.Right wt tol) (k : 0 ≤ tol) (ack well : Bool) : (uStep u ack well tol).Right wt tol := by
  have hw := Int.le_trans h.l0 h.l1
  have := h.l0
  have := h.l1
  have := h.b0
  have h3 : Un.Right ⟨3, 0, 0⟩ wt tol := ⟨.inr (.inr (.inr rfl)), fun _ => rfl, fun _ => rfl, by simp, hw, by simp, k⟩
  have h2 : Un.Right ⟨2, 0, 0⟩ wt tol := ⟨.inr (.inr (.inl rfl)), fun _ => rfl, fun _ => rfl, by simp, hw, by simp, k⟩
  unfold uStep
  split
  · split
    · exact h2
    · split
      · exact h3
      · exact ⟨.inr (.inl rfl), fun e => absurd rfl e, fun _ => rfl, by show 0 ≤ u.l - 1; omega, by show u.l - 1 ≤ wt; omega, by simp, k⟩
  · split
    · split
      · exact h2
      · split
        · exact h3
        · exact ⟨.inr (.inr (.inl rfl)), fun _ => rfl, fun e => absurd rfl e, by simp, hw, by show 0 ≤ u.b + 1; omega, by show u.b + 1 ≤ tol; omega⟩
    · rw [h.tidy]
      exact h
def rStepPost (u : Un) (ack well : Bool) (tol : Int) (w : World) (e : Ending) (w' : World) : Prop :=
  ∃ (s l b n : Int), e = .returned (.tuple #[.agg #[.int .u8 s, .int .u8 l, .int .u8 b], .int .i64 n]) ∧ Un.mk s l b = uStep u ack well tol ∧ n = uBec u ack well tol ∧ Below w.heap.size w w'
end Go.Proofs.Ytkgeeohgfbacaaa
