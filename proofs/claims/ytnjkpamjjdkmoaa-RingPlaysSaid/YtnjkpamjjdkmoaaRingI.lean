/- Contracts of layer 3 (rings of ints): what a ring is; asked. -/
import Derived.Test.YtnjkpamjjdkmoaaKeep
import Derived.Test.YtnjkpamjjdkmoaaFlo
import Derived.Test.YtnjkpamjjdkmoaaFrame
import Derived.Test.YtnjkpamjjdkmoaaOwn
import Derived.Test.YtnjkpamjjdkmoaaRd
import Derived.Test.YtnjkpamjjdkmoaaChecked
import Derived.Handy
import Derived.Lib.Hide
import Derived.Outline
import Derived.LoopTactic
import Derived.WalkSpells
import Derived.Maps.AppendAt
import Derived.Deep.QuietTactic
import Derived.BigQuiet
import Derived.OwnWalk
import Derived.Lib.LazyBuf
import Derived.RegionTactic
import Derived.ChangeAlike
namespace Go.Proofs.Ytnjkpamjjdkmoaa
open Go.RowKit Go.Own
set_option linter.unusedVariables false
set_option linter.unusedSimpArgs false

/-- A row's cells. -/
def il (l : List Int) : List Value := l.map (Value.int .i64)
theorem il_len (l : List Int) : (il l).length = l.length := by simp [il]
theorem il_at (l : List Int) {i : Nat} (h : i < l.length) : (il l)[i]? = some (.int .i64 (l.getD i 0)) := by simp [il, List.getD, h]
theorem il_set (l : List Int) (i : Nat) (x : Int) : (il l).set i (.int .i64 x) = il (l.set i x) := by simp [il, List.map_set]
theorem il_append (l m : List Int) : il (l ++ m) = il l ++ il m := by simp [il]
/-- A ring: its block g, its slots' block b, their number n, where the first element is, how many there are. -/
structure RingS (w : World) (g b n first count lost dropped : Nat) (sl : List Int) : Prop where
  head : w.heap[g]? = some (.cells #[.slice (some ⟨b, 0, none⟩) n n, .int .i64 (first : Nat), .int .i64 (count : Nat), .int .i64 (lost : Nat), .int .i64 (dropped : Nat)] 167 (0, 0))
  row : w.heap[b]? = some (.cells (il sl).toArray 3 (0, 0))
  len : sl.length = n
  n1 : 1 ≤ n
  n2 : n ≤ 4096
  hf : first < n
  hc : count ≤ n
  hl : lost ≤ 65535
  hd : dropped ≤ 65535
theorem RingS.ne {w : World} {g b n f c l d : Nat} {sl : List Int} (h : RingS w g b n f c l d sl) : g ≠ b := by
  intro e
  have h1 := h.head
  have h2 := h.row
  rw [e, h2] at h1
  injection h1 with h1
  injection h1 with _ h1
  exact absurd h1 (by decide)
theorem RingS.c0 {w : World} {g b n f c l d : Nat} {sl : List Int} (h : RingS w g b n f c l d sl) : w.cell? ⟨g, 0, none⟩ = some (.slice (some ⟨b, 0, none⟩) n n) := cell_of_row w g 0 _ _ _ h.head
theorem RingS.c1 {w : World} {g b n f c l d : Nat} {sl : List Int} (h : RingS w g b n f c l d sl) : w.cell? ⟨g, 1, none⟩ = some (.int .i64 (f : Nat)) := cell_of_row w g 1 _ _ _ h.head
theorem RingS.c2 {w : World} {g b n f c l d : Nat} {sl : List Int} (h : RingS w g b n f c l d sl) : w.cell? ⟨g, 2, none⟩ = some (.int .i64 (c : Nat)) := cell_of_row w g 2 _ _ _ h.head
theorem RingS.c3 {w : World} {g b n f c l d : Nat} {sl : List Int} (h : RingS w g b n f c l d sl) : w.cell? ⟨g, 3, none⟩ = some (.int .i64 (l : Nat)) := cell_of_row w g 3 _ _ _ h.head
theorem RingS.c4 {w : World} {g b n f c l d : Nat} {sl : List Int} (h : RingS w g b n f c l d sl) : w.cell? ⟨g, 4, none⟩ = some (.int .i64 (d : Nat)) := cell_of_row w g 4 _ _ _ h.head
theorem RingS.fz {w : World} {g b n f c l d : Nat} {sl : List Int} (h : RingS w g b n f c l d sl) (i : Nat) : w.frozen? ⟨g, i, none⟩ = false := frozen_of_row w g i _ _ h.head
theorem RingS.fb {w : World} {g b n f c l d : Nat} {sl : List Int} (h : RingS w g b n f c l d sl) (i : Nat) : w.frozen? ⟨b, i, none⟩ = false := frozen_of_row w b i _ _ h.row
theorem RingS.at {w : World} {g b n f c l d : Nat} {sl : List Int} (h : RingS w g b n f c l d sl) {i : Nat} (hi : i < n) : w.cell? ⟨b, i, none⟩ = some (.int .i64 (sl.getD i 0)) := by
  rw [cell_of_row w b i _ _ _ h.row, List.getElem?_toArray, il_at]
  rw [h.len]; exact hi
/-- All that is not the ring's stays as it is. -/
structure Kept (g b : Nat) (w w' : World) : Prop where
  os : w'.os = w.os
  tape : w'.tape = w.tape
  output : w'.output = w.output
  size : w.heap.size ≤ w'.heap.size
  block : ∀ k, k < w.heap.size → k ≠ g → k ≠ b → w'.heap[k]? = w.heap[k]?
theorem Kept.refl (g b : Nat) (w : World) : Kept g b w w := ⟨rfl, rfl, rfl, Nat.le_refl _, fun _ _ _ _ => rfl⟩
theorem Kept.trans {g b : Nat} {w w' w'' : World} (h : Kept g b w w') (k : Kept g b w' w'') : Kept g b w w'' :=
  ⟨k.os.trans h.os, k.tape.trans h.tape, k.output.trans h.output, Nat.le_trans h.size k.size, fun i hi h1 h2 => (k.block i (Nat.lt_of_lt_of_le hi h.size) h1 h2).trans (h.block i hi h1 h2)⟩
theorem Kept.below {g b B : Nat} {w w' : World} (h : Kept g b w w') (hg : B ≤ g) (hb : B ≤ b) (hB : B ≤ w.heap.size) : Below B w w' :=
  ⟨h.os, h.tape, h.output, h.size, fun k hk => h.block k (by omega) (by omega) (by omega)⟩
theorem Kept.of_below {g b : Nat} {w w' : World} (h : Below w.heap.size w w') : Kept g b w w' := ⟨h.os, h.tape, h.output, h.size, fun k hk _ _ => h.block k hk⟩
theorem Kept.set {g b : Nat} {w w' : World} (h : Kept g b w w') {a : Addr} (ha : a.block = g ∨ a.block = b) (u : Value) : Kept g b w (w'.setCell a u) :=
  h.trans ⟨rfl, rfl, rfl, by simp, fun k _ h1 h2 => heap_setCell_other w' a k u (by rcases ha with e | e <;> omega)⟩
theorem Kept.drew {g b : Nat} {w w' : World} (h : Kept g b w w') : Kept g b w w'.drew := ⟨h.os, h.tape, h.output, h.size, h.block⟩
theorem Kept.drewN {g b : Nat} {w w' : World} (h : Kept g b w w') (n : Nat) : Kept g b w (w'.drewN n) := ⟨h.os, h.tape, h.output, h.size, h.block⟩
theorem RingS.below {w w' : World} {g b n f c l d : Nat} {sl : List Int} (h : RingS w g b n f c l d sl) {k : Nat} (hb : Below k w w') (hk : w.heap.size ≤ k) : RingS w' g b n f c l d sl :=
  ⟨box_below h.head hb (Nat.lt_of_lt_of_le (box_lt h.head) hk), box_below h.row hb (Nat.lt_of_lt_of_le (box_lt h.row) hk), h.len, h.n1, h.n2, h.hf, h.hc, h.hl, h.hd⟩
theorem RingS.drewN {w : World} {g b n f c l d : Nat} {sl : List Int} (h : RingS w g b n f c l d sl) (q : Nat) : RingS (w.drewN q) g b n f c l d sl := ⟨h.head, h.row, h.len, h.n1, h.n2, h.hf, h.hc, h.hl, h.hd⟩
/-- Another ring stays what it is. -/
theorem RingS.kept {w w' : World} {g b g' b' n f c l d : Nat} {sl : List Int} (h : RingS w g b n f c l d sl) (hk : Kept g' b' w w') (h1 : g ≠ g') (h2 : g ≠ b') (h3 : b ≠ g') (h4 : b ≠ b') : RingS w' g b n f c l d sl :=
  ⟨(hk.block g (box_lt h.head) h1 h2).trans h.head, (hk.block b (box_lt h.row) h3 h4).trans h.row, h.len, h.n1, h.n2, h.hf, h.hc, h.hl, h.hd⟩

variable {w : World} {g b n f c l d : Nat} {sl : List Int}
theorem ret_i {k : IntKind} {a b : Int} (h : a = b) : Value.int k a = .int k b := by rw [h]
theorem below_drewsI (B : Nat) (w : World) (n : Nat) : Below B w (w.drewN n) := ⟨rfl, rfl, rfl, Nat.le_refl _, fun _ _ => rfl⟩
theorem fits64 (x : Int) (h0 : 0 ≤ x) (h1 : x ≤ 1000000) : IntKind.i64.wrap x = x := by rw [IntKind.wrap_i64]; omega

set_option maxHeartbeats 1000000 in
theorem iLen_any (h : RingS w g b n f c l d sl) : Calls Try.prog 27 #[.pointer (some ⟨g, 0, none⟩)] w fun e w' => e = .returned (.int .i64 (c : Nat)) ∧ w = w' := by
  have c2 := h.c2
  clear h
  go_enter Try.func27, Try.ntmps27
  go_wp2
  go_ret
  exact ⟨rfl, rfl⟩
set_option maxHeartbeats 1000000 in
theorem iLost_any (h : RingS w g b n f c l d sl) : Calls Try.prog 29 #[.pointer (some ⟨g, 0, none⟩)] w fun e w' => e = .returned (.int .i64 (l : Nat)) ∧ w = w' := by
  have c3 := h.c3
  clear h
  go_enter Try.func29, Try.ntmps29
  go_wp2
  go_ret
  exact ⟨rfl, rfl⟩
set_option maxHeartbeats 1000000 in
theorem iDropped_any (h : RingS w g b n f c l d sl) : Calls Try.prog 30 #[.pointer (some ⟨g, 0, none⟩)] w fun e w' => e = .returned (.int .i64 (d : Nat)) ∧ w = w' := by
  have c4 := h.c4
  clear h
  go_enter Try.func30, Try.ntmps30
  go_wp2
  go_ret
  exact ⟨rfl, rfl⟩
set_option maxHeartbeats 1000000 in
theorem iRoom_any (h : RingS w g b n f c l d sl) : Calls Try.prog 28 #[.pointer (some ⟨g, 0, none⟩)] w fun e w' => e = .returned (.int .i64 ((n - c : Nat) : Int)) ∧ ∃ q, w' = w.drewN q := by
  have c0 := h.c0
  have c2 := h.c2
  have hn := h.n2
  have hc := h.hc
  have e1 : IntKind.i64.wrap ((n : Int) - (c : Int)) = ((n - c : Nat) : Int) := by rw [fits64 _ (by omega) (by omega)]; omega
  have e2 : (n : Int) - (c : Int) = ((n - c : Nat) : Int) := by omega
  obtain ⟨r, hr⟩ : ∃ r, r = n - c := ⟨_, rfl⟩
  rw [← hr] at e1 e2 ⊢
  clear h hr
  go_enter Try.func28, Try.ntmps28
  go_wp2
  go_quiet (fail)
  all_goals
    go_wp2
    go_ret
    exact ⟨rfl, _, rfl⟩
set_option maxHeartbeats 1000000 in
theorem islot_any (h : RingS w g b n f c l d sl) (i : Nat) (hi : i ≤ 100000) : Calls Try.prog 97 #[.pointer (some ⟨g, 0, none⟩), .int .i64 (i : Nat)] w fun e w' => e = .returned (.int .i64 (((f + i) % n : Nat) : Int)) ∧ ∃ q, w' = w.drewN q := by
  have c0 := h.c0
  have c1 := h.c1
  have hn1 := h.n1
  have hn2 := h.n2
  have hf := h.hf
  obtain ⟨y, hy⟩ : ∃ y, y = f + i := ⟨_, rfl⟩
  obtain ⟨r, hr⟩ : ∃ r, r = (f + i) % n := ⟨_, rfl⟩
  have e1 : IntKind.i64.wrap ((f : Int) + (i : Int)) = (y : Int) := by rw [fits64 _ (by omega) (by omega)]; omega
  have e2 : (f : Int) + (i : Int) = (y : Int) := by omega
  have e3 : (y : Int).tmod (n : Int) = (r : Int) := by rw [hr, hy]; rfl
  have e4 : (y : Int) % (n : Int) = (r : Int) := by rw [hr, hy]; simp
  have e5 : ((n : Int) == 0) = false := by rw [beq_eq_false_iff_ne]; omega
  rw [← hr]
  clear h hr hy
  go_enter Try.func97, Try.ntmps97
  go_wp2
  go_quiet (fail)
  all_goals
    go_wp2
    go_ret
    exact ⟨rfl, _, rfl⟩
set_option maxHeartbeats 1000000 in
theorem more_any (c y : Nat) (w : World) (hc : c ≤ 65535) (hy : y ≤ 1000000) : Calls Try.prog 128 #[.int .i64 (c : Nat), .int .i64 (y : Nat)] w fun e w' => e = .returned (.int .i64 ((min (c + y) 65535 : Nat) : Int)) ∧ w = w' := by
  by_cases h : y < 65535 - c
  · have e : (c : Int) + (y : Int) = ((min (c + y) 65535 : Nat) : Int) := by omega
    have hlt : (y : Int) < 65535 - (c : Int) := by omega
    have HE := Lib.hid e
    clear e
    go_enter Try.func128, Try.ntmps128
    go_wp2
    go_ret
    exact ⟨congrArg Ending.returned (by rw [← HE.out]; go_num), rfl⟩
  · have e : (c : Int) + (65535 - (c : Int)) = ((min (c + y) 65535 : Nat) : Int) := by omega
    have hlt : ¬ (y : Int) < 65535 - (c : Int) := by omega
    have HE := Lib.hid e
    clear e
    go_enter Try.func128, Try.ntmps128
    go_wp2
    all_goals
      go_ret
      exact ⟨congrArg Ending.returned (ret_i (by first | (rw [← HE.out]; done) | omega)), rfl⟩
end Go.Proofs.Ytnjkpamjjdkmoaa
