/- Contracts of layer 3 (rings of reports): what such a ring is; asked. -/
import Derived.Test.YtioclbkgfbjpdaaKeep
import Derived.Test.YtioclbkgfbjpdaaFlo
import Derived.Test.YtioclbkgfbjpdaaFrame
import Derived.Test.YtioclbkgfbjpdaaOwn
import Derived.Test.YtioclbkgfbjpdaaRd
import Derived.Test.YtioclbkgfbjpdaaChecked
import Derived.Handy
import Derived.Lib.Hide
import Derived.Outline
import Derived.LoopTactic
import Derived.WalkSpells
import Derived.Maps.AppendAt
import Derived.Deep.QuietTactic
import Derived.Deep.MidRow
import Derived.BigQuiet
import Derived.OwnWalk
import Derived.Lib.LazyBuf
import Derived.RegionTactic
import Derived.ChangeAlike
namespace Go.Proofs.Ytioclbkgfbjpdaa
open Go.RowKit Go.Own
set_option linter.unusedVariables false
set_option linter.unusedSimpArgs false

/-- A report: four numbers, a slice, and (for the proof alone) what lies in the slice. -/
structure Rq where
  s : Nat
  u : Nat
  c : Nat
  t : Nat
  a : Option Addr
  n : Nat
  cp : Nat
  d : List Nat
def rq0 : Rq := ⟨0, 0, 0, 0, none, 0, 0, []⟩
def Rq.cs (r : Rq) : List Value := [.int .u8 (r.s : Nat), .int .u8 (r.u : Nat), .int .u16 (r.c : Nat), .int .u32 (r.t : Nat), .slice r.a r.n r.cp]
theorem Rq.len (r : Rq) : r.cs.length = 5 := rfl
theorem size_rq : (Try.prog.info? 123).map (·.size) = some 5 := by kernel_rfl
theorem zero_rq (w : World) : (zeroValue 123).run Try.prog w = .ok (.agg #[.int .u8 (rq0.s : Nat), .int .u8 (rq0.u : Nat), .int .u16 (rq0.c : Nat), .int .u32 (rq0.t : Nat), .slice rq0.a rq0.n rq0.cp]) w := by kernel_rfl
/-- A ring: its block g, its slots' block b, their number n, where the first element is, how many there are. -/
structure RingP (w : World) (g b n first count dropped : Nat) (sl : List Rq) : Prop where
  head : w.heap[g]? = some (.cells #[.slice (some ⟨b, 0, none⟩) n n, .int .i64 (first : Nat), .int .i64 (count : Nat), .int .i64 0, .int .i64 (dropped : Nat)] 147 (0, 0))
  row : ∀ i, i < n → w.rangeAt b (i * 5) (sl.getD i rq0).cs
  fzb : ∀ i, w.frozen? ⟨b, i, none⟩ = false
  ne : g ≠ b
  len : sl.length = n
  n1 : 1 ≤ n
  n2 : n ≤ 4096
  hf : first < n
  hc : count ≤ n
  hd : dropped ≤ 65535
section
variable {w : World} {g b n f c d : Nat} {sl : List Rq}
theorem RingP.hb (h : RingP w g b n f c d sl) : b < w.heap.size := by
  have := h.row 0 (by have := h.n1; omega) 0 _ rfl
  exact World.block_lt_of_cell? w _ this
theorem RingP.c0 (h : RingP w g b n f c d sl) : w.cell? ⟨g, 0, none⟩ = some (.slice (some ⟨b, 0, none⟩) n n) := cell_of_row w g 0 _ _ _ h.head
theorem RingP.c1 (h : RingP w g b n f c d sl) : w.cell? ⟨g, 1, none⟩ = some (.int .i64 (f : Nat)) := cell_of_row w g 1 _ _ _ h.head
theorem RingP.c2 (h : RingP w g b n f c d sl) : w.cell? ⟨g, 2, none⟩ = some (.int .i64 (c : Nat)) := cell_of_row w g 2 _ _ _ h.head
theorem RingP.c4 (h : RingP w g b n f c d sl) : w.cell? ⟨g, 4, none⟩ = some (.int .i64 (d : Nat)) := cell_of_row w g 4 _ _ _ h.head
theorem RingP.fz (h : RingP w g b n f c d sl) (i : Nat) : w.frozen? ⟨g, i, none⟩ = false := frozen_of_row w g i _ _ h.head
theorem RingP.at (h : RingP w g b n f c d sl) {i : Nat} (hi : i < n) (j : Nat) : w.cell? ⟨b, i * 5 + j, none⟩ = (sl.getD i rq0).cs[j]? ∨ 5 ≤ j := by
  rcases Nat.lt_or_ge j 5 with hj | hj
  · left
    have e : (sl.getD i rq0).cs[j]? = some (sl.getD i rq0).cs[j] := List.getElem?_eq_getElem hj
    rw [e]
    exact h.row i hi j _ e
  · right; exact hj
theorem RingP.there (h : RingP w g b n f c d sl) {i : Nat} (hi : i < n) : w.there b (i * 5) 5 := fun j hj =>
  ⟨(h.row i hi).isSome j hj, h.fzb _⟩
end
/-- All that is not the ring's stays as it is. -/
structure Kept (g b : Nat) (w w' : World) : Prop where
  os : w'.os = w.os
  tape : w'.tape = w.tape
  output : w'.output = w.output
  size : w.heap.size ≤ w'.heap.size
  block : ∀ k, k < w.heap.size → k ≠ g → k ≠ b → w'.heap[k]? = w.heap[k]?
theorem Kept.refl (g b : Nat) (w : World) : Kept g b w w := ⟨rfl, rfl, rfl, Nat.le_refl _, fun _ _ _ _ => rfl⟩
theorem Kept.trans {g b : Nat} {w w' w'' : World} (h : Kept g b w w') (k : Kept g b w' w'') : Kept g b w w'' :=
  ⟨k.os.trans h.os, k.tape.trans h.tape, k.output.trans h.output, Nat.le_trans h.size k.size, fun i hi h1 h2 => (k.block i (Nat.lt_of_lt_of_le hi h.size) h1 h2).trans (h.block i hi h1 h2)⟩
theorem Kept.below {g b B : Nat} {w w' : World} (h : Kept g b w w') (hg : B ≤ g) (hb : B ≤ b) (hB : B ≤ w.heap.size) : Below B w w' :=
  ⟨h.os, h.tape, h.output, h.size, fun k hk => h.block k (by omega) (by omega) (by omega)⟩
theorem Kept.of_below {g b : Nat} {w w' : World} (h : Below w.heap.size w w') : Kept g b w w' := ⟨h.os, h.tape, h.output, h.size, fun k hk _ _ => h.block k hk⟩
theorem Kept.set {g b : Nat} {w w' : World} (h : Kept g b w w') {a : Addr} (ha : a.block = g ∨ a.block = b) (u : Value) : Kept g b w (w'.setCell a u) :=
  h.trans ⟨rfl, rfl, rfl, by simp, fun k _ h1 h2 => heap_setCell_other w' a k u (by rcases ha with e | e <;> omega)⟩
theorem Kept.sets {g b : Nat} {w w' : World} (h : Kept g b w w') {x : Nat} (hx : x = g ∨ x = b) : ∀ (vs : List Value) (o : Nat), Kept g b w (w'.setCells x o vs) := fun vs => by
  induction vs generalizing w' with
  | nil => intro o; exact h
  | cons v r ih => intro o; exact ih (h.set (a := ⟨x, o, none⟩) hx v) (o + 1)
theorem Kept.drew {g b : Nat} {w w' : World} (h : Kept g b w w') : Kept g b w w'.drew := ⟨h.os, h.tape, h.output, h.size, h.block⟩
theorem Kept.drewN {g b : Nat} {w w' : World} (h : Kept g b w w') (n : Nat) : Kept g b w (w'.drewN n) := ⟨h.os, h.tape, h.output, h.size, h.block⟩
theorem range_block {w w' : World} {b o : Nat} {cs : List Value} (h : w.rangeAt b o cs) (hb : w'.heap[b]? = w.heap[b]?) : w'.rangeAt b o cs := fun j v hv => (World.cell?_of_block (a := ⟨b, o + j, none⟩) hb).trans (h j v hv)
theorem RingP.same {w w' : World} {g b n f c d : Nat} {sl : List Rq} (h : RingP w g b n f c d sl) (h1 : w'.heap[g]? = w.heap[g]?) (h2 : w'.heap[b]? = w.heap[b]?) : RingP w' g b n f c d sl :=
  ⟨h1.trans h.head, fun i hi => range_block (h.row i hi) h2, fun i => (World.frozen?_of_block (a := ⟨b, i, none⟩) h2).trans (h.fzb i), h.ne, h.len, h.n1, h.n2, h.hf, h.hc, h.hd⟩
theorem RingP.below {w w' : World} {g b n f c d : Nat} {sl : List Rq} (h : RingP w g b n f c d sl) {k : Nat} (hb : Below k w w') (hk : w.heap.size ≤ k) : RingP w' g b n f c d sl :=
  h.same (hb.block g (Nat.lt_of_lt_of_le (box_lt h.head) hk)) (hb.block b (Nat.lt_of_lt_of_le h.hb hk))
theorem RingP.drewN {w : World} {g b n f c d : Nat} {sl : List Rq} (h : RingP w g b n f c d sl) (q : Nat) : RingP (w.drewN q) g b n f c d sl := h.same rfl rfl
theorem RingP.drew {w : World} {g b n f c d : Nat} {sl : List Rq} (h : RingP w g b n f c d sl) : RingP w.drew g b n f c d sl := h.same rfl rfl
section
variable {w : World} {g b n f c d : Nat} {sl : List Rq}
/-- The ring with other numbers. -/
theorem RingP.headSet (h : RingP w g b n f c d sl) {f' c' d' : Nat} (i : Nat) (u : Value) (hh : (w.setCell ⟨g, i, none⟩ u).heap[g]? = some (.cells #[.slice (some ⟨b, 0, none⟩) n n, .int .i64 (f' : Nat), .int .i64 (c' : Nat), .int .i64 0, .int .i64 (d' : Nat)] 147 (0, 0)))
    (hf : f' < n) (hc : c' ≤ n) (hd : d' ≤ 65535) : RingP (w.setCell ⟨g, i, none⟩ u) g b n f' c' d' sl := by
  have hb := heap_setCell_other w ⟨g, i, none⟩ b u (Ne.symm h.ne)
  exact ⟨hh, fun j hj => range_block (h.row j hj) hb, fun j => (World.frozen?_of_block (a := ⟨b, j, none⟩) hb).trans (h.fzb j), h.ne, h.len, h.n1, h.n2, hf, hc, hd⟩
theorem RingP.setFirst (h : RingP w g b n f c d sl) (f' : Nat) (hf : f' < n) : RingP (w.setCell ⟨g, 1, none⟩ (.int .i64 (f' : Nat))) g b n f' c d sl :=
  h.headSet 1 _ (heap_setCell_same w g 1 _ _ _ h.head) hf h.hc h.hd
theorem RingP.setCount (h : RingP w g b n f c d sl) (c' : Nat) (hc : c' ≤ n) : RingP (w.setCell ⟨g, 2, none⟩ (.int .i64 (c' : Nat))) g b n f c' d sl :=
  h.headSet 2 _ (heap_setCell_same w g 2 _ _ _ h.head) h.hf hc h.hd
theorem RingP.setDropped (h : RingP w g b n f c d sl) (d' : Nat) (hd : d' ≤ 65535) : RingP (w.setCell ⟨g, 4, none⟩ (.int .i64 (d' : Nat))) g b n f c d' sl :=
  h.headSet 4 _ (heap_setCell_same w g 4 _ _ _ h.head) h.hf h.hc hd
theorem heap_setCells_other (x : Nat) : ∀ (vs : List Value) (o : Nat) (w : World) (k : Nat), k ≠ x → (w.setCells x o vs).heap[k]? = w.heap[k]?
  | [], _, _, _, _ => rfl
  | v :: r, o, w, k, h => by rw [World.setCells, heap_setCells_other x r (o + 1) _ k h]; exact heap_setCell_other w ⟨x, o, none⟩ k v h
theorem RingP.setSlot (h : RingP w g b n f c d sl) {i : Nat} (hi : i < n) (x : Rq) : RingP (w.setCells b (i * 5) x.cs) g b n f c d (sl.set i x) := by
  refine ⟨(heap_setCells_other b _ _ w g h.ne).trans h.head, fun j hj => ?_, fun j => (World.frozen?_setCells b _ _ w _).trans (h.fzb j), h.ne, by rw [List.length_set]; exact h.len, h.n1, h.n2, h.hf, h.hc, h.hd⟩
  by_cases e : i = j
  · subst e
    have : (sl.set i x).getD i rq0 = x := by simp [List.getD, h.len, hi]
    rw [this]
    exact World.rangeAt_setCells_same w b _ _ (h.there hi)
  · have : (sl.set i x).getD j rq0 = sl.getD j rq0 := by simp only [List.getD, List.getElem?_set, e, if_false]
    rw [this]
    exact World.rangeAt_setCells_apart (h.row j hj) b _ _ (by right; rw [Rq.len, Rq.len]; omega)
end
section
variable {w : World} {g b n f c d : Nat} {sl : List Rq}
theorem ret_i {k : IntKind} {a b : Int} (h : a = b) : Value.int k a = .int k b := by rw [h]
theorem below_drewsI (B : Nat) (w : World) (n : Nat) : Below B w (w.drewN n) := ⟨rfl, rfl, rfl, Nat.le_refl _, fun _ _ => rfl⟩
theorem fits64 (x : Int) (h0 : 0 ≤ x) (h1 : x ≤ 1000000) : IntKind.i64.wrap x = x := by rw [IntKind.wrap_i64]; omega
set_option maxHeartbeats 1000000 in
theorem iLen_any (h : RingP w g b n f c d sl) : Calls Try.prog 70 #[.pointer (some ⟨g, 0, none⟩)] w fun e w' => e = .returned (.int .i64 (c : Nat)) ∧ w = w' := by
  have c2 := h.c2
  clear h
  go_enter Try.func70, Try.ntmps70
  go_wp2
  go_ret
  exact ⟨rfl, rfl⟩
set_option maxHeartbeats 1000000 in
theorem iDropped_any (h : RingP w g b n f c d sl) : Calls Try.prog 71 #[.pointer (some ⟨g, 0, none⟩)] w fun e w' => e = .returned (.int .i64 (d : Nat)) ∧ w = w' := by
  have c4 := h.c4
  clear h
  go_enter Try.func71, Try.ntmps71
  go_wp2
  go_ret
  exact ⟨rfl, rfl⟩
set_option maxHeartbeats 1000000 in
theorem iRoom_any (h : RingP w g b n f c d sl) : Calls Try.prog 88 #[.pointer (some ⟨g, 0, none⟩)] w fun e w' => e = .returned (.int .i64 ((n - c : Nat) : Int)) ∧ ∃ q, w' = w.drewN q := by
  have c0 := h.c0
  have c2 := h.c2
  have hn := h.n2
  have hc := h.hc
  have e1 : IntKind.i64.wrap ((n : Int) - (c : Int)) = ((n - c : Nat) : Int) := by rw [fits64 _ (by omega) (by omega)]; omega
  have e2 : (n : Int) - (c : Int) = ((n - c : Nat) : Int) := by omega
  obtain ⟨r, hr⟩ : ∃ r, r = n - c := ⟨_, rfl⟩
  rw [← hr] at e1 e2 ⊢
  clear h hr
  go_enter Try.func88, Try.ntmps88
  go_wp2
  go_quiet (fail)
  all_goals
    go_wp2
    go_ret
    exact ⟨rfl, _, rfl⟩
set_option maxHeartbeats 1000000 in
theorem islot_any (h : RingP w g b n f c d sl) (i : Nat) (hi : i ≤ 100000) : Calls Try.prog 87 #[.pointer (some ⟨g, 0, none⟩), .int .i64 (i : Nat)] w fun e w' => e = .returned (.int .i64 (((f + i) % n : Nat) : Int)) ∧ ∃ q, w' = w.drewN q := by
  have c0 := h.c0
  have c1 := h.c1
  have hn1 := h.n1
  have hn2 := h.n2
  have hf := h.hf
  obtain ⟨y, hy⟩ : ∃ y, y = f + i := ⟨_, rfl⟩
  obtain ⟨r, hr⟩ : ∃ r, r = (f + i) % n := ⟨_, rfl⟩
  have e1 : IntKind.i64.wrap ((f : Int) + (i : Int)) = (y : Int) := by rw [fits64 _ (by omega) (by omega)]; omega
  have e2 : (f : Int) + (i : Int) = (y : Int) := by omega
  have e3 : (y : Int).tmod (n : Int) = (r : Int) := by rw [hr, hy]; rfl
  have e4 : (y : Int) % (n : Int) = (r : Int) := by rw [hr, hy]; simp
  have e5 : ((n : Int) == 0) = false := by rw [beq_eq_false_iff_ne]; omega
  rw [← hr]
  clear h hr hy
  go_enter Try.func87, Try.ntmps87
  go_wp2
  go_quiet (fail)
  all_goals
    go_wp2
    go_ret
    exact ⟨rfl, _, rfl⟩
set_option maxHeartbeats 1000000 in
theorem more_any (c y : Nat) (w : World) (hc : c ≤ 65535) (hy : y ≤ 1000000) : Calls Try.prog 89 #[.int .i64 (c : Nat), .int .i64 (y : Nat)] w fun e w' => e = .returned (.int .i64 ((min (c + y) 65535 : Nat) : Int)) ∧ w = w' := by
  by_cases h : y < 65535 - c
  · have e : (c : Int) + (y : Int) = ((min (c + y) 65535 : Nat) : Int) := by omega
    have hlt : (y : Int) < 65535 - (c : Int) := by omega
    have HE := Lib.hid e
    clear e
    go_enter Try.func89, Try.ntmps89
    go_wp2
    go_ret
    exact ⟨congrArg Ending.returned (by rw [← HE.out]; go_num), rfl⟩
  · have e : (c : Int) + (65535 - (c : Int)) = ((min (c + y) 65535 : Nat) : Int) := by omega
    have hlt : ¬ (y : Int) < 65535 - (c : Int) := by omega
    have HE := Lib.hid e
    clear e
    go_enter Try.func89, Try.ntmps89
    go_wp2
    all_goals
      go_ret
      exact ⟨congrArg Ending.returned (ret_i (by first | (rw [← HE.out]; done) | omega)), rfl⟩
end
end Go.Proofs.Ytioclbkgfbjpdaa
