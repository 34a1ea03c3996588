/- Monitors: what one is, cell by cell. -/
import Derived.Test.YtkgeeohgfbacaaaCk
import Derived.Test.YtkgeeohgfbacaaaRes
import Derived.Deep.MidRow
import Derived.Test.YtkgeeohgfbacaaaKeep
namespace Go.Proofs.Ytkgeeohgfbacaaa
open Go.RowKit Go.Own
set_option linter.unusedVariables false
set_option linter.unusedSimpArgs false
/-- A rule. -/
structure Rl where
  d : Df
  rep : Int
  ev : Int
  lev : Int
  un : Int
  en : Bool
/-- A rule at work. -/
structure Wt where
  r : Rl
  any : Bool
  val : Int
  cand : Int
  times : Int
  st : Int
def Rl.cs (r : Rl) : Array Value := #[.int .u8 r.d.k, .int .i64 r.d.p, .int .i32 r.d.l, .int .i32 r.d.h, .int .u32 ((r.d.m : Nat) : Int), .int .u32 ((r.d.n : Nat) : Int), .int .u8 r.rep, .int .u8 r.ev, .int .u8 r.lev, .int .i64 r.un, .bool r.en]
def Wt.cs (q : Wt) : Array Value := #[.int .u8 q.r.d.k, .int .i64 q.r.d.p, .int .i32 q.r.d.l, .int .i32 q.r.d.h, .int .u32 ((q.r.d.m : Nat) : Int), .int .u32 ((q.r.d.n : Nat) : Int), .int .u8 q.r.rep, .int .u8 q.r.ev, .int .u8 q.r.lev, .int .i64 q.r.un, .bool q.r.en,
  .bool q.any, .int .i32 q.val, .int .u8 q.cand, .int .u8 q.times, .int .u8 q.st]
def Rl.z : Rl := ⟨⟨0, 0, 0, 0, 0, 0⟩, 0, 0, 0, 0, false⟩
def Wt.z : Wt := ⟨Rl.z, false, 0, 0, 0, 0⟩
theorem Wt.size (q : Wt) : q.cs.size = 16 := rfl
theorem Rl.size (q : Rl) : q.cs.size = 11 := rfl
theorem Wt.one (q : Wt) : q.cs.all (·.oneCell') = true := by simp [Wt.cs, Value.oneCell']
theorem Rl.one (q : Rl) : q.cs.all (·.oneCell') = true := by simp [Rl.cs, Value.oneCell']
/-- A monitor: each place's rule at work; how many there are. -/
structure Mn where
  x : Nat → Wt
  n : Nat
def Mn.cell (p : Mn) (k : Nat) : Value := if k < 256 then (p.x (k / 16)).cs.getD (k % 16) undef else .int .i64 (p.n : Nat)
/-- Its cells. -/
def Mn.cs (p : Mn) : Array Value := Array.ofFn (n := 257) fun k => p.cell k
theorem Mn.size (p : Mn) : p.cs.size = 257 := by simp [Mn.cs]
theorem Mn.at_ (p : Mn) {k : Nat} (h : k < 257) : p.cs[k]? = some (p.cell k) := by simp [Mn.cs, Array.getElem?_ofFn, h]
theorem Mn.none (p : Mn) {k : Nat} (h : ¬ k < 257) : p.cs[k]? = none := Array.getElem?_eq_none (by rw [p.size]; omega)
attribute [irreducible] Mn.cs
theorem Mn.w (p : Mn) {i j : Nat} {v : Value} (h : i < 16) (hj : (p.x i).cs[j]? = some v) : p.cs[i * 16 + j]? = some v := by
  have hj2 : j < 16 := by
    have := (Array.getElem?_eq_some_iff.1 hj).1
    rwa [Wt.size] at this
  rw [p.at_ (by omega), Mn.cell, if_pos (by omega), show (i * 16 + j) / 16 = i by omega, show (i * 16 + j) % 16 = j by omega]
  simp [Array.getD_eq_getD_getElem?, hj]
theorem Mn.c (p : Mn) : p.cs[256]? = some (.int .i64 (p.n : Nat)) := by rw [p.at_ (by omega), Mn.cell, if_neg (by omega)]
def Mn.set (p : Mn) (i : Nat) (q : Wt) : Mn := ⟨fun j => if j = i then q else p.x j, p.n⟩
def Mn.empty (n : Nat) : Mn := ⟨fun _ => Wt.z, n⟩
theorem Mn.ext_cs {p q : Mn} (hx : ∀ i, i < 16 → p.x i = q.x i) (hn : p.n = q.n) : p.cs = q.cs := by
  apply Array.ext_getElem?
  intro k
  by_cases hk : k < 257
  · rw [p.at_ hk, q.at_ hk]
    congr 1
    unfold Mn.cell
    by_cases h : k < 256
    · rw [if_pos h, if_pos h, hx (k / 16) (by omega)]
    · rw [if_neg h, if_neg h, hn]
  · rw [p.none hk, q.none hk]
/-- Cells written one behind the other. -/
def arrSets (C : Array Value) : Nat → List Value → Array Value
  | _, [] => C
  | o, v :: vs => arrSets (C.setIfInBounds o v) (o + 1) vs
theorem arrSets_size : ∀ (vs : List Value) (o : Nat) (C : Array Value), (arrSets C o vs).size = C.size
  | [], _, _ => rfl
  | v :: vs, o, C => by rw [arrSets, arrSets_size vs, Array.size_setIfInBounds]
theorem arrSets_out : ∀ (vs : List Value) (o : Nat) (C : Array Value) (k : Nat), (k < o ∨ o + vs.length ≤ k) → (arrSets C o vs)[k]? = C[k]?
  | [], _, _, _, _ => rfl
  | v :: vs, o, C, k, h => by
    rw [arrSets, arrSets_out vs (o + 1) _ k (by simp only [List.length_cons] at h; omega), Array.getElem?_setIfInBounds_ne (by simp only [List.length_cons] at h; omega)]
theorem arrSets_in : ∀ (vs : List Value) (o : Nat) (C : Array Value) (j : Nat) (v : Value), o + vs.length ≤ C.size → vs[j]? = some v → (arrSets C o vs)[o + j]? = some v
  | [], _, _, _, _, _, h => by cases h
  | x :: vs, o, C, 0, v, hs, h => by
    obtain rfl : x = v := by simpa using h
    simp only [List.length_cons] at hs
    rw [arrSets, arrSets_out vs (o + 1) _ (o + 0) (by omega), Nat.add_zero, Array.getElem?_setIfInBounds_self_of_lt (by omega)]
  | x :: vs, o, C, j + 1, v, hs, h => by
    simp only [List.length_cons] at hs
    have := arrSets_in vs (o + 1) (C.setIfInBounds o x) j v (by rw [Array.size_setIfInBounds]; omega) (by simpa using h)
    rw [arrSets, show o + (j + 1) = o + 1 + j by omega]
    exact this
theorem heap_setCells : ∀ (vs : List Value) (o : Nat) (w : World) (g : Nat) (C : Array Value) (t : TypeId), w.heap[g]? = some (.cells C t (0, 0)) → (w.setCells g o vs).heap[g]? = some (.cells (arrSets C o vs) t (0, 0))
  | [], _, _, _, _, _, h => h
  | v :: vs, o, w, g, C, t, h => heap_setCells vs (o + 1) _ g _ t (heap_setCell_same w g o _ _ v h)
theorem heap_setCells_other : ∀ (vs : List Value) (o : Nat) (w : World) (g f : Nat), f ≠ g → (w.setCells g o vs).heap[f]? = w.heap[f]?
  | [], _, _, _, _, _ => rfl
  | v :: vs, o, w, g, f, h => (heap_setCells_other vs (o + 1) _ g f h).trans (heap_setCell_other w ⟨g, o, .none⟩ f v h)
theorem below_setCells {B : Nat} {w : World} : ∀ (vs : List Value) (o : Nat) (w' : World) (g : Nat), B ≤ g → Below B w w' → Below B w (w'.setCells g o vs)
  | [], _, _, _, _, h => h
  | v :: vs, o, w', g, hg, h => below_setCells vs (o + 1) _ g hg (h.setCell (p := ⟨g, o, .none⟩) hg v)
theorem Mn.set_cs (p : Mn) (i : Nat) (q : Wt) (h : i < 16) : arrSets p.cs (i * 16) q.cs.toList = (p.set i q).cs := by
  have hz := p.size
  have hl : q.cs.toList.length = 16 := rfl
  have hu : (p.set i q).x i = q := if_pos rfl
  apply Array.ext_getElem?
  intro k
  by_cases hk : i * 16 ≤ k ∧ k < i * 16 + 16
  · obtain ⟨j, rfl⟩ : ∃ j, k = i * 16 + j := ⟨k - i * 16, by omega⟩
    have hj : j < q.cs.toList.length := by omega
    have h1 : q.cs.toList[j]? = some (q.cs.toList[j]) := List.getElem?_eq_getElem hj
    rw [arrSets_in q.cs.toList (i * 16) p.cs j _ (by rw [hl, hz]; omega) h1]
    refine ((p.set i q).w h ?_).symm
    rw [hu, ← Array.getElem?_toList]
    exact h1
  · rw [arrSets_out _ _ _ _ (by rw [hl]; omega)]
    by_cases hk2 : k < 257
    · rw [p.at_ hk2, (p.set i q).at_ hk2]
      congr 1
      unfold Mn.cell
      by_cases h3 : k < 256
      · rw [if_pos h3, if_pos h3]
        have : (p.set i q).x (k / 16) = p.x (k / 16) := if_neg (by omega)
        rw [this]
      · rw [if_neg h3, if_neg h3]
        rfl
    · rw [p.none hk2, (p.set i q).none hk2]
theorem Mn.one (p : Mn) : (p.cs).all (·.oneCell') = true := by
  rw [Array.all_eq_true]
  intro i hi
  have := p.at_ (k := i) (by rw [p.size] at hi; exact hi)
  rw [Array.getElem?_eq_getElem hi] at this
  rw [Option.some.inj this]
  unfold Mn.cell
  split
  · have h16 : i % 16 < 16 := by omega
    have h2 := (p.x (i / 16)).one
    rw [Array.all_eq_true] at h2
    have h3 := h2 (i % 16) (by rw [Wt.size]; exact h16)
    simp only [Array.getD_eq_getD_getElem?, Array.getElem?_eq_getElem (show i % 16 < (p.x (i / 16)).cs.size by rw [Wt.size]; exact h16), Option.getD_some]
    exact h3
  · rfl
/-- A monitor in a block of its own. -/
def MnB (w : World) (g : Nat) (p : Mn) : Prop := w.heap[g]? = some (.cells p.cs 124 (0, 0))
theorem size_mn (p : Mn) : (Try.prog.info? 124).map (·.size) = some p.cs.size := by
  rw [p.size]
  kernel_rfl
theorem size_wt (q : Wt) : (Try.prog.info? 121).map (·.size) = some q.cs.size := by
  rw [q.size]
  kernel_rfl
theorem size_rl (q : Rl) : (Try.prog.info? 117).map (·.size) = some q.cs.size := by
  rw [q.size]
  kernel_rfl
theorem MnB.below {w w' : World} {g k : Nat} {p : Mn} (h : MnB w g p) (hb : Below k w w') (hk : w.heap.size ≤ k) : MnB w' g p := box_below h hb (Nat.lt_of_lt_of_le (box_lt h) hk)
theorem MnB.new (w : World) (p : Mn) : MnB (w.alloc (.cells p.cs 124)) w.heap.size p := heap_alloc_new _ _
theorem MnB.alloc {w : World} {g : Nat} {p : Mn} (h : MnB w g p) (o : Obj) : MnB (w.alloc o) g p := (Below.heap_alloc w o _ (box_lt h)).trans h
theorem MnB.cell {w : World} {g i j : Nat} {p : Mn} {v : Value} (h : MnB w g p) (hi : i < 16) (hj : (p.x i).cs[j]? = some v) : w.cell? ⟨g, i * 16 + j, .none⟩ = some v := (cell_of_row w g (i * 16 + j) _ _ _ h).trans (p.w hi hj)
theorem MnB.cellC {w : World} {g : Nat} {p : Mn} (h : MnB w g p) : w.cell? ⟨g, 256, .none⟩ = some (.int .i64 (p.n : Nat)) := (cell_of_row w g 256 _ _ _ h).trans p.c
theorem MnB.range {w : World} {g i : Nat} {p : Mn} (h : MnB w g p) (hi : i < 16) : w.rangeAt g (i * 16) (p.x i).cs.toList := fun j v hv => h.cell hi (by rw [← Array.getElem?_toList]; exact hv)
theorem MnB.there {w : World} {g i : Nat} {p : Mn} (h : MnB w g p) (hi : i < 16) : w.there g (i * 16) 16 := fun j hj => by
  have h1 : (p.x i).cs.toList[j]? = some ((p.x i).cs.toList[j]'(by show j < 16; exact hj)) := List.getElem?_eq_getElem _
  refine ⟨?_, frozen_of_row _ g _ _ _ h⟩
  rw [h.range hi j _ h1]
  rfl
theorem MnB.set {w : World} {g i : Nat} {p : Mn} (h : MnB w g p) (hi : i < 16) (q : Wt) : MnB (w.setCells g (i * 16) q.cs.toList) g (p.set i q) := by
  unfold MnB
  rw [← p.set_cs i q hi]
  exact heap_setCells _ _ _ _ _ _ h
theorem wpLoadWm {P : Program} {ops : Array Oper} {rest : List Oper} {o : Oper} {a : Act} {w : World} {Q : Exit → Act → World → Prop} (hwt : Region.wanted o (yielded ops a.tmps) = true) (ty : TypeId) (x : Operand) (ho : o.op = .load ty x)
    (g : Nat) (hx : a.eval x = .pointer (some ⟨g, 0, none⟩)) (t : TypeId) (cs : Array Value) (fr : Nat × Nat) (d : TypeDesc) (hg : w.heap[g]? = some (.cells cs t fr))
    (hu : P.underlying ty = some d) (hd : (match d with | .struct _ | .array _ _ => true | _ => false) = true) (hi : (P.info? ty).map (·.size) = some cs.size)
    (h : wpList P ops Q rest (a.put o.dst (.agg cs)) w) : wpList P ops Q (o :: rest) a w := by
  unfold wpList
  rw [if_pos hwt]
  exact .inl (wp_load_row ty x ho g hx t cs fr d hg hu hd hi h)
end Go.Proofs.Ytkgeeohgfbacaaa
