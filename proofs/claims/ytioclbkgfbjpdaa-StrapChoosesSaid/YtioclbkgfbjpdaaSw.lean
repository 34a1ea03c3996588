/- Layer 18: ways to give units to roles. -/
import Derived.Test.YtioclbkgfbjpdaaSetA
import Derived.Test.YtioclbkgfbjpdaaBs3
import Derived.Test.YtioclbkgfbjpdaaFlo3
import Derived.Laws.ResultCell
import Derived.Deep.WholeRow
import Derived.Deep.CutBlock
import Derived.Deep.DeepCutAuto
namespace Go.Proofs.Ytioclbkgfbjpdaa
open Go.RowKit Go.Own
set_option linter.unusedVariables false
set_option linter.unusedSimpArgs false
/-- Ways: how many, the best, in how many roles it differs. -/
structure Wy where
  n : Nat
  b : Nat → Int
  d : Nat
def Wy.zero : Wy := ⟨0, fun _ => 0, 0⟩
def noneC : Nat → Int := fun _ => -1
def Wy.or (w o : Wy) : Wy := if w.n = 0 ∨ 0 < o.n ∧ o.d < w.d then ⟨w.n + o.n, o.b, o.d⟩ else ⟨w.n + o.n, w.b, w.d⟩
def Wy.with (w : Wy) (r : Nat) (u : Int) (near : Nat → Int) : Wy := ⟨w.n, fun j => if j = r then u else w.b j, if u ≠ near r then w.d + 1 else w.d⟩
theorem size_wy : (Try.prog.info? 135).map (·.size) = some 8 := by kernel_rfl
theorem size_ch : (Try.prog.info? 76).map (·.size) = some 6 := by kernel_rfl
theorem zero_wy (w : World) : (zeroValue 135).run Try.prog w = .ok (.agg #[.int .i64 ((Wy.n Wy.zero : Nat) : Int), .int .i8 (Wy.b Wy.zero 0), .int .i8 (Wy.b Wy.zero 1), .int .i8 (Wy.b Wy.zero 2), .int .i8 (Wy.b Wy.zero 3), .int .i8 (Wy.b Wy.zero 4), .int .i8 (Wy.b Wy.zero 5), .int .i64 ((Wy.d Wy.zero : Nat) : Int)]) w := by kernel_rfl
theorem zero_ch (w : World) : (zeroValue 76).run Try.prog w = .ok (.agg #[.int .i8 0, .int .i8 0, .int .i8 0, .int .i8 0, .int .i8 0, .int .i8 0]) w := by kernel_rfl
theorem bel_rowS {B g : Nat} {w w' : World} (h : Below B w w') (hg : B ≤ g) (cs : Array Value) : Below B w (w'.setRow g cs) :=
  ⟨h.os, h.tape, h.output, by simpa [World.setRow] using h.size, fun i hi => (setRow_other _ g i _ (by omega)).trans (h.block i hi)⟩
/-- A unit's place among a ways' cells. -/
theorem wy_cell (w : Wy) {k : Nat} (h : k < 6) : (#[.int .i64 ((Wy.n w : Nat) : Int), .int .i8 (Wy.b w 0), .int .i8 (Wy.b w 1), .int .i8 (Wy.b w 2), .int .i8 (Wy.b w 3), .int .i8 (Wy.b w 4), .int .i8 (Wy.b w 5), .int .i64 ((Wy.d w : Nat) : Int)] : Array Value)[1 + k]? = some (.int .i8 (w.b k)) := by
  have hsix : k = 0 ∨ k = 1 ∨ k = 2 ∨ k = 3 ∨ k = 4 ∨ k = 5 := by omega
  rcases hsix with rfl | rfl | rfl | rfl | rfl | rfl <;> rfl
theorem wy_put (w : Wy) {k : Nat} (u : Int) (h : k < 6) : (#[.int .i64 ((Wy.n w : Nat) : Int), .int .i8 (Wy.b w 0), .int .i8 (Wy.b w 1), .int .i8 (Wy.b w 2), .int .i8 (Wy.b w 3), .int .i8 (Wy.b w 4), .int .i8 (Wy.b w 5), .int .i64 ((Wy.d w : Nat) : Int)] : Array Value).setIfInBounds (1 + k) (.int .i8 u) = #[.int .i64 ((Wy.n (Wy.mk w.n (fun j => if j = k then u else w.b j) w.d) : Nat) : Int), .int .i8 (Wy.b (Wy.mk w.n (fun j => if j = k then u else w.b j) w.d) 0), .int .i8 (Wy.b (Wy.mk w.n (fun j => if j = k then u else w.b j) w.d) 1), .int .i8 (Wy.b (Wy.mk w.n (fun j => if j = k then u else w.b j) w.d) 2), .int .i8 (Wy.b (Wy.mk w.n (fun j => if j = k then u else w.b j) w.d) 3), .int .i8 (Wy.b (Wy.mk w.n (fun j => if j = k then u else w.b j) w.d) 4), .int .i8 (Wy.b (Wy.mk w.n (fun j => if j = k then u else w.b j) w.d) 5), .int .i64 ((Wy.d (Wy.mk w.n (fun j => if j = k then u else w.b j) w.d) : Nat) : Int)] := by
  have hsix : k = 0 ∨ k = 1 ∨ k = 2 ∨ k = 3 ∨ k = 4 ∨ k = 5 := by omega
  rcases hsix with rfl | rfl | rfl | rfl | rfl | rfl <;> rfl
theorem ch_cell (c : Nat → Int) {k : Nat} (h : k < 6) : (#[.int .i8 (c 0), .int .i8 (c 1), .int .i8 (c 2), .int .i8 (c 3), .int .i8 (c 4), .int .i8 (c 5)] : Array Value)[k]? = some (.int .i8 (c k)) := by
  have hsix : k = 0 ∨ k = 1 ∨ k = 2 ∨ k = 3 ∨ k = 4 ∨ k = 5 := by omega
  rcases hsix with rfl | rfl | rfl | rfl | rfl | rfl <;> rfl
theorem al3S (w : World) (A B C : Obj) : (((w.alloc A).alloc B).alloc C).heap[w.heap.size]? = some A ∧ (((w.alloc A).alloc B).alloc C).heap[w.heap.size + 1]? = some B ∧ (((w.alloc A).alloc B).alloc C).heap[w.heap.size + 1 + 1]? = some C := by
  have s1 : (w.alloc A).heap.size = w.heap.size + 1 := by simp
  have s2 : ((w.alloc A).alloc B).heap.size = w.heap.size + 1 + 1 := by simp
  have b := heap_alloc_new (w.alloc A) B
  have c := heap_alloc_new ((w.alloc A).alloc B) C
  rw [s1] at b
  rw [s2] at c
  exact ⟨(heap_alloc_old _ _ _ (by omega)).trans ((heap_alloc_old _ _ _ (by omega)).trans (heap_alloc_new _ _)), (heap_alloc_old _ _ _ (by omega)).trans b, c⟩
/-- Three boxes. -/
structure B3 (w wr : World) (g0 g1 g2 : Nat) (A B C : Array Value) (ta tb tc : TypeId) : Prop where
  be : Below w.heap.size w wr
  h0 : w.heap.size ≤ g0
  h1 : w.heap.size ≤ g1
  h2 : w.heap.size ≤ g2
  n01 : g0 ≠ g1
  n02 : g0 ≠ g2
  n12 : g1 ≠ g2
  a : wr.heap[g0]? = some (.cells A ta (0, 0))
  b : wr.heap[g1]? = some (.cells B tb (0, 0))
  c : wr.heap[g2]? = some (.cells C tc (0, 0))
theorem B3.new (w : World) (A B C : Array Value) (ta tb tc : TypeId) : B3 w (((w.alloc (.cells A ta)).alloc (.cells B tb)).alloc (.cells C tc)) w.heap.size (w.heap.size + 1) (w.heap.size + 1 + 1) A B C ta tb tc := by
  obtain ⟨a, b, c⟩ := al3S w (.cells A ta) (.cells B tb) (.cells C tc)
  exact ⟨by repeat' (first | (with_reducible exact Below.refl _ _) | (with_reducible assumption) | (with_reducible refine Below.setCell ?_ ?_ _) | (with_reducible refine Below.alloc ?_ ?_ _) | (with_reducible refine Below.drew ?_) | (with_reducible refine Below.drawsN ?_ _) | go_size), by omega, by omega, by omega, by omega, by omega, by omega, a, b, c⟩
theorem B3.put0 {w wr : World} {g0 g1 g2 : Nat} {A B C : Array Value} {ta tb tc : TypeId} (h : B3 w wr g0 g1 g2 A B C ta tb tc) (A' : Array Value) : B3 w (wr.setRow g0 A') g0 g1 g2 A' B C ta tb tc :=
  ⟨bel_rowS h.be h.h0 _, h.h0, h.h1, h.h2, h.n01, h.n02, h.n12, setRow_heap _ g0 _ _ _ _ h.a, (setRow_other _ g0 g1 _ (Ne.symm h.n01)).trans h.b, (setRow_other _ g0 g2 _ (Ne.symm h.n02)).trans h.c⟩
theorem B3.set0 {w wr : World} {g0 g1 g2 : Nat} {A B C : Array Value} {ta tb tc : TypeId} (h : B3 w wr g0 g1 g2 A B C ta tb tc) (i : Nat) (x : Value) : B3 w (wr.setCell ⟨g0, i, none⟩ x) g0 g1 g2 (A.setIfInBounds i x) B C ta tb tc :=
  ⟨h.be.setCell (p := ⟨g0, i, none⟩) h.h0 _, h.h0, h.h1, h.h2, h.n01, h.n02, h.n12, heap_setCell_same _ _ _ _ _ _ h.a, (heap_setCell_other wr ⟨g0, i, none⟩ g1 _ (Ne.symm h.n01)).trans h.b, (heap_setCell_other wr ⟨g0, i, none⟩ g2 _ (Ne.symm h.n02)).trans h.c⟩
theorem B3.res {w wr : World} {g0 g1 g2 : Nat} {A B C : Array Value} {ta tb tc : TypeId} (h : B3 w wr g0 g1 g2 A B C ta tb tc) (C' : Array Value) : (wr.setRow g2 C').heap[g2]? = some (.cells C' tc (0, 0)) ∧ Below w.heap.size w (wr.setRow g2 C') :=
  ⟨setRow_heap _ g2 _ _ _ _ h.c, bel_rowS h.be h.h2 _⟩
set_option maxRecDepth 100000 in
set_option maxHeartbeats 4000000 in
theorem None_any (w : World) : Calls Try.prog 35 #[] w fun e w' => e = .returned (.agg #[.int .i8 (noneC 0), .int .i8 (noneC 1), .int .i8 (noneC 2), .int .i8 (noneC 3), .int .i8 (noneC 4), .int .i8 (noneC 5)]) ∧ Below w.heap.size w w' := by
  have hzc := zero_ch
  go_enter Try.func35, Try.ntmps35
  go_wp2
  refine wp_loop_rounds 7 ?_
  repeat any_goals (rw [rounds_succ]; go_wp2_with (first | ((with_reducible show wpList _ _ _ (_ :: _) _ _); refine wpList_load_row rfl 76 _ rfl _ rfl _ _ _ _ heap_alloc2_new _ _ _ Try.underlying76 rfl (by exact size_ch) ?_; (try go_simp)) | ((with_reducible show wpList _ _ _ (_ :: _) _ _); refine wpList_store_row rfl 76 _ _ rfl _ _ rfl rfl _ _ heap_alloc2_old _ _ _ (by exact size_ch) (by rfl) (by simp [Value.oneCell']) ?_)))
  refine bodyPost_ret (results_cell_row rfl _ _ _ _ _ _ _ rfl (heap_alloc2_old _ _ _) Try.underlying76 rfl size_ch) rfl ?_
  exact ⟨rfl, by repeat' (first | (with_reducible exact Below.refl _ _) | (with_reducible assumption) | (with_reducible refine Below.setCell ?_ ?_ _) | (with_reducible refine Below.alloc ?_ ?_ _) | (with_reducible refine Below.drew ?_) | (with_reducible refine Below.drawsN ?_ _) | go_size)⟩
theorem wrap_addS {a b n : Nat} (h : n = a + b) (hn : n ≤ 4000000000) : wrap64 ((a : Int) + (b : Int)) = (n : Int) := by unfold wrap64; omega
/- #1 n, #2 b, #3 d: the chosen ways -/
set_option maxRecDepth 100000 in
set_option maxHeartbeats 4000000 in
theorem or_any (x o : Wy) (w : World) (hx : x.n ≤ 1000000000) (ho : o.n ≤ 1000000000) (hxd : x.d ≤ 1000) (hod : o.d ≤ 1000) :
    Calls Try.prog 97 #[.agg #[.int .i64 ((Wy.n x : Nat) : Int), .int .i8 (Wy.b x 0), .int .i8 (Wy.b x 1), .int .i8 (Wy.b x 2), .int .i8 (Wy.b x 3), .int .i8 (Wy.b x 4), .int .i8 (Wy.b x 5), .int .i64 ((Wy.d x : Nat) : Int)], .agg #[.int .i64 ((Wy.n o : Nat) : Int), .int .i8 (Wy.b o 0), .int .i8 (Wy.b o 1), .int .i8 (Wy.b o 2), .int .i8 (Wy.b o 3), .int .i8 (Wy.b o 4), .int .i8 (Wy.b o 5), .int .i64 ((Wy.d o : Nat) : Int)]] w fun e w' => e = .returned (.agg #[.int .i64 ((Wy.n (x.or o) : Nat) : Int), .int .i8 (Wy.b (x.or o) 0), .int .i8 (Wy.b (x.or o) 1), .int .i8 (Wy.b (x.or o) 2), .int .i8 (Wy.b (x.or o) 3), .int .i8 (Wy.b (x.or o) 4), .int .i8 (Wy.b (x.or o) 5), .int .i64 ((Wy.d (x.or o) : Nat) : Int)]) ∧ Below w.heap.size w w' := by
  have hzw := zero_wy
  obtain ⟨xn, xb, xd⟩ := x
  obtain ⟨on, ob, od⟩ := o
  dsimp only at hx ho hxd hod
  obtain ⟨N, hN⟩ : ∃ N, N = xn + on := ⟨_, rfl⟩
  have HN := Lib.hid hN
  clear hN
  go_enter Try.func97, Try.ntmps97
  go_upto_region 1 with fail
  obtain ⟨ws, hws, hS⟩ : ∃ ws, ws = (((w.alloc (.cells #[.int .i64 ((Wy.n (Wy.mk xn xb xd) : Nat) : Int), .int .i8 (Wy.b (Wy.mk xn xb xd) 0), .int .i8 (Wy.b (Wy.mk xn xb xd) 1), .int .i8 (Wy.b (Wy.mk xn xb xd) 2), .int .i8 (Wy.b (Wy.mk xn xb xd) 3), .int .i8 (Wy.b (Wy.mk xn xb xd) 4), .int .i8 (Wy.b (Wy.mk xn xb xd) 5), .int .i64 ((Wy.d (Wy.mk xn xb xd) : Nat) : Int)] 135)).alloc (.cells #[.int .i64 ((Wy.n (Wy.mk on ob od) : Nat) : Int), .int .i8 (Wy.b (Wy.mk on ob od) 0), .int .i8 (Wy.b (Wy.mk on ob od) 1), .int .i8 (Wy.b (Wy.mk on ob od) 2), .int .i8 (Wy.b (Wy.mk on ob od) 3), .int .i8 (Wy.b (Wy.mk on ob od) 4), .int .i8 (Wy.b (Wy.mk on ob od) 5), .int .i64 ((Wy.d (Wy.mk on ob od) : Nat) : Int)] 135)).alloc (.cells #[.int .i64 ((Wy.n Wy.zero : Nat) : Int), .int .i8 (Wy.b Wy.zero 0), .int .i8 (Wy.b Wy.zero 1), .int .i8 (Wy.b Wy.zero 2), .int .i8 (Wy.b Wy.zero 3), .int .i8 (Wy.b Wy.zero 4), .int .i8 (Wy.b Wy.zero 5), .int .i64 ((Wy.d Wy.zero : Nat) : Int)] 135)) ∧ B3 w ws w.heap.size (w.heap.size + 1) (w.heap.size + 1 + 1) #[.int .i64 ((Wy.n (Wy.mk xn xb xd) : Nat) : Int), .int .i8 (Wy.b (Wy.mk xn xb xd) 0), .int .i8 (Wy.b (Wy.mk xn xb xd) 1), .int .i8 (Wy.b (Wy.mk xn xb xd) 2), .int .i8 (Wy.b (Wy.mk xn xb xd) 3), .int .i8 (Wy.b (Wy.mk xn xb xd) 4), .int .i8 (Wy.b (Wy.mk xn xb xd) 5), .int .i64 ((Wy.d (Wy.mk xn xb xd) : Nat) : Int)] #[.int .i64 ((Wy.n (Wy.mk on ob od) : Nat) : Int), .int .i8 (Wy.b (Wy.mk on ob od) 0), .int .i8 (Wy.b (Wy.mk on ob od) 1), .int .i8 (Wy.b (Wy.mk on ob od) 2), .int .i8 (Wy.b (Wy.mk on ob od) 3), .int .i8 (Wy.b (Wy.mk on ob od) 4), .int .i8 (Wy.b (Wy.mk on ob od) 5), .int .i64 ((Wy.d (Wy.mk on ob od) : Nat) : Int)] #[.int .i64 ((Wy.n Wy.zero : Nat) : Int), .int .i8 (Wy.b Wy.zero 0), .int .i8 (Wy.b Wy.zero 1), .int .i8 (Wy.b Wy.zero 2), .int .i8 (Wy.b Wy.zero 3), .int .i8 (Wy.b Wy.zero 4), .int .i8 (Wy.b Wy.zero 5), .int .i64 ((Wy.d Wy.zero : Nat) : Int)] 135 135 135 := ⟨_, rfl, B3.new _ _ _ _ _ _ _⟩
  rw [← hws]
  obtain ⟨g2, hg2⟩ : ∃ g, g = w.heap.size + 1 + 1 := ⟨_, rfl⟩
  rw [← hg2] at hS ⊢
  obtain ⟨g1, hg1⟩ : ∃ g, g = w.heap.size + 1 := ⟨_, rfl⟩
  rw [← hg1] at hS ⊢
  obtain ⟨g0, hg0⟩ : ∃ g, g = w.heap.size := ⟨_, rfl⟩
  rw [show (Value.pointer (some ⟨w.heap.size, 0, none⟩)) = .pointer (some ⟨g0, 0, none⟩) by rw [hg0]]
  have hS : B3 w ws g0 g1 g2 #[.int .i64 ((Wy.n (Wy.mk xn xb xd) : Nat) : Int), .int .i8 (Wy.b (Wy.mk xn xb xd) 0), .int .i8 (Wy.b (Wy.mk xn xb xd) 1), .int .i8 (Wy.b (Wy.mk xn xb xd) 2), .int .i8 (Wy.b (Wy.mk xn xb xd) 3), .int .i8 (Wy.b (Wy.mk xn xb xd) 4), .int .i8 (Wy.b (Wy.mk xn xb xd) 5), .int .i64 ((Wy.d (Wy.mk xn xb xd) : Nat) : Int)] #[.int .i64 ((Wy.n (Wy.mk on ob od) : Nat) : Int), .int .i8 (Wy.b (Wy.mk on ob od) 0), .int .i8 (Wy.b (Wy.mk on ob od) 1), .int .i8 (Wy.b (Wy.mk on ob od) 2), .int .i8 (Wy.b (Wy.mk on ob od) 3), .int .i8 (Wy.b (Wy.mk on ob od) 4), .int .i8 (Wy.b (Wy.mk on ob od) 5), .int .i64 ((Wy.d (Wy.mk on ob od) : Nat) : Int)] #[.int .i64 ((Wy.n Wy.zero : Nat) : Int), .int .i8 (Wy.b Wy.zero 0), .int .i8 (Wy.b Wy.zero 1), .int .i8 (Wy.b Wy.zero 2), .int .i8 (Wy.b Wy.zero 3), .int .i8 (Wy.b Wy.zero 4), .int .i8 (Wy.b Wy.zero 5), .int .i64 ((Wy.d Wy.zero : Nat) : Int)] 135 135 135 := by rw [hg0]; exact hS
  have HS := Lib.hid hS
  clear hS hws hg2 hg1 hg0
  clear hzw
  have c0 := cell_of_row _ g0 0 _ _ _ HS.out.a
  have c7 := cell_of_row _ g0 7 _ _ _ HS.out.a
  have d0 := cell_of_row _ g1 0 _ _ _ HS.out.b
  have d7 := cell_of_row _ g1 7 _ _ _ HS.out.b
  simp at c0 c7 d0 d7
  by_cases h0 : xn = 0
  · have HOR := Lib.hid (show (Wy.mk xn xb xd).or ⟨on, ob, od⟩ = ⟨N, ob, od⟩ by unfold Wy.or; rw [if_pos (.inl h0), HN.out])
    subst h0
    skip
    have b1 := HS.out.b
    have b0 := HS.out.a
    have HS1 := Lib.hid (HS.out.put0 #[.int .i64 ((Wy.n (Wy.mk on ob od) : Nat) : Int), .int .i8 (Wy.b (Wy.mk on ob od) 0), .int .i8 (Wy.b (Wy.mk on ob od) 1), .int .i8 (Wy.b (Wy.mk on ob od) 2), .int .i8 (Wy.b (Wy.mk on ob od) 3), .int .i8 (Wy.b (Wy.mk on ob od) 4), .int .i8 (Wy.b (Wy.mk on ob od) 5), .int .i64 ((Wy.d (Wy.mk on ob od) : Nat) : Int)])
    clear HS
    go_upto_region 3 with fail
    go_upto_region 4 with (first | ((with_reducible show wpList _ _ _ (_ :: _) _ _); refine wpList_load_row rfl 135 _ rfl _ rfl _ _ _ _ b1 Try.underlying135 rfl (by exact size_wy) ?_; (try go_simp)) | ((with_reducible show wpList _ _ _ (_ :: _) _ _); refine wpList_store_row rfl 135 _ _ rfl _ _ rfl rfl _ _ b0 (by exact size_wy) (by rfl) (by simp [Value.oneCell']) ?_))
    clear c0 c7 d0 d7 b0 b1
    obtain ⟨wq, hwq⟩ : ∃ wq, wq = ws.setRow g0 #[.int .i64 ((Wy.n (Wy.mk on ob od) : Nat) : Int), .int .i8 (Wy.b (Wy.mk on ob od) 0), .int .i8 (Wy.b (Wy.mk on ob od) 1), .int .i8 (Wy.b (Wy.mk on ob od) 2), .int .i8 (Wy.b (Wy.mk on ob od) 3), .int .i8 (Wy.b (Wy.mk on ob od) 4), .int .i8 (Wy.b (Wy.mk on ob od) 5), .int .i64 ((Wy.d (Wy.mk on ob od) : Nat) : Int)] := ⟨_, rfl⟩
    rw [← hwq] at HS1 ⊢
    have HS := HS1
    clear HS1 hwq
    skip
    have k0 := cell_of_row _ g0 0 _ _ _ HS.out.a
    have z0 := frozen_of_row _ g0 0 _ _ HS.out.a
    simp at k0
    have HS2 := Lib.hid (HS.out.set0 0 (.int .i64 (N : Nat)))
    clear HS
    go_upto_region 5 with fail
    obtain ⟨w4, hw4⟩ : ∃ w4, w4 = wq.setCell ⟨g0, 0, none⟩ (.int .i64 (N : Nat)) := ⟨_, rfl⟩
    rw [show wq.setCell ⟨g0, 0, none⟩ (.int .i64 (on : Nat)) = w4 by rw [hw4, HN.out]; simp]
    rw [← hw4] at HS2
    have HS3 := Lib.hid (show B3 w w4 g0 g1 g2 #[.int .i64 ((Wy.n (Wy.mk N ob od) : Nat) : Int), .int .i8 (Wy.b (Wy.mk N ob od) 0), .int .i8 (Wy.b (Wy.mk N ob od) 1), .int .i8 (Wy.b (Wy.mk N ob od) 2), .int .i8 (Wy.b (Wy.mk N ob od) 3), .int .i8 (Wy.b (Wy.mk N ob od) 4), .int .i8 (Wy.b (Wy.mk N ob od) 5), .int .i64 ((Wy.d (Wy.mk N ob od) : Nat) : Int)] #[.int .i64 ((Wy.n (Wy.mk on ob od) : Nat) : Int), .int .i8 (Wy.b (Wy.mk on ob od) 0), .int .i8 (Wy.b (Wy.mk on ob od) 1), .int .i8 (Wy.b (Wy.mk on ob od) 2), .int .i8 (Wy.b (Wy.mk on ob od) 3), .int .i8 (Wy.b (Wy.mk on ob od) 4), .int .i8 (Wy.b (Wy.mk on ob od) 5), .int .i64 ((Wy.d (Wy.mk on ob od) : Nat) : Int)] #[.int .i64 ((Wy.n Wy.zero : Nat) : Int), .int .i8 (Wy.b Wy.zero 0), .int .i8 (Wy.b Wy.zero 1), .int .i8 (Wy.b Wy.zero 2), .int .i8 (Wy.b Wy.zero 3), .int .i8 (Wy.b Wy.zero 4), .int .i8 (Wy.b Wy.zero 5), .int .i64 ((Wy.d Wy.zero : Nat) : Int)] 135 135 135 from HS2.out)
    have b0 := HS3.out.a
    have b2 := HS3.out.c
    have R := HS3.out.res #[.int .i64 ((Wy.n (Wy.mk N ob od) : Nat) : Int), .int .i8 (Wy.b (Wy.mk N ob od) 0), .int .i8 (Wy.b (Wy.mk N ob od) 1), .int .i8 (Wy.b (Wy.mk N ob od) 2), .int .i8 (Wy.b (Wy.mk N ob od) 3), .int .i8 (Wy.b (Wy.mk N ob od) 4), .int .i8 (Wy.b (Wy.mk N ob od) 5), .int .i64 ((Wy.d (Wy.mk N ob od) : Nat) : Int)]
    clear hw4 HS2 k0 z0
    go_wp2_with (first | ((with_reducible show wpList _ _ _ (_ :: _) _ _); refine wpList_load_row rfl 135 _ rfl _ rfl _ _ _ _ b0 Try.underlying135 rfl (by exact size_wy) ?_; (try go_simp)) | ((with_reducible show wpList _ _ _ (_ :: _) _ _); refine wpList_store_row rfl 135 _ _ rfl _ _ rfl rfl _ _ b2 (by exact size_wy) (by rfl) (by simp [Value.oneCell']) ?_))
    refine bodyPost_ret (results_cell_row rfl _ _ _ _ _ _ _ rfl R.1 Try.underlying135 rfl size_wy) rfl ?_
    exact ⟨by rw [HOR.out], R.2⟩
  · by_cases h1 : 0 < on
    · by_cases h2 : od < xd
      · have HOR := Lib.hid (show (Wy.mk xn xb xd).or ⟨on, ob, od⟩ = ⟨N, ob, od⟩ by unfold Wy.or; rw [if_pos (.inr ⟨h1, h2⟩), HN.out])
        skip
        have b1 := HS.out.b
        have b0 := HS.out.a
        have HS1 := Lib.hid (HS.out.put0 #[.int .i64 ((Wy.n (Wy.mk on ob od) : Nat) : Int), .int .i8 (Wy.b (Wy.mk on ob od) 0), .int .i8 (Wy.b (Wy.mk on ob od) 1), .int .i8 (Wy.b (Wy.mk on ob od) 2), .int .i8 (Wy.b (Wy.mk on ob od) 3), .int .i8 (Wy.b (Wy.mk on ob od) 4), .int .i8 (Wy.b (Wy.mk on ob od) 5), .int .i64 ((Wy.d (Wy.mk on ob od) : Nat) : Int)])
        clear HS
        go_upto_region 3 with fail
        go_upto_region 4 with (first | ((with_reducible show wpList _ _ _ (_ :: _) _ _); refine wpList_load_row rfl 135 _ rfl _ rfl _ _ _ _ b1 Try.underlying135 rfl (by exact size_wy) ?_; (try go_simp)) | ((with_reducible show wpList _ _ _ (_ :: _) _ _); refine wpList_store_row rfl 135 _ _ rfl _ _ rfl rfl _ _ b0 (by exact size_wy) (by rfl) (by simp [Value.oneCell']) ?_))
        clear c0 c7 d0 d7 b0 b1
        obtain ⟨wq, hwq⟩ : ∃ wq, wq = ws.setRow g0 #[.int .i64 ((Wy.n (Wy.mk on ob od) : Nat) : Int), .int .i8 (Wy.b (Wy.mk on ob od) 0), .int .i8 (Wy.b (Wy.mk on ob od) 1), .int .i8 (Wy.b (Wy.mk on ob od) 2), .int .i8 (Wy.b (Wy.mk on ob od) 3), .int .i8 (Wy.b (Wy.mk on ob od) 4), .int .i8 (Wy.b (Wy.mk on ob od) 5), .int .i64 ((Wy.d (Wy.mk on ob od) : Nat) : Int)] := ⟨_, rfl⟩
        rw [← hwq] at HS1 ⊢
        have HS := HS1
        clear HS1 hwq
        skip
        have k0 := cell_of_row _ g0 0 _ _ _ HS.out.a
        have z0 := frozen_of_row _ g0 0 _ _ HS.out.a
        simp at k0
        have HS2 := Lib.hid (HS.out.set0 0 (.int .i64 (N : Nat)))
        clear HS
        go_upto_region 5 with fail
        obtain ⟨w4, hw4⟩ : ∃ w4, w4 = wq.setCell ⟨g0, 0, none⟩ (.int .i64 (N : Nat)) := ⟨_, rfl⟩
        rw [show wq.setCell ⟨g0, 0, none⟩ (.int .i64 ((xn : Int) + (on : Int))) = w4 by rw [hw4, HN.out]; simp]
        rw [← hw4] at HS2
        have HS3 := Lib.hid (show B3 w w4 g0 g1 g2 #[.int .i64 ((Wy.n (Wy.mk N ob od) : Nat) : Int), .int .i8 (Wy.b (Wy.mk N ob od) 0), .int .i8 (Wy.b (Wy.mk N ob od) 1), .int .i8 (Wy.b (Wy.mk N ob od) 2), .int .i8 (Wy.b (Wy.mk N ob od) 3), .int .i8 (Wy.b (Wy.mk N ob od) 4), .int .i8 (Wy.b (Wy.mk N ob od) 5), .int .i64 ((Wy.d (Wy.mk N ob od) : Nat) : Int)] #[.int .i64 ((Wy.n (Wy.mk on ob od) : Nat) : Int), .int .i8 (Wy.b (Wy.mk on ob od) 0), .int .i8 (Wy.b (Wy.mk on ob od) 1), .int .i8 (Wy.b (Wy.mk on ob od) 2), .int .i8 (Wy.b (Wy.mk on ob od) 3), .int .i8 (Wy.b (Wy.mk on ob od) 4), .int .i8 (Wy.b (Wy.mk on ob od) 5), .int .i64 ((Wy.d (Wy.mk on ob od) : Nat) : Int)] #[.int .i64 ((Wy.n Wy.zero : Nat) : Int), .int .i8 (Wy.b Wy.zero 0), .int .i8 (Wy.b Wy.zero 1), .int .i8 (Wy.b Wy.zero 2), .int .i8 (Wy.b Wy.zero 3), .int .i8 (Wy.b Wy.zero 4), .int .i8 (Wy.b Wy.zero 5), .int .i64 ((Wy.d Wy.zero : Nat) : Int)] 135 135 135 from HS2.out)
        have b0 := HS3.out.a
        have b2 := HS3.out.c
        have R := HS3.out.res #[.int .i64 ((Wy.n (Wy.mk N ob od) : Nat) : Int), .int .i8 (Wy.b (Wy.mk N ob od) 0), .int .i8 (Wy.b (Wy.mk N ob od) 1), .int .i8 (Wy.b (Wy.mk N ob od) 2), .int .i8 (Wy.b (Wy.mk N ob od) 3), .int .i8 (Wy.b (Wy.mk N ob od) 4), .int .i8 (Wy.b (Wy.mk N ob od) 5), .int .i64 ((Wy.d (Wy.mk N ob od) : Nat) : Int)]
        clear hw4 HS2 k0 z0
        go_wp2_with (first | ((with_reducible show wpList _ _ _ (_ :: _) _ _); refine wpList_load_row rfl 135 _ rfl _ rfl _ _ _ _ b0 Try.underlying135 rfl (by exact size_wy) ?_; (try go_simp)) | ((with_reducible show wpList _ _ _ (_ :: _) _ _); refine wpList_store_row rfl 135 _ _ rfl _ _ rfl rfl _ _ b2 (by exact size_wy) (by rfl) (by simp [Value.oneCell']) ?_))
        refine bodyPost_ret (results_cell_row rfl _ _ _ _ _ _ _ rfl R.1 Try.underlying135 rfl size_wy) rfl ?_
        exact ⟨by rw [HOR.out], R.2⟩
      · have h3 : ¬ od < xd := h2
        have HOR := Lib.hid (show (Wy.mk xn xb xd).or ⟨on, ob, od⟩ = ⟨N, xb, xd⟩ by unfold Wy.or; rw [if_neg (by rintro (h | h); exact h0 h; exact h2 h.2), HN.out])
        skip
        go_upto_region 4 with fail
        clear c0 c7 d0 d7
        obtain ⟨wq, rfl⟩ : ∃ wq, wq = ws := ⟨_, rfl⟩
        skip
        have k0 := cell_of_row _ g0 0 _ _ _ HS.out.a
        have z0 := frozen_of_row _ g0 0 _ _ HS.out.a
        simp at k0
        have HS2 := Lib.hid (HS.out.set0 0 (.int .i64 (N : Nat)))
        clear HS
        go_upto_region 5 with fail
        obtain ⟨w4, hw4⟩ : ∃ w4, w4 = wq.setCell ⟨g0, 0, none⟩ (.int .i64 (N : Nat)) := ⟨_, rfl⟩
        rw [show wq.setCell ⟨g0, 0, none⟩ (.int .i64 ((xn : Int) + (on : Int))) = w4 by rw [hw4, HN.out]; simp]
        rw [← hw4] at HS2
        have HS3 := Lib.hid (show B3 w w4 g0 g1 g2 #[.int .i64 ((Wy.n (Wy.mk N xb xd) : Nat) : Int), .int .i8 (Wy.b (Wy.mk N xb xd) 0), .int .i8 (Wy.b (Wy.mk N xb xd) 1), .int .i8 (Wy.b (Wy.mk N xb xd) 2), .int .i8 (Wy.b (Wy.mk N xb xd) 3), .int .i8 (Wy.b (Wy.mk N xb xd) 4), .int .i8 (Wy.b (Wy.mk N xb xd) 5), .int .i64 ((Wy.d (Wy.mk N xb xd) : Nat) : Int)] #[.int .i64 ((Wy.n (Wy.mk on ob od) : Nat) : Int), .int .i8 (Wy.b (Wy.mk on ob od) 0), .int .i8 (Wy.b (Wy.mk on ob od) 1), .int .i8 (Wy.b (Wy.mk on ob od) 2), .int .i8 (Wy.b (Wy.mk on ob od) 3), .int .i8 (Wy.b (Wy.mk on ob od) 4), .int .i8 (Wy.b (Wy.mk on ob od) 5), .int .i64 ((Wy.d (Wy.mk on ob od) : Nat) : Int)] #[.int .i64 ((Wy.n Wy.zero : Nat) : Int), .int .i8 (Wy.b Wy.zero 0), .int .i8 (Wy.b Wy.zero 1), .int .i8 (Wy.b Wy.zero 2), .int .i8 (Wy.b Wy.zero 3), .int .i8 (Wy.b Wy.zero 4), .int .i8 (Wy.b Wy.zero 5), .int .i64 ((Wy.d Wy.zero : Nat) : Int)] 135 135 135 from HS2.out)
        have b0 := HS3.out.a
        have b2 := HS3.out.c
        have R := HS3.out.res #[.int .i64 ((Wy.n (Wy.mk N xb xd) : Nat) : Int), .int .i8 (Wy.b (Wy.mk N xb xd) 0), .int .i8 (Wy.b (Wy.mk N xb xd) 1), .int .i8 (Wy.b (Wy.mk N xb xd) 2), .int .i8 (Wy.b (Wy.mk N xb xd) 3), .int .i8 (Wy.b (Wy.mk N xb xd) 4), .int .i8 (Wy.b (Wy.mk N xb xd) 5), .int .i64 ((Wy.d (Wy.mk N xb xd) : Nat) : Int)]
        clear hw4 HS2 k0 z0
        go_wp2_with (first | ((with_reducible show wpList _ _ _ (_ :: _) _ _); refine wpList_load_row rfl 135 _ rfl _ rfl _ _ _ _ b0 Try.underlying135 rfl (by exact size_wy) ?_; (try go_simp)) | ((with_reducible show wpList _ _ _ (_ :: _) _ _); refine wpList_store_row rfl 135 _ _ rfl _ _ rfl rfl _ _ b2 (by exact size_wy) (by rfl) (by simp [Value.oneCell']) ?_))
        refine bodyPost_ret (results_cell_row rfl _ _ _ _ _ _ _ rfl R.1 Try.underlying135 rfl size_wy) rfl ?_
        exact ⟨by rw [HOR.out], R.2⟩
    · have HOR := Lib.hid (show (Wy.mk xn xb xd).or ⟨on, ob, od⟩ = ⟨N, xb, xd⟩ by unfold Wy.or; rw [if_neg (by rintro (h | h); exact h0 h; exact h1 h.1), HN.out])
      skip
      go_upto_region 4 with fail
      clear c0 c7 d0 d7
      obtain ⟨wq, rfl⟩ : ∃ wq, wq = ws := ⟨_, rfl⟩
      skip
      have k0 := cell_of_row _ g0 0 _ _ _ HS.out.a
      have z0 := frozen_of_row _ g0 0 _ _ HS.out.a
      simp at k0
      have HS2 := Lib.hid (HS.out.set0 0 (.int .i64 (N : Nat)))
      clear HS
      go_upto_region 5 with fail
      obtain ⟨w4, hw4⟩ : ∃ w4, w4 = wq.setCell ⟨g0, 0, none⟩ (.int .i64 (N : Nat)) := ⟨_, rfl⟩
      rw [show wq.setCell ⟨g0, 0, none⟩ (.int .i64 ((xn : Int) + (on : Int))) = w4 by rw [hw4, HN.out]; simp]
      rw [← hw4] at HS2
      have HS3 := Lib.hid (show B3 w w4 g0 g1 g2 #[.int .i64 ((Wy.n (Wy.mk N xb xd) : Nat) : Int), .int .i8 (Wy.b (Wy.mk N xb xd) 0), .int .i8 (Wy.b (Wy.mk N xb xd) 1), .int .i8 (Wy.b (Wy.mk N xb xd) 2), .int .i8 (Wy.b (Wy.mk N xb xd) 3), .int .i8 (Wy.b (Wy.mk N xb xd) 4), .int .i8 (Wy.b (Wy.mk N xb xd) 5), .int .i64 ((Wy.d (Wy.mk N xb xd) : Nat) : Int)] #[.int .i64 ((Wy.n (Wy.mk on ob od) : Nat) : Int), .int .i8 (Wy.b (Wy.mk on ob od) 0), .int .i8 (Wy.b (Wy.mk on ob od) 1), .int .i8 (Wy.b (Wy.mk on ob od) 2), .int .i8 (Wy.b (Wy.mk on ob od) 3), .int .i8 (Wy.b (Wy.mk on ob od) 4), .int .i8 (Wy.b (Wy.mk on ob od) 5), .int .i64 ((Wy.d (Wy.mk on ob od) : Nat) : Int)] #[.int .i64 ((Wy.n Wy.zero : Nat) : Int), .int .i8 (Wy.b Wy.zero 0), .int .i8 (Wy.b Wy.zero 1), .int .i8 (Wy.b Wy.zero 2), .int .i8 (Wy.b Wy.zero 3), .int .i8 (Wy.b Wy.zero 4), .int .i8 (Wy.b Wy.zero 5), .int .i64 ((Wy.d Wy.zero : Nat) : Int)] 135 135 135 from HS2.out)
      have b0 := HS3.out.a
      have b2 := HS3.out.c
      have R := HS3.out.res #[.int .i64 ((Wy.n (Wy.mk N xb xd) : Nat) : Int), .int .i8 (Wy.b (Wy.mk N xb xd) 0), .int .i8 (Wy.b (Wy.mk N xb xd) 1), .int .i8 (Wy.b (Wy.mk N xb xd) 2), .int .i8 (Wy.b (Wy.mk N xb xd) 3), .int .i8 (Wy.b (Wy.mk N xb xd) 4), .int .i8 (Wy.b (Wy.mk N xb xd) 5), .int .i64 ((Wy.d (Wy.mk N xb xd) : Nat) : Int)]
      clear hw4 HS2 k0 z0
      go_wp2_with (first | ((with_reducible show wpList _ _ _ (_ :: _) _ _); refine wpList_load_row rfl 135 _ rfl _ rfl _ _ _ _ b0 Try.underlying135 rfl (by exact size_wy) ?_; (try go_simp)) | ((with_reducible show wpList _ _ _ (_ :: _) _ _); refine wpList_store_row rfl 135 _ _ rfl _ _ rfl rfl _ _ b2 (by exact size_wy) (by rfl) (by simp [Value.oneCell']) ?_))
      refine bodyPost_ret (results_cell_row rfl _ _ _ _ _ _ _ rfl R.1 Try.underlying135 rfl size_wy) rfl ?_
      exact ⟨by rw [HOR.out], R.2⟩
set_option maxRecDepth 100000 in
set_option maxHeartbeats 4000000 in
theorem with_any (x : Wy) (r : Nat) (u : Int) (near : Nat → Int) (w : World) (hr : r < 6) (hd : x.d ≤ 1000) :
    Calls Try.prog 93 #[.agg #[.int .i64 ((Wy.n x : Nat) : Int), .int .i8 (Wy.b x 0), .int .i8 (Wy.b x 1), .int .i8 (Wy.b x 2), .int .i8 (Wy.b x 3), .int .i8 (Wy.b x 4), .int .i8 (Wy.b x 5), .int .i64 ((Wy.d x : Nat) : Int)], .int .i64 (r : Nat), .int .i8 u, .agg #[.int .i8 (near 0), .int .i8 (near 1), .int .i8 (near 2), .int .i8 (near 3), .int .i8 (near 4), .int .i8 (near 5)]] w fun e w' => e = .returned (.agg #[.int .i64 ((Wy.n (x.with r u near) : Nat) : Int), .int .i8 (Wy.b (x.with r u near) 0), .int .i8 (Wy.b (x.with r u near) 1), .int .i8 (Wy.b (x.with r u near) 2), .int .i8 (Wy.b (x.with r u near) 3), .int .i8 (Wy.b (x.with r u near) 4), .int .i8 (Wy.b (x.with r u near) 5), .int .i64 ((Wy.d (x.with r u near) : Nat) : Int)]) ∧ Below w.heap.size w w' := by
  have hzw := zero_wy
  obtain ⟨xn, xb, xd⟩ := x
  dsimp only at hd
  go_enter Try.func93, Try.ntmps93
  go_upto_region 1 with fail
  obtain ⟨ws, hws, hS⟩ : ∃ ws, ws = (((w.alloc (.cells #[.int .i64 ((Wy.n (Wy.mk xn xb xd) : Nat) : Int), .int .i8 (Wy.b (Wy.mk xn xb xd) 0), .int .i8 (Wy.b (Wy.mk xn xb xd) 1), .int .i8 (Wy.b (Wy.mk xn xb xd) 2), .int .i8 (Wy.b (Wy.mk xn xb xd) 3), .int .i8 (Wy.b (Wy.mk xn xb xd) 4), .int .i8 (Wy.b (Wy.mk xn xb xd) 5), .int .i64 ((Wy.d (Wy.mk xn xb xd) : Nat) : Int)] 135)).alloc (.cells #[.int .i8 (near 0), .int .i8 (near 1), .int .i8 (near 2), .int .i8 (near 3), .int .i8 (near 4), .int .i8 (near 5)] 76)).alloc (.cells #[.int .i64 ((Wy.n Wy.zero : Nat) : Int), .int .i8 (Wy.b Wy.zero 0), .int .i8 (Wy.b Wy.zero 1), .int .i8 (Wy.b Wy.zero 2), .int .i8 (Wy.b Wy.zero 3), .int .i8 (Wy.b Wy.zero 4), .int .i8 (Wy.b Wy.zero 5), .int .i64 ((Wy.d Wy.zero : Nat) : Int)] 135)) ∧ B3 w ws w.heap.size (w.heap.size + 1) (w.heap.size + 1 + 1) #[.int .i64 ((Wy.n (Wy.mk xn xb xd) : Nat) : Int), .int .i8 (Wy.b (Wy.mk xn xb xd) 0), .int .i8 (Wy.b (Wy.mk xn xb xd) 1), .int .i8 (Wy.b (Wy.mk xn xb xd) 2), .int .i8 (Wy.b (Wy.mk xn xb xd) 3), .int .i8 (Wy.b (Wy.mk xn xb xd) 4), .int .i8 (Wy.b (Wy.mk xn xb xd) 5), .int .i64 ((Wy.d (Wy.mk xn xb xd) : Nat) : Int)] #[.int .i8 (near 0), .int .i8 (near 1), .int .i8 (near 2), .int .i8 (near 3), .int .i8 (near 4), .int .i8 (near 5)] #[.int .i64 ((Wy.n Wy.zero : Nat) : Int), .int .i8 (Wy.b Wy.zero 0), .int .i8 (Wy.b Wy.zero 1), .int .i8 (Wy.b Wy.zero 2), .int .i8 (Wy.b Wy.zero 3), .int .i8 (Wy.b Wy.zero 4), .int .i8 (Wy.b Wy.zero 5), .int .i64 ((Wy.d Wy.zero : Nat) : Int)] 135 76 135 := ⟨_, rfl, B3.new _ _ _ _ _ _ _⟩
  rw [← hws]
  obtain ⟨g2, hg2⟩ : ∃ g, g = w.heap.size + 1 + 1 := ⟨_, rfl⟩
  rw [← hg2] at hS ⊢
  obtain ⟨g1, hg1⟩ : ∃ g, g = w.heap.size + 1 := ⟨_, rfl⟩
  rw [← hg1] at hS ⊢
  obtain ⟨g0, hg0⟩ : ∃ g, g = w.heap.size := ⟨_, rfl⟩
  rw [show (Value.pointer (some ⟨w.heap.size, 0, none⟩)) = .pointer (some ⟨g0, 0, none⟩) by rw [hg0]]
  have hS : B3 w ws g0 g1 g2 #[.int .i64 ((Wy.n (Wy.mk xn xb xd) : Nat) : Int), .int .i8 (Wy.b (Wy.mk xn xb xd) 0), .int .i8 (Wy.b (Wy.mk xn xb xd) 1), .int .i8 (Wy.b (Wy.mk xn xb xd) 2), .int .i8 (Wy.b (Wy.mk xn xb xd) 3), .int .i8 (Wy.b (Wy.mk xn xb xd) 4), .int .i8 (Wy.b (Wy.mk xn xb xd) 5), .int .i64 ((Wy.d (Wy.mk xn xb xd) : Nat) : Int)] #[.int .i8 (near 0), .int .i8 (near 1), .int .i8 (near 2), .int .i8 (near 3), .int .i8 (near 4), .int .i8 (near 5)] #[.int .i64 ((Wy.n Wy.zero : Nat) : Int), .int .i8 (Wy.b Wy.zero 0), .int .i8 (Wy.b Wy.zero 1), .int .i8 (Wy.b Wy.zero 2), .int .i8 (Wy.b Wy.zero 3), .int .i8 (Wy.b Wy.zero 4), .int .i8 (Wy.b Wy.zero 5), .int .i64 ((Wy.d Wy.zero : Nat) : Int)] 135 76 135 := by rw [hg0]; exact hS
  have HS := Lib.hid hS
  clear hS hws hg2 hg1 hg0
  clear hzw
  have c1 := cell_of_row _ g0 (1 + r) _ _ _ HS.out.a
  rw [wy_cell _ hr] at c1
  have z1 : ws.frozen? ⟨g0, 1 + r, none⟩ = false := frozen_of_row _ g0 (1 + r) _ _ HS.out.a
  have hS1 := HS.out.set0 (1 + r) (.int .i8 u)
  rw [wy_put _ u hr] at hS1
  obtain ⟨b', hb'⟩ : ∃ b' : Nat → Int, b' = fun j => if j = r then u else xb j := ⟨_, rfl⟩
  have hS1 : B3 w (ws.setCell ⟨g0, 1 + r, none⟩ (.int .i8 u)) g0 g1 g2 #[.int .i64 ((Wy.n (Wy.mk xn b' xd) : Nat) : Int), .int .i8 (Wy.b (Wy.mk xn b' xd) 0), .int .i8 (Wy.b (Wy.mk xn b' xd) 1), .int .i8 (Wy.b (Wy.mk xn b' xd) 2), .int .i8 (Wy.b (Wy.mk xn b' xd) 3), .int .i8 (Wy.b (Wy.mk xn b' xd) 4), .int .i8 (Wy.b (Wy.mk xn b' xd) 5), .int .i64 ((Wy.d (Wy.mk xn b' xd) : Nat) : Int)] #[.int .i8 (near 0), .int .i8 (near 1), .int .i8 (near 2), .int .i8 (near 3), .int .i8 (near 4), .int .i8 (near 5)] #[.int .i64 ((Wy.n Wy.zero : Nat) : Int), .int .i8 (Wy.b Wy.zero 0), .int .i8 (Wy.b Wy.zero 1), .int .i8 (Wy.b Wy.zero 2), .int .i8 (Wy.b Wy.zero 3), .int .i8 (Wy.b Wy.zero 4), .int .i8 (Wy.b Wy.zero 5), .int .i64 ((Wy.d Wy.zero : Nat) : Int)] 135 76 135 := by rw [hb']; exact hS1
  have HS1 := Lib.hid hS1
  have HB' := Lib.hid hb'
  clear hS1 hb' HS
  go_upto_region 2 with fail
  obtain ⟨w1, hw1⟩ : ∃ w1, w1 = ws.setCell ⟨g0, 1 + r, none⟩ (.int .i8 u) := ⟨_, rfl⟩
  rw [← hw1] at HS1 ⊢
  clear hw1 c1 z1
  have d1 := cell_of_row _ g1 r _ _ _ HS1.out.b
  rw [ch_cell _ hr] at d1
  have c7 := cell_of_row _ g0 7 _ _ _ HS1.out.a
  simp at c7
  have z7 := frozen_of_row _ g0 7 _ _ HS1.out.a
  by_cases hne : u = near r
  · have hq : (u != near r) = false := by simp [hne]
    have HW := Lib.hid (show (Wy.mk xn xb xd).with r u near = ⟨xn, b', xd⟩ by unfold Wy.with; rw [if_neg (by simp [hne]), HB'.out])
    clear hne
    have b0 := HS1.out.a
    have b2 := HS1.out.c
    have R := HS1.out.res #[.int .i64 ((Wy.n (Wy.mk xn b' xd) : Nat) : Int), .int .i8 (Wy.b (Wy.mk xn b' xd) 0), .int .i8 (Wy.b (Wy.mk xn b' xd) 1), .int .i8 (Wy.b (Wy.mk xn b' xd) 2), .int .i8 (Wy.b (Wy.mk xn b' xd) 3), .int .i8 (Wy.b (Wy.mk xn b' xd) 4), .int .i8 (Wy.b (Wy.mk xn b' xd) 5), .int .i64 ((Wy.d (Wy.mk xn b' xd) : Nat) : Int)]
    go_upto_region 4 with fail
    go_wp2_with (first | ((with_reducible show wpList _ _ _ (_ :: _) _ _); refine wpList_load_row rfl 135 _ rfl _ rfl _ _ _ _ b0 Try.underlying135 rfl (by exact size_wy) ?_; (try go_simp)) | ((with_reducible show wpList _ _ _ (_ :: _) _ _); refine wpList_store_row rfl 135 _ _ rfl _ _ rfl rfl _ _ b2 (by exact size_wy) (by rfl) (by simp [Value.oneCell']) ?_))
    refine bodyPost_ret (results_cell_row rfl _ _ _ _ _ _ _ rfl R.1 Try.underlying135 rfl size_wy) rfl ?_
    exact ⟨by rw [HW.out], R.2⟩
  · have hq : (u != near r) = true := by simp [hne]
    have HW := Lib.hid (show (Wy.mk xn xb xd).with r u near = ⟨xn, b', xd + 1⟩ by unfold Wy.with; rw [if_pos hne, HB'.out])
    clear hne
    have HS2 := Lib.hid (HS1.out.set0 7 (.int .i64 ((xd : Int) + 1)))
    go_upto_region 4 with fail
    obtain ⟨w2, hw2⟩ : ∃ w2, w2 = w1.setCell ⟨g0, 7, none⟩ (.int .i64 ((xd : Int) + 1)) := ⟨_, rfl⟩
    rw [← hw2] at HS2 ⊢
    have hS3 : B3 w w2 g0 g1 g2 #[.int .i64 ((Wy.n (Wy.mk xn b' (xd + 1)) : Nat) : Int), .int .i8 (Wy.b (Wy.mk xn b' (xd + 1)) 0), .int .i8 (Wy.b (Wy.mk xn b' (xd + 1)) 1), .int .i8 (Wy.b (Wy.mk xn b' (xd + 1)) 2), .int .i8 (Wy.b (Wy.mk xn b' (xd + 1)) 3), .int .i8 (Wy.b (Wy.mk xn b' (xd + 1)) 4), .int .i8 (Wy.b (Wy.mk xn b' (xd + 1)) 5), .int .i64 ((Wy.d (Wy.mk xn b' (xd + 1)) : Nat) : Int)] #[.int .i8 (near 0), .int .i8 (near 1), .int .i8 (near 2), .int .i8 (near 3), .int .i8 (near 4), .int .i8 (near 5)] #[.int .i64 ((Wy.n Wy.zero : Nat) : Int), .int .i8 (Wy.b Wy.zero 0), .int .i8 (Wy.b Wy.zero 1), .int .i8 (Wy.b Wy.zero 2), .int .i8 (Wy.b Wy.zero 3), .int .i8 (Wy.b Wy.zero 4), .int .i8 (Wy.b Wy.zero 5), .int .i64 ((Wy.d Wy.zero : Nat) : Int)] 135 76 135 := HS2.out
    have b0 := hS3.a
    have b2 := hS3.c
    have R := hS3.res #[.int .i64 ((Wy.n (Wy.mk xn b' (xd + 1)) : Nat) : Int), .int .i8 (Wy.b (Wy.mk xn b' (xd + 1)) 0), .int .i8 (Wy.b (Wy.mk xn b' (xd + 1)) 1), .int .i8 (Wy.b (Wy.mk xn b' (xd + 1)) 2), .int .i8 (Wy.b (Wy.mk xn b' (xd + 1)) 3), .int .i8 (Wy.b (Wy.mk xn b' (xd + 1)) 4), .int .i8 (Wy.b (Wy.mk xn b' (xd + 1)) 5), .int .i64 ((Wy.d (Wy.mk xn b' (xd + 1)) : Nat) : Int)]
    clear hw2 HS2 hS3 HS1 c7 z7 d1
    go_wp2_with (first | ((with_reducible show wpList _ _ _ (_ :: _) _ _); refine wpList_load_row rfl 135 _ rfl _ rfl _ _ _ _ b0 Try.underlying135 rfl (by exact size_wy) ?_; (try go_simp)) | ((with_reducible show wpList _ _ _ (_ :: _) _ _); refine wpList_store_row rfl 135 _ _ rfl _ _ rfl rfl _ _ b2 (by exact size_wy) (by rfl) (by simp [Value.oneCell']) ?_))
    refine bodyPost_ret (results_cell_row rfl _ _ _ _ _ _ _ rfl R.1 Try.underlying135 rfl size_wy) rfl ?_
    exact ⟨by rw [HW.out], R.2⟩
end Go.Proofs.Ytioclbkgfbjpdaa
