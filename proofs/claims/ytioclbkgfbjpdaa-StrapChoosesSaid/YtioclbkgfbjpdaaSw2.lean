/- Layer 18: the ways from a place. -/
import Derived.Test.YtioclbkgfbjpdaaSwT
import Derived.Test.YtioclbkgfbjpdaaSetB
import Derived.Test.YtioclbkgfbjpdaaMixIn
import Derived.BigRegionIn
import Derived.RegionTactic
namespace Go.Proofs.Ytioclbkgfbjpdaa
open Go.RowKit Go.Own Go.Maps Go.Shelf Bs
set_option linter.unusedVariables false
set_option linter.unusedSimpArgs false
attribute [local go_sem] Oper.semAt_some
/-- All ways of some units. -/
def foldW (F : Nat → Nat → Wy) (r : Nat) (l : List Nat) : Wy := l.foldl (fun x u => x.or (F r u)) Wy.zero
theorem foldW_snoc (F : Nat → Nat → Wy) (r : Nat) (l : List Nat) (u : Nat) : foldW F r (l ++ [u]) = (foldW F r l).or (F r u) := by simp [foldW]
def fromW (F : Nat → Nat → Wy) (R r s : Nat) : Wy := if r = R then ⟨1, noneC, 0⟩ else foldW F r (upTo s 16)
/-- How great the ways are. -/
def Small (F : Nat → Nat → Wy) : Prop := ∀ r u, (F r u).n ≤ 2000000 ∧ (F r u).d ≤ 100
theorem foldW_small {F : Nat → Nat → Wy} (h : Small F) (r : Nat) (l : List Nat) : (foldW F r l).n ≤ 2000000 * l.length ∧ (foldW F r l).d ≤ 100 := by
  unfold foldW
  suffices hh : ∀ (l : List Nat) (x : Wy) (k : Nat), x.n ≤ k → x.d ≤ 100 → (l.foldl (fun x u => x.or (F r u)) x).n ≤ k + 2000000 * l.length ∧ (l.foldl (fun x u => x.or (F r u)) x).d ≤ 100 by
    have := hh l Wy.zero 0 (Nat.le_refl _) (by simp [Wy.zero])
    simpa using this
  intro l
  induction l with
  | nil => intro x k h1 h2; exact ⟨by simpa using h1, h2⟩
  | cons u l ih =>
    intro x k h1 h2
    obtain ⟨a, b⟩ := h r u
    have h3 : (x.or (F r u)).n = x.n + (F r u).n := by unfold Wy.or; split <;> rfl
    have h4 : (x.or (F r u)).d ≤ 100 := by unfold Wy.or; split <;> assumption
    have := ih (x.or (F r u)) (k + 2000000) (by omega) h4
    simp only [List.foldl_cons, List.length_cons]
    omega
/-- Where a collecting of ways stands. -/
structure Frm (w : World) (B0 g3 g4 g6 g7 R r b n : Nat) (F : Nat → Nat → Wy) (D : DataW Nat) (x : Wy) (W : World) : Prop where
  be : Below w.heap.size w W
  sz : B0 ≤ W.heap.size
  bs : W.heap[g3]? = some (.cells #[.int .i64 (R : Nat), .map (some b)] 152 (0, 0))
  br : W.heap[g4]? = some (.cells #[.int .i64 (r : Nat)] 3 (0, 0))
  bo : W.heap[g6]? = some (.cells #[.int .i64 ((Wy.n Wy.zero : Nat) : Int), .int .i8 (Wy.b Wy.zero 0), .int .i8 (Wy.b Wy.zero 1), .int .i8 (Wy.b Wy.zero 2), .int .i8 (Wy.b Wy.zero 3), .int .i8 (Wy.b Wy.zero 4), .int .i8 (Wy.b Wy.zero 5), .int .i64 ((Wy.d Wy.zero : Nat) : Int)] 135 (0, 0))
  bx : W.heap[g7]? = some (.cells #[.int .i64 ((Wy.n x : Nat) : Int), .int .i8 (Wy.b x 0), .int .i8 (Wy.b x 1), .int .i8 (Wy.b x 2), .int .i8 (Wy.b x 3), .int .i8 (Wy.b x 4), .int .i8 (Wy.b x 5), .int .i64 ((Wy.d x : Nat) : Int)] 135 (0, 0))
  tb : WTab W b n F D
theorem Frm.own {w : World} {B0 g3 g4 g6 g7 R r b n : Nat} {F : Nat → Nat → Wy} {D : DataW Nat} {f : List (Fin 16) → Wy} (hB : w.heap.size ≤ B0) (hb : b < B0) : OwnFrom B0 (fun pre W => Frm w B0 g3 g4 g6 g7 R r b n F D (f pre) W) := by
  rintro pre W W' row ⟨be, sz, bs, br, bo, bx, tb⟩ hg hr
  have ne : ∀ (k : Nat) cs t, W.heap[k]? = some (.cells cs t (0, 0)) → some k ≠ row := by
    intro k cs t hk e
    obtain ⟨_, o, ho, hc⟩ := hr k e.symm
    rw [hk] at ho
    cases ho
    simp [Obj.isCells] at hc
  exact ⟨be.grown hg be.size (fun k e => by have := (hr k e).1; omega), Nat.le_trans sz hg.size, box_kept bs hg (ne _ _ _ bs), box_kept br hg (ne _ _ _ br), box_kept bo hg (ne _ _ _ bo), box_kept bx hg (ne _ _ _ bx), tb.kept hg (fun e => by have := (hr b e.symm).1; omega)⟩
theorem Frm.step {w W W' : World} {B0 g3 g4 g6 g7 R r b n : Nat} {F : Nat → Nat → Wy} {D : DataW Nat} {x : Wy} (h : Frm w B0 g3 g4 g6 g7 R r b n F D x W) (hb : Below W.heap.size W W') : Frm w B0 g3 g4 g6 g7 R r b n F D x W' :=
  ⟨h.be.trans (hb.mono h.be.size), Nat.le_trans h.sz hb.size, box_below h.bs hb (box_lt h.bs), box_below h.br hb (box_lt h.br), box_below h.bo hb (box_lt h.bo), box_below h.bx hb (box_lt h.bx), h.tb.below hb⟩
theorem grown_rowS (w : World) (g : Nat) (cs : Array Value) : w.grownBy (w.setRow g cs) (some g) := ⟨rfl, rfl, rfl, by simp [World.setRow], fun k _ hne => setRow_other _ g k _ (fun e => hne (by rw [e]))⟩
theorem Frm.put {w W : World} {B0 g3 g4 g6 g7 R r b n : Nat} {F : Nat → Nat → Wy} {D : DataW Nat} {x : Wy} (h : Frm w B0 g3 g4 g6 g7 R r b n F D x W) (hw : w.heap.size ≤ g7) (h3 : g3 ≠ g7) (h4 : g4 ≠ g7) (h6 : g6 ≠ g7) (hb : b ≠ g7) (x' : Wy) : Frm w B0 g3 g4 g6 g7 R r b n F D x' (W.setRow g7 #[.int .i64 ((Wy.n x' : Nat) : Int), .int .i8 (Wy.b x' 0), .int .i8 (Wy.b x' 1), .int .i8 (Wy.b x' 2), .int .i8 (Wy.b x' 3), .int .i8 (Wy.b x' 4), .int .i8 (Wy.b x' 5), .int .i64 ((Wy.d x' : Nat) : Int)]) :=
  ⟨bel_rowS h.be hw _, by simpa [World.setRow] using h.sz, (setRow_other _ g7 g3 _ h3).trans h.bs, (setRow_other _ g7 g4 _ h4).trans h.br, (setRow_other _ g7 g6 _ h6).trans h.bo, setRow_heap _ g7 _ _ _ _ h.bx, h.tb.kept (grown_rowS W g7 _) (fun e => hb (by injection e))⟩
theorem run_storeCells_rowS {P : Program} (w : World) (g : Nat) (t : TypeId) (c c' : Array Value) (ty : TypeId) (hg : w.heap[g]? = some (.cells c t (0, 0))) (hi : (P.info? ty).map (·.size) = some c'.size) (ho : c.size = c'.size) (h1 : c'.all (·.oneCell') = true) :
    (storeCells ⟨g, 0, none⟩ c'.toList 0).run P w = .ok () (w.setRow g c') := by
  have := run_storeVar_row (P := P) w g t ty c c' hg hi ho h1
  cases hq : P.info? ty with
  | none => simp [hq] at hi
  | some i =>
    have hs : c'.size = i.size := by simp [hq] at hi; omega
    simpa [storeVar, sizeOf, typeInfo, hq, Value.cells, hs] using this
theorem store_wy (x y : Wy) (w : World) (g : Nat) (h : w.heap[g]? = some (.cells #[.int .i64 ((Wy.n x : Nat) : Int), .int .i8 (Wy.b x 0), .int .i8 (Wy.b x 1), .int .i8 (Wy.b x 2), .int .i8 (Wy.b x 3), .int .i8 (Wy.b x 4), .int .i8 (Wy.b x 5), .int .i64 ((Wy.d x : Nat) : Int)] 135 (0, 0))) : (storeCells ⟨g, 0, none⟩ [.int .i64 ((Wy.n y : Nat) : Int), .int .i8 (Wy.b y 0), .int .i8 (Wy.b y 1), .int .i8 (Wy.b y 2), .int .i8 (Wy.b y 3), .int .i8 (Wy.b y 4), .int .i8 (Wy.b y 5), .int .i64 ((Wy.d y : Nat) : Int)] 0).run Try.prog w = .ok () (w.setRow g #[.int .i64 ((Wy.n y : Nat) : Int), .int .i8 (Wy.b y 0), .int .i8 (Wy.b y 1), .int .i8 (Wy.b y 2), .int .i8 (Wy.b y 3), .int .i8 (Wy.b y 4), .int .i8 (Wy.b y 5), .int .i64 ((Wy.d y : Nat) : Int)]) :=
  run_storeCells_rowS w g _ _ #[.int .i64 ((Wy.n y : Nat) : Int), .int .i8 (Wy.b y 0), .int .i8 (Wy.b y 1), .int .i8 (Wy.b y 2), .int .i8 (Wy.b y 3), .int .i8 (Wy.b y 4), .int .i8 (Wy.b y 5), .int .i64 ((Wy.d y : Nat) : Int)] 135 h size_wy rfl (by simp [Value.oneCell'])
theorem zero_int (w : World) : (zeroValue 3).run Try.prog w = .ok (.int .i64 0) w := by kernel_rfl
theorem al4S (w : World) (A B C E : Obj) : ((((w.alloc A).alloc B).alloc C).alloc E).heap[w.heap.size]? = some A ∧ ((((w.alloc A).alloc B).alloc C).alloc E).heap[w.heap.size + 1]? = some B ∧ ((((w.alloc A).alloc B).alloc C).alloc E).heap[w.heap.size + 1 + 1]? = some C ∧ ((((w.alloc A).alloc B).alloc C).alloc E).heap[w.heap.size + 1 + 1 + 1]? = some E := by
  obtain ⟨a, b, c⟩ := al3S w A B C
  have s3 : (((w.alloc A).alloc B).alloc C).heap.size = w.heap.size + 1 + 1 + 1 := by simp
  have d := heap_alloc_new (((w.alloc A).alloc B).alloc C) E
  rw [s3] at d
  exact ⟨(heap_alloc_old _ _ _ (by omega)).trans a, (heap_alloc_old _ _ _ (by omega)).trans b, (heap_alloc_old _ _ _ (by omega)).trans c, d⟩
set_option maxRecDepth 100000 in
set_option maxHeartbeats 8000000 in
theorem from_any (R r s b n : Nat) (F : Nat → Nat → Wy) (D : DataW Nat) (w : World) (hT : WTab w b n F D) (hF : Small F) (hR : R ≤ 6) (hr : r ≤ R) (hs : s < 65536) :
    Calls Try.prog 92 #[.agg #[.int .i64 (R : Nat), .map (some b)], .int .i64 (r : Nat), .int .u16 (s : Nat)] w fun e w' => e = .returned (.agg #[.int .i64 ((Wy.n (fromW F R r s) : Nat) : Int), .int .i8 (Wy.b (fromW F R r s) 0), .int .i8 (Wy.b (fromW F R r s) 1), .int .i8 (Wy.b (fromW F R r s) 2), .int .i8 (Wy.b (fromW F R r s) 3), .int .i8 (Wy.b (fromW F R r s) 4), .int .i8 (Wy.b (fromW F R r s) 5), .int .i64 ((Wy.d (fromW F R r s) : Nat) : Int)]) ∧ Below w.heap.size w w' := by
  have hzw := zero_wy
  by_cases hrR : r = R
  · have hfw : fromW F R r s = ⟨1, noneC, 0⟩ := by unfold fromW; rw [if_pos hrR]
    have hq : ((r : Int) == (R : Int)) = true := by simp [hrR]
    have HFW := Lib.hid hfw
    have HNN := Lib.hid (fun (w : World) => None_any w)
    obtain ⟨f3, f4, f6⟩ := al3S w (.cells #[.int .i64 (R : Nat), .map (some b)] 152) (.cells #[.int .i64 (r : Nat)] 3) (.cells #[.int .i64 ((Wy.n Wy.zero : Nat) : Int), .int .i8 (Wy.b Wy.zero 0), .int .i8 (Wy.b Wy.zero 1), .int .i8 (Wy.b Wy.zero 2), .int .i8 (Wy.b Wy.zero 3), .int .i8 (Wy.b Wy.zero 4), .int .i8 (Wy.b Wy.zero 5), .int .i64 ((Wy.d Wy.zero : Nat) : Int)] 135)
    have hb0 : Below w.heap.size w (((w.alloc (.cells #[.int .i64 (R : Nat), .map (some b)] 152)).alloc (.cells #[.int .i64 (r : Nat)] 3)).alloc (.cells #[.int .i64 ((Wy.n Wy.zero : Nat) : Int), .int .i8 (Wy.b Wy.zero 0), .int .i8 (Wy.b Wy.zero 1), .int .i8 (Wy.b Wy.zero 2), .int .i8 (Wy.b Wy.zero 3), .int .i8 (Wy.b Wy.zero 4), .int .i8 (Wy.b Wy.zero 5), .int .i64 ((Wy.d Wy.zero : Nat) : Int)] 135)) := by repeat' (first | (with_reducible exact Below.refl _ _) | (with_reducible assumption) | (with_reducible refine Below.setCell ?_ ?_ _) | (with_reducible refine Below.alloc ?_ ?_ _) | (with_reducible refine Below.drew ?_) | (with_reducible refine Below.drawsN ?_ _) | go_size)
    clear hfw hrR
    go_enter Try.func92, Try.ntmps92
    go_wp2_with fail
    obtain ⟨w1, hw1⟩ : ∃ w1, w1 = (((w.alloc (.cells #[.int .i64 (R : Nat), .map (some b)] 152)).alloc (.cells #[.int .i64 (r : Nat)] 3)).alloc (.cells #[.int .i64 ((Wy.n Wy.zero : Nat) : Int), .int .i8 (Wy.b Wy.zero 0), .int .i8 (Wy.b Wy.zero 1), .int .i8 (Wy.b Wy.zero 2), .int .i8 (Wy.b Wy.zero 3), .int .i8 (Wy.b Wy.zero 4), .int .i8 (Wy.b Wy.zero 5), .int .i64 ((Wy.d Wy.zero : Nat) : Int)] 135)) := ⟨_, rfl⟩
    rw [← hw1] at f6 hb0 ⊢
    obtain ⟨g6, hg6⟩ : ∃ g, g = w.heap.size + 1 + 1 := ⟨_, rfl⟩
    rw [← hg6] at f6 ⊢
    have hw6 : w.heap.size ≤ g6 := by omega
    clear hw1 hg6 f3 f4
    go_at_call 35
    refine (HNN.out _).mono ?_
    rintro e w2 ⟨rfl, hb⟩
    have b6 := box_below f6 hb (box_lt f6)
    have hB := hb0.trans (hb.mono hb0.size)
    have hR2 : (w2.setRow g6 #[.int .i64 ((Wy.n (Wy.mk 1 noneC 0) : Nat) : Int), .int .i8 (Wy.b (Wy.mk 1 noneC 0) 0), .int .i8 (Wy.b (Wy.mk 1 noneC 0) 1), .int .i8 (Wy.b (Wy.mk 1 noneC 0) 2), .int .i8 (Wy.b (Wy.mk 1 noneC 0) 3), .int .i8 (Wy.b (Wy.mk 1 noneC 0) 4), .int .i8 (Wy.b (Wy.mk 1 noneC 0) 5), .int .i64 ((Wy.d (Wy.mk 1 noneC 0) : Nat) : Int)]).heap[g6]? = some (.cells #[.int .i64 ((Wy.n (Wy.mk 1 noneC 0) : Nat) : Int), .int .i8 (Wy.b (Wy.mk 1 noneC 0) 0), .int .i8 (Wy.b (Wy.mk 1 noneC 0) 1), .int .i8 (Wy.b (Wy.mk 1 noneC 0) 2), .int .i8 (Wy.b (Wy.mk 1 noneC 0) 3), .int .i8 (Wy.b (Wy.mk 1 noneC 0) 4), .int .i8 (Wy.b (Wy.mk 1 noneC 0) 5), .int .i64 ((Wy.d (Wy.mk 1 noneC 0) : Nat) : Int)] 135 (0, 0)) := setRow_heap _ g6 _ _ _ _ b6
    have hB2 := bel_rowS hB hw6 #[.int .i64 ((Wy.n (Wy.mk 1 noneC 0) : Nat) : Int), .int .i8 (Wy.b (Wy.mk 1 noneC 0) 0), .int .i8 (Wy.b (Wy.mk 1 noneC 0) 1), .int .i8 (Wy.b (Wy.mk 1 noneC 0) 2), .int .i8 (Wy.b (Wy.mk 1 noneC 0) 3), .int .i8 (Wy.b (Wy.mk 1 noneC 0) 4), .int .i8 (Wy.b (Wy.mk 1 noneC 0) 5), .int .i64 ((Wy.d (Wy.mk 1 noneC 0) : Nat) : Int)]
    have HR2 := Lib.hid hR2
    have HB2 := Lib.hid hB2
    clear hb f6 hb0 hR2 hB2 hB
    go_wp2_with (((with_reducible show wpList _ _ _ (_ :: _) _ _); refine wpList_store_row rfl 135 _ _ rfl _ _ rfl rfl _ _ b6 (by exact size_wy) (by rfl) (by simp [Value.oneCell']) ?_))
    refine bodyPost_ret (results_cell_row rfl _ _ _ _ _ _ _ rfl HR2.out Try.underlying135 rfl size_wy) rfl ?_
    exact ⟨by rw [HFW.out], HB2.out⟩
  · have hq : ((r : Int) == (R : Int)) = false := by rw [beq_eq_false_iff_ne]; omega
    refine (callsIn_wide (n := 5)).1 ?_
    refine callsIn_of_wp_marks Try.func92 rfl trivial ?_ rfl
    simp only [Try.ntmps92, List.size_toArray, List.length_cons, List.length_nil, Nat.reduceAdd, Nat.reduceSub, Array.replicate_succ, Array.replicate_zero, List.push_toArray, List.append_toArray, List.nil_append, List.cons_append]

    obtain ⟨f3, f4, f6, f7⟩ := al4S w (.cells #[.int .i64 (R : Nat), .map (some b)] 152) (.cells #[.int .i64 (r : Nat)] 3) (.cells #[.int .i64 ((Wy.n Wy.zero : Nat) : Int), .int .i8 (Wy.b Wy.zero 0), .int .i8 (Wy.b Wy.zero 1), .int .i8 (Wy.b Wy.zero 2), .int .i8 (Wy.b Wy.zero 3), .int .i8 (Wy.b Wy.zero 4), .int .i8 (Wy.b Wy.zero 5), .int .i64 ((Wy.d Wy.zero : Nat) : Int)] 135) (.cells #[.int .i64 ((Wy.n Wy.zero : Nat) : Int), .int .i8 (Wy.b Wy.zero 0), .int .i8 (Wy.b Wy.zero 1), .int .i8 (Wy.b Wy.zero 2), .int .i8 (Wy.b Wy.zero 3), .int .i8 (Wy.b Wy.zero 4), .int .i8 (Wy.b Wy.zero 5), .int .i64 ((Wy.d Wy.zero : Nat) : Int)] 135)
    have hb0 : Below w.heap.size w ((((w.alloc (.cells #[.int .i64 (R : Nat), .map (some b)] 152)).alloc (.cells #[.int .i64 (r : Nat)] 3)).alloc (.cells #[.int .i64 ((Wy.n Wy.zero : Nat) : Int), .int .i8 (Wy.b Wy.zero 0), .int .i8 (Wy.b Wy.zero 1), .int .i8 (Wy.b Wy.zero 2), .int .i8 (Wy.b Wy.zero 3), .int .i8 (Wy.b Wy.zero 4), .int .i8 (Wy.b Wy.zero 5), .int .i64 ((Wy.d Wy.zero : Nat) : Int)] 135)).alloc (.cells #[.int .i64 ((Wy.n Wy.zero : Nat) : Int), .int .i8 (Wy.b Wy.zero 0), .int .i8 (Wy.b Wy.zero 1), .int .i8 (Wy.b Wy.zero 2), .int .i8 (Wy.b Wy.zero 3), .int .i8 (Wy.b Wy.zero 4), .int .i8 (Wy.b Wy.zero 5), .int .i64 ((Wy.d Wy.zero : Nat) : Int)] 135)) := by repeat' (first | (with_reducible exact Below.refl _ _) | (with_reducible assumption) | (with_reducible refine Below.setCell ?_ ?_ _) | (with_reducible refine Below.alloc ?_ ?_ _) | (with_reducible refine Below.drew ?_) | (with_reducible refine Below.drawsN ?_ _) | go_size)
    gi_wp2
    obtain ⟨w1, hw1⟩ : ∃ w1, w1 = ((((w.alloc (.cells #[.int .i64 (R : Nat), .map (some b)] 152)).alloc (.cells #[.int .i64 (r : Nat)] 3)).alloc (.cells #[.int .i64 ((Wy.n Wy.zero : Nat) : Int), .int .i8 (Wy.b Wy.zero 0), .int .i8 (Wy.b Wy.zero 1), .int .i8 (Wy.b Wy.zero 2), .int .i8 (Wy.b Wy.zero 3), .int .i8 (Wy.b Wy.zero 4), .int .i8 (Wy.b Wy.zero 5), .int .i64 ((Wy.d Wy.zero : Nat) : Int)] 135)).alloc (.cells #[.int .i64 ((Wy.n Wy.zero : Nat) : Int), .int .i8 (Wy.b Wy.zero 0), .int .i8 (Wy.b Wy.zero 1), .int .i8 (Wy.b Wy.zero 2), .int .i8 (Wy.b Wy.zero 3), .int .i8 (Wy.b Wy.zero 4), .int .i8 (Wy.b Wy.zero 5), .int .i64 ((Wy.d Wy.zero : Nat) : Int)] 135)) := ⟨_, rfl⟩
    rw [← hw1] at f3 f4 f6 f7 hb0 ⊢
    have hsz1 : w1.heap.size = w.heap.size + 1 + 1 + 1 + 1 := by rw [hw1]; simp
    clear hw1
    refine ⟨trivial, ?_⟩
    gi_at_call 91
    refine (callsIn_wide.2 (All_any (s : Nat) w1)).mono ?_
    rintro e w2 ⟨rfl, hw2⟩
    have hb1 : Below w1.heap.size w1 w2 := by rw [hw2]; exact (Below.refl _ _).alloc (Nat.le_refl _) _
    have hBs : w2.cell? ⟨w1.heap.size, 0, none⟩ = some (.int .u16 (s : Nat)) := by rw [hw2]; exact cell_of_row _ _ 0 _ _ _ (heap_alloc_new _ _)
    have hsz2 : w1.heap.size < w2.heap.size := by rw [hw2]; simp
    have hT2 := (hT.below hb0).below hb1
    have hbl := hT.own.lt
    have hF0 : Frm w w2.heap.size w.heap.size (w.heap.size + 1) (w.heap.size + 1 + 1) (w.heap.size + 1 + 1 + 1) R r b n F D Wy.zero w2 :=
      ⟨hb0.trans (hb1.mono hb0.size), Nat.le_refl _, box_below f3 hb1 (box_lt f3), box_below f4 hb1 (box_lt f4), box_below f6 hb1 (box_lt f6), box_below f7 hb1 (box_lt f7), hT2⟩
    have hBs1 : w1.heap.size = w.heap.size + 1 + 1 + 1 + 1 := hsz1
    obtain ⟨g7, hg7⟩ : ∃ g, g = w.heap.size + 1 + 1 + 1 := ⟨_, rfl⟩
    rw [← hg7] at hF0 ⊢
    obtain ⟨g6, hg6⟩ : ∃ g, g = w.heap.size + 1 + 1 := ⟨_, rfl⟩
    rw [← hg6] at hF0 ⊢
    obtain ⟨g4, hg4⟩ : ∃ g, g = w.heap.size + 1 := ⟨_, rfl⟩
    rw [← hg4] at hF0 ⊢
    obtain ⟨g3, hg3⟩ : ∃ g, g = w.heap.size := ⟨_, rfl⟩
    rw [show (Value.pointer (some ⟨w.heap.size, 0, none⟩)) = .pointer (some ⟨g3, 0, none⟩) by rw [hg3]]
    have hF0 : Frm w w2.heap.size g3 g4 g6 g7 R r b n F D Wy.zero w2 := by rw [hg3]; exact hF0
    obtain ⟨Bs, hBsE⟩ : ∃ B, B = w1.heap.size := ⟨_, rfl⟩
    rw [← hBsE] at hBs hsz2 hBs1 ⊢
    have HF0 := Lib.hid hF0
    have hBl : b < w2.heap.size := by omega
    have hW2 : w.heap.size ≤ w2.heap.size := by omega
    have hP : w.heap.size ≤ g7 ∧ g3 ≠ g7 ∧ g4 ≠ g7 ∧ g6 ≠ g7 ∧ b ≠ g7 ∧ Bs ≠ g7 ∧ g6 < w2.heap.size ∧ g7 < w2.heap.size ∧ w.heap.size ≤ g6 := by omega
    have HP := Lib.hid hP
    clear f3 f4 f6 f7 hb0 hb1 hsz1 hw2 hT2 hF0 hzw hP hg3 hg4 hg6 hg7 hBsE hBs1
    gi_wp2
    refine wpIn_rangeFunc_ownG rfl (by omega) (gf := 94) (lb := #[.pointer (some ⟨Bs, 0, none⟩)]) rfl trivial (enters_of Try.func94 (by kernel_rfl) rfl)
      (seq_stopsB (5 - 1) (by omega) Bs s hs w2 hsz2 hBs) (fun h k => h.trans k)
      (fun W l o o' hl ho _ _ => ⟨fun k h1 h2 => (grownBy_putObj' W l o').block k (by have := (Array.getElem?_eq_some_iff.1 ho).1; omega) (fun e => by cases e; omega), (grownBy_putObj' W l o').size⟩) (Below.refl _ _) (fun _ => rfl)
      (fun pre W => Frm w w2.heap.size g3 g4 g6 g7 R r b n F D (foldW F r (vals pre)) W) (fun _ _ _ => False)
      (Frm.own hW2 hBl) (fun _ _ _ _ _ hs _ _ => hs) HF0.out
      (fun x => { tmps := #[.agg #[.int .i64 (R : Nat), .map (some b)], .int .i64 (r : Nat), .int .u16 (s : Nat), .pointer (some ⟨g3, 0, none⟩), .pointer (some ⟨g4, 0, none⟩), undef, .pointer (some ⟨g6, 0, none⟩), .pointer (some ⟨g7, 0, none⟩), .int .i64 ((x.val : Nat) : Int), .int .i64 (r : Nat), .pointer (some ⟨g3, 0, none⟩), .int .i64 (R : Nat), .bool false, undef, undef, .int .u16 (s : Nat), .func (.func 94) #[] #[.pointer (some ⟨Bs, 0, none⟩)], .int .i64 ((x.val : Nat) : Int), undef, undef, undef, undef, undef, undef, undef, undef, undef], defers := [] }) ?assign ?body ?done ?stop
    case assign =>
      intro l x W K hK
      gi_wp2
      exact hK
    case body =>
      rintro l pre x W hI hpl
      have c1 := cell_of_row _ g3 1 _ _ _ hI.bs
      have c4 := cell_of_row _ g4 0 _ _ _ hI.br
      have c70 := cell_of_row _ g7 0 _ _ _ hI.bx
      have c71 := cell_of_row _ g7 1 _ _ _ hI.bx
      have c72 := cell_of_row _ g7 2 _ _ _ hI.bx
      have c73 := cell_of_row _ g7 3 _ _ _ hI.bx
      have c74 := cell_of_row _ g7 4 _ _ _ hI.bx
      have c75 := cell_of_row _ g7 5 _ _ _ hI.bx
      have c76 := cell_of_row _ g7 6 _ _ _ hI.bx
      have c77 := cell_of_row _ g7 7 _ _ _ hI.bx
      simp at c1 c4 c70 c71 c72 c73 c74 c75 c76 c77
      have hx := x.isLt
      obtain ⟨hn1, hd1⟩ := foldW_small hF r (vals pre)
      obtain ⟨hn2, hd2⟩ := hF r x.val
      have hfs : foldW F r (vals (pre ++ [x])) = (foldW F r (vals pre)).or (F r x.val) := by rw [← foldW_snoc]; simp [vals]
      have hlen : (vals pre).length < 16 := by simpa [vals] using hpl
      have hlk : ∀ W', Below W.heap.size W W' → (Instr.lookup 150 (.map (some b)) (.agg #[.int .i64 (r : Nat), .int .i64 (x.val : Nat)]) false).run Try.prog W' = .ok (.agg #[.int .i64 ((Wy.n (F r x.val) : Nat) : Int), .int .i8 (Wy.b (F r x.val) 0), .int .i8 (Wy.b (F r x.val) 1), .int .i8 (Wy.b (F r x.val) 2), .int .i8 (Wy.b (F r x.val) 3), .int .i8 (Wy.b (F r x.val) 4), .int .i8 (Wy.b (F r x.val) 5), .int .i64 ((Wy.d (F r x.val) : Nat) : Int)]) W' := fun W' hb => (hI.tb.below hb).look (by omega) (by omega)
      obtain ⟨A, hA⟩ : ∃ A, A = foldW F r (vals pre) := ⟨_, rfl⟩
      obtain ⟨C, hC⟩ : ∃ C, C = F r x.val := ⟨_, rfl⟩
      rw [← hA] at hfs hn1 hd1 hI c70 c71 c72 c73 c74 c75 c76 c77
      rw [← hC] at hfs hn2 hd2 hlk
      have HS := Lib.hid hfs
      have HI := Lib.hid hI
      have HLK := Lib.hid hlk
      have HN := Lib.hid (show A.n ≤ 1000000000 ∧ C.n ≤ 1000000000 ∧ A.d ≤ 1000 ∧ C.d ≤ 1000 by omega)
      have hz3 := box_lt hI.bs
      have hz4 := box_lt hI.br
      have hz7 := box_lt hI.bx
      clear hfs hI hn1 hd1 hn2 hd2 hA hC hlen hlk c70 c71 c72 c73 c74 c75 c76 c77
      gi_wp2
      obtain ⟨I, WW, hne, hWI, hIW⟩ := Go.Mix.family (fun v => Below W.heap.size W v) (Below.refl _ _)
      have HJ := Lib.hid hIW
      have HW := Lib.hid hWI
      clear hWI hIW
      refine Go.Flo3.wpIn_region (fun w' => ∃ i, w' = WW i) 8 [Go.Flo.Spec.is (.agg #[.int .i64 ((Wy.n C : Nat) : Int), .int .i8 (Wy.b C 0), .int .i8 (Wy.b C 1), .int .i8 (Wy.b C 2), .int .i8 (Wy.b C 3), .int .i8 (Wy.b C 4), .int .i8 (Wy.b C 5), .int .i64 ((Wy.d C : Nat) : Int)]), Go.Flo.Spec.is (.agg #[.int .i64 ((Wy.n (A.or C) : Nat) : Int), .int .i8 (Wy.b (A.or C) 0), .int .i8 (Wy.b (A.or C) 1), .int .i8 (Wy.b (A.or C) 2), .int .i8 (Wy.b (A.or C) 3), .int .i8 (Wy.b (A.or C) 4), .int .i8 (Wy.b (A.or C) 5), .int .i64 ((Wy.d (A.or C) : Nat) : Int)])] (by kernel_rfl) (by simp) (by rintro ⟨_, _, h⟩; exact h) (by kernel_rfl) (by decide) (by rintro _ w' ⟨i, rfl⟩ hb; exact HJ.out _ ((HW.out i).trans (hb.mono (HW.out i).size))) (HJ.out _ (Below.refl _ _).drew) ?_
      simp only [Go.Flo.pair, Go.Mix.calm, List.take, List.drop, if_true, Bool.false_eq_true, if_false, Nat.reduceAdd, Nat.reduceSub]
      have e1 : ∀ i, (WW i).cell? ⟨g3, 1, none⟩ = some (.map (some b)) := fun i => ((HW.out i).cell (p := ⟨g3, 1, none⟩) hz3).trans c1
      have e4 : ∀ i, (WW i).cell? ⟨g4, 0, none⟩ = some (.int .i64 (r : Nat)) := fun i => ((HW.out i).cell (p := ⟨g4, 0, none⟩) hz4).trans c4
      have e5 := Lib.hid (fun i => HLK.out _ (HW.out i))
      (refine Go.Flo.fw_calm rfl ?_ (fun K hK => ?_); (first | exact Go.Mix.wanted_none rfl | exact Go.Mix.wanted_tt rfl rfl rfl | exact Go.Mix.wanted_ff rfl rfl rfl); refine Go.Flo.quiet_load_row 135 _ rfl g7 rfl _ #[.int .i64 ((Wy.n A : Nat) : Int), .int .i8 (Wy.b A 0), .int .i8 (Wy.b A 1), .int .i8 (Wy.b A 2), .int .i8 (Wy.b A 3), .int .i8 (Wy.b A 4), .int .i8 (Wy.b A 5), .int .i64 ((Wy.d A : Nat) : Int)] _ (by rintro _ ⟨i, rfl⟩; exact ((HW.out i).block g7 hz7).trans HI.out.bx) Try.underlying135 rfl size_wy ?_; go_simp; refine hK _ ?_; clear hK K)
      (repeat (first | (refine Go.Flo.fw_calm rfl ?_ (fun K hK => ?_); (first | exact Go.Mix.wanted_none rfl | exact Go.Mix.wanted_tt rfl rfl rfl | exact Go.Mix.wanted_ff rfl rfl rfl); go_big_quiet_op; refine hK _ ?_; clear hK K) | (refine Go.Flo.fw_skip ?_ (fun K hK => ?_); (first | exact Go.Mix.wanted_tf rfl rfl rfl | exact Go.Mix.wanted_ft rfl rfl rfl); go_simp; refine hK _ ?_; clear hK K) | (refine Go.Flo.fw_any rfl ?_ (fun K hK => ?_); (first | exact Go.Mix.wanted_none rfl | exact Go.Mix.wanted_tt rfl rfl rfl | exact Go.Mix.wanted_ff rfl rfl rfl); go_simp; (try (go_ints; try go_simp)); refine hK _ ?_; clear hK K)))
      have e6 := e5.out
      refine Go.Flo.fw_loud rfl ?_ rfl (by simp) (fun wv hwv hav K hK => ?_) (fun v hv K hK => ?_)
      · (first | exact Go.Mix.wanted_none rfl | exact Go.Mix.wanted_tt rfl rfl rfl | exact Go.Mix.wanted_ff rfl rfl rfl)
      · obtain ⟨iv, rfl⟩ := hwv
        have hbv := HW.out iv
        (first | go_big_op | go_simp)
        exact hK _ _ (Go.Flo.owes_is _ rfl (Below.refl _ _))
      obtain rfl := hv.is
      go_simp
      refine hK _ ?_
      clear hK K hv
      clear e6
      refine Go.Flo.fw_loud rfl ?_ rfl (by simp) (fun wv hwv hav K hK => ?_) (fun v hv K hK => ?_)
      · (first | exact Go.Mix.wanted_none rfl | exact Go.Mix.wanted_tt rfl rfl rfl | exact Go.Mix.wanted_ff rfl rfl rfl)
      · obtain ⟨iv, rfl⟩ := hwv
        have hbv := HW.out iv
        (first | go_big_op | go_simp)
        go_at_call 97
        refine (or_any A C _ HN.out.1 HN.out.2.1 HN.out.2.2.1 HN.out.2.2.2).mono ?_
        rintro e w' ⟨rfl, hb⟩
        exact hK _ _ (Go.Flo.owes_is _ rfl hb)
      obtain rfl := hv.is
      go_simp
      refine hK _ ?_
      clear hK K hv
      refine Go.Flo.fw_nil ?_
      intro w4 hww4 hfw4 huw4
      obtain ⟨iend, hiend⟩ := hww4
      have hbw4 := HW.out iend
      rw [← hiend] at hbw4
      clear hiend iend huw4
      have hI4 := HI.out.step hbw4
      have hC4 := hI4.bx
      have HP1 := HP.out
      have HI5 := Lib.hid (hI4.put HP1.1 HP1.2.1 HP1.2.2.1 HP1.2.2.2.1 HP1.2.2.2.2.1 (A.or C))
      have HG := Lib.hid ((grown_belowS hbw4))
      have HBW := Lib.hid hbw4
      have HPP := Lib.hid HP1
      clear hfw4 HJ HW hne e1 e4 e5 c1 c4 hz3 hz4 hI4 HP1 hbw4
      clear WW I
      refine ⟨fun _ => True, trivial, ?_⟩

      (refine Go.Mix.walk_loud rfl ?_ (fun K hK => ?_); (first | exact Go.Mix.wanted_none rfl | exact Go.Mix.wanted_tt rfl rfl rfl | exact Go.Mix.wanted_ff rfl rfl rfl); refine wp_store_row 135 _ _ rfl _ #[.int .i64 ((Wy.n (A.or C) : Nat) : Int), .int .i8 (Wy.b (A.or C) 0), .int .i8 (Wy.b (A.or C) 1), .int .i8 (Wy.b (A.or C) 2), .int .i8 (Wy.b (A.or C) 3), .int .i8 (Wy.b (A.or C) 4), .int .i8 (Wy.b (A.or C) 5), .int .i64 ((Wy.d (A.or C) : Nat) : Int)] rfl rfl 135 _ hC4 size_wy rfl (by simp [Value.oneCell']) (hK _ _ trivial ?_); clear hK K)
      refine Go.Mix.walk_nil ?_
      refine ⟨?_, ?_, ?_⟩
      · exact (KeepsFrom.of_grownBy HG.out (fun j h => by cases h)).trans (KeepsFrom.of_grownBy (grown_rowS w4 g7 _) (fun j h => by cases h; exact HPP.out.2.2.2.2.2.2.2.1))
      · refine ⟨fun k h1 h2 => ?_, ?_⟩
        · obtain rfl : k = Bs := by omega
          exact (setRow_other _ g7 k _ HPP.out.2.2.2.2.2.1).trans (HBW.out.block k (Nat.lt_of_lt_of_le hsz2 HI.out.sz))
        · have := HBW.out.size
          simpa [World.setRow] using this
      · show Frm w w2.heap.size g3 g4 g6 g7 R r b n F D (foldW F r (vals (pre ++ [x]))) _
        rw [HS.out]
        exact HI5.out
    case done =>
      rintro Dd ys W hDd hys hI hK
      have b7 := hI.bx
      have b6 := hI.bo
      rw [hys] at b7
      have hfw : fromW F R r s = foldW F r (upTo s 16) := by unfold fromW; rw [if_neg hrR]
      obtain ⟨X, hX⟩ : ∃ X, X = foldW F r (upTo s 16) := ⟨_, rfl⟩
      rw [← hX] at b7 hfw
      have HFW := Lib.hid hfw
      have HI := Lib.hid hI
      have HKK := Lib.hid hK
      clear hI hK hX hys hfw
      have hg6 : g6 < w2.heap.size := HP.out.2.2.2.2.2.2.1
      have hw6 : w.heap.size ≤ g6 := HP.out.2.2.2.2.2.2.2.2
      gi_wp2_with (first | ((with_reducible show wpListIn _ _ _ _ _ (_ :: _) _ _); refine Go.Mix.load_rowW rfl 135 _ rfl _ rfl _ _ _ _ b7 Try.underlying135 rfl (by exact size_wy) ?_) | ((with_reducible show wpListIn _ _ _ _ _ (_ :: _) _ _); refine Go.Mix.store_rowW rfl 135 _ _ rfl _ _ rfl rfl _ _ b6 (by exact size_wy) (by rfl) (by simp [Value.oneCell']) ?_))
      have hK2 : (W.setRow g6 #[.int .i64 ((Wy.n X : Nat) : Int), .int .i8 (Wy.b X 0), .int .i8 (Wy.b X 1), .int .i8 (Wy.b X 2), .int .i8 (Wy.b X 3), .int .i8 (Wy.b X 4), .int .i8 (Wy.b X 5), .int .i64 ((Wy.d X : Nat) : Int)]).heap[Dd]? = some (.deferred (some [])) := (setRow_other _ g6 Dd _ (by omega)).trans HKK.out
      have hR2 : (W.setRow g6 #[.int .i64 ((Wy.n X : Nat) : Int), .int .i8 (Wy.b X 0), .int .i8 (Wy.b X 1), .int .i8 (Wy.b X 2), .int .i8 (Wy.b X 3), .int .i8 (Wy.b X 4), .int .i8 (Wy.b X 5), .int .i64 ((Wy.d X : Nat) : Int)]).heap[g6]? = some (.cells #[.int .i64 ((Wy.n X : Nat) : Int), .int .i8 (Wy.b X 0), .int .i8 (Wy.b X 1), .int .i8 (Wy.b X 2), .int .i8 (Wy.b X 3), .int .i8 (Wy.b X 4), .int .i8 (Wy.b X 5), .int .i64 ((Wy.d X : Nat) : Int)] 135 (0, 0)) := setRow_heap _ g6 _ _ _ _ b6
      have hB2 := bel_rowS HI.out.be hw6 #[.int .i64 ((Wy.n X : Nat) : Int), .int .i8 (Wy.b X 0), .int .i8 (Wy.b X 1), .int .i8 (Wy.b X 2), .int .i8 (Wy.b X 3), .int .i8 (Wy.b X 4), .int .i8 (Wy.b X 5), .int .i64 ((Wy.d X : Nat) : Int)]
      obtain ⟨W7, hW7⟩ : ∃ W7, W7 = W.setRow g6 #[.int .i64 ((Wy.n X : Nat) : Int), .int .i8 (Wy.b X 0), .int .i8 (Wy.b X 1), .int .i8 (Wy.b X 2), .int .i8 (Wy.b X 3), .int .i8 (Wy.b X 4), .int .i8 (Wy.b X 5), .int .i64 ((Wy.d X : Nat) : Int)] := ⟨_, rfl⟩
      rw [← hW7] at hK2 hR2 hB2 ⊢
      clear hW7 b6 b7
      refine ⟨by simp, .inl ⟨_, _, rfl, run_takeDeferred hK2, ?_⟩⟩
      have hg := grownBy_putObj' W7 Dd (.deferred none)
      have hR3 := (hg.block g6 (box_lt hR2) (fun e => by injection e with e; omega)).trans hR2
      have hB3 := hB2.grown hg hB2.size (fun j h => by cases h; omega)
      refine ⟨_, results_cell_row rfl _ _ _ _ _ _ _ rfl hR3 Try.underlying135 rfl size_wy, ?_⟩
      exact ⟨by rw [HFW.out], hB3⟩
    case stop => exact fun _ _ _ _ _ _ h => h.elim
end Go.Proofs.Ytioclbkgfbjpdaa
