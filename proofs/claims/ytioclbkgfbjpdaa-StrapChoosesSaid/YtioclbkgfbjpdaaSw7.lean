/- Layer 18: the search. -/
import Derived.Test.YtioclbkgfbjpdaaSw6
import Derived.Test.YtioclbkgfbjpdaaSwB
import Derived.Test.YtioclbkgfbjpdaaMks
import Derived.Test.YtioclbkgfbjpdaaBx
namespace Go.Proofs.Ytioclbkgfbjpdaa
open Go.RowKit Go.Own Go.Maps Go.Shelf Bs
set_option linter.unusedVariables false
set_option linter.unusedSimpArgs false
attribute [local go_sem] Oper.semAt_some
theorem Bq.grown {w W W' : World} {bs : List (Nat × Array Value × TypeId)} {row : Option Nat} (h : Bq w W bs) (hg : W.grownBy W' row) (hr : ∀ r, row = some r → w.heap.size ≤ r ∧ ∃ o : Obj, W.heap[r]? = some o ∧ o.isCells = false) : Bq w W' bs :=
  ⟨h.be.grown hg h.be.size (fun k e => (hr k e).1), fun x hx => box_kept (h.al x hx) hg (fun e => by
    obtain ⟨_, o, ho, hc⟩ := hr _ e.symm
    rw [h.al x hx] at ho
    cases ho
    simp [Obj.isCells] at hc), h.lo, h.nd⟩
theorem Bq.other {w W W' : World} {bs : List (Nat × Array Value × TypeId)} {b : Nat} (h : Bq w W bs) (hg : W.grownBy W' (some b)) (hb : w.heap.size ≤ b) (hne : ∀ x ∈ bs, x.1 ≠ b) : Bq w W' bs :=
  ⟨h.be.grown hg h.be.size (fun k e => by cases e; exact hb), fun x hx => box_kept (h.al x hx) hg (fun e => hne x hx (by injection e)), h.lo, h.nd⟩
theorem wp_mapUpdateW {H : Type} {P : Program} {w : World} {o : Oper} {a : Act} {K : Act → World → Prop} {Q : Exit → Act → World → Prop}
    (m x v : Operand) (t : TypeId) (hop : o.op = Op.mapUpdate t m x v)
    (k e : TypeId) (Kd : Keyed P k) (ht : P.underlying t = some (.map k e)) (R : Value → Option (DataW H × List MemPlace)) (b n : Nat) (D : DataW H)
    (hm : a.eval m = .map (some b)) (hown : w.ownsMap P k R b n D) (hn : n < maxLen) (key val : Value) (kl : Lit) (hx : a.eval x = key) (hv : a.eval v = val) (hkey : keyOf P k key = some kl)
    (d : DataW H) (ps : List MemPlace) (hval : R val = some (d, ps))
    (hK : ∀ w', w'.ownsMap P k R b (n + 1) (D.put kl d) → w.grownBy w' (some b) → K (a.put o.dst undef) w') : o.wp P a w K Q := by
  obtain ⟨w', hrun, r1, r2⟩ := hown.update Kd ht hn hkey hval
  unfold Oper.wp
  simp [execOp, hop, hm, hx, hv, hrun, Result.andThen]
  exact hK _ r1 r2
theorem wrapi8 : ∀ x : Fin 16, IntKind.i8.wrap ((x.val : Nat) : Int) = ((x.val : Nat) : Int) := by decide
theorem size_sr : (Try.prog.info? 152).map (·.size) = some 2 := by kernel_rfl
theorem mapv_cell (x : Value) (lk : Nat → Nat) {u : Nat} (h : u < 16) : (#[x, .int .u16 ((lk 0 : Nat) : Int), .int .u16 ((lk 1 : Nat) : Int), .int .u16 ((lk 2 : Nat) : Int), .int .u16 ((lk 3 : Nat) : Int), .int .u16 ((lk 4 : Nat) : Int), .int .u16 ((lk 5 : Nat) : Int), .int .u16 ((lk 6 : Nat) : Int), .int .u16 ((lk 7 : Nat) : Int), .int .u16 ((lk 8 : Nat) : Int), .int .u16 ((lk 9 : Nat) : Int), .int .u16 ((lk 10 : Nat) : Int), .int .u16 ((lk 11 : Nat) : Int), .int .u16 ((lk 12 : Nat) : Int), .int .u16 ((lk 13 : Nat) : Int), .int .u16 ((lk 14 : Nat) : Int), .int .u16 ((lk 15 : Nat) : Int)] : Array Value)[1 + u]? = some (.int .u16 ((lk u : Nat) : Int)) := by
  rcases (by omega : u = 0 ∨ u = 1 ∨ u = 2 ∨ u = 3 ∨ u = 4 ∨ u = 5 ∨ u = 6 ∨ u = 7 ∨ u = 8 ∨ u = 9 ∨ u = 10 ∨ u = 11 ∨ u = 12 ∨ u = 13 ∨ u = 14 ∨ u = 15) with rfl | rfl | rfl | rfl | rfl | rfl | rfl | rfl | rfl | rfl | rfl | rfl | rfl | rfl | rfl | rfl <;> rfl
/-- Where the search stands. -/
structure Fst (w : World) (bs : List (Nat × Array Value × TypeId)) (g8 : Nat) (q : Int) (bm m : Nat) (F : Nat → Nat → Wy) (W : World) : Prop where
  bq : Bq w W bs
  b8 : W.heap[g8]? = some (.cells #[.int .i64 q] 3 (0, 0))
  tb : ∃ n D, n ≤ m ∧ WTab W bm n F D
theorem Fst.step {w W W' : World} {bs : List (Nat × Array Value × TypeId)} {g8 bm m : Nat} {q : Int} {F : Nat → Nat → Wy} (h : Fst w bs g8 q bm m F W) (hb : Below W.heap.size W W') : Fst w bs g8 q bm m F W' := by
  obtain ⟨h1, h2, n, D, hn, h3⟩ := h
  exact ⟨h1.step hb, box_below h2 hb (box_lt h2), n, D, hn, h3.below hb⟩
theorem Fst.own {w : World} {bs : List (Nat × Array Value × TypeId)} {g8 bm B : Nat} {q : Int} {m : List (Fin 16) → Nat} {f : List (Fin 16) → Nat → Nat → Wy} (hB : w.heap.size ≤ B) (hb : bm < B) : OwnFrom B (fun pre W => Fst w bs g8 q bm (m pre) (f pre) W) := by
  rintro pre W W' row ⟨h1, h2, n, D, hn, h3⟩ hg hr
  refine ⟨h1.grown hg (fun r e => ⟨Nat.le_trans hB (hr r e).1, (hr r e).2⟩), box_kept h2 hg (fun e => ?_), n, D, hn, h3.kept hg (fun e => by have := (hr bm e.symm).1; omega)⟩
  obtain ⟨_, o, ho, hc⟩ := hr _ e.symm
  rw [h2] at ho
  cases ho
  simp [Obj.isCells] at hc
/-- How many rounds are left. -/
def leftS (a : Act) (w : World) : Nat := match a.tmps.getD 8 undef with
  | .pointer (some p) => match w.cell? p with
    | some (.int _ i) => (i + 1).toNat
    | _ => 0
  | _ => 0
theorem leftS_eq {a : Act} {w : World} {g : Nat} {q : Int} {t : TypeId} (h : a.tmps.getD 8 undef = .pointer (some ⟨g, 0, none⟩)) (hc : w.heap[g]? = some (.cells #[.int .i64 q] t (0, 0))) : leftS a w = (q + 1).toNat := by
  have h2 := cell_of_row _ g 0 _ _ _ hc
  simp at h2
  unfold leftS
  rw [h]
  dsimp only
  rw [h2]
set_option maxRecDepth 100000 in
set_option maxHeartbeats 8000000 in
theorem find_any (a : Option Addr) (len cap n bad : Nat) (l : List Nat) (lk : Nat → Nat) (near : Nat → Int) (w : World) (hl : l.length = len) (hv : ∀ t ∈ l, t < 65536) (hlk : ∀ i, lk i < 65536) (hbad : bad < 65536) (hn : n ≤ w.heap.size) (hr : Rd n w a len cap (sv l)) (h6 : len ≤ 6) :
    Calls Try.prog 76 #[.agg #[.slice a len cap, .int .u16 ((lk 0 : Nat) : Int), .int .u16 ((lk 1 : Nat) : Int), .int .u16 ((lk 2 : Nat) : Int), .int .u16 ((lk 3 : Nat) : Int), .int .u16 ((lk 4 : Nat) : Int), .int .u16 ((lk 5 : Nat) : Int), .int .u16 ((lk 6 : Nat) : Int), .int .u16 ((lk 7 : Nat) : Int), .int .u16 ((lk 8 : Nat) : Int), .int .u16 ((lk 9 : Nat) : Int), .int .u16 ((lk 10 : Nat) : Int), .int .u16 ((lk 11 : Nat) : Int), .int .u16 ((lk 12 : Nat) : Int), .int .u16 ((lk 13 : Nat) : Int), .int .u16 ((lk 14 : Nat) : Int), .int .u16 ((lk 15 : Nat) : Int)], .agg #[.int .i8 (near 0), .int .i8 (near 1), .int .i8 (near 2), .int .i8 (near 3), .int .i8 (near 4), .int .i8 (near 5)], .int .u16 (bad : Nat)] w fun e w' => e = .returned (.agg #[.int .i64 ((Wy.n (fromW (tabW (fun r => l.getD r 0 &&& (65535 - bad)) lk near len len) len 0 65535) : Nat) : Int), .int .i8 (Wy.b (fromW (tabW (fun r => l.getD r 0 &&& (65535 - bad)) lk near len len) len 0 65535) 0), .int .i8 (Wy.b (fromW (tabW (fun r => l.getD r 0 &&& (65535 - bad)) lk near len len) len 0 65535) 1), .int .i8 (Wy.b (fromW (tabW (fun r => l.getD r 0 &&& (65535 - bad)) lk near len len) len 0 65535) 2), .int .i8 (Wy.b (fromW (tabW (fun r => l.getD r 0 &&& (65535 - bad)) lk near len len) len 0 65535) 3), .int .i8 (Wy.b (fromW (tabW (fun r => l.getD r 0 &&& (65535 - bad)) lk near len len) len 0 65535) 4), .int .i8 (Wy.b (fromW (tabW (fun r => l.getD r 0 &&& (65535 - bad)) lk near len len) len 0 65535) 5), .int .i64 ((Wy.d (fromW (tabW (fun r => l.getD r 0 &&& (65535 - bad)) lk near len len) len 0 65535) : Nat) : Int)]) ∧ Below w.heap.size w w' := by
  have hzw := zero_wy
  obtain ⟨al, hal⟩ : ∃ al : Nat → Nat, al = fun r => l.getD r 0 &&& (65535 - bad) := ⟨_, rfl⟩
  rw [← hal]
  have HAL := Lib.hid hal
  clear hal
  refine (callsIn_wide (n := 5)).1 ?_
  refine callsIn_of_wp_marks Try.func76 rfl trivial ?_ rfl
  simp only [Try.ntmps76, List.size_toArray, List.length_cons, List.length_nil, Nat.reduceAdd, Nat.reduceSub, Array.replicate_succ, Array.replicate_zero, List.push_toArray, List.append_toArray, List.nil_append, List.cons_append]
  have hmm := @run_makeMap Try.prog
  have HR := Lib.hid hr
  have HV := Lib.hid hv
  have HLK := Lib.hid hlk
  clear hr hv hlk
  have hq := (((Bq.nil w).new #[.slice a len cap, .int .u16 ((lk 0 : Nat) : Int), .int .u16 ((lk 1 : Nat) : Int), .int .u16 ((lk 2 : Nat) : Int), .int .u16 ((lk 3 : Nat) : Int), .int .u16 ((lk 4 : Nat) : Int), .int .u16 ((lk 5 : Nat) : Int), .int .u16 ((lk 6 : Nat) : Int), .int .u16 ((lk 7 : Nat) : Int), .int .u16 ((lk 8 : Nat) : Int), .int .u16 ((lk 9 : Nat) : Int), .int .u16 ((lk 10 : Nat) : Int), .int .u16 ((lk 11 : Nat) : Int), .int .u16 ((lk 12 : Nat) : Int), .int .u16 ((lk 13 : Nat) : Int), .int .u16 ((lk 14 : Nat) : Int), .int .u16 ((lk 15 : Nat) : Int)] 65).new #[.int .i8 (near 0), .int .i8 (near 1), .int .i8 (near 2), .int .i8 (near 3), .int .i8 (near 4), .int .i8 (near 5)] 76).new #[.int .i64 ((Wy.n Wy.zero : Nat) : Int), .int .i8 (Wy.b Wy.zero 0), .int .i8 (Wy.b Wy.zero 1), .int .i8 (Wy.b Wy.zero 2), .int .i8 (Wy.b Wy.zero 3), .int .i8 (Wy.b Wy.zero 4), .int .i8 (Wy.b Wy.zero 5), .int .i64 ((Wy.d Wy.zero : Nat) : Int)] 135
  simp only [World.size_alloc] at hq
  have ht := wtab_made (((w.alloc (.cells #[.slice a len cap, .int .u16 ((lk 0 : Nat) : Int), .int .u16 ((lk 1 : Nat) : Int), .int .u16 ((lk 2 : Nat) : Int), .int .u16 ((lk 3 : Nat) : Int), .int .u16 ((lk 4 : Nat) : Int), .int .u16 ((lk 5 : Nat) : Int), .int .u16 ((lk 6 : Nat) : Int), .int .u16 ((lk 7 : Nat) : Int), .int .u16 ((lk 8 : Nat) : Int), .int .u16 ((lk 9 : Nat) : Int), .int .u16 ((lk 10 : Nat) : Int), .int .u16 ((lk 11 : Nat) : Int), .int .u16 ((lk 12 : Nat) : Int), .int .u16 ((lk 13 : Nat) : Int), .int .u16 ((lk 14 : Nat) : Int), .int .u16 ((lk 15 : Nat) : Int)] 65)).alloc (.cells #[.int .i8 (near 0), .int .i8 (near 1), .int .i8 (near 2), .int .i8 (near 3), .int .i8 (near 4), .int .i8 (near 5)] 76)).alloc (.cells #[.int .i64 ((Wy.n Wy.zero : Nat) : Int), .int .i8 (Wy.b Wy.zero 0), .int .i8 (Wy.b Wy.zero 1), .int .i8 (Wy.b Wy.zero 2), .int .i8 (Wy.b Wy.zero 3), .int .i8 (Wy.b Wy.zero 4), .int .i8 (Wy.b Wy.zero 5), .int .i64 ((Wy.d Wy.zero : Nat) : Int)] 135))
  gi_wp2
  obtain ⟨w1, hw1⟩ : ∃ w1, w1 = (((w.alloc (.cells #[.slice a len cap, .int .u16 ((lk 0 : Nat) : Int), .int .u16 ((lk 1 : Nat) : Int), .int .u16 ((lk 2 : Nat) : Int), .int .u16 ((lk 3 : Nat) : Int), .int .u16 ((lk 4 : Nat) : Int), .int .u16 ((lk 5 : Nat) : Int), .int .u16 ((lk 6 : Nat) : Int), .int .u16 ((lk 7 : Nat) : Int), .int .u16 ((lk 8 : Nat) : Int), .int .u16 ((lk 9 : Nat) : Int), .int .u16 ((lk 10 : Nat) : Int), .int .u16 ((lk 11 : Nat) : Int), .int .u16 ((lk 12 : Nat) : Int), .int .u16 ((lk 13 : Nat) : Int), .int .u16 ((lk 14 : Nat) : Int), .int .u16 ((lk 15 : Nat) : Int)] 65)).alloc (.cells #[.int .i8 (near 0), .int .i8 (near 1), .int .i8 (near 2), .int .i8 (near 3), .int .i8 (near 4), .int .i8 (near 5)] 76)).alloc (.cells #[.int .i64 ((Wy.n Wy.zero : Nat) : Int), .int .i8 (Wy.b Wy.zero 0), .int .i8 (Wy.b Wy.zero 1), .int .i8 (Wy.b Wy.zero 2), .int .i8 (Wy.b Wy.zero 3), .int .i8 (Wy.b Wy.zero 4), .int .i8 (Wy.b Wy.zero 5), .int .i64 ((Wy.d Wy.zero : Nat) : Int)] 135)) := ⟨_, rfl⟩
  rw [← hw1] at hq ht ⊢
  have hs1 : w1.heap.size = w.heap.size + 1 + 1 + 1 := by rw [hw1]; simp
  rw [← hs1]
  have hq2 := ((hq.step ((Below.refl w1.heap.size w1).alloc (Nat.le_refl _) (.map #[] 0))).new #[.int .i64 ((len : Nat) : Int), .map (some w1.heap.size)] 152)
  simp only [World.size_alloc] at hq2
  have hq3 := hq2.step ((Below.refl _ _).alloc (Nat.le_refl _) (.cells #[.int .i64 ((len : Int) - 1)] 3))
  have ht2 := ht.below ((Below.refl _ _).alloc (Nat.le_refl _) (.cells #[.int .i64 ((len : Nat) : Int), .map (some w1.heap.size)] 152))
  have ht3 := ht2.below ((Below.refl _ _).alloc (Nat.le_refl _) (.cells #[.int .i64 ((len : Int) - 1)] 3))
  have h8 := heap_alloc_new ((w1.alloc (.map #[] 0)).alloc (.cells #[.int .i64 ((len : Nat) : Int), .map (some w1.heap.size)] 152)) (.cells #[.int .i64 ((len : Int) - 1)] 3)
  simp only [World.size_alloc] at h8
  obtain ⟨W0, hW0⟩ : ∃ W0, W0 = ((w1.alloc (.map #[] 0)).alloc (.cells #[.int .i64 ((len : Nat) : Int), .map (some w1.heap.size)] 152)).alloc (.cells #[.int .i64 ((len : Int) - 1)] 3) := ⟨_, rfl⟩
  rw [← hW0] at hq3 ht3 h8 ⊢
  obtain ⟨bm, hbm⟩ : ∃ b, b = w1.heap.size := ⟨_, rfl⟩
  obtain ⟨gz, hg8⟩ : ∃ b, b = w1.heap.size + 1 + 1 := ⟨_, rfl⟩
  obtain ⟨g7, hg7⟩ : ∃ b, b = w1.heap.size + 1 := ⟨_, rfl⟩
  rw [← hg8] at h8 ⊢
  rw [← hg7] at hq3 ⊢
  rw [← hbm] at hq3 ht3 ⊢
  obtain ⟨g6, hg6⟩ : ∃ b, b = w.heap.size + 1 + 1 := ⟨_, rfl⟩
  obtain ⟨g4, hg4⟩ : ∃ b, b = w.heap.size + 1 := ⟨_, rfl⟩
  rw [← hg6] at hq3 ⊢
  rw [← hg4] at hq3 ⊢
  obtain ⟨g3, hg3⟩ : ∃ b, b = w.heap.size := ⟨_, rfl⟩
  rw [show (Value.pointer (some ⟨w.heap.size, 0, none⟩)) = .pointer (some ⟨g3, 0, none⟩) by rw [hg3]]
  have hq4 : Bq w W0 [(g3, #[.slice a len cap, .int .u16 ((lk 0 : Nat) : Int), .int .u16 ((lk 1 : Nat) : Int), .int .u16 ((lk 2 : Nat) : Int), .int .u16 ((lk 3 : Nat) : Int), .int .u16 ((lk 4 : Nat) : Int), .int .u16 ((lk 5 : Nat) : Int), .int .u16 ((lk 6 : Nat) : Int), .int .u16 ((lk 7 : Nat) : Int), .int .u16 ((lk 8 : Nat) : Int), .int .u16 ((lk 9 : Nat) : Int), .int .u16 ((lk 10 : Nat) : Int), .int .u16 ((lk 11 : Nat) : Int), .int .u16 ((lk 12 : Nat) : Int), .int .u16 ((lk 13 : Nat) : Int), .int .u16 ((lk 14 : Nat) : Int), .int .u16 ((lk 15 : Nat) : Int)], 65), (g4, #[.int .i8 (near 0), .int .i8 (near 1), .int .i8 (near 2), .int .i8 (near 3), .int .i8 (near 4), .int .i8 (near 5)], 76), (g6, #[.int .i64 ((Wy.n Wy.zero : Nat) : Int), .int .i8 (Wy.b Wy.zero 0), .int .i8 (Wy.b Wy.zero 1), .int .i8 (Wy.b Wy.zero 2), .int .i8 (Wy.b Wy.zero 3), .int .i8 (Wy.b Wy.zero 4), .int .i8 (Wy.b Wy.zero 5), .int .i64 ((Wy.d Wy.zero : Nat) : Int)], 135), (g7, #[.int .i64 ((len : Nat) : Int), .map (some bm)], 152)] := by rw [hg3]; exact hq3
  have hF0 : Fst w [(g3, #[.slice a len cap, .int .u16 ((lk 0 : Nat) : Int), .int .u16 ((lk 1 : Nat) : Int), .int .u16 ((lk 2 : Nat) : Int), .int .u16 ((lk 3 : Nat) : Int), .int .u16 ((lk 4 : Nat) : Int), .int .u16 ((lk 5 : Nat) : Int), .int .u16 ((lk 6 : Nat) : Int), .int .u16 ((lk 7 : Nat) : Int), .int .u16 ((lk 8 : Nat) : Int), .int .u16 ((lk 9 : Nat) : Int), .int .u16 ((lk 10 : Nat) : Int), .int .u16 ((lk 11 : Nat) : Int), .int .u16 ((lk 12 : Nat) : Int), .int .u16 ((lk 13 : Nat) : Int), .int .u16 ((lk 14 : Nat) : Int), .int .u16 ((lk 15 : Nat) : Int)], 65), (g4, #[.int .i8 (near 0), .int .i8 (near 1), .int .i8 (near 2), .int .i8 (near 3), .int .i8 (near 4), .int .i8 (near 5)], 76), (g6, #[.int .i64 ((Wy.n Wy.zero : Nat) : Int), .int .i8 (Wy.b Wy.zero 0), .int .i8 (Wy.b Wy.zero 1), .int .i8 (Wy.b Wy.zero 2), .int .i8 (Wy.b Wy.zero 3), .int .i8 (Wy.b Wy.zero 4), .int .i8 (Wy.b Wy.zero 5), .int .i64 ((Wy.d Wy.zero : Nat) : Int)], 135), (g7, #[.int .i64 ((len : Nat) : Int), .map (some bm)], 152)] gz ((len : Int) - 1 - (0 : Nat)) bm (16 * 0) (tabW al lk near len 0) W0 := ⟨hq4, by simpa using h8, 0, _, Nat.le_refl _, ht3⟩
  have HF0 := Lib.hid hF0
  have HP := Lib.hid (show w.heap.size ≤ bm ∧ g3 < bm ∧ g4 < bm ∧ g6 < bm ∧ bm < g7 ∧ bm < gz ∧ w.heap.size ≤ g6 by omega)
  clear hq ht hq2 hq3 hq4 ht2 ht3 h8 hW0 hw1 hs1 hF0 hg8 hg7 hbm hg6 hg4 hg3 hmm hzw
  refine wpIn_loop (fun a' W => ∃ (k g8 : Nat) (ds : List Deferred) (v11 v12 v13 v14 v16 v17 v18 v19 v20 v21 v22 v23 u24 u25 u26 u27 u28 u29 u30 u31 u32 u33 u34 u35 u36 u60 : Value), k ≤ len ∧ bm < g8 ∧ Fst w [(g3, #[.slice a len cap, .int .u16 ((lk 0 : Nat) : Int), .int .u16 ((lk 1 : Nat) : Int), .int .u16 ((lk 2 : Nat) : Int), .int .u16 ((lk 3 : Nat) : Int), .int .u16 ((lk 4 : Nat) : Int), .int .u16 ((lk 5 : Nat) : Int), .int .u16 ((lk 6 : Nat) : Int), .int .u16 ((lk 7 : Nat) : Int), .int .u16 ((lk 8 : Nat) : Int), .int .u16 ((lk 9 : Nat) : Int), .int .u16 ((lk 10 : Nat) : Int), .int .u16 ((lk 11 : Nat) : Int), .int .u16 ((lk 12 : Nat) : Int), .int .u16 ((lk 13 : Nat) : Int), .int .u16 ((lk 14 : Nat) : Int), .int .u16 ((lk 15 : Nat) : Int)], 65), (g4, #[.int .i8 (near 0), .int .i8 (near 1), .int .i8 (near 2), .int .i8 (near 3), .int .i8 (near 4), .int .i8 (near 5)], 76), (g6, #[.int .i64 ((Wy.n Wy.zero : Nat) : Int), .int .i8 (Wy.b Wy.zero 0), .int .i8 (Wy.b Wy.zero 1), .int .i8 (Wy.b Wy.zero 2), .int .i8 (Wy.b Wy.zero 3), .int .i8 (Wy.b Wy.zero 4), .int .i8 (Wy.b Wy.zero 5), .int .i64 ((Wy.d Wy.zero : Nat) : Int)], 135), (g7, #[.int .i64 ((len : Nat) : Int), .map (some bm)], 152)] g8 ((len : Int) - 1 - (k : Nat)) bm (16 * k) (tabW al lk near len k) W ∧ Marked (bm + 1) W W.heap.size ds ∧ a' = { tmps := #[.agg #[.slice a len cap, .int .u16 ((lk 0 : Nat) : Int), .int .u16 ((lk 1 : Nat) : Int), .int .u16 ((lk 2 : Nat) : Int), .int .u16 ((lk 3 : Nat) : Int), .int .u16 ((lk 4 : Nat) : Int), .int .u16 ((lk 5 : Nat) : Int), .int .u16 ((lk 6 : Nat) : Int), .int .u16 ((lk 7 : Nat) : Int), .int .u16 ((lk 8 : Nat) : Int), .int .u16 ((lk 9 : Nat) : Int), .int .u16 ((lk 10 : Nat) : Int), .int .u16 ((lk 11 : Nat) : Int), .int .u16 ((lk 12 : Nat) : Int), .int .u16 ((lk 13 : Nat) : Int), .int .u16 ((lk 14 : Nat) : Int), .int .u16 ((lk 15 : Nat) : Int)], .agg #[.int .i8 (near 0), .int .i8 (near 1), .int .i8 (near 2), .int .i8 (near 3), .int .i8 (near 4), .int .i8 (near 5)], .int .u16 ((bad : Nat) : Int), .pointer (some ⟨g3, 0, none⟩), .pointer (some ⟨g4, 0, none⟩), undef, .pointer (some ⟨g6, 0, none⟩), .pointer (some ⟨g7, 0, none⟩), .pointer (some ⟨g8, 0, none⟩), undef, undef, v11, v12, v13, v14, undef, v16, v17, v18, v19, v20, v21, v22, v23, u24, u25, u26, u27, u28, u29, u30, u31, u32, u33, u34, u35, u36, undef, undef, undef, undef, undef, undef, undef, undef, undef, undef, undef, undef, undef, undef, undef, undef, undef, undef, undef, undef, undef, undef, undef, u60, undef, undef], defers := ds }) leftS ?_ ?_
  · exact ⟨0, gz, [], _, _, _, _, _, _, _, _, _, _, _, _, _, _, _, _, _, _, _, _, _, _, _, _, _, _, Nat.zero_le _, HP.out.2.2.2.2.2.1, HF0.out, trivial, rfl⟩
  clear HF0
  rintro _ Wo ⟨k, g8, ds, v11, v12, v13, v14, v16, v17, v18, v19, v20, v21, v22, v23, u24, u25, u26, u27, u28, u29, u30, u31, u32, u33, u34, u35, u36, u60, hk, hbg, hF, hM, rfl⟩
  have HM := Lib.hid hM
  clear hM
  by_cases hlt : k < len
  · obtain ⟨r, hrk⟩ : ∃ r, r = len - 1 - k := ⟨_, rfl⟩
    rw [show (len : Int) - 1 - (k : Nat) = ((r : Nat) : Int) by omega] at hF
    have hrl : r < len := by omega
    have HRK := Lib.hid hrk
    clear hrk
    have HF := Lib.hid hF
    have c8 := cell_of_row _ g8 0 _ _ _ hF.b8
    have c3 := cell_of_row _ g3 0 _ _ _ (hF.bq.of 0 rfl)
    have z3 := box_lt (hF.bq.of 0 rfl)
    simp at c8 c3
    obtain ⟨b, off, rfl, hbn, hc⟩ := HR.out.at hrl
    have hc := (hF.bq.be.cell (p := ⟨b, off + r, none⟩) (show b < w.heap.size by omega)).trans hc
    unfold sv at hc
    have hy : l.getD r 0 < 65536 := HV.out _ (by
      unfold List.getD
      rw [List.getElem?_eq_getElem (show r < l.length by omega)]
      exact List.getElem_mem _)
    have hala : al r = l.getD r 0 &&& (65535 - bad) := by rw [HAL.out]
    obtain ⟨y, hyy⟩ : ∃ y, y = l.getD r 0 := ⟨_, rfl⟩
    rw [← hyy] at hc hy hala
    obtain ⟨s, hs⟩ : ∃ s, s = al r := ⟨_, rfl⟩
    rw [← hs] at hala
    have hs16 : s < 65536 := by rw [hala]; exact Nat.lt_of_le_of_lt Nat.and_le_left hy
    have HS := Lib.hid hs
    have HALA := Lib.hid hala
    clear hyy hs hala hF
    gi_wp2
    refine ⟨trivial, ?_⟩
    gi_at_call 73
    refine (callsIn_wide.2 (Less_any y bad _ hy hbad)).mono ?_
    rintro e w' ⟨rfl, rfl⟩
    rw [← HALA.out]
    gi_wp2
    refine ⟨trivial, ?_⟩
    gi_at_call 91
    refine (callsIn_wide.2 (All_any (s : Nat) Wo)).mono ?_
    rintro e w2 ⟨rfl, hw2⟩
    have hb1 : Below Wo.heap.size Wo w2 := by rw [hw2]; exact (Below.refl _ _).alloc (Nat.le_refl _) _
    have hBs : w2.cell? ⟨Wo.heap.size, 0, none⟩ = some (.int .u16 (s : Nat)) := by rw [hw2]; exact cell_of_row _ _ 0 _ _ _ (heap_alloc_new _ _)
    have hsz2 : Wo.heap.size < w2.heap.size := by rw [hw2]; simp
    have HF2 := Lib.hid (HF.out.step hb1)
    have HM2 := Lib.hid ((HM.out.below hb1 (Nat.le_refl _)).mono hb1.size)
    obtain ⟨Bs, hBsE⟩ : ∃ B, B = Wo.heap.size := ⟨_, rfl⟩
    rw [← hBsE] at hBs hsz2 ⊢
    have hbl : bm < w2.heap.size := by obtain ⟨_, D, _, hT⟩ := HF2.out.tb; exact hT.own.lt
    have hbB : bm < Bs := by obtain ⟨_, D, _, hT⟩ := HF.out.tb; have := hT.own.lt; omega
    have hW2 : w.heap.size ≤ w2.heap.size := HF2.out.bq.be.size
    have hT0 := Bd.tab al lk near len k hk
    have HO8 := Lib.hid HF.out.b8
    clear hw2 hb1 hBsE c8 c3 z3 HF HM hc
    gi_wp2
    refine wpIn_rangeFunc_ownG rfl (by omega) (gf := 94) (lb := #[.pointer (some ⟨Bs, 0, none⟩)]) rfl trivial (enters_of Try.func94 (by kernel_rfl) rfl)
      (seq_stopsB (5 - 1) (by omega) Bs s hs16 w2 hsz2 hBs) (fun h k => h.trans k)
      (fun W l o o' hl ho _ _ => ⟨fun k h1 h2 => (grownBy_putObj' W l o').block k (by have := (Array.getElem?_eq_some_iff.1 ho).1; omega) (fun e => by cases e; omega), (grownBy_putObj' W l o').size⟩) (Below.refl _ _) (fun _ => rfl)
      (fun pre W' => Fst w [(g3, #[.slice (some ⟨b, off, none⟩) len cap, .int .u16 ((lk 0 : Nat) : Int), .int .u16 ((lk 1 : Nat) : Int), .int .u16 ((lk 2 : Nat) : Int), .int .u16 ((lk 3 : Nat) : Int), .int .u16 ((lk 4 : Nat) : Int), .int .u16 ((lk 5 : Nat) : Int), .int .u16 ((lk 6 : Nat) : Int), .int .u16 ((lk 7 : Nat) : Int), .int .u16 ((lk 8 : Nat) : Int), .int .u16 ((lk 9 : Nat) : Int), .int .u16 ((lk 10 : Nat) : Int), .int .u16 ((lk 11 : Nat) : Int), .int .u16 ((lk 12 : Nat) : Int), .int .u16 ((lk 13 : Nat) : Int), .int .u16 ((lk 14 : Nat) : Int), .int .u16 ((lk 15 : Nat) : Int)], 65), (g4, #[.int .i8 (near 0), .int .i8 (near 1), .int .i8 (near 2), .int .i8 (near 3), .int .i8 (near 4), .int .i8 (near 5)], 76), (g6, #[.int .i64 ((Wy.n Wy.zero : Nat) : Int), .int .i8 (Wy.b Wy.zero 0), .int .i8 (Wy.b Wy.zero 1), .int .i8 (Wy.b Wy.zero 2), .int .i8 (Wy.b Wy.zero 3), .int .i8 (Wy.b Wy.zero 4), .int .i8 (Wy.b Wy.zero 5), .int .i64 ((Wy.d Wy.zero : Nat) : Int)], 135), (g7, #[.int .i64 ((len : Nat) : Int), .map (some bm)], 152)] g8 ((r : Nat) : Int) bm (16 * k + pre.length) (roleStep lk near len r (tabW al lk near len k) (vals pre)) W' ∧ Marked (bm + 1) W' w2.heap.size ds ∧ w2.heap.size ≤ W'.heap.size) (fun _ _ _ => False)
      (OwnFrom.and (Fst.own hW2 hbl) (OwnFrom.and (Marked.own (Nat.le_refl _)) (fun _ _ _ _ hs hg _ => Nat.le_trans hs hg.size))) (fun _ _ _ _ _ hs _ _ => hs) ⟨HF2.out, HM2.out, Nat.le_refl _⟩
      (fun x => { tmps := #[.agg #[.slice (some ⟨b, off, none⟩) len cap, .int .u16 ((lk 0 : Nat) : Int), .int .u16 ((lk 1 : Nat) : Int), .int .u16 ((lk 2 : Nat) : Int), .int .u16 ((lk 3 : Nat) : Int), .int .u16 ((lk 4 : Nat) : Int), .int .u16 ((lk 5 : Nat) : Int), .int .u16 ((lk 6 : Nat) : Int), .int .u16 ((lk 7 : Nat) : Int), .int .u16 ((lk 8 : Nat) : Int), .int .u16 ((lk 9 : Nat) : Int), .int .u16 ((lk 10 : Nat) : Int), .int .u16 ((lk 11 : Nat) : Int), .int .u16 ((lk 12 : Nat) : Int), .int .u16 ((lk 13 : Nat) : Int), .int .u16 ((lk 14 : Nat) : Int), .int .u16 ((lk 15 : Nat) : Int)], .agg #[.int .i8 (near 0), .int .i8 (near 1), .int .i8 (near 2), .int .i8 (near 3), .int .i8 (near 4), .int .i8 (near 5)], .int .u16 ((bad : Nat) : Int), .pointer (some ⟨g3, 0, none⟩), .pointer (some ⟨g4, 0, none⟩), undef, .pointer (some ⟨g6, 0, none⟩), .pointer (some ⟨g7, 0, none⟩), .pointer (some ⟨g8, 0, none⟩), .int .i64 ((x.val : Nat) : Int), undef, v11, v12, v13, v14, undef, v16, v17, v18, v19, v20, v21, v22, v23, .int .i64 ((r : Nat) : Int), .bool true, u26, u27, .pointer (some ⟨g3, 0, none⟩), .slice (some ⟨b, off, none⟩) len cap, .int .i64 ((r : Nat) : Int), .pointer (some ⟨b, off + r, none⟩), .pointer (some ⟨b, off + r, none⟩), .int .u16 ((y : Nat) : Int), .int .u16 ((bad : Nat) : Int), .int .u16 ((s : Nat) : Int), .func (.func 94) #[] #[.pointer (some ⟨Bs, 0, none⟩)], .int .i64 ((x.val : Nat) : Int), undef, undef, undef, undef, undef, undef, undef, undef, undef, undef, undef, undef, undef, undef, undef, undef, undef, undef, undef, undef, undef, undef, u60, undef, undef], defers := [] }) ?assign ?body ?done ?stop
    case assign =>
      intro l x W K hK
      gi_wp2
      exact hK
    case body =>
      rintro l' pre x W ⟨hI, hMk, hWs⟩ hpl
      have hzw := zero_wy
      have hx := x.isLt
      have hfs : roleStep lk near len r (tabW al lk near len k) (vals (pre ++ [x])) = unitStep lk near len r (roleStep lk near len r (tabW al lk near len k) (vals pre)) x.val := by rw [← roleStep_snoc]; simp [vals]
      have hBd := Bd.role (lk := lk) (near := near) hrl (vals pre) _ hT0
      obtain ⟨F, hFe⟩ : ∃ F, F = roleStep lk near len r (tabW al lk near len k) (vals pre) := ⟨_, rfl⟩
      rw [← hFe] at hfs hBd hI
      have hSm := hBd.small h6
      obtain ⟨hXn, hXd⟩ := fromW_bd hBd hrl (lk x.val)
      have hp5 : 16 ^ (len - 1 - r) ≤ 16 ^ 5 := Nat.pow_le_pow_right (by omega) (by omega)
      obtain ⟨X, hX⟩ : ∃ X, X = fromW F len (r + 1) (lk x.val) := ⟨_, rfl⟩
      have hus : unitStep lk near len r F x.val = if 0 < X.n then updW F r x.val (X.with r x.val near) else F := by rw [hX]; rfl
      rw [hus] at hfs
      rw [← hX] at hXn hXd
      obtain ⟨n1, D1, hn1, hT⟩ := hI.tb
      have c8 := cell_of_row _ g8 0 _ _ _ hI.b8
      have z8 := box_lt hI.b8
      have c3 := cell_of_row _ g3 (1 + x.val) _ _ _ (hI.bq.of 0 rfl)
      rw [mapv_cell _ lk hx] at c3
      have z3 := box_lt (hI.bq.of 0 rfl)
      have z7 := box_lt (hI.bq.of 3 rfl)
      simp at c8
      have HFS := Lib.hid hfs
      have HX := Lib.hid hX
      have HI := Lib.hid hI
      have HMk := Lib.hid hMk
      have HT := Lib.hid hT
      have HSm := Lib.hid hSm
      have hXn2 : X.n ≤ 2000000 := by omega
      have hXd2 : X.d ≤ 100 := by omega
      clear hfs hX hI hMk hT hSm hBd hFe hus hXn hXd hp5 hT0
      gi_wp2
      obtain ⟨I, WW, hne, hWI, hIW⟩ := Go.Mix.family (fun v => Below W.heap.size W v) (Below.refl _ _)
      have HJ := Lib.hid hIW
      have HW := Lib.hid hWI
      clear hWI hIW
      refine Go.Flo3.wpIn_region (fun w' => ∃ i, w' = WW i) 9 [Go.Flo.Spec.is (.agg #[.int .i64 ((Wy.n X : Nat) : Int), .int .i8 (Wy.b X 0), .int .i8 (Wy.b X 1), .int .i8 (Wy.b X 2), .int .i8 (Wy.b X 3), .int .i8 (Wy.b X 4), .int .i8 (Wy.b X 5), .int .i64 ((Wy.d X : Nat) : Int)]), Go.Flo.Spec.ptr W.heap.size #[.int .i64 ((Wy.n Wy.zero : Nat) : Int), .int .i8 (Wy.b Wy.zero 0), .int .i8 (Wy.b Wy.zero 1), .int .i8 (Wy.b Wy.zero 2), .int .i8 (Wy.b Wy.zero 3), .int .i8 (Wy.b Wy.zero 4), .int .i8 (Wy.b Wy.zero 5), .int .i64 ((Wy.d Wy.zero : Nat) : Int)] 135] (by kernel_rfl) (by simp) (by rintro ⟨_, _, h⟩; exact h) (by kernel_rfl) (by decide) (by rintro _ w' ⟨i, rfl⟩ hb; exact HJ.out _ ((HW.out i).trans (hb.mono (HW.out i).size))) (HJ.out _ (Below.refl _ _).drew) ?_
      simp only [Go.Flo.pair, Go.Mix.calm, List.take, List.drop, if_true, Bool.false_eq_true, if_false, Nat.reduceAdd, Nat.reduceSub]
      have e3 : ∀ i, (WW i).cell? ⟨g3, 1 + x.val, none⟩ = some (.int .u16 ((lk x.val : Nat) : Int)) := fun i => ((HW.out i).cell (p := ⟨g3, 1 + x.val, none⟩) z3).trans c3
      have e8 : ∀ i, (WW i).cell? ⟨g8, 0, none⟩ = some (.int .i64 ((r : Nat) : Int)) := fun i => ((HW.out i).cell (p := ⟨g8, 0, none⟩) z8).trans c8
      (refine Go.Flo.fw_calm rfl ?_ (fun K hK => ?_); (first | exact Go.Mix.wanted_none rfl | exact Go.Mix.wanted_tt rfl rfl rfl | exact Go.Mix.wanted_ff rfl rfl rfl); refine Go.Flo.quiet_load_row 152 _ rfl g7 rfl _ #[.int .i64 ((len : Nat) : Int), .map (some bm)] _ (by rintro _ ⟨i, rfl⟩; exact ((HW.out i).block g7 z7).trans (HI.out.bq.of 3 rfl)) Try.underlying152 rfl size_sr ?_; go_simp; refine hK _ ?_; clear hK K)
      (repeat (first | (refine Go.Flo.fw_calm rfl ?_ (fun K hK => ?_); (first | exact Go.Mix.wanted_none rfl | exact Go.Mix.wanted_tt rfl rfl rfl | exact Go.Mix.wanted_ff rfl rfl rfl); go_big_quiet_op; refine hK _ ?_; clear hK K) | (refine Go.Flo.fw_skip ?_ (fun K hK => ?_); (first | exact Go.Mix.wanted_tf rfl rfl rfl | exact Go.Mix.wanted_ft rfl rfl rfl); go_simp; refine hK _ ?_; clear hK K) | (refine Go.Flo.fw_any rfl ?_ (fun K hK => ?_); (first | exact Go.Mix.wanted_none rfl | exact Go.Mix.wanted_tt rfl rfl rfl | exact Go.Mix.wanted_ff rfl rfl rfl); go_simp; (try (go_ints; try go_simp)); refine hK _ ?_; clear hK K)))
      refine Go.Flo.fw_loud rfl ?_ rfl (by simp) (fun wv hwv hav K hK => ?_) (fun v hv K hK => ?_)
      · (first | exact Go.Mix.wanted_none rfl | exact Go.Mix.wanted_tt rfl rfl rfl | exact Go.Mix.wanted_ff rfl rfl rfl)
      · obtain ⟨iv, rfl⟩ := hwv
        have hbv := HW.out iv
        (first | go_big_op | go_simp)
        go_at_call 92
        refine (from_any len (r + 1) (lk x.val) bm n1 F D1 _ (HT.out.below (HW.out iv)) HSm.out h6 (by omega) (HLK.out _)).mono ?_
        rintro e w' ⟨rfl, hb⟩
        rw [← HX.out]
        exact hK _ _ (Go.Flo.owes_is _ rfl hb)
      obtain rfl := hv.is
      go_simp
      refine hK _ ?_
      clear hK K hv
      (repeat (first | (refine Go.Flo.fw_calm rfl ?_ (fun K hK => ?_); (first | exact Go.Mix.wanted_none rfl | exact Go.Mix.wanted_tt rfl rfl rfl | exact Go.Mix.wanted_ff rfl rfl rfl); go_big_quiet_op; refine hK _ ?_; clear hK K) | (refine Go.Flo.fw_skip ?_ (fun K hK => ?_); (first | exact Go.Mix.wanted_tf rfl rfl rfl | exact Go.Mix.wanted_ft rfl rfl rfl); go_simp; refine hK _ ?_; clear hK K) | (refine Go.Flo.fw_any rfl ?_ (fun K hK => ?_); (first | exact Go.Mix.wanted_none rfl | exact Go.Mix.wanted_tt rfl rfl rfl | exact Go.Mix.wanted_ff rfl rfl rfl); go_simp; (try (go_ints; try go_simp)); refine hK _ ?_; clear hK K)))
      refine Go.Flo.fw_loud rfl ?_ rfl (by simp) (fun wv hwv hav K hK => ?_) (fun v hv K hK => ?_)
      · (first | exact Go.Mix.wanted_none rfl | exact Go.Mix.wanted_tt rfl rfl rfl | exact Go.Mix.wanted_ff rfl rfl rfl)
      · obtain ⟨iv, rfl⟩ := hwv
        (first | go_big_op | go_simp)
        refine hK _ _ (Go.Flo.owes_ptr (HW.out iv).size)
      obtain ⟨gx, hgx, rfl, hngx⟩ := hv.ptr rfl
      go_simp
      refine hK _ ?_
      clear hK K hv
      refine Go.Flo.fw_nil ?_
      intro w4 hww4 hfw4 huw4
      obtain ⟨iend, hiend⟩ := hww4
      have hbw4 := HW.out iend
      rw [← hiend] at hbw4
      clear hiend iend huw4
      have hgx4 := Go.Flo.says_ptr ((hfw4 (some 10)).2 rfl).1
      have HI4 := Lib.hid (HI.out.step hbw4)
      have HT4 := Lib.hid (HT.out.below hbw4)
      have HBW := Lib.hid hbw4
      clear hfw4 HJ HW hne e3 e8 c8 c3 z3 z8 z7 hbw4
      clear WW I
      refine ⟨fun _ => True, trivial, ?_⟩

      (refine Go.Mix.walk_loud rfl ?_ (fun K hK => ?_); (first | exact Go.Mix.wanted_none rfl | exact Go.Mix.wanted_tt rfl rfl rfl | exact Go.Mix.wanted_ff rfl rfl rfl); refine wp_store_row 135 _ _ rfl _ #[.int .i64 ((Wy.n X : Nat) : Int), .int .i8 (Wy.b X 0), .int .i8 (Wy.b X 1), .int .i8 (Wy.b X 2), .int .i8 (Wy.b X 3), .int .i8 (Wy.b X 4), .int .i8 (Wy.b X 5), .int .i64 ((Wy.d X : Nat) : Int)] rfl rfl 135 _ hgx4 size_wy rfl (by simp [Value.oneCell']) (hK _ _ trivial ?_); clear hK K)
      refine Go.Mix.walk_nil ?_
      have hgX := setRow_heap _ gx _ #[.int .i64 ((Wy.n X : Nat) : Int), .int .i8 (Wy.b X 0), .int .i8 (Wy.b X 1), .int .i8 (Wy.b X 2), .int .i8 (Wy.b X 3), .int .i8 (Wy.b X 4), .int .i8 (Wy.b X 5), .int .i64 ((Wy.d X : Nat) : Int)] _ _ hgx4
      have hB5 := bel_rowS HBW.out hgx #[.int .i64 ((Wy.n X : Nat) : Int), .int .i8 (Wy.b X 0), .int .i8 (Wy.b X 1), .int .i8 (Wy.b X 2), .int .i8 (Wy.b X 3), .int .i8 (Wy.b X 4), .int .i8 (Wy.b X 5), .int .i64 ((Wy.d X : Nat) : Int)]
      obtain ⟨w5, hw5⟩ : ∃ w5, w5 = w4.setRow gx #[.int .i64 ((Wy.n X : Nat) : Int), .int .i8 (Wy.b X 0), .int .i8 (Wy.b X 1), .int .i8 (Wy.b X 2), .int .i8 (Wy.b X 3), .int .i8 (Wy.b X 4), .int .i8 (Wy.b X 5), .int .i64 ((Wy.d X : Nat) : Int)] := ⟨_, rfl⟩
      rw [← hw5] at hgX hB5 ⊢
      have HI5 := Lib.hid (HI.out.step hB5)
      have HT5 := Lib.hid (HT.out.below hB5)
      have HM5 := Lib.hid (HMk.out.below hB5 hWs)
      have HB5 := Lib.hid hB5
      have hs5 : W.heap.size ≤ w5.heap.size := hB5.size
      have hBW : Bs < W.heap.size := by omega
      have c10 := cell_of_row _ gx 0 _ _ _ hgX
      simp at c10
      have HGX := Lib.hid hgX
      have zx := box_lt hgX
      clear hw5 hgx4 HI4 HT4 HBW hB5 hgX hngx
      have HKF := Lib.hid (KeepsFrom.of_grownBy (B := w2.heap.size) (grown_belowS HB5.out) (fun j h => by cases h))
      by_cases hX0 : 0 < X.n
      · rw [if_pos hX0] at HFS
        have d8 := cell_of_row _ g8 0 _ _ _ HI5.out.b8
        have d7 := cell_of_row _ g7 1 _ _ _ (HI5.out.bq.of 3 rfl)
        have y8 := box_lt HI5.out.b8
        have y7 := box_lt (HI5.out.bq.of 3 rfl)
        have y4 := box_lt (HI5.out.bq.of 1 rfl)
        simp at d8 d7
        obtain ⟨V, hV⟩ : ∃ V, V = X.with r ((x.val : Nat) : Int) near := ⟨_, rfl⟩
        have HV2 := Lib.hid hV
        rw [← hV] at HFS
        clear hV
        have hcv := wrapi8 x
        gi_wp2
        obtain ⟨I, WW, hne, hWI, hIW⟩ := Go.Mix.family (fun v => Below w5.heap.size w5 v) (Below.refl _ _)
        have HJ := Lib.hid hIW
        have HW := Lib.hid hWI
        clear hWI hIW
        refine Go.Flo3.wpIn_region (fun w' => ∃ i, w' = WW i) 11 [Go.Flo.Spec.is (.agg #[.int .i64 ((Wy.n V : Nat) : Int), .int .i8 (Wy.b V 0), .int .i8 (Wy.b V 1), .int .i8 (Wy.b V 2), .int .i8 (Wy.b V 3), .int .i8 (Wy.b V 4), .int .i8 (Wy.b V 5), .int .i64 ((Wy.d V : Nat) : Int)])] (by kernel_rfl) (by simp) (by rintro ⟨_, _, h⟩; exact h) (by kernel_rfl) (by decide) (by rintro _ w' ⟨i, rfl⟩ hb; exact HJ.out _ ((HW.out i).trans (hb.mono (HW.out i).size))) (HJ.out _ (Below.refl _ _).drew) ?_
        simp only [Go.Flo.pair, Go.Mix.calm, List.take, List.drop, if_true, Bool.false_eq_true, if_false, Nat.reduceAdd, Nat.reduceSub]
        have e8 : ∀ i, (WW i).cell? ⟨g8, 0, none⟩ = some (.int .i64 ((r : Nat) : Int)) := fun i => ((HW.out i).cell (p := ⟨g8, 0, none⟩) y8).trans d8
        have e7 : ∀ i, (WW i).cell? ⟨g7, 1, none⟩ = some (.map (some bm)) := fun i => ((HW.out i).cell (p := ⟨g7, 1, none⟩) y7).trans d7
        (repeat (first | (refine Go.Flo.fw_calm rfl ?_ (fun K hK => ?_); (first | exact Go.Mix.wanted_none rfl | exact Go.Mix.wanted_tt rfl rfl rfl | exact Go.Mix.wanted_ff rfl rfl rfl); go_big_quiet_op; refine hK _ ?_; clear hK K) | (refine Go.Flo.fw_skip ?_ (fun K hK => ?_); (first | exact Go.Mix.wanted_tf rfl rfl rfl | exact Go.Mix.wanted_ft rfl rfl rfl); go_simp; refine hK _ ?_; clear hK K) | (refine Go.Flo.fw_any rfl ?_ (fun K hK => ?_); (first | exact Go.Mix.wanted_none rfl | exact Go.Mix.wanted_tt rfl rfl rfl | exact Go.Mix.wanted_ff rfl rfl rfl); go_simp; (try (go_ints; try go_simp)); refine hK _ ?_; clear hK K)))
        (refine Go.Flo.fw_calm rfl ?_ (fun K hK => ?_); (first | exact Go.Mix.wanted_none rfl | exact Go.Mix.wanted_tt rfl rfl rfl | exact Go.Mix.wanted_ff rfl rfl rfl); refine Go.Flo.quiet_load_row 135 _ rfl gx rfl _ #[.int .i64 ((Wy.n X : Nat) : Int), .int .i8 (Wy.b X 0), .int .i8 (Wy.b X 1), .int .i8 (Wy.b X 2), .int .i8 (Wy.b X 3), .int .i8 (Wy.b X 4), .int .i8 (Wy.b X 5), .int .i64 ((Wy.d X : Nat) : Int)] _ (by rintro _ ⟨i, rfl⟩; exact ((HW.out i).block gx zx).trans HGX.out) Try.underlying135 rfl size_wy ?_; go_simp; refine hK _ ?_; clear hK K)
        (repeat (first | (refine Go.Flo.fw_calm rfl ?_ (fun K hK => ?_); (first | exact Go.Mix.wanted_none rfl | exact Go.Mix.wanted_tt rfl rfl rfl | exact Go.Mix.wanted_ff rfl rfl rfl); go_big_quiet_op; refine hK _ ?_; clear hK K) | (refine Go.Flo.fw_skip ?_ (fun K hK => ?_); (first | exact Go.Mix.wanted_tf rfl rfl rfl | exact Go.Mix.wanted_ft rfl rfl rfl); go_simp; refine hK _ ?_; clear hK K) | (refine Go.Flo.fw_any rfl ?_ (fun K hK => ?_); (first | exact Go.Mix.wanted_none rfl | exact Go.Mix.wanted_tt rfl rfl rfl | exact Go.Mix.wanted_ff rfl rfl rfl); go_simp; (try (go_ints; try go_simp)); refine hK _ ?_; clear hK K)))
        (refine Go.Flo.fw_calm rfl ?_ (fun K hK => ?_); (first | exact Go.Mix.wanted_none rfl | exact Go.Mix.wanted_tt rfl rfl rfl | exact Go.Mix.wanted_ff rfl rfl rfl); refine Go.Flo.quiet_load_row 76 _ rfl g4 rfl _ #[.int .i8 (near 0), .int .i8 (near 1), .int .i8 (near 2), .int .i8 (near 3), .int .i8 (near 4), .int .i8 (near 5)] _ (by rintro _ ⟨i, rfl⟩; exact ((HW.out i).block g4 y4).trans (HI5.out.bq.of 1 rfl)) Try.underlying76 rfl size_ch ?_; go_simp; refine hK _ ?_; clear hK K)
        (repeat (first | (refine Go.Flo.fw_calm rfl ?_ (fun K hK => ?_); (first | exact Go.Mix.wanted_none rfl | exact Go.Mix.wanted_tt rfl rfl rfl | exact Go.Mix.wanted_ff rfl rfl rfl); go_big_quiet_op; refine hK _ ?_; clear hK K) | (refine Go.Flo.fw_skip ?_ (fun K hK => ?_); (first | exact Go.Mix.wanted_tf rfl rfl rfl | exact Go.Mix.wanted_ft rfl rfl rfl); go_simp; refine hK _ ?_; clear hK K) | (refine Go.Flo.fw_any rfl ?_ (fun K hK => ?_); (first | exact Go.Mix.wanted_none rfl | exact Go.Mix.wanted_tt rfl rfl rfl | exact Go.Mix.wanted_ff rfl rfl rfl); go_simp; (try (go_ints; try go_simp)); refine hK _ ?_; clear hK K)))
        refine Go.Flo.fw_loud rfl ?_ rfl (by simp) (fun wv hwv hav K hK => ?_) (fun v hv K hK => ?_)
        · (first | exact Go.Mix.wanted_none rfl | exact Go.Mix.wanted_tt rfl rfl rfl | exact Go.Mix.wanted_ff rfl rfl rfl)
        · obtain ⟨iv, rfl⟩ := hwv
          have hbv := HW.out iv
          (first | go_big_op | go_simp)
          go_at_call 93
          refine (with_any X r ((x.val : Nat) : Int) near _ (by omega) (by omega)).mono ?_
          rintro e w' ⟨rfl, hb⟩
          rw [← HV2.out]
          exact hK _ _ (Go.Flo.owes_is _ rfl hb)
        obtain rfl := hv.is
        go_simp
        refine hK _ ?_
        clear hK K hv
        refine Go.Flo.fw_nil ?_
        intro w6 hww6 hfw6 huw6
        obtain ⟨iend, hiend⟩ := hww6
        have hbw6 := HW.out iend
        rw [← hiend] at hbw6
        clear hiend iend huw6
        have HI6 := Lib.hid (HI5.out.step hbw6)
        have HT6 := Lib.hid (HT5.out.below hbw6)
        have HM6 := Lib.hid (HM5.out.below hbw6 (by omega))
        have HB6 := Lib.hid (HB5.out.trans (hbw6.mono hs5))
        have HKF6 := Lib.hid (HKF.out.trans (KeepsFrom.of_grownBy (B := w2.heap.size) (grown_belowS hbw6) (fun j h => by cases h)))
        clear hfw6 HJ HW hne e7 e8 hbw6
        clear WW I
        refine ⟨fun _ => True, trivial, ?_⟩

        (repeat (first | (refine Go.Mix.walk_calm rfl ?_ (fun K hK => ?_); (first | exact Go.Mix.wanted_none rfl | exact Go.Mix.wanted_tt rfl rfl rfl | exact Go.Mix.wanted_ff rfl rfl rfl); go_big_quiet_op; refine hK _ ?_; clear hK K) | (refine Go.Mix.walk_skip ?_ (fun K hK => ?_); (first | exact Go.Mix.wanted_tf rfl rfl rfl | exact Go.Mix.wanted_ft rfl rfl rfl); go_simp; refine hK _ ?_; clear hK K) | (refine Go.Mix.walk_loud rfl ?_ (fun K hK => ?_); (first | exact Go.Mix.wanted_none rfl | exact Go.Mix.wanted_tt rfl rfl rfl | exact Go.Mix.wanted_ff rfl rfl rfl); (first | go_big_op | go_simp); (first | (refine hK _ _ trivial ?_; clear hK K) | (fail; (try dsimp only); refine hK _ _ trivial ?_; clear hK K))) | (refine Go.Mix.walk_step (fun K hK => ?_); go_simp; (try (go_ints; try go_simp)); refine hK _ _ ?_; clear hK K)))
        refine Go.Mix.walk_loud rfl ?_ (fun K hK => ?_)
        · (first | exact Go.Mix.wanted_none rfl | exact Go.Mix.wanted_tt rfl rfl rfl | exact Go.Mix.wanted_ff rfl rfl rfl)
        refine wp_mapUpdateW _ _ _ _ rfl 159 135 place_keyed Try.underlying150 wyR bm n1 D1 rfl HT6.out.own (by unfold maxLen; omega) _ _ (pl r x.val) rfl rfl (pl_of (by omega) (by omega)) (wyD V) [] (wyR_mk V) ?_
        intro w7 ho7 hg7
        have HT7 := Lib.hid (HT6.out.put (show r < 256 by omega) (show x.val < 256 by omega) V ho7)
        have HG7 := Lib.hid hg7
        clear ho7 hg7
        refine hK _ _ trivial ?_
        clear hK K
        refine Go.Mix.walk_nil ?_
        refine ⟨HKF6.out.trans (KeepsFrom.of_grownBy HG7.out (fun j h => by cases h; exact hbl)), ⟨fun k h1 h2 => (HG7.out.block k (by have := HB6.out.size; omega) (fun e => by injection e with e; omega)).trans (HB6.out.block k (by omega)), Nat.le_trans HB6.out.size HG7.out.size⟩, ?_, HM6.out.kept (fun k h1 h2 h3 => (HG7.out.block k (Array.getElem?_eq_some_iff.1 h3).1 (fun e => by injection e with e; omega)).trans h3), Nat.le_trans hWs (Nat.le_trans HB6.out.size HG7.out.size)⟩
        show Fst w _ g8 _ bm (16 * k + (pre ++ [x]).length) _ w7
        rw [HFS.out]
        refine ⟨HI6.out.bq.other HG7.out HP.out.1 ?_, box_kept HI6.out.b8 HG7.out (fun e => by injection e with e; omega), n1 + 1, _, by rw [List.length_append]; simp; omega, HT7.out⟩
        have hpp := HP.out
        intro q hq
        simp only [List.mem_cons, List.not_mem_nil, or_false] at hq
        rcases hq with rfl | rfl | rfl | rfl <;> (dsimp only; omega)
      · rw [if_neg hX0] at HFS
        have hX1 : ¬ (0 : Int) < (X.n : Int) := by omega
        gi_wp2
        refine ⟨HKF.out, ⟨fun k h1 h2 => HB5.out.block k (by omega), hs5⟩, ?_, HM5.out, Nat.le_trans hWs hs5⟩
        show Fst w _ g8 _ bm (16 * k + (pre ++ [x]).length) _ w5
        rw [HFS.out]
        obtain ⟨j1, j2, n2, D2, j3, j4⟩ := HI5.out
        exact ⟨j1, j2, n2, D2, by rw [List.length_append]; omega, j4⟩
    case done =>
      rintro Dd ys W hDd hys ⟨hI, hMk, _⟩ hK
      have c8 := cell_of_row _ g8 0 _ _ _ hI.b8
      simp at c8
      have HI := Lib.hid hI
      have HMk := Lib.hid hMk
      have HK := Lib.hid hK
      clear hI hMk hK
      gi_wp2
      have hyl : ys.length ≤ 16 := by
        have h1 : (ys.map (·.val)).length = (upTo s 16).length := congrArg List.length hys
        have h2 := upTo_len s 16
        rw [List.length_map] at h1
        omega
      have hbA : Below W.heap.size W (W.alloc (.cells #[.int .i64 (((r : Nat) : Int) - 1)] 3)) := (Below.refl _ _).alloc (Nat.le_refl _) _
      have hnew := heap_alloc_new W (.cells #[.int .i64 (((r : Nat) : Int) - 1)] 3)
      have hDs := (Array.getElem?_eq_some_iff.1 HK.out).1
      have hrk := HRK.out
      refine ⟨⟨k + 1, W.heap.size, { target := .collected Dd, args := #[] } :: ds, _, _, _, _, _, _, _, _, _, _, _, _, _, _, _, _, _, _, _, _, _, _, _, _, _, _, by omega, by omega, ⟨HI.out.bq.step hbA, ?_, ?_⟩, ⟨Dd, rfl, by omega, by simp; omega, (hbA.block Dd hDs).trans HK.out, ((HMk.out.mono hDd).below hbA (Nat.le_of_lt hDs))⟩, rfl⟩, ?_⟩
      · rw [show (len : Int) - 1 - ((k + 1 : Nat) : Int) = ((r : Nat) : Int) - 1 by omega]
        exact hnew
      · obtain ⟨n1, D1, h1, h2⟩ := HI.out.tb
        refine ⟨n1, D1, by omega, ?_⟩
        have e : tabW al lk near len (k + 1) = roleStep lk near len r (tabW al lk near len k) (vals ys) := by
          show roleStep lk near len (len - (k + 1)) _ (upTo (al (len - (k + 1))) 16) = _
          rw [show len - (k + 1) = r by omega, ← HS.out, hys]
        rw [e]
        exact h2.below hbA
      · rw [leftS_eq (g := W.heap.size) rfl hnew, leftS_eq (g := g8) rfl HO8.out]
        omega
    case stop => exact fun _ _ _ _ _ _ h => h.elim
  · obtain rfl : k = len := by omega
    rw [show (k : Int) - 1 - (k : Nat) = -1 by omega] at hF
    have c8 := cell_of_row _ g8 0 _ _ _ hF.b8
    simp at c8
    have HF := Lib.hid hF
    clear hF
    have b7 := HF.out.bq.of 3 rfl
    gi_wp2_with ((with_reducible show wpListIn _ _ _ _ _ (_ :: _) _ _); refine Go.Mix.load_rowW rfl 152 _ rfl _ rfl _ _ _ _ b7 Try.underlying152 rfl (by exact size_sr) ?_)
    obtain ⟨n1, D1, hn1, hT⟩ := HF.out.tb
    have hSm := (Bd.tab al lk near k k (Nat.le_refl _)).small h6
    have HFR := from_any k 0 65535 bm n1 _ D1 Wo hT hSm h6 (Nat.zero_le _) (by decide)
    obtain ⟨X, hX⟩ : ∃ X, X = fromW (tabW al lk near k k) k 0 65535 := ⟨_, rfl⟩
    rw [← hX] at HFR
    have HXX := Lib.hid hX
    refine ⟨trivial, ?_⟩
    gi_at_call 92
    refine (callsIn_wide.2 HFR).mono ?_
    rintro e W5 ⟨rfl, hb⟩
    have HF5 := Lib.hid (HF.out.step hb)
    have HM5 := Lib.hid ((HM.out.below hb (Nat.le_refl _)).mono hb.size)
    have b6 := HF5.out.bq.of 2 rfl
    have hw6 : w.heap.size ≤ g6 := HF5.out.bq.low 2 rfl
    clear HFR hb hT hSm hX HF HM b7 c8 hn1
    gi_wp2_with ((with_reducible show wpListIn _ _ _ _ _ (_ :: _) _ _); refine Go.Mix.store_rowW rfl 135 _ _ rfl _ _ rfl rfl _ _ b6 (by exact size_wy) (by rfl) (by simp [Value.oneCell']) ?_)
    have hg6 : g6 < bm := HP.out.2.2.2.1
    have hwb : w.heap.size ≤ bm := HP.out.1
    refine leaves_marks (lo := bm + 1) (fun W => W.heap[g6]? = some (.cells #[.int .i64 ((Wy.n X : Nat) : Int), .int .i8 (Wy.b X 0), .int .i8 (Wy.b X 1), .int .i8 (Wy.b X 2), .int .i8 (Wy.b X 3), .int .i8 (Wy.b X 4), .int .i8 (Wy.b X 5), .int .i64 ((Wy.d X : Nat) : Int)] 135 (0, 0)) ∧ Below w.heap.size w W) ?_ ?_ ds W5.heap.size _ (HM5.out.kept (fun j hj _ hq => (setRow_other _ g6 j _ (by omega)).trans hq)) ⟨setRow_heap _ g6 _ _ _ _ b6, bel_rowS HF5.out.bq.be hw6 _⟩
    · rintro W D ⟨j1, j2⟩ hD hDD
      have hg := grownBy_putObj' W D (.deferred none)
      exact ⟨(hg.block g6 (box_lt j1) (fun e => by injection e with e; omega)).trans j1, j2.grown hg j2.size (fun j h => by cases h; omega)⟩
    · rintro W ⟨j1, j2⟩
      exact ⟨_, results_cell_row rfl _ _ _ _ _ _ _ rfl j1 Try.underlying135 rfl size_wy, by rw [HXX.out], j2⟩
end Go.Proofs.Ytioclbkgfbjpdaa
