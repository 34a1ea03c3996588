/- Space packets: the helpers of the statements. -/
import Derived.Test.YtfolebogfapmaaaPk4
import Derived.Test.YtfolebogfapmaaaLaw05
namespace Go.Proofs.Ytfolebogfapmaaa
open Go.RowKit Go.Own
set_option linter.unusedVariables false
set_option linter.unusedSimpArgs false

/-- A packet's value. -/
def pkV (k : Bool) (a c : Nat) (s : Value) : Value := .agg #[.bool k, .int .u16 (a : Nat), .int .u16 (c : Nat), s]
theorem zero_rp (w : World) : (zeroValue 53).run Try.prog w = .ok (.agg #[.bool false, .int .u16 0, .int .u16 0, .slice none 0 0]) w := by kernel_rfl
theorem size_rp : (Try.prog.info? 53).map (·.size) = some 4 := by kernel_rfl
theorem pk_alloc2_new (w : World) (A : Obj) (c c' : Array Value) (t : TypeId) : ((w.alloc A).alloc (.cells c t)).setRow (w.heap.size + 1) c' = (w.alloc A).alloc (.cells c' t) := by
  have e : (w.alloc A).heap.size = w.heap.size + 1 := by simp
  rw [← e]
  exact World.setRow_alloc_new _ _ _ _
set_option maxHeartbeats 1000000 in
theorem few09 (k : Bool) (a c len cap n : Nat) (x : Option Addr) (d : List Nat) (w : World) (hl : d.length = len) (hn : n ≤ w.heap.size) (hr : Rd n w x len cap (bv d)) :
    Calls Try.prog 16 #[.agg #[.bool k, .int .u16 (a : Nat), .int .u16 (c : Nat), .slice x len cap]] w fun e w' => ∃ y q, e = .returned (.agg #[.bool k, .int .u16 (a : Nat), .int .u16 (c : Nat), .slice y (min 260 len) q]) ∧ w'.ownsRow w.heap.size 5 1 (.slice y (min 260 len) q) (min 260 len) (bl (d.take 260)) ∧ Below w.heap.size w w' := by
  have hzc := zero_pk
  have HR := Lib.hid hr
  clear hr
  go_enter Try.func16, Try.ntmps16
  go_wp2_with fail
  have hB1 : Below w.heap.size w ((w.alloc (.cells #[.bool k, .int .u16 (a : Nat), .int .u16 (c : Nat), .slice x len cap] 28)).alloc (.cells #[.bool false, .int .u16 0, .int .u16 0, .slice none 0 0] 28)) := by repeat' (first | (with_reducible exact Below.refl _ _) | (with_reducible assumption) | (with_reducible refine Below.setCell ?_ ?_ _) | (with_reducible refine Below.alloc ?_ ?_ _) | (with_reducible refine Below.drew ?_) | (with_reducible refine Below.drawsN ?_ _) | go_size)
  have h1 := heap_alloc2_old w (.cells #[.bool k, .int .u16 (a : Nat), .int .u16 (c : Nat), .slice x len cap] 28) (.cells #[.bool false, .int .u16 0, .int .u16 0, .slice none 0 0] 28)
  have h2 := heap_alloc2_new w (.cells #[.bool k, .int .u16 (a : Nat), .int .u16 (c : Nat), .slice x len cap] 28) (.cells #[.bool false, .int .u16 0, .int .u16 0, .slice none 0 0] 28)
  obtain ⟨w1, hw1⟩ : ∃ w1, w1 = (w.alloc (.cells #[.bool k, .int .u16 (a : Nat), .int .u16 (c : Nat), .slice x len cap] 28)).alloc (.cells #[.bool false, .int .u16 0, .int .u16 0, .slice none 0 0] 28) := ⟨_, rfl⟩
  obtain ⟨g, hg⟩ : ∃ g, g = w.heap.size := ⟨_, rfl⟩
  rw [← hw1] at hB1 h1 h2 ⊢
  rw [← hg] at h1 h2 ⊢
  have hgB : w.heap.size ≤ g := by omega
  clear hw1 hg
  go_at_call 19
  refine (Cut_any x len cap d 260 _ hl ((HR.out.below' hB1 hn).mono (Nat.le_trans hn hB1.size)) (by omega)).mono ?_
  rintro e w2 ⟨s, rfl, hown, hb2⟩
  obtain ⟨y, q, rfl⟩ := own_form hown
  obtain ⟨m, hm⟩ : ∃ m, m = min 260 len := ⟨_, rfl⟩
  rw [← hm] at hown ⊢
  have HM := Lib.hid hm
  clear hm
  have hgs1 := (Array.getElem?_eq_some_iff.1 h1).1
  have hgs2 := (Array.getElem?_eq_some_iff.1 h2).1
  have h1 := (hb2.block g hgs1).trans h1
  have h2 := (hb2.block (g + 1) hgs2).trans h2
  have hlt := hown.lt
  have c3 := cell_of_row w2 g 3 _ _ _ h1
  have f3 := frozen_of_row w2 g 3 _ _ h1
  have e1 : (w2.setCell ⟨g, 3, none⟩ (.slice y m q)).heap[g]? = some (.cells #[.bool k, .int .u16 (a : Nat), .int .u16 (c : Nat), .slice y m q] 28 (0, 0)) := by
    rw [setCell_eq_setRow w2 g 3 _ _ _ _ h1]
    exact setRow_heap _ _ _ _ _ _ h1
  have e2 : (w2.setCell ⟨g, 3, none⟩ (.slice y m q)).heap[g + 1]? = some (.cells #[.bool false, .int .u16 0, .int .u16 0, .slice none 0 0] 28 (0, 0)) := (heap_setCell_other w2 _ _ (.slice y m q) (by simp)).trans h2
  have hB3 := (hB1.trans (hb2.mono hB1.size)).setCell (p := ⟨g, 3, none⟩) hgB (.slice y m q)
  have hO3 := hown.kept (grown_set w2 ⟨g, 3, none⟩ (.slice y m q)) (.inr (fun e => by have := (hlt g e).1; omega))
  have hlt := hO3.lt
  have hO4 := own_base (hO3.kept (grown_setRow _ (g + 1) #[.bool k, .int .u16 (a : Nat), .int .u16 (c : Nat), .slice y m q]) (.inr (fun e => by have := (hlt (g + 1) e).1; omega))) hB1.size
  have hB4 := below_setRow hB3 (show w.heap.size ≤ g + 1 by omega) #[.bool k, .int .u16 (a : Nat), .int .u16 (c : Nat), .slice y m q]
  have h4 := setRow_heap _ _ _ #[.bool k, .int .u16 (a : Nat), .int .u16 (c : Nat), .slice y m q] _ _ e2
  have HO4 := Lib.hid hO4
  have HB4 := Lib.hid hB4
  have H4 := Lib.hid h4
  clear hlt hO3 hO4 hB3 hB4 h4 hown hb2 h1 h2 hzc
  go_wp2_with (first | (refine wpList_load_row rfl 28 _ rfl _ rfl _ _ _ _ (by (first | exact heap_alloc2_new _ _ _ | exact heap_alloc2_old _ _ _ | exact heap_alloc_new _ _ | assumption)) Try.underlying28 rfl (by exact size_pk) ?_; (try go_simp)) | (refine wpList_store_row rfl 28 _ _ rfl _ _ rfl rfl _ _ (by (first | exact heap_alloc2_new _ _ _ | exact heap_alloc2_old _ _ _ | exact heap_alloc_new _ _ | assumption)) (by exact size_pk) (by rfl) (by simp [Value.oneCell']) ?_; (first | rw [setRow_alloc2_new] | rw [setRow_alloc2_old] | rw [World.setRow_alloc_new] | skip); (try go_simp)))
  refine bodyPost_ret (results_cell_row rfl _ _ _ _ _ _ _ rfl H4.out Try.underlying28 rfl size_pk) rfl ?_
  refine ⟨y, q, ?_⟩
  rw [← HM.out]
  exact ⟨rfl, HO4.out, HB4.out⟩
set_option maxRecDepth 100000 in
set_option maxHeartbeats 4000000 in
theorem awake09 (w : World) : Calls Try.prog 15 #[] w fun e w' => e = .returned (.bool true) ∧ Below w.heap.size w w' := by
  have hb42 : bytes [42] := by unfold bytes; decide
  have hlit := owns_lit (P := Try.prog) w [42] (by decide)
  have hr0 := rd_of_own (f := bv [42]) hlit (fun i hi => bl_at [42] hi)
  have hb0 : Below w.heap.size w (w.alloc (.cells (bl [42]).toArray 5)) := (Below.refl _ _).alloc (Nat.le_refl _) _
  go_enter Try.func15, Try.ntmps15
  go_wp2_with fail
  go_at_call 17
  refine (pBytes_any true 5 1 _ 1 1 _ [42] (w.alloc (.cells (bl [42]).toArray 5)) (by decide) (by decide) rfl (Nat.le_refl _) hr0 hb42).mono ?_
  rintro e w1 ⟨hb1, ⟨h, _⟩ | ⟨_, v, rfl, hown⟩⟩
  · exact absurd h (by decide)
  obtain ⟨va, vc, rfl⟩ := own_form hown
  obtain ⟨K, hK⟩ : ∃ K, K = mkPkt 1 5 1 [42] := ⟨_, rfl⟩
  rw [if_pos rfl, ← hK] at hown
  have hKl : K.length = 9 := by rw [hK, mkPkt_len]; rfl
  have hKb : bytes K := by rw [hK]; exact mkPkt_bytes (by decide) (by decide) (by decide) (by decide) hb42
  have hr1 := rd_of_own (f := bv K) hown (fun i hi => bl_at K (by omega))
  have hB1 := hb0.trans (hb1.mono hb0.size)
  have hwK : whole [24, 5, 192, 1, 0, 2, 42] = K := by rw [hK]; rfl
  clear hown hb1 hb0 hr0 hlit hK
  have hlit := owns_lit (P := Try.prog) w1 [24, 5, 192, 1, 0, 2, 42] (by decide)
  have hr0 := rd_of_own (f := bv [24, 5, 192, 1, 0, 2, 42]) hlit (fun i hi => bl_at _ hi)
  have hb0 : Below w1.heap.size w1 (w1.alloc (.cells (bl [24, 5, 192, 1, 0, 2, 42]).toArray 5)) := (Below.refl _ _).alloc (Nat.le_refl _) _
  have HR1 := Lib.hid (rd_grow hr1 hb0)
  have HB1 := Lib.hid (hB1.trans (hb0.mono hB1.size))
  have HKL := Lib.hid hKl
  have HWK := Lib.hid hwK
  clear hr1 hB1 hKl hwK
  go_wp2_with fail
  go_at_call 83
  refine (rAppend_any _ 7 7 _ [24, 5, 192, 1, 0, 2, 42] (w1.alloc (.cells (bl [24, 5, 192, 1, 0, 2, 42]).toArray 5)) rfl (Nat.le_refl _) hr0 (by unfold bytes; decide) (by decide)).mono ?_
  rintro e w2 ⟨v, rfl, hown, hb2⟩
  rw [HWK.out] at hown
  obtain ⟨ua, uc, rfl⟩ := own_form hown
  have HR2 := Lib.hid (rd_of_own (f := bv K) hown (fun i hi => bl_at K (by rw [HKL.out]; exact hi)))
  have HR1 := Lib.hid (rd_grow HR1.out hb2)
  have HB2 := Lib.hid (HB1.out.trans (hb2.mono HB1.out.size))
  clear hown hb2 hb0 hr0 hlit
  go_wp2_with fail
  go_at_call 21
  refine (Same_any va ua 9 9 vc uc _ _ K K _ HKL.out HKL.out HR1.out HR2.out hKb hKb).mono ?_
  rintro e w3 ⟨rfl, j, rfl⟩
  simp only [decide_true]
  go_wp2_with (first | (go_at_call 84; refine (pNext_any 16383 _ (by decide)).mono ?_; rintro e w' ⟨rfl, rfl⟩) | (go_at_call 84; refine (pNext_any 1 _ (by decide)).mono ?_; rintro e w' ⟨rfl, rfl⟩))
  go_ret
  exact ⟨rfl, HB2.out.trans (below_drews _ _ _)⟩
theorem neI {a b : Nat} (h : ¬ a = b) : ((a : Int) == (b : Int)) = false := by rw [beq_eq_false_iff_ne]; omega
end Go.Proofs.Ytfolebogfapmaaa
