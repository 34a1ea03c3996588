/- Layer 20: what a turn is; the small functions. -/
import Derived.Test.YtboojcahflkkmaaSw4
import Derived.Test.YtboojcahflkkmaaSetA
import Derived.Test.YtboojcahflkkmaaBs3
import Derived.Deep.MidRow
namespace Go.Proofs.Ytboojcahflkkmaa
open Go.RowKit Go.Own Bs
set_option linter.unusedVariables false
set_option linter.unusedSimpArgs false
theorem size_tn : (Try.prog.info? 96).map (·.size) = some 13 := by kernel_rfl
theorem size_st : (Try.prog.info? 98).map (·.size) = some 4 := by kernel_rfl
theorem size_tr : (Try.prog.info? 102).map (·.size) = some 13 := by kernel_rfl
theorem size_cr : (Try.prog.info? 66).map (·.size) = some 6 := by kernel_rfl
section
variable {P : Program}
theorem range_of_row {w : World} {g o : Nat} {cs : Array Value} {t : TypeId} (h : w.heap[g]? = some (.cells cs t (0, 0))) (l : List Value) (hl : ∀ j v, l[j]? = some v → cs[o + j]? = some v) : w.rangeAt g o l := fun j v hj => (cell_of_row _ g (o + j) _ _ _ h).trans (hl j v hj)
end
theorem rgF {w : World} {g : Nat} {p : Int} {f t : Nat → Int} {q : TypeId} (h : w.heap[g]? = some (.cells #[.int .u8 p, .int .i8 (f 0), .int .i8 (f 1), .int .i8 (f 2), .int .i8 (f 3), .int .i8 (f 4), .int .i8 (f 5), .int .i8 (t 0), .int .i8 (t 1), .int .i8 (t 2), .int .i8 (t 3), .int .i8 (t 4), .int .i8 (t 5)] q (0, 0))) : w.rangeAt g 1 [.int .i8 (f 0), .int .i8 (f 1), .int .i8 (f 2), .int .i8 (f 3), .int .i8 (f 4), .int .i8 (f 5)] := range_of_row h _ (fun j v hj => by
    match j, hj with
    | 0, h | 1, h | 2, h | 3, h | 4, h | 5, h => exact h
    | n + 6, h => simp at h)
theorem rgT {w : World} {g : Nat} {p : Int} {f t : Nat → Int} {q : TypeId} (h : w.heap[g]? = some (.cells #[.int .u8 p, .int .i8 (f 0), .int .i8 (f 1), .int .i8 (f 2), .int .i8 (f 3), .int .i8 (f 4), .int .i8 (f 5), .int .i8 (t 0), .int .i8 (t 1), .int .i8 (t 2), .int .i8 (t 3), .int .i8 (t 4), .int .i8 (t 5)] q (0, 0))) : w.rangeAt g 7 [.int .i8 (t 0), .int .i8 (t 1), .int .i8 (t 2), .int .i8 (t 3), .int .i8 (t 4), .int .i8 (t 5)] := range_of_row h _ (fun j v hj => by
    match j, hj with
    | 0, h | 1, h | 2, h | 3, h | 4, h | 5, h => exact h
    | n + 6, h => simp at h)
theorem ldTp {w : World} {g : Nat} {p : Int} {f t : Nat → Int} {q : TypeId} (h : w.heap[g]? = some (.cells #[.int .u8 p, .int .i8 (f 0), .int .i8 (f 1), .int .i8 (f 2), .int .i8 (f 3), .int .i8 (f 4), .int .i8 (f 5), .int .i8 (t 0), .int .i8 (t 1), .int .i8 (t 2), .int .i8 (t 3), .int .i8 (t 4), .int .i8 (t 5)] q (0, 0))) : w.cell? ⟨g, 0, none⟩ = some (.int .u8 p) := cell_of_row _ g 0 _ _ _ h
theorem zero_tn (w : World) : (zeroValue 96).run Try.prog w = .ok (.agg #[.int .u8 0, .int .i8 0, .int .i8 0, .int .i8 0, .int .i8 0, .int .i8 0, .int .i8 0, .int .i8 0, .int .i8 0, .int .i8 0, .int .i8 0, .int .i8 0, .int .i8 0]) w := by kernel_rfl
theorem zero_st (w : World) : (zeroValue 98).run Try.prog w = .ok (.agg #[.slice none 0 0, .slice none 0 0, .bool false, .int .u16 0]) w := by kernel_rfl
set_option maxRecDepth 100000 in
set_option maxHeartbeats 2000000 in
theorem idle_any (c : Nat → Int) (w : World) : Calls Try.prog 79 #[.agg #[.int .i8 (c 0), .int .i8 (c 1), .int .i8 (c 2), .int .i8 (c 3), .int .i8 (c 4), .int .i8 (c 5)]] w fun e w' => e = .returned (.agg #[.int .u8 0, .int .i8 (c 0), .int .i8 (c 1), .int .i8 (c 2), .int .i8 (c 3), .int .i8 (c 4), .int .i8 (c 5), .int .i8 (c 0), .int .i8 (c 1), .int .i8 (c 2), .int .i8 (c 3), .int .i8 (c 4), .int .i8 (c 5)]) ∧ Below w.heap.size w w' := by
  have hz := zero_tn
  have h1 := heap_alloc2_old w (.cells #[.int .i8 (c 0), .int .i8 (c 1), .int .i8 (c 2), .int .i8 (c 3), .int .i8 (c 4), .int .i8 (c 5)] 67) (.cells #[.int .u8 0, .int .i8 0, .int .i8 0, .int .i8 0, .int .i8 0, .int .i8 0, .int .i8 0, .int .i8 0, .int .i8 0, .int .i8 0, .int .i8 0, .int .i8 0, .int .i8 0] 96)
  have h2 := heap_alloc2_new w (.cells #[.int .i8 (c 0), .int .i8 (c 1), .int .i8 (c 2), .int .i8 (c 3), .int .i8 (c 4), .int .i8 (c 5)] 67) (.cells #[.int .u8 0, .int .i8 0, .int .i8 0, .int .i8 0, .int .i8 0, .int .i8 0, .int .i8 0, .int .i8 0, .int .i8 0, .int .i8 0, .int .i8 0, .int .i8 0, .int .i8 0] 96)
  have hb0 : Below w.heap.size w ((w.alloc (.cells #[.int .i8 (c 0), .int .i8 (c 1), .int .i8 (c 2), .int .i8 (c 3), .int .i8 (c 4), .int .i8 (c 5)] 67)).alloc (.cells #[.int .u8 0, .int .i8 0, .int .i8 0, .int .i8 0, .int .i8 0, .int .i8 0, .int .i8 0, .int .i8 0, .int .i8 0, .int .i8 0, .int .i8 0, .int .i8 0, .int .i8 0] 96)) := by repeat' (first | (with_reducible exact Below.refl _ _) | (with_reducible assumption) | (with_reducible refine Below.setCell ?_ ?_ _) | (with_reducible refine Below.alloc ?_ ?_ _) | (with_reducible refine Below.drew ?_) | (with_reducible refine Below.drawsN ?_ _) | go_size)
  go_enter Try.func79, Try.ntmps79
  go_upto_region 1 with fail
  obtain ⟨w1, hw1⟩ : ∃ w1, w1 = (w.alloc (.cells #[.int .i8 (c 0), .int .i8 (c 1), .int .i8 (c 2), .int .i8 (c 3), .int .i8 (c 4), .int .i8 (c 5)] 67)).alloc (.cells #[.int .u8 0, .int .i8 0, .int .i8 0, .int .i8 0, .int .i8 0, .int .i8 0, .int .i8 0, .int .i8 0, .int .i8 0, .int .i8 0, .int .i8 0, .int .i8 0, .int .i8 0] 96) := ⟨_, rfl⟩
  rw [← hw1] at h1 h2 hb0 ⊢
  obtain ⟨g2, hg2⟩ : ∃ g, g = w.heap.size + 1 := ⟨_, rfl⟩
  rw [← hg2] at h2 ⊢
  have h3 := setRow_heap w1 g2 _ #[.int .u8 0, .int .i8 (c 0), .int .i8 (c 1), .int .i8 (c 2), .int .i8 (c 3), .int .i8 (c 4), .int .i8 (c 5), .int .i8 (c 0), .int .i8 (c 1), .int .i8 (c 2), .int .i8 (c 3), .int .i8 (c 4), .int .i8 (c 5)] _ _ h2
  have hb := bel_rowS hb0 (show w.heap.size ≤ g2 by omega) #[.int .u8 0, .int .i8 (c 0), .int .i8 (c 1), .int .i8 (c 2), .int .i8 (c 3), .int .i8 (c 4), .int .i8 (c 5), .int .i8 (c 0), .int .i8 (c 1), .int .i8 (c 2), .int .i8 (c 3), .int .i8 (c 4), .int .i8 (c 5)]
  have HB := Lib.hid hb
  have H3 := Lib.hid h3
  clear hw1 hg2 hb0 hb h3
  go_wp2_with (first | ((with_reducible show wpList _ _ _ (_ :: _) _ _); refine wpList_load_row rfl 67 _ rfl _ rfl _ _ _ _ h1 Try.underlying67 rfl (by exact size_ch) ?_; (try go_simp)) | ((with_reducible show wpList _ _ _ (_ :: _) _ _); refine wpList_store_row rfl 96 _ _ rfl _ _ rfl rfl _ _ h2 (by exact size_tn) (by rfl) (by simp [Value.oneCell']) ?_))
  refine bodyPost_ret (results_cell_row rfl _ _ _ _ _ _ _ rfl H3.out Try.underlying96 rfl (by exact size_tn)) rfl ?_
  exact ⟨rfl, HB.out⟩
set_option maxRecDepth 100000 in
set_option maxHeartbeats 2000000 in
theorem Busy_any (p : Int) (f t : Nat → Int) (w : World) : Calls Try.prog 52 #[.agg #[.int .u8 p, .int .i8 (f 0), .int .i8 (f 1), .int .i8 (f 2), .int .i8 (f 3), .int .i8 (f 4), .int .i8 (f 5), .int .i8 (t 0), .int .i8 (t 1), .int .i8 (t 2), .int .i8 (t 3), .int .i8 (t 4), .int .i8 (t 5)]] w fun e w' => e = .returned (.bool (p != 0)) ∧ Below w.heap.size w w' := by
  have h1 := heap_alloc_new w (.cells #[.int .u8 p, .int .i8 (f 0), .int .i8 (f 1), .int .i8 (f 2), .int .i8 (f 3), .int .i8 (f 4), .int .i8 (f 5), .int .i8 (t 0), .int .i8 (t 1), .int .i8 (t 2), .int .i8 (t 3), .int .i8 (t 4), .int .i8 (t 5)] 96)
  have hb0 : Below w.heap.size w (w.alloc (.cells #[.int .u8 p, .int .i8 (f 0), .int .i8 (f 1), .int .i8 (f 2), .int .i8 (f 3), .int .i8 (f 4), .int .i8 (f 5), .int .i8 (t 0), .int .i8 (t 1), .int .i8 (t 2), .int .i8 (t 3), .int .i8 (t 4), .int .i8 (t 5)] 96)) := by repeat' (first | (with_reducible exact Below.refl _ _) | (with_reducible assumption) | (with_reducible refine Below.setCell ?_ ?_ _) | (with_reducible refine Below.alloc ?_ ?_ _) | (with_reducible refine Below.drew ?_) | (with_reducible refine Below.drawsN ?_ _) | go_size)
  go_enter Try.func52, Try.ntmps52
  go_upto_region 1 with fail
  obtain ⟨w1, hw1⟩ : ∃ w1, w1 = w.alloc (.cells #[.int .u8 p, .int .i8 (f 0), .int .i8 (f 1), .int .i8 (f 2), .int .i8 (f 3), .int .i8 (f 4), .int .i8 (f 5), .int .i8 (t 0), .int .i8 (t 1), .int .i8 (t 2), .int .i8 (t 3), .int .i8 (t 4), .int .i8 (t 5)] 96) := ⟨_, rfl⟩
  rw [← hw1] at h1 hb0 ⊢
  have hc := ldTp h1
  have HB := Lib.hid hb0
  clear hw1 h1 hb0
  go_wp2_with fail
  go_ret
  exact ⟨rfl, HB.out⟩
/-- The chain in use. -/
def actC (p : Int) (f t : Nat → Int) : Nat → Int := if p = 1 ∨ p = 2 then f else t
set_option maxRecDepth 100000 in
set_option maxHeartbeats 2000000 in
theorem Active_any (p : Int) (f t : Nat → Int) (w : World) : Calls Try.prog 51 #[.agg #[.int .u8 p, .int .i8 (f 0), .int .i8 (f 1), .int .i8 (f 2), .int .i8 (f 3), .int .i8 (f 4), .int .i8 (f 5), .int .i8 (t 0), .int .i8 (t 1), .int .i8 (t 2), .int .i8 (t 3), .int .i8 (t 4), .int .i8 (t 5)]] w fun e w' => e = .returned (.agg #[.int .i8 ((actC p f t) 0), .int .i8 ((actC p f t) 1), .int .i8 ((actC p f t) 2), .int .i8 ((actC p f t) 3), .int .i8 ((actC p f t) 4), .int .i8 ((actC p f t) 5)]) ∧ Below w.heap.size w w' := by
  have hz := zero_ch
  have h1 := heap_alloc2_old w (.cells #[.int .u8 p, .int .i8 (f 0), .int .i8 (f 1), .int .i8 (f 2), .int .i8 (f 3), .int .i8 (f 4), .int .i8 (f 5), .int .i8 (t 0), .int .i8 (t 1), .int .i8 (t 2), .int .i8 (t 3), .int .i8 (t 4), .int .i8 (t 5)] 96) (.cells #[.int .i8 0, .int .i8 0, .int .i8 0, .int .i8 0, .int .i8 0, .int .i8 0] 67)
  have h2 := heap_alloc2_new w (.cells #[.int .u8 p, .int .i8 (f 0), .int .i8 (f 1), .int .i8 (f 2), .int .i8 (f 3), .int .i8 (f 4), .int .i8 (f 5), .int .i8 (t 0), .int .i8 (t 1), .int .i8 (t 2), .int .i8 (t 3), .int .i8 (t 4), .int .i8 (t 5)] 96) (.cells #[.int .i8 0, .int .i8 0, .int .i8 0, .int .i8 0, .int .i8 0, .int .i8 0] 67)
  have hb0 : Below w.heap.size w ((w.alloc (.cells #[.int .u8 p, .int .i8 (f 0), .int .i8 (f 1), .int .i8 (f 2), .int .i8 (f 3), .int .i8 (f 4), .int .i8 (f 5), .int .i8 (t 0), .int .i8 (t 1), .int .i8 (t 2), .int .i8 (t 3), .int .i8 (t 4), .int .i8 (t 5)] 96)).alloc (.cells #[.int .i8 0, .int .i8 0, .int .i8 0, .int .i8 0, .int .i8 0, .int .i8 0] 67)) := by repeat' (first | (with_reducible exact Below.refl _ _) | (with_reducible assumption) | (with_reducible refine Below.setCell ?_ ?_ _) | (with_reducible refine Below.alloc ?_ ?_ _) | (with_reducible refine Below.drew ?_) | (with_reducible refine Below.drawsN ?_ _) | go_size)
  go_enter Try.func51, Try.ntmps51
  go_upto_region 1 with fail
  obtain ⟨w1, hw1⟩ : ∃ w1, w1 = (w.alloc (.cells #[.int .u8 p, .int .i8 (f 0), .int .i8 (f 1), .int .i8 (f 2), .int .i8 (f 3), .int .i8 (f 4), .int .i8 (f 5), .int .i8 (t 0), .int .i8 (t 1), .int .i8 (t 2), .int .i8 (t 3), .int .i8 (t 4), .int .i8 (t 5)] 96)).alloc (.cells #[.int .i8 0, .int .i8 0, .int .i8 0, .int .i8 0, .int .i8 0, .int .i8 0] 67) := ⟨_, rfl⟩
  rw [← hw1] at h1 h2 hb0 ⊢
  obtain ⟨g2, hg2⟩ : ∃ g, g = w.heap.size + 1 := ⟨_, rfl⟩
  rw [← hg2] at h2 ⊢
  have hc := ldTp h1
  have h2' := fun c : Nat → Int => setRow_heap w1 g2 _ #[.int .i8 (c 0), .int .i8 (c 1), .int .i8 (c 2), .int .i8 (c 3), .int .i8 (c 4), .int .i8 (c 5)] _ _ h2
  have hb := fun c : Nat → Int => bel_rowS hb0 (show w.heap.size ≤ g2 by omega) #[.int .i8 (c 0), .int .i8 (c 1), .int .i8 (c 2), .int .i8 (c 3), .int .i8 (c 4), .int .i8 (c 5)]
  have HB := Lib.hid hb
  have H3 := Lib.hid h2'
  clear hw1 hg2 hb0 hb h2'
  by_cases p1 : p = 1
  · have E := Lib.hid (show actC p f t = f by unfold actC; rw [if_pos (.inl p1)])
    subst p1
    go_wp2_with (first | ((with_reducible show wpList _ _ _ (_ :: _) _ _); refine wpList_load_mid rfl 67 _ rfl _ 1 rfl [.int .i8 (f 0), .int .i8 (f 1), .int .i8 (f 2), .int .i8 (f 3), .int .i8 (f 4), .int .i8 (f 5)] _ (rgF h1) Try.underlying67 rfl (by exact size_ch) ?_; (try go_simp)) | ((with_reducible show wpList _ _ _ (_ :: _) _ _); refine wpList_store_row rfl 67 _ _ rfl _ _ rfl rfl _ _ h2 (by exact size_ch) (by rfl) (by simp [Value.oneCell']) ?_))
    refine bodyPost_ret (results_cell_row rfl _ _ _ _ _ _ _ rfl (H3.out f) Try.underlying67 rfl (by exact size_ch)) rfl ?_
    exact ⟨by rw [E.out], HB.out f⟩
  · by_cases p2 : p = 2
    · have E := Lib.hid (show actC p f t = f by unfold actC; rw [if_pos (.inr p2)])
      subst p2
      clear p1
      go_wp2_with (first | ((with_reducible show wpList _ _ _ (_ :: _) _ _); refine wpList_load_mid rfl 67 _ rfl _ 1 rfl [.int .i8 (f 0), .int .i8 (f 1), .int .i8 (f 2), .int .i8 (f 3), .int .i8 (f 4), .int .i8 (f 5)] _ (rgF h1) Try.underlying67 rfl (by exact size_ch) ?_; (try go_simp)) | ((with_reducible show wpList _ _ _ (_ :: _) _ _); refine wpList_store_row rfl 67 _ _ rfl _ _ rfl rfl _ _ h2 (by exact size_ch) (by rfl) (by simp [Value.oneCell']) ?_))
      refine bodyPost_ret (results_cell_row rfl _ _ _ _ _ _ _ rfl (H3.out f) Try.underlying67 rfl (by exact size_ch)) rfl ?_
      exact ⟨by rw [E.out], HB.out f⟩
    · have E := Lib.hid (show actC p f t = t by unfold actC; rw [if_neg (by rintro (h | h); exact p1 h; exact p2 h)])
      have q1 : (p == 1) = false := by simp [p1]
      have q2 : (p == 2) = false := by simp [p2]
      clear p1 p2
      go_wp2_with (first | ((with_reducible show wpList _ _ _ (_ :: _) _ _); refine wpList_load_mid rfl 67 _ rfl _ 7 rfl [.int .i8 (t 0), .int .i8 (t 1), .int .i8 (t 2), .int .i8 (t 3), .int .i8 (t 4), .int .i8 (t 5)] _ (rgT h1) Try.underlying67 rfl (by exact size_ch) ?_; (try go_simp)) | ((with_reducible show wpList _ _ _ (_ :: _) _ _); refine wpList_store_row rfl 67 _ _ rfl _ _ rfl rfl _ _ h2 (by exact size_ch) (by rfl) (by simp [Value.oneCell']) ?_))
      refine bodyPost_ret (results_cell_row rfl _ _ _ _ _ _ _ rfl (H3.out t) Try.underlying67 rfl (by exact size_ch)) rfl ?_
      exact ⟨by rw [E.out], HB.out t⟩
set_option maxRecDepth 100000 in
set_option maxHeartbeats 2000000 in
theorem Stop_any (p : Int) (f t : Nat → Int) (w : World) : Calls Try.prog 53 #[.agg #[.int .u8 p, .int .i8 (f 0), .int .i8 (f 1), .int .i8 (f 2), .int .i8 (f 3), .int .i8 (f 4), .int .i8 (f 5), .int .i8 (t 0), .int .i8 (t 1), .int .i8 (t 2), .int .i8 (t 3), .int .i8 (t 4), .int .i8 (t 5)]] w fun e w' => e = .returned (.agg #[.int .u8 0, .int .i8 ((actC p f t) 0), .int .i8 ((actC p f t) 1), .int .i8 ((actC p f t) 2), .int .i8 ((actC p f t) 3), .int .i8 ((actC p f t) 4), .int .i8 ((actC p f t) 5), .int .i8 ((actC p f t) 0), .int .i8 ((actC p f t) 1), .int .i8 ((actC p f t) 2), .int .i8 ((actC p f t) 3), .int .i8 ((actC p f t) 4), .int .i8 ((actC p f t) 5)]) ∧ Below w.heap.size w w' := by
  have hz := zero_tn
  have h1 := heap_alloc2_old w (.cells #[.int .u8 p, .int .i8 (f 0), .int .i8 (f 1), .int .i8 (f 2), .int .i8 (f 3), .int .i8 (f 4), .int .i8 (f 5), .int .i8 (t 0), .int .i8 (t 1), .int .i8 (t 2), .int .i8 (t 3), .int .i8 (t 4), .int .i8 (t 5)] 96) (.cells #[.int .u8 0, .int .i8 0, .int .i8 0, .int .i8 0, .int .i8 0, .int .i8 0, .int .i8 0, .int .i8 0, .int .i8 0, .int .i8 0, .int .i8 0, .int .i8 0, .int .i8 0] 96)
  have h2 := heap_alloc2_new w (.cells #[.int .u8 p, .int .i8 (f 0), .int .i8 (f 1), .int .i8 (f 2), .int .i8 (f 3), .int .i8 (f 4), .int .i8 (f 5), .int .i8 (t 0), .int .i8 (t 1), .int .i8 (t 2), .int .i8 (t 3), .int .i8 (t 4), .int .i8 (t 5)] 96) (.cells #[.int .u8 0, .int .i8 0, .int .i8 0, .int .i8 0, .int .i8 0, .int .i8 0, .int .i8 0, .int .i8 0, .int .i8 0, .int .i8 0, .int .i8 0, .int .i8 0, .int .i8 0] 96)
  have hb0 : Below w.heap.size w ((w.alloc (.cells #[.int .u8 p, .int .i8 (f 0), .int .i8 (f 1), .int .i8 (f 2), .int .i8 (f 3), .int .i8 (f 4), .int .i8 (f 5), .int .i8 (t 0), .int .i8 (t 1), .int .i8 (t 2), .int .i8 (t 3), .int .i8 (t 4), .int .i8 (t 5)] 96)).alloc (.cells #[.int .u8 0, .int .i8 0, .int .i8 0, .int .i8 0, .int .i8 0, .int .i8 0, .int .i8 0, .int .i8 0, .int .i8 0, .int .i8 0, .int .i8 0, .int .i8 0, .int .i8 0] 96)) := by repeat' (first | (with_reducible exact Below.refl _ _) | (with_reducible assumption) | (with_reducible refine Below.setCell ?_ ?_ _) | (with_reducible refine Below.alloc ?_ ?_ _) | (with_reducible refine Below.drew ?_) | (with_reducible refine Below.drawsN ?_ _) | go_size)
  obtain ⟨a, ha⟩ : ∃ a, a = actC p f t := ⟨_, rfl⟩
  rw [← ha]
  have HA := Lib.hid ha
  clear ha
  go_enter Try.func53, Try.ntmps53
  go_upto_region 1 with fail
  obtain ⟨w1, hw1⟩ : ∃ w1, w1 = (w.alloc (.cells #[.int .u8 p, .int .i8 (f 0), .int .i8 (f 1), .int .i8 (f 2), .int .i8 (f 3), .int .i8 (f 4), .int .i8 (f 5), .int .i8 (t 0), .int .i8 (t 1), .int .i8 (t 2), .int .i8 (t 3), .int .i8 (t 4), .int .i8 (t 5)] 96)).alloc (.cells #[.int .u8 0, .int .i8 0, .int .i8 0, .int .i8 0, .int .i8 0, .int .i8 0, .int .i8 0, .int .i8 0, .int .i8 0, .int .i8 0, .int .i8 0, .int .i8 0, .int .i8 0] 96) := ⟨_, rfl⟩
  rw [← hw1] at h1 h2 hb0 ⊢
  obtain ⟨g2, hg2⟩ : ∃ g, g = w.heap.size + 1 := ⟨_, rfl⟩
  rw [← hg2] at h2 ⊢
  have HG := Lib.hid hg2
  have HB := Lib.hid hb0
  have H2 := Lib.hid h2
  clear hw1 hg2 hb0 h2
  go_wp2_with (((with_reducible show wpList _ _ _ (_ :: _) _ _); refine wpList_load_row rfl 96 _ rfl _ rfl _ _ _ _ h1 Try.underlying96 rfl (by exact size_tn) ?_; (try go_simp)))
  go_at_call 51
  refine (Active_any p f t _).mono ?_
  rintro e w2 ⟨rfl, hb2⟩
  rw [← HA.out]
  have HB2 := Lib.hid (HB.out.trans (hb2.mono HB.out.size))
  have H22 := Lib.hid (box_below H2.out hb2 (box_lt H2.out))
  clear hb2 h1 HB H2
  go_wp2_with fail
  go_at_call 79
  refine (idle_any a _).mono ?_
  rintro e w3 ⟨rfl, hb3⟩
  have hb := HB2.out.trans (hb3.mono HB2.out.size)
  have h2 := box_below H22.out hb3 (box_lt H22.out)
  have h3 := setRow_heap w3 g2 _ #[.int .u8 0, .int .i8 (a 0), .int .i8 (a 1), .int .i8 (a 2), .int .i8 (a 3), .int .i8 (a 4), .int .i8 (a 5), .int .i8 (a 0), .int .i8 (a 1), .int .i8 (a 2), .int .i8 (a 3), .int .i8 (a 4), .int .i8 (a 5)] _ _ h2
  have HB3 := Lib.hid (bel_rowS hb (show w.heap.size ≤ g2 by have := HG.out; omega) #[.int .u8 0, .int .i8 (a 0), .int .i8 (a 1), .int .i8 (a 2), .int .i8 (a 3), .int .i8 (a 4), .int .i8 (a 5), .int .i8 (a 0), .int .i8 (a 1), .int .i8 (a 2), .int .i8 (a 3), .int .i8 (a 4), .int .i8 (a 5)])
  have H3 := Lib.hid h3
  clear hb hb3 h3 HB2 H22
  go_wp2_with (((with_reducible show wpList _ _ _ (_ :: _) _ _); refine wpList_store_row rfl 96 _ _ rfl _ _ rfl rfl _ _ h2 (by exact size_tn) (by rfl) (by simp [Value.oneCell']) ?_))
  refine bodyPost_ret (results_cell_row rfl _ _ _ _ _ _ _ rfl H3.out Try.underlying96 rfl (by exact size_tn)) rfl ?_
  exact ⟨rfl, HB3.out⟩
set_option maxRecDepth 100000 in
set_option maxHeartbeats 2000000 in
theorem list_any (s : Nat) (w : World) (hs : s < 65536) : Calls Try.prog 81 #[.int .u16 (s : Nat)] w fun e w' => ∃ v, e = .returned v ∧ w'.ownsRow w.heap.size 3 1 v (upTo s 16).length (zl (upTo s 16)) ∧ Below w.heap.size w w' := by
  go_enter Try.func81, Try.ntmps81
  go_wp2_with fail
  go_at_call 86
  refine (All_any s _).mono ?_
  rintro e w1 ⟨rfl, hw⟩
  have hb : Below w.heap.size w w1 := by rw [hw]; exact (Below.refl _ _).alloc (Nat.le_refl _) _
  have hc : w1.cell? ⟨w.heap.size, 0, none⟩ = some (.int .u16 (s : Nat)) := by rw [hw]; exact cell_of_row _ _ 0 _ _ _ (heap_alloc_new _ _)
  have hl : w.heap.size < w1.heap.size := by rw [hw]; simp
  have HCC := Lib.hid (collect w.heap.size s hs hl hc)
  have HB := Lib.hid hb
  clear hw hb hc
  go_wp2_with fail
  go_at_call 89
  refine HCC.out.mono ?_
  rintro e w2 ⟨v, rfl, ho, hb⟩
  have HO := Lib.hid ho
  clear ho
  obtain ⟨a, c, rfl⟩ := own_formZ HO.out
  go_wp2_with fail
  go_ret
  exact ⟨_, rfl, own_baseZ HO.out (by omega), HB.out.trans (hb.mono HB.out.size)⟩
end Go.Proofs.Ytboojcahflkkmaa
