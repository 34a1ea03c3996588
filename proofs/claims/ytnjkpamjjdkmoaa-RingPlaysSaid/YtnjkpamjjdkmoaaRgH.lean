/- Layer 3: the law's do. -/
import Derived.Test.YtnjkpamjjdkmoaaRgG
namespace Go.Proofs.Ytnjkpamjjdkmoaa
open Go.RowKit Go.Own
set_option linter.unusedVariables false
set_option linter.unusedSimpArgs false
theorem own_zeroI (base : Nat) (w : World) : w.ownsRow base 3 1 (.slice none 0 0) 0 (il []) := ⟨rfl, .inl ⟨rfl, rfl⟩⟩
theorem int_newH (w : World) (x : Int) : ∀ (j : Nat) (u : Value), ([Value.int .i64 x] : List Value)[j]? = some u → (w.alloc (.cells #[.int .i64 x] 3)).cell? ((⟨w.heap.size, 0, none⟩ : Addr).add j) = some u := fun j u hj => by
  have : j = 0 := by
    have := (List.getElem?_eq_some_iff.1 hj).1
    simpa using this
  subst this
  simp at hj
  subst hj
  exact cell_of_row _ _ 0 _ _ _ (heap_alloc_new w _)
set_option maxRecDepth 100000 in
set_option maxHeartbeats 2000000 in
theorem P_offer_room {w : World} {g b n lo d : Nat} {L : List Int} (k : Nat) (V M : Int) (h : Ring w g b n L lo d) (hk : k % 6 = 2) (hr : L.length < n) (hk2 : k < 256) :
    Calls Try.prog 25 #[.pointer (some ⟨g, 0, none⟩), .agg #[.int .u8 ((k : Nat) : Int), .int .i64 V, .int .i64 M]] w fun e w' => ∃ v, e = .returned (.tuple #[.int .i64 1, v]) ∧ w'.ownsRow w.heap.size 3 1 v 0 (il []) ∧ Ring w' g b n (L ++ [V]) lo d ∧ Kept g b w w' := by
  have hkI : (k : Int) % 6 = 2 := by omega
  have h0 := heap_alloc_new w (.cells #[.int .u8 ((k : Nat) : Int), .int .i64 V, .int .i64 M] 42)
  have hb0 : Below w.heap.size w (w.alloc (.cells #[.int .u8 ((k : Nat) : Int), .int .i64 V, .int .i64 M] 42)) := (Below.refl _ _).alloc (Nat.le_refl _) _
  have hle := h.le
  go_enter Try.func25, Try.ntmps25
  go_upto_region 1 with fail
  obtain ⟨w1, hw1⟩ : ∃ w1, w1 = w.alloc (.cells #[.int .u8 ((k : Nat) : Int), .int .i64 V, .int .i64 M] 42) := ⟨_, rfl⟩
  rw [← hw1] at h0 hb0 ⊢
  obtain ⟨g3, hg3⟩ : ∃ g, g = w.heap.size := ⟨_, rfl⟩
  rw [← hg3] at h0
  rw [show (Value.pointer (some ⟨w.heap.size, 0, none⟩)) = .pointer (some ⟨g3, 0, none⟩) by rw [hg3]]
  have H1 := Lib.hid (h.below hb0 (Nat.le_refl _))
  have HB := Lib.hid hb0
  have HA := Lib.hid h0
  have hgg : w.heap.size ≤ g3 := Nat.le_of_eq hg3.symm
  have hg1 : g < g3 := by omega
  have hb1 : b < g3 := by omega
  clear hw1 hb0 h0 h hg3
  have k0 : w1.cell? ⟨g3, 0, none⟩ = some (.int .u8 ((k : Nat) : Int)) := cell_of_row _ _ 0 _ _ _ HA.out
  have k1 : w1.cell? ⟨g3, 1, none⟩ = some (.int .i64 V) := cell_of_row _ _ 1 _ _ _ HA.out
  go_wp2_with fail
  go_at_call 91
  refine (rOffer_room V H1.out hr).mono ?_
  rintro e w2 ⟨rfl, h2, k2⟩
  go_wp2_with fail
  exact bodyPost_ret (v := .tuple #[.int .i64 1, .slice none 0 0]) (by simp [results, Try.results25, go_sem]) rfl ⟨_, rfl, own_zeroI _ _, h2, (Kept.of_below HB.out).trans k2⟩
set_option maxRecDepth 100000 in
set_option maxHeartbeats 2000000 in
theorem P_offer_full {w : World} {g b n lo d : Nat} {L : List Int} (k : Nat) (V M : Int) (h : Ring w g b n L lo d) (hk : k % 6 = 2) (hr : L.length = n) (hk2 : k < 256) :
    Calls Try.prog 25 #[.pointer (some ⟨g, 0, none⟩), .agg #[.int .u8 ((k : Nat) : Int), .int .i64 V, .int .i64 M]] w fun e w' => ∃ v, e = .returned (.tuple #[.int .i64 0, v]) ∧ w'.ownsRow w.heap.size 3 1 v 0 (il []) ∧ Ring w' g b n L lo (min (d + 1) 65535) ∧ Kept g b w w' := by
  have hkI : (k : Int) % 6 = 2 := by omega
  have h0 := heap_alloc_new w (.cells #[.int .u8 ((k : Nat) : Int), .int .i64 V, .int .i64 M] 42)
  have hb0 : Below w.heap.size w (w.alloc (.cells #[.int .u8 ((k : Nat) : Int), .int .i64 V, .int .i64 M] 42)) := (Below.refl _ _).alloc (Nat.le_refl _) _
  have hle := h.le
  go_enter Try.func25, Try.ntmps25
  go_upto_region 1 with fail
  obtain ⟨w1, hw1⟩ : ∃ w1, w1 = w.alloc (.cells #[.int .u8 ((k : Nat) : Int), .int .i64 V, .int .i64 M] 42) := ⟨_, rfl⟩
  rw [← hw1] at h0 hb0 ⊢
  obtain ⟨g3, hg3⟩ : ∃ g, g = w.heap.size := ⟨_, rfl⟩
  rw [← hg3] at h0
  rw [show (Value.pointer (some ⟨w.heap.size, 0, none⟩)) = .pointer (some ⟨g3, 0, none⟩) by rw [hg3]]
  have H1 := Lib.hid (h.below hb0 (Nat.le_refl _))
  have HB := Lib.hid hb0
  have HA := Lib.hid h0
  have hgg : w.heap.size ≤ g3 := Nat.le_of_eq hg3.symm
  have hg1 : g < g3 := by omega
  have hb1 : b < g3 := by omega
  clear hw1 hb0 h0 h hg3
  have k0 : w1.cell? ⟨g3, 0, none⟩ = some (.int .u8 ((k : Nat) : Int)) := cell_of_row _ _ 0 _ _ _ HA.out
  have k1 : w1.cell? ⟨g3, 1, none⟩ = some (.int .i64 V) := cell_of_row _ _ 1 _ _ _ HA.out
  have HR := Lib.hid hr
  clear hr
  go_wp2_with fail
  go_at_call 91
  refine (rOffer_full V H1.out HR.out).mono ?_
  rintro e w2 ⟨rfl, h2, k2⟩
  go_wp2_with fail
  exact bodyPost_ret (v := .tuple #[.int .i64 0, .slice none 0 0]) (by simp [results, Try.results25, go_sem]) rfl ⟨_, rfl, own_zeroI _ _, h2, (Kept.of_below HB.out).trans k2⟩
set_option maxRecDepth 100000 in
set_option maxHeartbeats 2000000 in
theorem P_pop_none {w : World} {g b n lo d : Nat} (k : Nat) (V M : Int) (h : Ring w g b n [] lo d) (hk : k % 6 = 3) (hk2 : k < 256) :
    Calls Try.prog 25 #[.pointer (some ⟨g, 0, none⟩), .agg #[.int .u8 ((k : Nat) : Int), .int .i64 V, .int .i64 M]] w fun e w' => ∃ v, e = .returned (.tuple #[.int .i64 (-1), v]) ∧ w'.ownsRow w.heap.size 3 1 v 0 (il []) ∧ Ring w' g b n [] lo d ∧ Kept g b w w' := by
  have hkI : (k : Int) % 6 = 3 := by omega
  have h0 := heap_alloc_new w (.cells #[.int .u8 ((k : Nat) : Int), .int .i64 V, .int .i64 M] 42)
  have hb0 : Below w.heap.size w (w.alloc (.cells #[.int .u8 ((k : Nat) : Int), .int .i64 V, .int .i64 M] 42)) := (Below.refl _ _).alloc (Nat.le_refl _) _
  have hle := h.le
  go_enter Try.func25, Try.ntmps25
  go_upto_region 1 with fail
  obtain ⟨w1, hw1⟩ : ∃ w1, w1 = w.alloc (.cells #[.int .u8 ((k : Nat) : Int), .int .i64 V, .int .i64 M] 42) := ⟨_, rfl⟩
  rw [← hw1] at h0 hb0 ⊢
  obtain ⟨g3, hg3⟩ : ∃ g, g = w.heap.size := ⟨_, rfl⟩
  rw [← hg3] at h0
  rw [show (Value.pointer (some ⟨w.heap.size, 0, none⟩)) = .pointer (some ⟨g3, 0, none⟩) by rw [hg3]]
  have H1 := Lib.hid (h.below hb0 (Nat.le_refl _))
  have HB := Lib.hid hb0
  have HA := Lib.hid h0
  have hgg : w.heap.size ≤ g3 := Nat.le_of_eq hg3.symm
  have hg1 : g < g3 := by omega
  have hb1 : b < g3 := by omega
  clear hw1 hb0 h0 h hg3
  have k0 : w1.cell? ⟨g3, 0, none⟩ = some (.int .u8 ((k : Nat) : Int)) := cell_of_row _ _ 0 _ _ _ HA.out
  have k1 : w1.cell? ⟨g3, 1, none⟩ = some (.int .i64 V) := cell_of_row _ _ 1 _ _ _ HA.out
  go_wp2_with fail
  go_at_call 92
  refine (rPop_none H1.out).mono ?_
  rintro e w2 ⟨rfl, rfl⟩
  go_wp2_with fail
  exact bodyPost_ret (v := .tuple #[.int .i64 (-1), .slice none 0 0]) (by simp [results, Try.results25, go_sem]) rfl ⟨_, rfl, own_zeroI _ _, H1.out, (Kept.of_below HB.out)⟩
set_option maxRecDepth 100000 in
set_option maxHeartbeats 2000000 in
theorem P_pop_some {w : World} {g b n lo d : Nat} {y : Int} {L : List Int} (k : Nat) (V M : Int) (h : Ring w g b n (y :: L) lo d) (hk : k % 6 = 3) (hk2 : k < 256) :
    Calls Try.prog 25 #[.pointer (some ⟨g, 0, none⟩), .agg #[.int .u8 ((k : Nat) : Int), .int .i64 V, .int .i64 M]] w fun e w' => ∃ v, e = .returned (.tuple #[.int .i64 y, v]) ∧ w'.ownsRow w.heap.size 3 1 v 0 (il []) ∧ Ring w' g b n L lo d ∧ Kept g b w w' := by
  have hkI : (k : Int) % 6 = 3 := by omega
  have h0 := heap_alloc_new w (.cells #[.int .u8 ((k : Nat) : Int), .int .i64 V, .int .i64 M] 42)
  have hb0 : Below w.heap.size w (w.alloc (.cells #[.int .u8 ((k : Nat) : Int), .int .i64 V, .int .i64 M] 42)) := (Below.refl _ _).alloc (Nat.le_refl _) _
  have hle := h.le
  go_enter Try.func25, Try.ntmps25
  go_upto_region 1 with fail
  obtain ⟨w1, hw1⟩ : ∃ w1, w1 = w.alloc (.cells #[.int .u8 ((k : Nat) : Int), .int .i64 V, .int .i64 M] 42) := ⟨_, rfl⟩
  rw [← hw1] at h0 hb0 ⊢
  obtain ⟨g3, hg3⟩ : ∃ g, g = w.heap.size := ⟨_, rfl⟩
  rw [← hg3] at h0
  rw [show (Value.pointer (some ⟨w.heap.size, 0, none⟩)) = .pointer (some ⟨g3, 0, none⟩) by rw [hg3]]
  have H1 := Lib.hid (h.below hb0 (Nat.le_refl _))
  have HB := Lib.hid hb0
  have HA := Lib.hid h0
  have hgg : w.heap.size ≤ g3 := Nat.le_of_eq hg3.symm
  have hg1 : g < g3 := by omega
  have hb1 : b < g3 := by omega
  clear hw1 hb0 h0 h hg3
  have k0 : w1.cell? ⟨g3, 0, none⟩ = some (.int .u8 ((k : Nat) : Int)) := cell_of_row _ _ 0 _ _ _ HA.out
  have k1 : w1.cell? ⟨g3, 1, none⟩ = some (.int .i64 V) := cell_of_row _ _ 1 _ _ _ HA.out
  go_wp2_with fail
  go_at_call 92
  refine (rPop_some H1.out).mono ?_
  rintro e w2 ⟨rfl, h2, k2⟩
  go_wp2_with fail
  exact bodyPost_ret (v := .tuple #[.int .i64 y, .slice none 0 0]) (by simp [results, Try.results25, go_sem]) rfl ⟨_, rfl, own_zeroI _ _, h2, (Kept.of_below HB.out).trans k2⟩
set_option maxRecDepth 100000 in
set_option maxHeartbeats 2000000 in
theorem P_drain {w : World} {g b n lo d : Nat} {L : List Int} (k : Nat) (V M : Int) (h : Ring w g b n L lo d) (hk : k % 6 = 4) (hk2 : k < 256) :
    Calls Try.prog 25 #[.pointer (some ⟨g, 0, none⟩), .agg #[.int .u8 ((k : Nat) : Int), .int .i64 V, .int .i64 M]] w fun e w' => ∃ v, e = .returned (.tuple #[.int .i64 0, v]) ∧ w'.ownsRow w.heap.size 3 1 v L.length (il L) ∧ Ring w' g b n [] lo d ∧ Kept g b w w' := by
  have hkI : (k : Int) % 6 = 4 := by omega
  have h0 := heap_alloc_new w (.cells #[.int .u8 ((k : Nat) : Int), .int .i64 V, .int .i64 M] 42)
  have hb0 : Below w.heap.size w (w.alloc (.cells #[.int .u8 ((k : Nat) : Int), .int .i64 V, .int .i64 M] 42)) := (Below.refl _ _).alloc (Nat.le_refl _) _
  have hle := h.le
  go_enter Try.func25, Try.ntmps25
  go_upto_region 1 with fail
  obtain ⟨w1, hw1⟩ : ∃ w1, w1 = w.alloc (.cells #[.int .u8 ((k : Nat) : Int), .int .i64 V, .int .i64 M] 42) := ⟨_, rfl⟩
  rw [← hw1] at h0 hb0 ⊢
  obtain ⟨g3, hg3⟩ : ∃ g, g = w.heap.size := ⟨_, rfl⟩
  rw [← hg3] at h0
  rw [show (Value.pointer (some ⟨w.heap.size, 0, none⟩)) = .pointer (some ⟨g3, 0, none⟩) by rw [hg3]]
  have H1 := Lib.hid (h.below hb0 (Nat.le_refl _))
  have HB := Lib.hid hb0
  have HA := Lib.hid h0
  have hgg : w.heap.size ≤ g3 := Nat.le_of_eq hg3.symm
  have hg1 : g < g3 := by omega
  have hb1 : b < g3 := by omega
  clear hw1 hb0 h0 h hg3
  have k0 : w1.cell? ⟨g3, 0, none⟩ = some (.int .u8 ((k : Nat) : Int)) := cell_of_row _ _ 0 _ _ _ HA.out
  have k1 : w1.cell? ⟨g3, 1, none⟩ = some (.int .i64 V) := cell_of_row _ _ 1 _ _ _ HA.out
  go_wp2_with fail
  go_at_call 94
  refine (rDrain H1.out).mono ?_
  rintro e w2 ⟨v2, rfl, hown, h2, k2⟩
  obtain ⟨a2, c2, rfl⟩ := own_form hown
  have HO := Lib.hid (World.ownsRow.mono hown HB.out.size)
  clear hown
  go_wp2_with fail
  exact bodyPost_ret (v := .tuple #[.int .i64 0, .slice a2 L.length c2]) (by simp [results, Try.results25, go_sem]) rfl ⟨_, rfl, HO.out, h2, (Kept.of_below HB.out).trans k2⟩
set_option maxRecDepth 100000 in
set_option maxHeartbeats 2000000 in
theorem P_clear {w : World} {g b n lo d : Nat} {L : List Int} (k : Nat) (V M : Int) (h : Ring w g b n L lo d) (hk : k % 6 = 5) (hk2 : k < 256) :
    Calls Try.prog 25 #[.pointer (some ⟨g, 0, none⟩), .agg #[.int .u8 ((k : Nat) : Int), .int .i64 V, .int .i64 M]] w fun e w' => ∃ v, e = .returned (.tuple #[.int .i64 0, v]) ∧ w'.ownsRow w.heap.size 3 1 v 0 (il []) ∧ Ring w' g b n [] 0 0 ∧ Kept g b w w' := by
  have hkI : (k : Int) % 6 = 5 := by omega
  have h0 := heap_alloc_new w (.cells #[.int .u8 ((k : Nat) : Int), .int .i64 V, .int .i64 M] 42)
  have hb0 : Below w.heap.size w (w.alloc (.cells #[.int .u8 ((k : Nat) : Int), .int .i64 V, .int .i64 M] 42)) := (Below.refl _ _).alloc (Nat.le_refl _) _
  have hle := h.le
  go_enter Try.func25, Try.ntmps25
  go_upto_region 1 with fail
  obtain ⟨w1, hw1⟩ : ∃ w1, w1 = w.alloc (.cells #[.int .u8 ((k : Nat) : Int), .int .i64 V, .int .i64 M] 42) := ⟨_, rfl⟩
  rw [← hw1] at h0 hb0 ⊢
  obtain ⟨g3, hg3⟩ : ∃ g, g = w.heap.size := ⟨_, rfl⟩
  rw [← hg3] at h0
  rw [show (Value.pointer (some ⟨w.heap.size, 0, none⟩)) = .pointer (some ⟨g3, 0, none⟩) by rw [hg3]]
  have H1 := Lib.hid (h.below hb0 (Nat.le_refl _))
  have HB := Lib.hid hb0
  have HA := Lib.hid h0
  have hgg : w.heap.size ≤ g3 := Nat.le_of_eq hg3.symm
  have hg1 : g < g3 := by omega
  have hb1 : b < g3 := by omega
  clear hw1 hb0 h0 h hg3
  have k0 : w1.cell? ⟨g3, 0, none⟩ = some (.int .u8 ((k : Nat) : Int)) := cell_of_row _ _ 0 _ _ _ HA.out
  have k1 : w1.cell? ⟨g3, 1, none⟩ = some (.int .i64 V) := cell_of_row _ _ 1 _ _ _ HA.out
  go_wp2_with fail
  go_at_call 95
  refine (rClear H1.out).mono ?_
  rintro e w2 ⟨⟨v2, rfl⟩, h2, k2⟩
  go_wp2_with fail
  exact bodyPost_ret (v := .tuple #[.int .i64 0, .slice none 0 0]) (by simp [results, Try.results25, go_sem]) rfl ⟨_, rfl, own_zeroI _ _, h2, (Kept.of_below HB.out).trans k2⟩
set_option maxRecDepth 100000 in
set_option maxHeartbeats 4000000 in
theorem P_push {w : World} {g b n lo d : Nat} {L : List Int} (k : Nat) (V M : Int) (h : Ring w g b n L lo d) (hk : k % 6 = 0 ∨ k % 6 = 1) (hV0 : -1000 ≤ V) (hV1 : V ≤ 1000) (hk2 : k < 256) :
    Calls Try.prog 25 #[.pointer (some ⟨g, 0, none⟩), .agg #[.int .u8 ((k : Nat) : Int), .int .i64 V, .int .i64 M]] w fun e w' => ∃ v, e = .returned (.tuple #[.int .i64 ((L.length + manyN M - n : Nat) : Int), v]) ∧ w'.ownsRow w.heap.size 3 1 v 0 (il []) ∧ Ring w' g b n (lastn n (L ++ vsP V (manyN M))) (min (lo + (L.length + manyN M - n)) 65535) d ∧ Kept g b w w' := by
  obtain ⟨i0, hi, hz0, hz1, hz2⟩ := info_parts info_int
  have hmm := manyN_le M
  obtain ⟨m, hm⟩ : ∃ m, m = manyN M := ⟨_, rfl⟩
  have HMA := Lib.hid (fun w => Many_any k V M w)
  rw [← hm] at HMA hmm ⊢
  obtain ⟨r, hr⟩ : ∃ r, (k : Int) % 6 = r := ⟨_, rfl⟩
  have hr01 : r = 0 ∨ r = 1 := by omega
  have hr2 : (r == 2) = false := by rcases hr01 with rfl | rfl <;> rfl
  have hr3 : (r == 3) = false := by rcases hr01 with rfl | rfl <;> rfl
  have hr4 : (r == 4) = false := by rcases hr01 with rfl | rfl <;> rfl
  have hr5 : (r == 5) = false := by rcases hr01 with rfl | rfl <;> rfl
  clear hr01 hm hk
  have h0 := heap_alloc_new w (.cells #[.int .u8 ((k : Nat) : Int), .int .i64 V, .int .i64 M] 42)
  have hb0 : Below w.heap.size w (w.alloc (.cells #[.int .u8 ((k : Nat) : Int), .int .i64 V, .int .i64 M] 42)) := (Below.refl _ _).alloc (Nat.le_refl _) _
  have hle := h.le
  go_enter Try.func25, Try.ntmps25
  go_upto_region 1 with fail
  obtain ⟨w1, hw1⟩ : ∃ w1, w1 = w.alloc (.cells #[.int .u8 ((k : Nat) : Int), .int .i64 V, .int .i64 M] 42) := ⟨_, rfl⟩
  rw [← hw1] at h0 hb0 ⊢
  obtain ⟨g3, hg3⟩ : ∃ g, g = w.heap.size := ⟨_, rfl⟩
  rw [← hg3] at h0
  rw [show (Value.pointer (some ⟨w.heap.size, 0, none⟩)) = .pointer (some ⟨g3, 0, none⟩) by rw [hg3]]
  have H1 := Lib.hid (h.below hb0 (Nat.le_refl _))
  have HB := Lib.hid hb0
  have HA := Lib.hid h0
  have hgg : w.heap.size ≤ g3 := Nat.le_of_eq hg3.symm
  have hg1 : g < g3 := by omega
  have hb1 : b < g3 := by omega
  clear hw1 hb0 h0 h hg3
  have k0 : w1.cell? ⟨g3, 0, none⟩ = some (.int .u8 ((k : Nat) : Int)) := cell_of_row _ _ 0 _ _ _ HA.out
  have k1 : w1.cell? ⟨g3, 1, none⟩ = some (.int .i64 V) := cell_of_row _ _ 1 _ _ _ HA.out
  go_wp2_with ((with_reducible show wpList _ _ _ (_ :: _) _ _); refine wpList_load_row rfl 42 _ rfl _ rfl _ _ _ _ HA.out Try.underlying42 rfl (by exact size_ract) ?_; (try go_simp))
  refine (HMA.out _).mono ?_
  rintro e w2 ⟨rfl, hb⟩
  have H2 := Lib.hid (H1.out.below hb (Nat.le_refl _))
  have HB2 := Lib.hid (HB.out.trans (hb.mono HB.out.size))
  have HA2 := Lib.hid (box_below HA.out hb (box_lt HA.out))
  clear hb H1 HA HB HMA k0 k1 hr hr2 hr3 hr4 hr5
  have hg2 : g3 < w2.heap.size := box_lt HA2.out
  go_wp2_with fail
  go_loopw [8, 39] (fun v8 v39 wr => ∃ i : Nat, i ≤ m ∧ v39 = .int .i64 (i : Nat) ∧ wr.ownsRow w2.heap.size 3 1 v8 i (il (vsP V i)) ∧ Below w2.heap.size w2 wr) (fun _ v _ => m - (intOf v).toNat)
  case atStart => exact ⟨0, Nat.zero_le _, rfl, own_zeroI _ _, Below.refl _ _⟩
  case round =>
    obtain ⟨i, hi', rfl, hown, hB⟩ := hrel
    have HOW := Lib.hid hown
    have HBR := Lib.hid hB
    have hsr : w2.heap.size ≤ wr.heap.size := hB.size
    have hA := HBR.out.block g3 hg2
    rw [HA2.out] at hA
    have hgr := box_lt hA
    obtain ⟨al, cl, rfl⟩ := own_form hown
    clear hown hB
    by_cases hlt : i < m
    · have htm : Int.tmod (i : Int) 100 = (i : Int) := by rw [Int.tmod_eq_emod_of_nonneg (by omega)]; omega
      have q1 : wr.cell? ⟨g3, 1, none⟩ = some (.int .i64 V) := cell_of_row _ _ 1 _ _ _ hA
      go_wp2_with (at_builtin; refine wpList_append_own _ rfl _ _ 38 rfl w2.heap.size 3 i0 (.int .i64 0) 1 8 Try.underlying38 hi hz0 hz1 hz2 rfl (by decide) _ _ _ rfl (HOW.out.alloc _) ⟨wr.heap.size, 0, none⟩ 1 1 [.int .i64 (V + (i : Int))] rfl rfl (int_newH _ _) (by simp [Value.oneCell']) (by unfold maxLen; omega) (by omega) (by simp; omega) ?_; intro v4 w4 hown4 hgr4 _)
      go_roundw
      case rel =>
        refine ⟨i + 1, by omega, by go_num, ?_, (HBR.out.alloc hsr _).grown hgr4 (by simp; omega) (fun j hj => (HOW.out.lt j hj).1)⟩
        rw [vsP_succ, il_append]
        exact hown4
      case measure => simp [intOf]; omega
    · obtain rfl : i = m := by omega
      clear hi' hlt hA hgr
      have hln := vsP_len V i
      have HH := H2.out.below HBR.out (Nat.le_refl _)
      go_wp2_with fail
      go_at_call 90
      refine (rPush al i cl (vsP V i) HH hln (rd_of_own (f := iv (vsP V i)) HOW.out (fun j hj => il_at _ (by rw [hln]; exact hj))) (fun y hy => by have := (HOW.out.lt y.block (by rw [hy]; rfl)).1; exact ⟨by omega, by omega⟩) (by omega)).mono ?_
      rintro e w5 ⟨rfl, h5, k5⟩
      have hK := (Kept.of_below (g := g) (b := b) (HB2.out.trans (HBR.out.mono HB2.out.size))).trans k5
      go_wp2_with fail
      exact bodyPost_ret (v := .tuple #[.int .i64 ((L.length + i - n : Nat) : Int), .slice none 0 0]) (by simp [results, Try.results25, go_sem]) rfl ⟨_, rfl, own_zeroI _ _, h5, hK⟩
set_option maxHeartbeats 1000000 in
theorem P_any {w : World} {g b n lo d : Nat} {L : List Int} (k : Nat) (V M : Int) (h : Ring w g b n L lo d) (hV0 : -1000 ≤ V) (hV1 : V ≤ 1000) (hk2 : k < 256) :
    Calls Try.prog 25 #[.pointer (some ⟨g, 0, none⟩), .agg #[.int .u8 ((k : Nat) : Int), .int .i64 V, .int .i64 M]] w fun e w' => ∃ v, e = .returned (.tuple #[.int .i64 (ringM n k V M L lo d).ret, v]) ∧ w'.ownsRow w.heap.size 3 1 v (ringM n k V M L lo d).out.length (il (ringM n k V M L lo d).out) ∧ Ring w' g b n (ringM n k V M L lo d).L (ringM n k V M L lo d).lo (ringM n k V M L lo d).d ∧ Kept g b w w' := by
  by_cases h2 : k % 6 = 2
  · by_cases hr : L.length < n
    · rw [show ringM n k V M L lo d = ⟨L ++ [V], lo, d, 1, []⟩ by simp [ringM, h2, hr]]
      exact P_offer_room k V M h h2 hr hk2
    · have hrn : L.length = n := by have := h.le; omega
      rw [show ringM n k V M L lo d = ⟨L, lo, min (d + 1) 65535, 0, []⟩ by simp [ringM, h2, hr]]
      exact P_offer_full k V M h h2 hrn hk2
  by_cases h3 : k % 6 = 3
  · match L, h with
    | [], h =>
      rw [show ringM n k V M [] lo d = ⟨[], lo, d, -1, []⟩ by simp [ringM, h3]]
      exact P_pop_none k V M h h3 hk2
    | y :: T, h =>
      rw [show ringM n k V M (y :: T) lo d = ⟨T, lo, d, y, []⟩ by simp [ringM, h3]]
      exact P_pop_some k V M h h3 hk2
  by_cases h4 : k % 6 = 4
  · rw [show ringM n k V M L lo d = ⟨[], lo, d, 0, L⟩ by simp [ringM, h4]]
    exact P_drain k V M h h4 hk2
  by_cases h5 : k % 6 = 5
  · rw [show ringM n k V M L lo d = ⟨[], 0, 0, 0, []⟩ by simp [ringM, h5]]
    exact P_clear k V M h h5 hk2
  · rw [show ringM n k V M L lo d = ⟨lastn n (L ++ vsP V (manyN M)), min (lo + (L.length + manyN M - n)) 65535, d, ((L.length + manyN M - n : Nat) : Int), []⟩ by simp [ringM, h2, h3, h4, h5]]
    exact P_push k V M h (by omega) hV0 hV1 hk2
end Go.Proofs.Ytnjkpamjjdkmoaa
