/- FdirRaises. -/
import Derived.Test.YtinaimacocgemaaLaw22e
import Derived.Test.YtinaimacocgemaaFd4
import Derived.Deep.RegionWith
namespace Go.Proofs.Ytinaimacocgemaa
open Go.RowKit Go.Own Bs
set_option linter.unusedVariables false
set_option linter.unusedSimpArgs false
/-- Two new boxes, told either way. -/
theorem Bq.both {w wr : World} {bs : List (Nat × Array Value × TypeId)} (h : Bq w wr bs) (A B : Array Value) (t u : TypeId) :
    Bq w ((wr.alloc (.cells A t)).alloc (.cells B u)).drew (bs ++ [(wr.heap.size, A, t), (wr.heap.size + 1, B, u)]) ∧ Bq w ((wr.alloc (.cells A t)).alloc (.cells B u)).drew (bs ++ [(wr.heap.size + 1, B, u), (wr.heap.size, A, t)]) := by
  have hs := h.be.size
  have hb : Below wr.heap.size wr ((wr.alloc (.cells A t)).alloc (.cells B u)).drew := by repeat' (first | (with_reducible exact Below.refl _ _) | (with_reducible assumption) | (with_reducible refine Below.setCell ?_ ?_ _) | (with_reducible refine Below.alloc ?_ ?_ _) | (with_reducible refine Below.drew ?_) | (with_reducible refine Below.drawsN ?_ _) | go_size)
  have h1 : ((wr.alloc (.cells A t)).alloc (.cells B u)).drew.heap[wr.heap.size]? = some (.cells A t (0, 0)) := heap_alloc2_old wr _ _
  have h2 : ((wr.alloc (.cells A t)).alloc (.cells B u)).drew.heap[wr.heap.size + 1]? = some (.cells B u (0, 0)) := heap_alloc2_new wr _ _
  constructor
  · have a1 := (h.step hb).more (fun x hx => by have := h.lt x hx; omega) hs h1
    have a2 := a1.more (fun x hx => by
      rcases List.mem_append.1 hx with hx | hx
      · have := h.lt x hx; omega
      · rw [List.mem_singleton.1 hx]; exact (by show wr.heap.size ≠ wr.heap.size + 1; omega)) (by omega) h2
    rwa [List.append_assoc] at a2
  · have a1 := (h.step hb).more (fun x hx => by have := h.lt x hx; omega) (by omega) h2
    have a2 := a1.more (fun x hx => by
      rcases List.mem_append.1 hx with hx | hx
      · have := h.lt x hx; omega
      · rw [List.mem_singleton.1 hx]; exact (by show wr.heap.size + 1 ≠ wr.heap.size; omega)) hs h1
    rwa [List.append_assoc] at a2
set_option maxRecDepth 100000 in
set_option maxHeartbeats 8000000 in
theorem walk_FdirRaises (cs0 : List Value) (n1_0 n1_1 n1_2 a2 a3 : Int) (w : World) (w0 : Fit w [.int .u8, .int .u8, .int .u8, .int .u8, .int .u8, .int .u8, .int .u8, .int .u8, .int .u8, .int .u8] cs0) (w1_0 : (Lit.int .u8 n1_0).wf = true) (w1_1 : (Lit.int .i64 n1_1).wf = true) (w1_2 : (Lit.int .u8 n1_2).wf = true) (w2 : (Lit.int .u8 a2).wf = true) (w3 : (Lit.int .u8 a3).wf = true) :
    Calls Try.prog 7 #[.agg cs0.toArray, .agg #[.int .u8 n1_0, .int .i64 n1_1, .int .u8 n1_2], .int .u8 a2, .int .u8 a3] w fun e w' => e = .returned (.bool true) ∧ Below w.heap.size w w' := by
  obtain ⟨L, C, hL, hC, e0⟩ := ld_fit w0
  rw [e0]
  obtain ⟨r0, r1⟩ := bounds_u8 w1_0
  obtain ⟨s0, s1⟩ := bounds_u8 w1_2
  obtain ⟨t0, t1⟩ := bounds_u8 w2
  obtain ⟨v0, v1⟩ := bounds_u8 w3
  obtain ⟨l, rfl⟩ := Int.eq_ofNat_of_zero_le r0
  obtain ⟨ev, rfl⟩ := Int.eq_ofNat_of_zero_le s0
  obtain ⟨inh, rfl⟩ := Int.eq_ofNat_of_zero_le t0
  obtain ⟨lev, rfl⟩ := Int.eq_ofNat_of_zero_le v0
  have hl : l < 256 := by omega
  have hev : ev < 256 := by omega
  have hinh : inh < 256 := by omega
  have hlev : lev < 256 := by omega
  obtain ⟨u, hu⟩ : ∃ u, u = n1_1 := ⟨_, rfl⟩
  rw [← hu] at w1_1 ⊢
  have HLC := Lib.hid (show Lb L ∧ Lb C from ⟨hL, hC⟩)
  have HU := Lib.hid w1_1
  clear w0 w1_0 w1_1 w1_2 w2 w3 e0 r0 r1 s0 s1 t0 t1 v0 v1 hL hC hu cs0 n1_1
  have hz := zero_ld
  have hz2 := zero_al
  have hq := ((Bq.nil w).new #[.int .u8 ((L 0 : Nat) : Int), .int .u8 ((L 1 : Nat) : Int), .int .u8 ((L 2 : Nat) : Int), .int .u8 ((L 3 : Nat) : Int), .int .u8 ((L 4 : Nat) : Int), .int .u8 ((C 0 : Nat) : Int), .int .u8 ((C 1 : Nat) : Int), .int .u8 ((C 2 : Nat) : Int), .int .u8 ((C 3 : Nat) : Int), .int .u8 ((C 4 : Nat) : Int)] 100).new #[.int .u8 ((l : Nat) : Int), .int .i64 u, .int .u8 ((ev : Nat) : Int)] 84
  go_enter Try.func7, Try.ntmps7
  go_upto_region 1 with fail
  rw [show (w.alloc (.cells #[.int .u8 ((L 0 : Nat) : Int), .int .u8 ((L 1 : Nat) : Int), .int .u8 ((L 2 : Nat) : Int), .int .u8 ((L 3 : Nat) : Int), .int .u8 ((L 4 : Nat) : Int), .int .u8 ((C 0 : Nat) : Int), .int .u8 ((C 1 : Nat) : Int), .int .u8 ((C 2 : Nat) : Int), .int .u8 ((C 3 : Nat) : Int), .int .u8 ((C 4 : Nat) : Int)] 100)).heap.size = w.heap.size + 1 by simp] at hq
  obtain ⟨w1, hw1⟩ : ∃ w1, w1 = (w.alloc (.cells #[.int .u8 ((L 0 : Nat) : Int), .int .u8 ((L 1 : Nat) : Int), .int .u8 ((L 2 : Nat) : Int), .int .u8 ((L 3 : Nat) : Int), .int .u8 ((L 4 : Nat) : Int), .int .u8 ((C 0 : Nat) : Int), .int .u8 ((C 1 : Nat) : Int), .int .u8 ((C 2 : Nat) : Int), .int .u8 ((C 3 : Nat) : Int), .int .u8 ((C 4 : Nat) : Int)] 100)).alloc (.cells #[.int .u8 ((l : Nat) : Int), .int .i64 u, .int .u8 ((ev : Nat) : Int)] 84) := ⟨_, rfl⟩
  rw [← hw1] at hq ⊢
  obtain ⟨g1, hg1⟩ : ∃ g, g = w.heap.size + 1 := ⟨_, rfl⟩
  rw [← hg1] at hq ⊢
  obtain ⟨g0, hg0⟩ : ∃ g, g = w.heap.size := ⟨_, rfl⟩
  rw [← hg0] at hq
  rw [show (Value.pointer (some ⟨w.heap.size, 0, none⟩)) = .pointer (some ⟨g0, 0, none⟩) by rw [hg0]]
  have HQ := Lib.hid (show Bq w w1 [(g0, #[.int .u8 ((L 0 : Nat) : Int), .int .u8 ((L 1 : Nat) : Int), .int .u8 ((L 2 : Nat) : Int), .int .u8 ((L 3 : Nat) : Int), .int .u8 ((L 4 : Nat) : Int), .int .u8 ((C 0 : Nat) : Int), .int .u8 ((C 1 : Nat) : Int), .int .u8 ((C 2 : Nat) : Int), .int .u8 ((C 3 : Nat) : Int), .int .u8 ((C 4 : Nat) : Int)], 100), (g1, #[.int .u8 ((l : Nat) : Int), .int .i64 u, .int .u8 ((ev : Nat) : Int)], 84)] from hq)
  clear hq hw1 hg1 hg0
  go_wp2_with fail
  go_at_call 42
  refine (awake22 _).mono ?_
  rintro e w2 ⟨rfl, hb⟩
  have HQ2 := Lib.hid (HQ.out.step hb)
  clear hb HQ
  go_upto_region 3 with fail
  have b0 := HQ2.out.of 0 rfl
  have b1 := HQ2.out.of 1 rfl
  have HLV := Lib.hid (rLevel_any L C l u ev inh · hl hinh)
  cases hrs : rsL inh L C l u with
  | none =>
    rw [hrs] at HLV
    go_wp2_with (first | ((with_reducible show wpList _ _ _ (_ :: _) _ _); refine wpList_load_row rfl 100 _ rfl _ rfl _ _ _ _ b0 Try.underlying100 rfl (by exact size_ld) ?_; (try go_simp)) | ((with_reducible show wpList _ _ _ (_ :: _) _ _); refine wpList_load_row rfl 84 _ rfl _ rfl _ _ _ _ b1 Try.underlying84 rfl (by exact size_al) ?_; (try go_simp)))
    refine (Raise_no L C l u ev inh _ hl hinh hrs).mono ?_
    rintro e w3 ⟨rfl, hb⟩
    have HQ3 := Lib.hid (HQ2.out.step hb)
    clear hb HQ2 b0 b1 hrs
    skip
    obtain ⟨hq0, q1, q2⟩ := HQ3.out.pair #[.int .u8 0, .int .u8 0, .int .u8 0, .int .u8 0, .int .u8 0, .int .u8 0, .int .u8 0, .int .u8 0, .int .u8 0, .int .u8 0] #[.int .u8 0, .int .i64 0, .int .u8 0] #[.int .u8 ((L 0 : Nat) : Int), .int .u8 ((L 1 : Nat) : Int), .int .u8 ((L 2 : Nat) : Int), .int .u8 ((L 3 : Nat) : Int), .int .u8 ((L 4 : Nat) : Int), .int .u8 ((C 0 : Nat) : Int), .int .u8 ((C 1 : Nat) : Int), .int .u8 ((C 2 : Nat) : Int), .int .u8 ((C 3 : Nat) : Int), .int .u8 ((C 4 : Nat) : Int)] #[.int .u8 0, .int .i64 0, .int .u8 0] 100 84
    obtain ⟨wA, hwA⟩ : ∃ xW, (w3.alloc (.cells #[.int .u8 0, .int .u8 0, .int .u8 0, .int .u8 0, .int .u8 0, .int .u8 0, .int .u8 0, .int .u8 0, .int .u8 0, .int .u8 0] 100)).alloc (.cells #[.int .u8 0, .int .i64 0, .int .u8 0] 84) = xW := ⟨_, rfl⟩
    rw [hwA] at hq0 q1 q2
    obtain ⟨wB, hwB⟩ : ∃ xW, wA.setRow w3.heap.size #[.int .u8 ((L 0 : Nat) : Int), .int .u8 ((L 1 : Nat) : Int), .int .u8 ((L 2 : Nat) : Int), .int .u8 ((L 3 : Nat) : Int), .int .u8 ((L 4 : Nat) : Int), .int .u8 ((C 0 : Nat) : Int), .int .u8 ((C 1 : Nat) : Int), .int .u8 ((C 2 : Nat) : Int), .int .u8 ((C 3 : Nat) : Int), .int .u8 ((C 4 : Nat) : Int)] = xW := ⟨_, rfl⟩
    rw [hwB] at hq0 q2
    obtain ⟨wC, hwC⟩ : ∃ xW, wB.setRow (w3.heap.size + 1) #[.int .u8 0, .int .i64 0, .int .u8 0] = xW := ⟨_, rfl⟩
    rw [hwC] at hq0
    have HQ4 := Lib.hid hq0
    clear hq0 HQ3
    go_upto_region 4 with (first | ((with_reducible show wpList _ _ _ (_ :: _) _ _); (try rw [hwA]); refine wpList_store_row rfl 100 _ _ rfl _ _ rfl rfl _ _ q1 (by exact size_ld) (by rfl) (by simp [Value.oneCell']) ?_; rw [hwB]) | ((with_reducible show wpList _ _ _ (_ :: _) _ _); refine wpList_store_row rfl 84 _ _ rfl _ _ rfl rfl _ _ q2 (by exact size_al) (by rfl) (by simp [Value.oneCell']) ?_; rw [hwC]))
    clear q1 q2 hwA hwB hwC
    have b0 := HQ4.out.of 0 rfl
    have b1 := HQ4.out.of 1 rfl
    have c0 := cell_of_row _ _ 0 _ _ _ b0
    have c1 := cell_of_row _ _ 1 _ _ _ b0
    have c2 := cell_of_row _ _ 2 _ _ _ b0
    have c3 := cell_of_row _ _ 3 _ _ _ b0
    have c4 := cell_of_row _ _ 4 _ _ _ b0
    have c5 := cell_of_row _ _ 5 _ _ _ b0
    have c6 := cell_of_row _ _ 6 _ _ _ b0
    have c7 := cell_of_row _ _ 7 _ _ _ b0
    have c8 := cell_of_row _ _ 8 _ _ _ b0
    have c9 := cell_of_row _ _ 9 _ _ _ b0
    clear b0
    go_wp2_with ((with_reducible show wpList _ _ _ (_ :: _) _ _); refine wpList_load_row rfl 84 _ rfl _ rfl _ _ _ _ b1 Try.underlying84 rfl (by exact size_al) ?_; (try go_simp))
    refine (HLV.out _).mono ?_
    dsimp only [lvI]
    rintro e w4 ⟨rfl, hb⟩
    have HQ5 := Lib.hid (HQ4.out.step hb)
    clear hb HQ4 b1 c0 c1 c2 c3 c4 c5 c6 c7 c8 c9 HLV
    go_upto_region 8 with fail
    have b0 := HQ5.out.of 0 rfl
    have b9 := HQ5.out.of 2 rfl
    have b10 := HQ5.out.of 3 rfl
    have k0 := cell_of_row _ _ 0 _ _ _ b10
    have k1 := cell_of_row _ _ 1 _ _ _ b10
    have k2 := cell_of_row _ _ 2 _ _ _ b10
    have he := eqLd HLC.out.1 HLC.out.2
    clear b10
    go_wp2_with (first | ((with_reducible show wpList _ _ _ (_ :: _) _ _); refine wpList_load_row rfl 100 _ rfl _ rfl _ _ _ _ b0 Try.underlying100 rfl (by exact size_ld) ?_; (try go_simp)) | ((with_reducible show wpList _ _ _ (_ :: _) _ _); refine wpList_load_row rfl 100 _ rfl _ rfl _ _ _ _ b9 Try.underlying100 rfl (by exact size_ld) ?_; (try go_simp)))
    go_ret
    exact ⟨rfl, HQ5.out.be⟩
  | some k =>
    rw [hrs] at HLV
    have hk : k < 5 := by
      have h := hrs
      unfold rsL at h
      split at h
      · exact act_lt inh L C (5 - l) none (fun j hj => by cases hj) k h
      · cases h
    go_wp2_with (first | ((with_reducible show wpList _ _ _ (_ :: _) _ _); refine wpList_load_row rfl 100 _ rfl _ rfl _ _ _ _ b0 Try.underlying100 rfl (by exact size_ld) ?_; (try go_simp)) | ((with_reducible show wpList _ _ _ (_ :: _) _ _); refine wpList_load_row rfl 84 _ rfl _ rfl _ _ _ _ b1 Try.underlying84 rfl (by exact size_al) ?_; (try go_simp)))
    refine (Raise_yes L C l u ev inh k _ hl hinh HLC.out.2 hrs).mono ?_
    rintro e w3 ⟨rfl, hb⟩
    have HQ3 := Lib.hid (HQ2.out.step hb)
    clear hb HQ2 b0 b1 hrs
    skip
    obtain ⟨hq0, q1, q2⟩ := HQ3.out.pair #[.int .u8 0, .int .u8 0, .int .u8 0, .int .u8 0, .int .u8 0, .int .u8 0, .int .u8 0, .int .u8 0, .int .u8 0, .int .u8 0] #[.int .u8 0, .int .i64 0, .int .u8 0] #[.int .u8 ((L 0 : Nat) : Int), .int .u8 ((L 1 : Nat) : Int), .int .u8 ((L 2 : Nat) : Int), .int .u8 ((L 3 : Nat) : Int), .int .u8 ((L 4 : Nat) : Int), .int .u8 ((bump C k 0 : Nat) : Int), .int .u8 ((bump C k 1 : Nat) : Int), .int .u8 ((bump C k 2 : Nat) : Int), .int .u8 ((bump C k 3 : Nat) : Int), .int .u8 ((bump C k 4 : Nat) : Int)] #[.int .u8 ((k : Nat) : Int), .int .i64 u, .int .u8 ((ev : Nat) : Int)] 100 84
    obtain ⟨wA, hwA⟩ : ∃ xW, (w3.alloc (.cells #[.int .u8 0, .int .u8 0, .int .u8 0, .int .u8 0, .int .u8 0, .int .u8 0, .int .u8 0, .int .u8 0, .int .u8 0, .int .u8 0] 100)).alloc (.cells #[.int .u8 0, .int .i64 0, .int .u8 0] 84) = xW := ⟨_, rfl⟩
    rw [hwA] at hq0 q1 q2
    obtain ⟨wB, hwB⟩ : ∃ xW, wA.setRow w3.heap.size #[.int .u8 ((L 0 : Nat) : Int), .int .u8 ((L 1 : Nat) : Int), .int .u8 ((L 2 : Nat) : Int), .int .u8 ((L 3 : Nat) : Int), .int .u8 ((L 4 : Nat) : Int), .int .u8 ((bump C k 0 : Nat) : Int), .int .u8 ((bump C k 1 : Nat) : Int), .int .u8 ((bump C k 2 : Nat) : Int), .int .u8 ((bump C k 3 : Nat) : Int), .int .u8 ((bump C k 4 : Nat) : Int)] = xW := ⟨_, rfl⟩
    rw [hwB] at hq0 q2
    obtain ⟨wC, hwC⟩ : ∃ xW, wB.setRow (w3.heap.size + 1) #[.int .u8 ((k : Nat) : Int), .int .i64 u, .int .u8 ((ev : Nat) : Int)] = xW := ⟨_, rfl⟩
    rw [hwC] at hq0
    have HQ4 := Lib.hid hq0
    clear hq0 HQ3
    go_upto_region 4 with (first | ((with_reducible show wpList _ _ _ (_ :: _) _ _); (try rw [hwA]); refine wpList_store_row rfl 100 _ _ rfl _ _ rfl rfl _ _ q1 (by exact size_ld) (by rfl) (by simp [Value.oneCell']) ?_; rw [hwB]) | ((with_reducible show wpList _ _ _ (_ :: _) _ _); refine wpList_store_row rfl 84 _ _ rfl _ _ rfl rfl _ _ q2 (by exact size_al) (by rfl) (by simp [Value.oneCell']) ?_; rw [hwC]))
    clear q1 q2 hwA hwB hwC
    have b0 := HQ4.out.of 0 rfl
    have b1 := HQ4.out.of 1 rfl
    have c0 := cell_of_row _ _ 0 _ _ _ b0
    have c1 := cell_of_row _ _ 1 _ _ _ b0
    have c2 := cell_of_row _ _ 2 _ _ _ b0
    have c3 := cell_of_row _ _ 3 _ _ _ b0
    have c4 := cell_of_row _ _ 4 _ _ _ b0
    have c5 := cell_of_row _ _ 5 _ _ _ b0
    have c6 := cell_of_row _ _ 6 _ _ _ b0
    have c7 := cell_of_row _ _ 7 _ _ _ b0
    have c8 := cell_of_row _ _ 8 _ _ _ b0
    have c9 := cell_of_row _ _ 9 _ _ _ b0
    clear b0
    go_wp2_with ((with_reducible show wpList _ _ _ (_ :: _) _ _); refine wpList_load_row rfl 84 _ rfl _ rfl _ _ _ _ b1 Try.underlying84 rfl (by exact size_al) ?_; (try go_simp))
    refine (HLV.out _).mono ?_
    dsimp only [lvI]
    rintro e w4 ⟨rfl, hb⟩
    have HQ5 := Lib.hid (HQ4.out.step hb)
    clear hb HQ4 b1 c0 c1 c2 c3 c4 c5 c6 c7 c8 c9 HLV
    go_upto_region 9 with fail
    have b0 := HQ5.out.of 0 rfl
    go_upto_region 10 with (first | ((with_reducible show wpList _ _ _ (_ :: _) _ _); refine wpList_load_row rfl 100 _ rfl _ rfl _ _ _ _ b0 Try.underlying100 rfl (by exact size_ld) ?_; (try go_simp)) | ((with_reducible show wpList _ _ _ (_ :: _) _ _); refine wpList_store_row rfl 100 _ _ rfl _ _ rfl rfl _ _ (heap_alloc_new _ _) (by exact size_ld) (by rfl) (by simp [Value.oneCell']) ?_; rw [World.setRow_alloc_new]))
    have HQ6 := Lib.hid (HQ5.out.new #[.int .u8 ((L 0 : Nat) : Int), .int .u8 ((L 1 : Nat) : Int), .int .u8 ((L 2 : Nat) : Int), .int .u8 ((L 3 : Nat) : Int), .int .u8 ((L 4 : Nat) : Int), .int .u8 ((C 0 : Nat) : Int), .int .u8 ((C 1 : Nat) : Int), .int .u8 ((C 2 : Nat) : Int), .int .u8 ((C 3 : Nat) : Int), .int .u8 ((C 4 : Nat) : Int)] 100)
    obtain ⟨w5, hw5⟩ : ∃ w5, w5 = w4.alloc (.cells #[.int .u8 ((L 0 : Nat) : Int), .int .u8 ((L 1 : Nat) : Int), .int .u8 ((L 2 : Nat) : Int), .int .u8 ((L 3 : Nat) : Int), .int .u8 ((L 4 : Nat) : Int), .int .u8 ((C 0 : Nat) : Int), .int .u8 ((C 1 : Nat) : Int), .int .u8 ((C 2 : Nat) : Int), .int .u8 ((C 3 : Nat) : Int), .int .u8 ((C 4 : Nat) : Int)] 100) := ⟨_, rfl⟩
    obtain ⟨g13, hg13⟩ : ∃ g, g = w4.heap.size := ⟨_, rfl⟩
    obtain ⟨g10, hg10⟩ : ∃ g, g = w3.heap.size + 1 := ⟨_, rfl⟩
    rw [← hw5, ← hg13, ← hg10] at HQ6
    rw [← hw5, ← hg13, ← hg10]
    obtain ⟨g9, hg9⟩ : ∃ g, g = w3.heap.size := ⟨_, rfl⟩
    rw [← hg9] at HQ6
    rw [← hg9]
    clear hw5 hg13 hg10 hg9 b0 HQ5
    have b13 := HQ6.out.of 4 rfl
    have c0 := cell_of_row _ _ (5 + k) _ _ _ b13
    rw [ld_cnt L C hk] at c0
    have f0 := frozen_of_row _ _ (5 + k) _ _ b13
    clear b13
    simp only [Act.put]
    go_upto_if 52 with fail
    go_cut [] (fun wx => Bq w wx [(g0, #[.int .u8 ((L 0 : Nat) : Int), .int .u8 ((L 1 : Nat) : Int), .int .u8 ((L 2 : Nat) : Int), .int .u8 ((L 3 : Nat) : Int), .int .u8 ((L 4 : Nat) : Int), .int .u8 ((C 0 : Nat) : Int), .int .u8 ((C 1 : Nat) : Int), .int .u8 ((C 2 : Nat) : Int), .int .u8 ((C 3 : Nat) : Int), .int .u8 ((C 4 : Nat) : Int)], 100), (g1, #[.int .u8 ((l : Nat) : Int), .int .i64 u, .int .u8 ((ev : Nat) : Int)], 84), (g9, #[.int .u8 ((L 0 : Nat) : Int), .int .u8 ((L 1 : Nat) : Int), .int .u8 ((L 2 : Nat) : Int), .int .u8 ((L 3 : Nat) : Int), .int .u8 ((L 4 : Nat) : Int), .int .u8 ((bump C k 0 : Nat) : Int), .int .u8 ((bump C k 1 : Nat) : Int), .int .u8 ((bump C k 2 : Nat) : Int), .int .u8 ((bump C k 3 : Nat) : Int), .int .u8 ((bump C k 4 : Nat) : Int)], 100), (g10, #[.int .u8 ((k : Nat) : Int), .int .i64 u, .int .u8 ((ev : Nat) : Int)], 84), (g13, #[.int .u8 ((L 0 : Nat) : Int), .int .u8 ((L 1 : Nat) : Int), .int .u8 ((L 2 : Nat) : Int), .int .u8 ((L 3 : Nat) : Int), .int .u8 ((L 4 : Nat) : Int), .int .u8 ((bump C k 0 : Nat) : Int), .int .u8 ((bump C k 1 : Nat) : Int), .int .u8 ((bump C k 2 : Nat) : Int), .int .u8 ((bump C k 3 : Nat) : Int), .int .u8 ((bump C k 4 : Nat) : Int)], 100)])
    case first =>
      by_cases h255 : C k < 255
      · have hbu : bump C k = upd C k (C k + 1) := if_pos h255
        have hv := HQ6.out.set 4 rfl (5 + k) (.int .u8 ((C k + 1 : Nat) : Int))
        rw [set_cnt L C hk, ← hbu] at hv
        have HV := Lib.hid hv
        clear hbu hv
        go_wp2
        go_meet
        case rel => exact HV.out
      · have hbu : bump C k = C := if_neg h255
        have hv := HQ6.out
        rw [hbu] at hv
        have HV := Lib.hid hv
        have HBU := Lib.hid hbu
        clear hbu hv
        go_wp2
        go_meet
        case rel => rw [HBU.out]; exact HV.out
    case rest =>
    clear c0 f0 HQ6
    have HQ7 := Lib.hid hcut
    clear hcut
    go_upto_region 12 with fail
    have b0 := HQ7.out.of 0 rfl
    have l0 := box_lt b0
    obtain ⟨w6, hw6⟩ : ∃ w6, w6 = wc := ⟨_, rfl⟩
    rw [← hw6] at HQ7 b0 l0 ⊢
    clear hw6
    have HA2 := Lib.hid (HQ7.out.both #[.int .u8 ((L 0 : Nat) : Int), .int .u8 ((L 1 : Nat) : Int), .int .u8 ((L 2 : Nat) : Int), .int .u8 ((L 3 : Nat) : Int), .int .u8 ((L 4 : Nat) : Int), .int .u8 ((C 0 : Nat) : Int), .int .u8 ((C 1 : Nat) : Int), .int .u8 ((C 2 : Nat) : Int), .int .u8 ((C 3 : Nat) : Int), .int .u8 ((C 4 : Nat) : Int)] #[.int .u8 ((L 0 : Nat) : Int), .int .u8 ((L 1 : Nat) : Int), .int .u8 ((L 2 : Nat) : Int), .int .u8 ((L 3 : Nat) : Int), .int .u8 ((L 4 : Nat) : Int), .int .u8 ((C 0 : Nat) : Int), .int .u8 ((C 1 : Nat) : Int), .int .u8 ((C 2 : Nat) : Int), .int .u8 ((C 3 : Nat) : Int), .int .u8 ((C 4 : Nat) : Int)] 100 100)
    have c0 := cell_of_row _ _ 0 _ _ _ b0
    have c1 := cell_of_row _ _ 1 _ _ _ b0
    have c2 := cell_of_row _ _ 2 _ _ _ b0
    have c3 := cell_of_row _ _ 3 _ _ _ b0
    have c4 := cell_of_row _ _ 4 _ _ _ b0
    have c5 := cell_of_row _ _ 5 _ _ _ b0
    have c6 := cell_of_row _ _ 6 _ _ _ b0
    have c7 := cell_of_row _ _ 7 _ _ _ b0
    have c8 := cell_of_row _ _ 8 _ _ _ b0
    have c9 := cell_of_row _ _ 9 _ _ _ b0
    clear b0
    go_cut [14, 15] (fun p14 p15 wx => ∃ g14 g15, p14 = .pointer (some ⟨g14, 0, none⟩) ∧ p15 = .pointer (some ⟨g15, 0, none⟩) ∧ Bq w wx [(g0, #[.int .u8 ((L 0 : Nat) : Int), .int .u8 ((L 1 : Nat) : Int), .int .u8 ((L 2 : Nat) : Int), .int .u8 ((L 3 : Nat) : Int), .int .u8 ((L 4 : Nat) : Int), .int .u8 ((C 0 : Nat) : Int), .int .u8 ((C 1 : Nat) : Int), .int .u8 ((C 2 : Nat) : Int), .int .u8 ((C 3 : Nat) : Int), .int .u8 ((C 4 : Nat) : Int)], 100), (g1, #[.int .u8 ((l : Nat) : Int), .int .i64 u, .int .u8 ((ev : Nat) : Int)], 84), (g9, #[.int .u8 ((L 0 : Nat) : Int), .int .u8 ((L 1 : Nat) : Int), .int .u8 ((L 2 : Nat) : Int), .int .u8 ((L 3 : Nat) : Int), .int .u8 ((L 4 : Nat) : Int), .int .u8 ((bump C k 0 : Nat) : Int), .int .u8 ((bump C k 1 : Nat) : Int), .int .u8 ((bump C k 2 : Nat) : Int), .int .u8 ((bump C k 3 : Nat) : Int), .int .u8 ((bump C k 4 : Nat) : Int)], 100), (g10, #[.int .u8 ((k : Nat) : Int), .int .i64 u, .int .u8 ((ev : Nat) : Int)], 84), (g13, #[.int .u8 ((L 0 : Nat) : Int), .int .u8 ((L 1 : Nat) : Int), .int .u8 ((L 2 : Nat) : Int), .int .u8 ((L 3 : Nat) : Int), .int .u8 ((L 4 : Nat) : Int), .int .u8 ((bump C k 0 : Nat) : Int), .int .u8 ((bump C k 1 : Nat) : Int), .int .u8 ((bump C k 2 : Nat) : Int), .int .u8 ((bump C k 3 : Nat) : Int), .int .u8 ((bump C k 4 : Nat) : Int)], 100), (g14, #[.int .u8 ((L 0 : Nat) : Int), .int .u8 ((L 1 : Nat) : Int), .int .u8 ((L 2 : Nat) : Int), .int .u8 ((L 3 : Nat) : Int), .int .u8 ((L 4 : Nat) : Int), .int .u8 ((C 0 : Nat) : Int), .int .u8 ((C 1 : Nat) : Int), .int .u8 ((C 2 : Nat) : Int), .int .u8 ((C 3 : Nat) : Int), .int .u8 ((C 4 : Nat) : Int)], 100), (g15, #[.int .u8 ((L 0 : Nat) : Int), .int .u8 ((L 1 : Nat) : Int), .int .u8 ((L 2 : Nat) : Int), .int .u8 ((L 3 : Nat) : Int), .int .u8 ((L 4 : Nat) : Int), .int .u8 ((C 0 : Nat) : Int), .int .u8 ((C 1 : Nat) : Int), .int .u8 ((C 2 : Nat) : Int), .int .u8 ((C 3 : Nat) : Int), .int .u8 ((C 4 : Nat) : Int)], 100)])
    case first =>
      go_region_with fail
      all_goals
        clear c0 c1 c2 c3 c4 c5 c6 c7 c8 c9
        go_wp2_with fail
        go_meet
        case rel => first | exact ⟨_, _, rfl, rfl, HA2.out.1⟩ | exact ⟨_, _, rfl, rfl, HA2.out.2⟩
    case rest =>
    obtain ⟨g14, g15, rfl, rfl, hq⟩ := hcut
    have HQ8 := Lib.hid hq
    clear hq c0 c1 c2 c3 c4 c5 c6 c7 c8 c9 HA2 HQ7 l0
    obtain ⟨w7, hw7⟩ : ∃ w7, w7 = wc := ⟨_, rfl⟩
    rw [← hw7] at HQ8 ⊢
    clear hw7
    have b14 := HQ8.out.of 5 rfl
    have c0 := cell_of_row _ _ 5 _ _ _ b14
    have c1 := cell_of_row _ _ 6 _ _ _ b14
    have c2 := cell_of_row _ _ 7 _ _ _ b14
    have c3 := cell_of_row _ _ 8 _ _ _ b14
    have c4 := cell_of_row _ _ 9 _ _ _ b14
    have f0 := frozen_of_row _ _ 5 _ _ b14
    have f1 := frozen_of_row _ _ 6 _ _ b14
    have f2 := frozen_of_row _ _ 7 _ _ b14
    have f3 := frozen_of_row _ _ 8 _ _ b14
    have f4 := frozen_of_row _ _ 9 _ _ b14
    clear b14
    have hz5 : ∀ w, (zeroValue 98).run Try.prog w = .ok (.agg #[.int .u8 0, .int .u8 0, .int .u8 0, .int .u8 0, .int .u8 0]) w := fun w => by kernel_rfl
    go_upto_region 14 with fail
    have hv := ((((HQ8.out.set 5 rfl 5 (.int .u8 0)).set 5 rfl 6 (.int .u8 0)).set 5 rfl 7 (.int .u8 0)).set 5 rfl 8 (.int .u8 0)).set 5 rfl 9 (.int .u8 0)
    have HQ9 := Lib.hid (show Bq w _ [(g0, #[.int .u8 ((L 0 : Nat) : Int), .int .u8 ((L 1 : Nat) : Int), .int .u8 ((L 2 : Nat) : Int), .int .u8 ((L 3 : Nat) : Int), .int .u8 ((L 4 : Nat) : Int), .int .u8 ((C 0 : Nat) : Int), .int .u8 ((C 1 : Nat) : Int), .int .u8 ((C 2 : Nat) : Int), .int .u8 ((C 3 : Nat) : Int), .int .u8 ((C 4 : Nat) : Int)], 100), (g1, #[.int .u8 ((l : Nat) : Int), .int .i64 u, .int .u8 ((ev : Nat) : Int)], 84), (g9, #[.int .u8 ((L 0 : Nat) : Int), .int .u8 ((L 1 : Nat) : Int), .int .u8 ((L 2 : Nat) : Int), .int .u8 ((L 3 : Nat) : Int), .int .u8 ((L 4 : Nat) : Int), .int .u8 ((bump C k 0 : Nat) : Int), .int .u8 ((bump C k 1 : Nat) : Int), .int .u8 ((bump C k 2 : Nat) : Int), .int .u8 ((bump C k 3 : Nat) : Int), .int .u8 ((bump C k 4 : Nat) : Int)], 100), (g10, #[.int .u8 ((k : Nat) : Int), .int .i64 u, .int .u8 ((ev : Nat) : Int)], 84), (g13, #[.int .u8 ((L 0 : Nat) : Int), .int .u8 ((L 1 : Nat) : Int), .int .u8 ((L 2 : Nat) : Int), .int .u8 ((L 3 : Nat) : Int), .int .u8 ((L 4 : Nat) : Int), .int .u8 ((bump C k 0 : Nat) : Int), .int .u8 ((bump C k 1 : Nat) : Int), .int .u8 ((bump C k 2 : Nat) : Int), .int .u8 ((bump C k 3 : Nat) : Int), .int .u8 ((bump C k 4 : Nat) : Int)], 100), (g14, #[.int .u8 ((L 0 : Nat) : Int), .int .u8 ((L 1 : Nat) : Int), .int .u8 ((L 2 : Nat) : Int), .int .u8 ((L 3 : Nat) : Int), .int .u8 ((L 4 : Nat) : Int), .int .u8 ((zF 0 : Nat) : Int), .int .u8 ((zF 1 : Nat) : Int), .int .u8 ((zF 2 : Nat) : Int), .int .u8 ((zF 3 : Nat) : Int), .int .u8 ((zF 4 : Nat) : Int)], 100), (g15, #[.int .u8 ((L 0 : Nat) : Int), .int .u8 ((L 1 : Nat) : Int), .int .u8 ((L 2 : Nat) : Int), .int .u8 ((L 3 : Nat) : Int), .int .u8 ((L 4 : Nat) : Int), .int .u8 ((C 0 : Nat) : Int), .int .u8 ((C 1 : Nat) : Int), .int .u8 ((C 2 : Nat) : Int), .int .u8 ((C 3 : Nat) : Int), .int .u8 ((C 4 : Nat) : Int)], 100)] from hv)
    obtain ⟨w8, hw8⟩ : ∃ w8, w8 = ((((w7.setCell ⟨g14, 5, none⟩ (.int .u8 0)).setCell ⟨g14, 6, none⟩ (.int .u8 0)).setCell ⟨g14, 7, none⟩ (.int .u8 0)).setCell ⟨g14, 8, none⟩ (.int .u8 0)).setCell ⟨g14, 9, none⟩ (.int .u8 0) := ⟨_, rfl⟩
    rw [← hw8] at HQ9 ⊢
    clear hw8 hv HQ8 c0 c1 c2 c3 c4 f0 f1 f2 f3 f4 hz5
    go_upto_if 65 with fail
    go_cut [] (fun wx => Bq w wx [(g0, #[.int .u8 ((L 0 : Nat) : Int), .int .u8 ((L 1 : Nat) : Int), .int .u8 ((L 2 : Nat) : Int), .int .u8 ((L 3 : Nat) : Int), .int .u8 ((L 4 : Nat) : Int), .int .u8 ((C 0 : Nat) : Int), .int .u8 ((C 1 : Nat) : Int), .int .u8 ((C 2 : Nat) : Int), .int .u8 ((C 3 : Nat) : Int), .int .u8 ((C 4 : Nat) : Int)], 100), (g1, #[.int .u8 ((l : Nat) : Int), .int .i64 u, .int .u8 ((ev : Nat) : Int)], 84), (g9, #[.int .u8 ((L 0 : Nat) : Int), .int .u8 ((L 1 : Nat) : Int), .int .u8 ((L 2 : Nat) : Int), .int .u8 ((L 3 : Nat) : Int), .int .u8 ((L 4 : Nat) : Int), .int .u8 ((bump C k 0 : Nat) : Int), .int .u8 ((bump C k 1 : Nat) : Int), .int .u8 ((bump C k 2 : Nat) : Int), .int .u8 ((bump C k 3 : Nat) : Int), .int .u8 ((bump C k 4 : Nat) : Int)], 100), (g10, #[.int .u8 ((k : Nat) : Int), .int .i64 u, .int .u8 ((ev : Nat) : Int)], 84), (g13, #[.int .u8 ((L 0 : Nat) : Int), .int .u8 ((L 1 : Nat) : Int), .int .u8 ((L 2 : Nat) : Int), .int .u8 ((L 3 : Nat) : Int), .int .u8 ((L 4 : Nat) : Int), .int .u8 ((bump C k 0 : Nat) : Int), .int .u8 ((bump C k 1 : Nat) : Int), .int .u8 ((bump C k 2 : Nat) : Int), .int .u8 ((bump C k 3 : Nat) : Int), .int .u8 ((bump C k 4 : Nat) : Int)], 100), (g14, #[.int .u8 ((L 0 : Nat) : Int), .int .u8 ((L 1 : Nat) : Int), .int .u8 ((L 2 : Nat) : Int), .int .u8 ((L 3 : Nat) : Int), .int .u8 ((L 4 : Nat) : Int), .int .u8 ((zF 0 : Nat) : Int), .int .u8 ((zF 1 : Nat) : Int), .int .u8 ((zF 2 : Nat) : Int), .int .u8 ((zF 3 : Nat) : Int), .int .u8 ((zF 4 : Nat) : Int)], 100), (g15, #[.int .u8 ((L 0 : Nat) : Int), .int .u8 ((L 1 : Nat) : Int), .int .u8 ((L 2 : Nat) : Int), .int .u8 ((L 3 : Nat) : Int), .int .u8 ((L 4 : Nat) : Int), .int .u8 ((upd C lev 0 0 : Nat) : Int), .int .u8 ((upd C lev 0 1 : Nat) : Int), .int .u8 ((upd C lev 0 2 : Nat) : Int), .int .u8 ((upd C lev 0 3 : Nat) : Int), .int .u8 ((upd C lev 0 4 : Nat) : Int)], 100)])
    case first =>
      by_cases h5 : lev < 5
      · have b15 := HQ9.out.of 6 rfl
        have c0 := cell_of_row _ _ (5 + lev) _ _ _ b15
        rw [ld_cnt L C h5] at c0
        have f0 := frozen_of_row _ _ (5 + lev) _ _ b15
        have hv := HQ9.out.set 6 rfl (5 + lev) (.int .u8 ((0 : Nat) : Int))
        rw [set_cnt L C h5] at hv
        have HV := Lib.hid hv
        clear hv b15
        go_wp2
        go_meet
        case rel => exact HV.out
      · have HV := Lib.hid HQ9.out
        have H5 := Lib.hid h5
        go_wp2
        go_meet
        case rel =>
          rw [upd_off H5.out (by decide), upd_off H5.out (by decide), upd_off H5.out (by decide), upd_off H5.out (by decide), upd_off H5.out (by decide)]
          exact HV.out
    case rest =>
    have HQA := Lib.hid hcut
    clear hcut HQ9
    obtain ⟨w9, hw9⟩ : ∃ w9, w9 = wc := ⟨_, rfl⟩
    rw [← hw9] at HQA ⊢
    clear hw9
    go_upto_region 16 with fail
    have b0 := HQA.out.of 0 rfl
    have b1 := HQA.out.of 1 rfl
    have b9 := HQA.out.of 2 rfl
    have b10 := HQA.out.of 3 rfl
    have b13 := HQA.out.of 4 rfl
    have b14 := HQA.out.of 5 rfl
    have b15 := HQA.out.of 6 rfl
    have l0 := box_lt b0
    have l1 := box_lt b1
    have l9 := box_lt b9
    have l10 := box_lt b10
    have l13 := box_lt b13
    have l14 := box_lt b14
    have l15 := box_lt b15
    have lbb := lb_bump HLC.out.2 k
    have lbz : Lb zF := fun _ _ => by unfold zF; decide
    have lbu : Lb (upd C lev 0) := fun j hj => by unfold upd; split; (· omega); (· exact HLC.out.2 j hj)
    have HE1 := Lib.hid (eqLd HLC.out.1 lbb)
    have HE2 := Lib.hid (eqLd HLC.out.1 lbz)
    have HE3 := Lib.hid (eqLd HLC.out.1 lbu)
    have hea : ∀ w, (binOp .eql 84 (.agg #[.int .u8 ((k : Nat) : Int), .int .i64 u, .int .u8 ((ev : Nat) : Int)]) (.agg #[.int .u8 ((k : Nat) : Int), .int .i64 u, .int .u8 ((ev : Nat) : Int)])).run Try.prog w = .ok (.bool true) w := fun w => by rw [eqAl (by omega) HU.out hev (by omega) HU.out hev, decide_eq_true ⟨rfl, rfl, rfl⟩]
    have HEA := Lib.hid hea
    clear lbb lbz lbu hea
    obtain ⟨I, W, hne, hWI, hIW⟩ := Go.Mix.family (fun v => Below w9.heap.size w9 v) (Below.refl _ _)
    have HJ := Lib.hid hIW
    have HW := Lib.hid hWI
    clear hWI hIW
    refine Go.Flo.wp_region (fun w' => ∃ i, w' = W i) 28 [Go.Flo.Spec.is (.agg #[.int .u8 ((L 0 : Nat) : Int), .int .u8 ((L 1 : Nat) : Int), .int .u8 ((L 2 : Nat) : Int), .int .u8 ((L 3 : Nat) : Int), .int .u8 ((L 4 : Nat) : Int), .int .u8 ((zF 0 : Nat) : Int), .int .u8 ((zF 1 : Nat) : Int), .int .u8 ((zF 2 : Nat) : Int), .int .u8 ((zF 3 : Nat) : Int), .int .u8 ((zF 4 : Nat) : Int)]), Go.Flo.Spec.is (.agg #[.int .u8 ((L 0 : Nat) : Int), .int .u8 ((L 1 : Nat) : Int), .int .u8 ((L 2 : Nat) : Int), .int .u8 ((L 3 : Nat) : Int), .int .u8 ((L 4 : Nat) : Int), .int .u8 ((upd C lev 0 0 : Nat) : Int), .int .u8 ((upd C lev 0 1 : Nat) : Int), .int .u8 ((upd C lev 0 2 : Nat) : Int), .int .u8 ((upd C lev 0 3 : Nat) : Int), .int .u8 ((upd C lev 0 4 : Nat) : Int)])] (by kernel_rfl) (by kernel_rfl) (by decide) (by rintro _ w' ⟨i, rfl⟩ hb; exact HJ.out _ ((HW.out i).trans (hb.mono (HW.out i).size))) (HJ.out _ (Below.refl _ _).drew) ?_
    simp only [Go.Flo.pair, Go.Mix.calm, List.take, List.drop, if_true, Bool.false_eq_true, if_false, Nat.reduceAdd, Nat.reduceSub]
    have y1 : ∀ i, (W i).cell? ⟨g1, 1, none⟩ = some (.int .i64 u) := fun i => ((HW.out i).cell (p := ⟨g1, 1, none⟩) l1).trans (cell_of_row _ _ 1 _ _ _ b1)
    have y2 : ∀ i, (W i).cell? ⟨g1, 2, none⟩ = some (.int .u8 ev) := fun i => ((HW.out i).cell (p := ⟨g1, 2, none⟩) l1).trans (cell_of_row _ _ 2 _ _ _ b1)
    (refine Go.Flo.fw_calm rfl ?_ (fun K hK => ?_); (first | exact Go.Mix.wanted_none rfl | exact Go.Mix.wanted_tt rfl rfl rfl | exact Go.Mix.wanted_ff rfl rfl rfl); refine Go.Flo.quiet_load_row 100 _ rfl _ rfl _ #[.int .u8 ((L 0 : Nat) : Int), .int .u8 ((L 1 : Nat) : Int), .int .u8 ((L 2 : Nat) : Int), .int .u8 ((L 3 : Nat) : Int), .int .u8 ((L 4 : Nat) : Int), .int .u8 ((bump C k 0 : Nat) : Int), .int .u8 ((bump C k 1 : Nat) : Int), .int .u8 ((bump C k 2 : Nat) : Int), .int .u8 ((bump C k 3 : Nat) : Int), .int .u8 ((bump C k 4 : Nat) : Int)] _ (by rintro _ ⟨i, rfl⟩; exact ((HW.out i).block _ l9).trans b9) Try.underlying100 rfl size_ld ?_; go_simp; refine hK _ ?_; clear hK K)
    (refine Go.Flo.fw_calm rfl ?_ (fun K hK => ?_); (first | exact Go.Mix.wanted_none rfl | exact Go.Mix.wanted_tt rfl rfl rfl | exact Go.Mix.wanted_ff rfl rfl rfl); refine Go.Flo.quiet_load_row 100 _ rfl _ rfl _ #[.int .u8 ((L 0 : Nat) : Int), .int .u8 ((L 1 : Nat) : Int), .int .u8 ((L 2 : Nat) : Int), .int .u8 ((L 3 : Nat) : Int), .int .u8 ((L 4 : Nat) : Int), .int .u8 ((bump C k 0 : Nat) : Int), .int .u8 ((bump C k 1 : Nat) : Int), .int .u8 ((bump C k 2 : Nat) : Int), .int .u8 ((bump C k 3 : Nat) : Int), .int .u8 ((bump C k 4 : Nat) : Int)] _ (by rintro _ ⟨i, rfl⟩; exact ((HW.out i).block _ l13).trans b13) Try.underlying100 rfl size_ld ?_; go_simp; refine hK _ ?_; clear hK K)
    have he := HE1.out
    (first | (refine Go.Flo.fw_calm rfl ?_ (fun K hK => ?_); (first | exact Go.Mix.wanted_none rfl | exact Go.Mix.wanted_tt rfl rfl rfl | exact Go.Mix.wanted_ff rfl rfl rfl); go_big_quiet_op; refine hK _ ?_; clear hK K) | (refine Go.Flo.fw_skip ?_ (fun K hK => ?_); (first | exact Go.Mix.wanted_tf rfl rfl rfl | exact Go.Mix.wanted_ft rfl rfl rfl); go_simp; refine hK _ ?_; clear hK K) | (refine Go.Flo.fw_any rfl ?_ (fun K hK => ?_); (first | exact Go.Mix.wanted_none rfl | exact Go.Mix.wanted_tt rfl rfl rfl | exact Go.Mix.wanted_ff rfl rfl rfl); go_simp; (try (go_ints; try go_simp)); refine hK _ ?_; clear hK K))
    clear he
    (first | (refine Go.Flo.fw_calm rfl ?_ (fun K hK => ?_); (first | exact Go.Mix.wanted_none rfl | exact Go.Mix.wanted_tt rfl rfl rfl | exact Go.Mix.wanted_ff rfl rfl rfl); go_big_quiet_op; refine hK _ ?_; clear hK K) | (refine Go.Flo.fw_skip ?_ (fun K hK => ?_); (first | exact Go.Mix.wanted_tf rfl rfl rfl | exact Go.Mix.wanted_ft rfl rfl rfl); go_simp; refine hK _ ?_; clear hK K) | (refine Go.Flo.fw_any rfl ?_ (fun K hK => ?_); (first | exact Go.Mix.wanted_none rfl | exact Go.Mix.wanted_tt rfl rfl rfl | exact Go.Mix.wanted_ff rfl rfl rfl); go_simp; (try (go_ints; try go_simp)); refine hK _ ?_; clear hK K))
    (refine Go.Flo.fw_calm rfl ?_ (fun K hK => ?_); (first | exact Go.Mix.wanted_none rfl | exact Go.Mix.wanted_tt rfl rfl rfl | exact Go.Mix.wanted_ff rfl rfl rfl); refine Go.Flo.quiet_load_row 84 _ rfl _ rfl _ #[.int .u8 ((k : Nat) : Int), .int .i64 u, .int .u8 ((ev : Nat) : Int)] _ (by rintro _ ⟨i, rfl⟩; exact ((HW.out i).block _ l10).trans b10) Try.underlying84 rfl size_al ?_; go_simp; refine hK _ ?_; clear hK K)
    (first | (refine Go.Flo.fw_calm rfl ?_ (fun K hK => ?_); (first | exact Go.Mix.wanted_none rfl | exact Go.Mix.wanted_tt rfl rfl rfl | exact Go.Mix.wanted_ff rfl rfl rfl); go_big_quiet_op; refine hK _ ?_; clear hK K) | (refine Go.Flo.fw_skip ?_ (fun K hK => ?_); (first | exact Go.Mix.wanted_tf rfl rfl rfl | exact Go.Mix.wanted_ft rfl rfl rfl); go_simp; refine hK _ ?_; clear hK K) | (refine Go.Flo.fw_any rfl ?_ (fun K hK => ?_); (first | exact Go.Mix.wanted_none rfl | exact Go.Mix.wanted_tt rfl rfl rfl | exact Go.Mix.wanted_ff rfl rfl rfl); go_simp; (try (go_ints; try go_simp)); refine hK _ ?_; clear hK K))
    (first | (refine Go.Flo.fw_calm rfl ?_ (fun K hK => ?_); (first | exact Go.Mix.wanted_none rfl | exact Go.Mix.wanted_tt rfl rfl rfl | exact Go.Mix.wanted_ff rfl rfl rfl); go_big_quiet_op; refine hK _ ?_; clear hK K) | (refine Go.Flo.fw_skip ?_ (fun K hK => ?_); (first | exact Go.Mix.wanted_tf rfl rfl rfl | exact Go.Mix.wanted_ft rfl rfl rfl); go_simp; refine hK _ ?_; clear hK K) | (refine Go.Flo.fw_any rfl ?_ (fun K hK => ?_); (first | exact Go.Mix.wanted_none rfl | exact Go.Mix.wanted_tt rfl rfl rfl | exact Go.Mix.wanted_ff rfl rfl rfl); go_simp; (try (go_ints; try go_simp)); refine hK _ ?_; clear hK K))
    (first | (refine Go.Flo.fw_calm rfl ?_ (fun K hK => ?_); (first | exact Go.Mix.wanted_none rfl | exact Go.Mix.wanted_tt rfl rfl rfl | exact Go.Mix.wanted_ff rfl rfl rfl); go_big_quiet_op; refine hK _ ?_; clear hK K) | (refine Go.Flo.fw_skip ?_ (fun K hK => ?_); (first | exact Go.Mix.wanted_tf rfl rfl rfl | exact Go.Mix.wanted_ft rfl rfl rfl); go_simp; refine hK _ ?_; clear hK K) | (refine Go.Flo.fw_any rfl ?_ (fun K hK => ?_); (first | exact Go.Mix.wanted_none rfl | exact Go.Mix.wanted_tt rfl rfl rfl | exact Go.Mix.wanted_ff rfl rfl rfl); go_simp; (try (go_ints; try go_simp)); refine hK _ ?_; clear hK K))
    (first | (refine Go.Flo.fw_calm rfl ?_ (fun K hK => ?_); (first | exact Go.Mix.wanted_none rfl | exact Go.Mix.wanted_tt rfl rfl rfl | exact Go.Mix.wanted_ff rfl rfl rfl); go_big_quiet_op; refine hK _ ?_; clear hK K) | (refine Go.Flo.fw_skip ?_ (fun K hK => ?_); (first | exact Go.Mix.wanted_tf rfl rfl rfl | exact Go.Mix.wanted_ft rfl rfl rfl); go_simp; refine hK _ ?_; clear hK K) | (refine Go.Flo.fw_any rfl ?_ (fun K hK => ?_); (first | exact Go.Mix.wanted_none rfl | exact Go.Mix.wanted_tt rfl rfl rfl | exact Go.Mix.wanted_ff rfl rfl rfl); go_simp; (try (go_ints; try go_simp)); refine hK _ ?_; clear hK K))
    (first | (refine Go.Flo.fw_calm rfl ?_ (fun K hK => ?_); (first | exact Go.Mix.wanted_none rfl | exact Go.Mix.wanted_tt rfl rfl rfl | exact Go.Mix.wanted_ff rfl rfl rfl); go_big_quiet_op; refine hK _ ?_; clear hK K) | (refine Go.Flo.fw_skip ?_ (fun K hK => ?_); (first | exact Go.Mix.wanted_tf rfl rfl rfl | exact Go.Mix.wanted_ft rfl rfl rfl); go_simp; refine hK _ ?_; clear hK K) | (refine Go.Flo.fw_any rfl ?_ (fun K hK => ?_); (first | exact Go.Mix.wanted_none rfl | exact Go.Mix.wanted_tt rfl rfl rfl | exact Go.Mix.wanted_ff rfl rfl rfl); go_simp; (try (go_ints; try go_simp)); refine hK _ ?_; clear hK K))
    (first | (refine Go.Flo.fw_calm rfl ?_ (fun K hK => ?_); (first | exact Go.Mix.wanted_none rfl | exact Go.Mix.wanted_tt rfl rfl rfl | exact Go.Mix.wanted_ff rfl rfl rfl); go_big_quiet_op; refine hK _ ?_; clear hK K) | (refine Go.Flo.fw_skip ?_ (fun K hK => ?_); (first | exact Go.Mix.wanted_tf rfl rfl rfl | exact Go.Mix.wanted_ft rfl rfl rfl); go_simp; refine hK _ ?_; clear hK K) | (refine Go.Flo.fw_any rfl ?_ (fun K hK => ?_); (first | exact Go.Mix.wanted_none rfl | exact Go.Mix.wanted_tt rfl rfl rfl | exact Go.Mix.wanted_ff rfl rfl rfl); go_simp; (try (go_ints; try go_simp)); refine hK _ ?_; clear hK K))
    (first | (refine Go.Flo.fw_calm rfl ?_ (fun K hK => ?_); (first | exact Go.Mix.wanted_none rfl | exact Go.Mix.wanted_tt rfl rfl rfl | exact Go.Mix.wanted_ff rfl rfl rfl); go_big_quiet_op; refine hK _ ?_; clear hK K) | (refine Go.Flo.fw_skip ?_ (fun K hK => ?_); (first | exact Go.Mix.wanted_tf rfl rfl rfl | exact Go.Mix.wanted_ft rfl rfl rfl); go_simp; refine hK _ ?_; clear hK K) | (refine Go.Flo.fw_any rfl ?_ (fun K hK => ?_); (first | exact Go.Mix.wanted_none rfl | exact Go.Mix.wanted_tt rfl rfl rfl | exact Go.Mix.wanted_ff rfl rfl rfl); go_simp; (try (go_ints; try go_simp)); refine hK _ ?_; clear hK K))
    have he := HEA.out
    (first | (refine Go.Flo.fw_calm rfl ?_ (fun K hK => ?_); (first | exact Go.Mix.wanted_none rfl | exact Go.Mix.wanted_tt rfl rfl rfl | exact Go.Mix.wanted_ff rfl rfl rfl); go_big_quiet_op; refine hK _ ?_; clear hK K) | (refine Go.Flo.fw_skip ?_ (fun K hK => ?_); (first | exact Go.Mix.wanted_tf rfl rfl rfl | exact Go.Mix.wanted_ft rfl rfl rfl); go_simp; refine hK _ ?_; clear hK K) | (refine Go.Flo.fw_any rfl ?_ (fun K hK => ?_); (first | exact Go.Mix.wanted_none rfl | exact Go.Mix.wanted_tt rfl rfl rfl | exact Go.Mix.wanted_ff rfl rfl rfl); go_simp; (try (go_ints; try go_simp)); refine hK _ ?_; clear hK K))
    clear he
    (first | (refine Go.Flo.fw_calm rfl ?_ (fun K hK => ?_); (first | exact Go.Mix.wanted_none rfl | exact Go.Mix.wanted_tt rfl rfl rfl | exact Go.Mix.wanted_ff rfl rfl rfl); go_big_quiet_op; refine hK _ ?_; clear hK K) | (refine Go.Flo.fw_skip ?_ (fun K hK => ?_); (first | exact Go.Mix.wanted_tf rfl rfl rfl | exact Go.Mix.wanted_ft rfl rfl rfl); go_simp; refine hK _ ?_; clear hK K) | (refine Go.Flo.fw_any rfl ?_ (fun K hK => ?_); (first | exact Go.Mix.wanted_none rfl | exact Go.Mix.wanted_tt rfl rfl rfl | exact Go.Mix.wanted_ff rfl rfl rfl); go_simp; (try (go_ints; try go_simp)); refine hK _ ?_; clear hK K))
    (first | (refine Go.Flo.fw_calm rfl ?_ (fun K hK => ?_); (first | exact Go.Mix.wanted_none rfl | exact Go.Mix.wanted_tt rfl rfl rfl | exact Go.Mix.wanted_ff rfl rfl rfl); go_big_quiet_op; refine hK _ ?_; clear hK K) | (refine Go.Flo.fw_skip ?_ (fun K hK => ?_); (first | exact Go.Mix.wanted_tf rfl rfl rfl | exact Go.Mix.wanted_ft rfl rfl rfl); go_simp; refine hK _ ?_; clear hK K) | (refine Go.Flo.fw_any rfl ?_ (fun K hK => ?_); (first | exact Go.Mix.wanted_none rfl | exact Go.Mix.wanted_tt rfl rfl rfl | exact Go.Mix.wanted_ff rfl rfl rfl); go_simp; (try (go_ints; try go_simp)); refine hK _ ?_; clear hK K))
    (refine Go.Flo.fw_calm rfl ?_ (fun K hK => ?_); (first | exact Go.Mix.wanted_none rfl | exact Go.Mix.wanted_tt rfl rfl rfl | exact Go.Mix.wanted_ff rfl rfl rfl); refine Go.Flo.quiet_load_row 100 _ rfl _ rfl _ #[.int .u8 ((L 0 : Nat) : Int), .int .u8 ((L 1 : Nat) : Int), .int .u8 ((L 2 : Nat) : Int), .int .u8 ((L 3 : Nat) : Int), .int .u8 ((L 4 : Nat) : Int), .int .u8 ((C 0 : Nat) : Int), .int .u8 ((C 1 : Nat) : Int), .int .u8 ((C 2 : Nat) : Int), .int .u8 ((C 3 : Nat) : Int), .int .u8 ((C 4 : Nat) : Int)] _ (by rintro _ ⟨i, rfl⟩; exact ((HW.out i).block _ l0).trans b0) Try.underlying100 rfl size_ld ?_; go_simp; refine hK _ ?_; clear hK K)
    refine Go.Flo.fw_loud rfl ?_ rfl (by simp) (fun wv hwv hav K hK => ?_) (fun v hv K hK => ?_)
    · (first | exact Go.Mix.wanted_none rfl | exact Go.Mix.wanted_tt rfl rfl rfl | exact Go.Mix.wanted_ff rfl rfl rfl)
    · obtain ⟨iv, rfl⟩ := hwv
      have hbv := HW.out iv
      (first | go_big_op | go_simp)
      go_at_call 55
      refine (Calm_any L C _).mono ?_
      rintro e w' ⟨rfl, hb⟩
      exact hK _ _ (Go.Flo.owes_is _ rfl hb)
    obtain rfl := hv.is
    go_simp
    refine hK _ ?_
    clear hK K hv
    (refine Go.Flo.fw_calm rfl ?_ (fun K hK => ?_); (first | exact Go.Mix.wanted_none rfl | exact Go.Mix.wanted_tt rfl rfl rfl | exact Go.Mix.wanted_ff rfl rfl rfl); refine Go.Flo.quiet_load_row 100 _ rfl _ rfl _ #[.int .u8 ((L 0 : Nat) : Int), .int .u8 ((L 1 : Nat) : Int), .int .u8 ((L 2 : Nat) : Int), .int .u8 ((L 3 : Nat) : Int), .int .u8 ((L 4 : Nat) : Int), .int .u8 ((zF 0 : Nat) : Int), .int .u8 ((zF 1 : Nat) : Int), .int .u8 ((zF 2 : Nat) : Int), .int .u8 ((zF 3 : Nat) : Int), .int .u8 ((zF 4 : Nat) : Int)] _ (by rintro _ ⟨i, rfl⟩; exact ((HW.out i).block _ l14).trans b14) Try.underlying100 rfl size_ld ?_; go_simp; refine hK _ ?_; clear hK K)
    have he := HE2.out
    (first | (refine Go.Flo.fw_calm rfl ?_ (fun K hK => ?_); (first | exact Go.Mix.wanted_none rfl | exact Go.Mix.wanted_tt rfl rfl rfl | exact Go.Mix.wanted_ff rfl rfl rfl); go_big_quiet_op; refine hK _ ?_; clear hK K) | (refine Go.Flo.fw_skip ?_ (fun K hK => ?_); (first | exact Go.Mix.wanted_tf rfl rfl rfl | exact Go.Mix.wanted_ft rfl rfl rfl); go_simp; refine hK _ ?_; clear hK K) | (refine Go.Flo.fw_any rfl ?_ (fun K hK => ?_); (first | exact Go.Mix.wanted_none rfl | exact Go.Mix.wanted_tt rfl rfl rfl | exact Go.Mix.wanted_ff rfl rfl rfl); go_simp; (try (go_ints; try go_simp)); refine hK _ ?_; clear hK K))
    clear he
    (first | (refine Go.Flo.fw_calm rfl ?_ (fun K hK => ?_); (first | exact Go.Mix.wanted_none rfl | exact Go.Mix.wanted_tt rfl rfl rfl | exact Go.Mix.wanted_ff rfl rfl rfl); go_big_quiet_op; refine hK _ ?_; clear hK K) | (refine Go.Flo.fw_skip ?_ (fun K hK => ?_); (first | exact Go.Mix.wanted_tf rfl rfl rfl | exact Go.Mix.wanted_ft rfl rfl rfl); go_simp; refine hK _ ?_; clear hK K) | (refine Go.Flo.fw_any rfl ?_ (fun K hK => ?_); (first | exact Go.Mix.wanted_none rfl | exact Go.Mix.wanted_tt rfl rfl rfl | exact Go.Mix.wanted_ff rfl rfl rfl); go_simp; (try (go_ints; try go_simp)); refine hK _ ?_; clear hK K))
    (first | (refine Go.Flo.fw_calm rfl ?_ (fun K hK => ?_); (first | exact Go.Mix.wanted_none rfl | exact Go.Mix.wanted_tt rfl rfl rfl | exact Go.Mix.wanted_ff rfl rfl rfl); go_big_quiet_op; refine hK _ ?_; clear hK K) | (refine Go.Flo.fw_skip ?_ (fun K hK => ?_); (first | exact Go.Mix.wanted_tf rfl rfl rfl | exact Go.Mix.wanted_ft rfl rfl rfl); go_simp; refine hK _ ?_; clear hK K) | (refine Go.Flo.fw_any rfl ?_ (fun K hK => ?_); (first | exact Go.Mix.wanted_none rfl | exact Go.Mix.wanted_tt rfl rfl rfl | exact Go.Mix.wanted_ff rfl rfl rfl); go_simp; (try (go_ints; try go_simp)); refine hK _ ?_; clear hK K))
    (refine Go.Flo.fw_calm rfl ?_ (fun K hK => ?_); (first | exact Go.Mix.wanted_none rfl | exact Go.Mix.wanted_tt rfl rfl rfl | exact Go.Mix.wanted_ff rfl rfl rfl); refine Go.Flo.quiet_load_row 100 _ rfl _ rfl _ #[.int .u8 ((L 0 : Nat) : Int), .int .u8 ((L 1 : Nat) : Int), .int .u8 ((L 2 : Nat) : Int), .int .u8 ((L 3 : Nat) : Int), .int .u8 ((L 4 : Nat) : Int), .int .u8 ((C 0 : Nat) : Int), .int .u8 ((C 1 : Nat) : Int), .int .u8 ((C 2 : Nat) : Int), .int .u8 ((C 3 : Nat) : Int), .int .u8 ((C 4 : Nat) : Int)] _ (by rintro _ ⟨i, rfl⟩; exact ((HW.out i).block _ l0).trans b0) Try.underlying100 rfl size_ld ?_; go_simp; refine hK _ ?_; clear hK K)
    (first | (refine Go.Flo.fw_calm rfl ?_ (fun K hK => ?_); (first | exact Go.Mix.wanted_none rfl | exact Go.Mix.wanted_tt rfl rfl rfl | exact Go.Mix.wanted_ff rfl rfl rfl); go_big_quiet_op; refine hK _ ?_; clear hK K) | (refine Go.Flo.fw_skip ?_ (fun K hK => ?_); (first | exact Go.Mix.wanted_tf rfl rfl rfl | exact Go.Mix.wanted_ft rfl rfl rfl); go_simp; refine hK _ ?_; clear hK K) | (refine Go.Flo.fw_any rfl ?_ (fun K hK => ?_); (first | exact Go.Mix.wanted_none rfl | exact Go.Mix.wanted_tt rfl rfl rfl | exact Go.Mix.wanted_ff rfl rfl rfl); go_simp; (try (go_ints; try go_simp)); refine hK _ ?_; clear hK K))
    refine Go.Flo.fw_loud rfl ?_ rfl (by simp) (fun wv hwv hav K hK => ?_) (fun v hv K hK => ?_)
    · (first | exact Go.Mix.wanted_none rfl | exact Go.Mix.wanted_tt rfl rfl rfl | exact Go.Mix.wanted_ff rfl rfl rfl)
    · obtain ⟨iv, rfl⟩ := hwv
      have hbv := HW.out iv
      (first | go_big_op | go_simp)
      go_at_call 56
      refine (Clear_any L C lev _ hlev).mono ?_
      rintro e w' ⟨rfl, hb⟩
      exact hK _ _ (Go.Flo.owes_is _ rfl hb)
    obtain rfl := hv.is
    go_simp
    refine hK _ ?_
    clear hK K hv
    (refine Go.Flo.fw_calm rfl ?_ (fun K hK => ?_); (first | exact Go.Mix.wanted_none rfl | exact Go.Mix.wanted_tt rfl rfl rfl | exact Go.Mix.wanted_ff rfl rfl rfl); refine Go.Flo.quiet_load_row 100 _ rfl _ rfl _ #[.int .u8 ((L 0 : Nat) : Int), .int .u8 ((L 1 : Nat) : Int), .int .u8 ((L 2 : Nat) : Int), .int .u8 ((L 3 : Nat) : Int), .int .u8 ((L 4 : Nat) : Int), .int .u8 ((upd C lev 0 0 : Nat) : Int), .int .u8 ((upd C lev 0 1 : Nat) : Int), .int .u8 ((upd C lev 0 2 : Nat) : Int), .int .u8 ((upd C lev 0 3 : Nat) : Int), .int .u8 ((upd C lev 0 4 : Nat) : Int)] _ (by rintro _ ⟨i, rfl⟩; exact ((HW.out i).block _ l15).trans b15) Try.underlying100 rfl size_ld ?_; go_simp; refine hK _ ?_; clear hK K)
    have he := HE3.out
    (first | (refine Go.Flo.fw_calm rfl ?_ (fun K hK => ?_); (first | exact Go.Mix.wanted_none rfl | exact Go.Mix.wanted_tt rfl rfl rfl | exact Go.Mix.wanted_ff rfl rfl rfl); go_big_quiet_op; refine hK _ ?_; clear hK K) | (refine Go.Flo.fw_skip ?_ (fun K hK => ?_); (first | exact Go.Mix.wanted_tf rfl rfl rfl | exact Go.Mix.wanted_ft rfl rfl rfl); go_simp; refine hK _ ?_; clear hK K) | (refine Go.Flo.fw_any rfl ?_ (fun K hK => ?_); (first | exact Go.Mix.wanted_none rfl | exact Go.Mix.wanted_tt rfl rfl rfl | exact Go.Mix.wanted_ff rfl rfl rfl); go_simp; (try (go_ints; try go_simp)); refine hK _ ?_; clear hK K))
    clear he
    (repeat (first | (refine Go.Flo.fw_calm rfl ?_ (fun K hK => ?_); (first | exact Go.Mix.wanted_none rfl | exact Go.Mix.wanted_tt rfl rfl rfl | exact Go.Mix.wanted_ff rfl rfl rfl); go_big_quiet_op; refine hK _ ?_; clear hK K) | (refine Go.Flo.fw_skip ?_ (fun K hK => ?_); (first | exact Go.Mix.wanted_tf rfl rfl rfl | exact Go.Mix.wanted_ft rfl rfl rfl); go_simp; refine hK _ ?_; clear hK K) | (refine Go.Flo.fw_any rfl ?_ (fun K hK => ?_); (first | exact Go.Mix.wanted_none rfl | exact Go.Mix.wanted_tt rfl rfl rfl | exact Go.Mix.wanted_ff rfl rfl rfl); go_simp; (try (go_ints; try go_simp)); refine hK _ ?_; clear hK K)))
    refine Go.Flo.fw_nil ?_
    intro wz hwwz hfwz huwz
    refine Go.Flo.tw_nil ?_
    obtain ⟨iend, hiend⟩ := hwwz
    have hbwz := HW.out iend
    rw [← hiend] at hbwz
    clear hiend iend huwz
    have HB := Lib.hid (HQA.out.be.trans (hbwz.mono HQA.out.be.size))
    clear hfwz HJ HW hne hbwz b0 b1 b9 b10 b13 b14 b15 y1 y2
    go_wp2_with fail
    go_ret
    exact ⟨rfl, HB.out⟩
end Go.Proofs.Ytinaimacocgemaa
