/- Contracts of layer 3 (rings of entries), on: what isn't there. -/
import Derived.Test.YtkgeeohgfbacaaaEqN
namespace Go.Proofs.Ytkgeeohgfbacaaa.Je
open Go.RowKit Go.Own
set_option linter.unusedVariables false
set_option linter.unusedSimpArgs false
variable {w : World} {g b n d : Nat} {L : List En}
theorem nLen (w : World) : Calls Try.prog 117 #[.pointer none] w fun e w' => e = .returned (.int .i64 0) ∧ w = w' := by
  go_enter Try.func117, Try.ntmps117
  go_wp2
  go_ret
  exact ⟨rfl, rfl⟩
theorem nLost (w : World) : Calls Try.prog 118 #[.pointer none] w fun e w' => e = .returned (.int .i64 0) ∧ w = w' := by
  go_enter Try.func118, Try.ntmps118
  go_wp2
  go_ret
  exact ⟨rfl, rfl⟩
set_option maxRecDepth 100000 in
set_option maxHeartbeats 2000000 in
theorem rAt_no (pt : Option Addr) (l : Nat) (i : Int) (w : World) (hi : i < 0 ∨ (l : Int) ≤ i) (hL : ∀ w', Below w.heap.size w w' → Calls Try.prog 117 #[.pointer pt] w' fun e w'' => e = .returned (.int .i64 (l : Nat)) ∧ w' = w'') :
    Calls Try.prog 114 #[.pointer pt, .int .i64 i] w fun e w' => e = .returned (.tuple #[.agg #[.int .u32 (en0.q : Nat), .int .u32 (en0.t : Nat), .int .u8 (en0.e : Nat), .int .u8 (en0.g : Nat), .int .u32 (en0.d : Nat)], .bool false]) ∧ Below w.heap.size w w' := by
  have hz := zero_en
  have hal : Below w.heap.size w (w.alloc (.cells #[.int .u32 (en0.q : Nat), .int .u32 (en0.t : Nat), .int .u8 (en0.e : Nat), .int .u8 (en0.g : Nat), .int .u32 (en0.d : Nat)] 143)) := (Below.refl _ _).alloc (Nat.le_refl _) _
  have hal2 : Below w.heap.size w ((w.alloc (.cells #[.int .u32 (en0.q : Nat), .int .u32 (en0.t : Nat), .int .u8 (en0.e : Nat), .int .u8 (en0.g : Nat), .int .u32 (en0.d : Nat)] 143)).alloc (.cells #[.int .u32 (en0.q : Nat), .int .u32 (en0.t : Nat), .int .u8 (en0.e : Nat), .int .u8 (en0.g : Nat), .int .u32 (en0.d : Nat)] 143)) := hal.alloc hal.size _
  by_cases h0 : i < 0
  · clear hi hL
    go_enter Try.func114, Try.ntmps114
    go_wp2_with (first | (refine wpList_load_row rfl 143 _ rfl _ rfl _ _ _ _ (by (first | exact heap_alloc2_new _ _ _ | exact heap_alloc2_old _ _ _ | exact heap_alloc_new _ _ | assumption)) Try.underlying143 rfl (by exact size_en) ?_; (try go_simp)) | (refine wpList_store_row rfl 143 _ _ rfl _ _ rfl rfl _ _ (by (first | exact heap_alloc2_new _ _ _ | exact heap_alloc2_old _ _ _ | exact heap_alloc_new _ _ | assumption)) (by exact size_en) (by rfl) (by simp [Value.oneCell']) ?_; (first | rw [setRow_alloc2_new] | rw [setRow_alloc2_old] | rw [World.setRow_alloc_new] | skip); (try go_simp)))
    refine bodyPost_ret (res_ct rfl _ _ _ _ _ _ rfl (heap_alloc2_old _ _ _) Try.underlying143 rfl size_en) rfl ?_
    exact ⟨rfl, by repeat' (first | (with_reducible exact Below.refl _ _) | (with_reducible assumption) | (with_reducible refine Below.setCell ?_ ?_ _) | (with_reducible refine Below.alloc ?_ ?_ _) | (with_reducible refine Below.drew ?_) | (with_reducible refine Below.drawsN ?_ _) | go_size)⟩
  · have hle : (l : Int) ≤ i := by omega
    clear hi
    have HL := Lib.hid (hL _ hal)
    clear hL
    go_enter Try.func114, Try.ntmps114
    go_wp2_with fail
    go_at_call 117
    refine HL.out.mono ?_
    rintro e w' ⟨rfl, rfl⟩
    go_wp2_with (first | (refine wpList_load_row rfl 143 _ rfl _ rfl _ _ _ _ (by (first | exact heap_alloc2_new _ _ _ | exact heap_alloc2_old _ _ _ | exact heap_alloc_new _ _ | assumption)) Try.underlying143 rfl (by exact size_en) ?_; (try go_simp)) | (refine wpList_store_row rfl 143 _ _ rfl _ _ rfl rfl _ _ (by (first | exact heap_alloc2_new _ _ _ | exact heap_alloc2_old _ _ _ | exact heap_alloc_new _ _ | assumption)) (by exact size_en) (by rfl) (by simp [Value.oneCell']) ?_; (first | rw [setRow_alloc2_new] | rw [setRow_alloc2_old] | rw [World.setRow_alloc_new] | skip); (try go_simp)))
    refine bodyPost_ret (res_ct rfl _ _ _ _ _ _ rfl (heap_alloc2_old _ _ _) Try.underlying143 rfl size_en) rfl ?_
    exact ⟨rfl, by repeat' (first | (with_reducible exact Below.refl _ _) | (with_reducible assumption) | (with_reducible refine Below.setCell ?_ ?_ _) | (with_reducible refine Below.alloc ?_ ?_ _) | (with_reducible refine Below.drew ?_) | (with_reducible refine Below.drawsN ?_ _) | go_size)⟩
theorem nAt (i : Int) (w : World) : Calls Try.prog 114 #[.pointer none, .int .i64 i] w fun e w' => e = .returned (.tuple #[.agg #[.int .u32 (en0.q : Nat), .int .u32 (en0.t : Nat), .int .u8 (en0.e : Nat), .int .u8 (en0.g : Nat), .int .u32 (en0.d : Nat)], .bool false]) ∧ Below w.heap.size w w' :=
  rAt_no none 0 i w (by omega) (fun w' _ => nLen w')
theorem rAt_none (h : Ring w g b n L d) (i : Int) (hi : i < 0 ∨ (L.length : Int) ≤ i) : Calls Try.prog 114 #[.pointer (some ⟨g, 0, none⟩), .int .i64 i] w fun e w' => e = .returned (.tuple #[.agg #[.int .u32 (en0.q : Nat), .int .u32 (en0.t : Nat), .int .u8 (en0.e : Nat), .int .u8 (en0.g : Nat), .int .u32 (en0.d : Nat)], .bool false]) ∧ Below w.heap.size w w' :=
  rAt_no _ L.length i w hi (fun w' hb => rLen (h.below hb (Nat.le_refl _)))
set_option maxRecDepth 100000 in
set_option maxHeartbeats 2000000 in
theorem nList (w : World) : Calls Try.prog 165 #[.pointer none] w fun e w' => ∃ v, e = .returned v ∧ w'.ownsRow w.heap.size 143 5 v ([] : List En).length (ql []) ∧ Below w.heap.size w w' := by
  obtain ⟨i0, hi, hz0, hz1, hz2⟩ := info_parts info_en
  have hmk : ∀ w : World, (Instr.makeSlice 148 (.int .i64 0) (.int .i64 0)).run Try.prog w = .ok (.slice (some ⟨w.heap.size, 0, none⟩) 0 0) (w.alloc (.cells (madeCells (Value.agg #[.int .u32 (en0.q : Nat), .int .u32 (en0.t : Nat), .int .u8 (en0.e : Nat), .int .u8 (en0.g : Nat), .int .u32 (en0.d : Nat)]).cells (0 * 5)) 143)) := by
    intro w
    have := run_make (P := Try.prog) w 148 143 i0 (.agg #[.int .u32 (en0.q : Nat), .int .u32 (en0.t : Nat), .int .u8 (en0.e : Nat), .int .u8 (en0.g : Nat), .int .u32 (en0.d : Nat)]) Try.underlying148 hi hz0 .i64 .i64 0 0 (Int.le_refl _) (by omega) (by rw [hz2]; omega) (by omega)
    rw [hz1] at this
    simpa using this
  have hown := World.ownsRow_made (base := w.heap.size) (e := 143) (size := 5) w (madeCells (Value.agg #[.int .u32 (en0.q : Nat), .int .u32 (en0.t : Nat), .int .u8 (en0.e : Nat), .int .u8 (en0.g : Nat), .int .u32 (en0.d : Nat)]).cells (0 * 5)) 0 (Nat.le_refl _) (by unfold maxLen; omega) (by simp [madeCells])
  have hb0 : Below w.heap.size w (w.alloc (.cells (madeCells (Value.agg #[.int .u32 (en0.q : Nat), .int .u32 (en0.t : Nat), .int .u8 (en0.e : Nat), .int .u8 (en0.g : Nat), .int .u32 (en0.d : Nat)]).cells (0 * 5)) 143)) := (Below.refl _ _).alloc (Nat.le_refl _) _
  obtain ⟨Z, hZ⟩ : ∃ Z, Z = madeCells (Value.agg #[.int .u32 (en0.q : Nat), .int .u32 (en0.t : Nat), .int .u8 (en0.e : Nat), .int .u8 (en0.g : Nat), .int .u32 (en0.d : Nat)]).cells (0 * 5) := ⟨_, rfl⟩
  rw [← hZ] at hown hmk hb0
  have HO := Lib.hid hown
  clear hZ hown
  go_enter Try.func165, Try.ntmps165
  go_wp2_with fail
  go_at_call 117
  refine (nLen w).mono ?_
  rintro e w' ⟨rfl, rfl⟩
  go_wp2_with fail
  go_at_call 117
  refine (nLen _).mono ?_
  rintro e w' ⟨rfl, rfl⟩
  go_wp2_with fail
  refine wp_loop_rounds 1 ?_
  rw [rounds_succ]
  go_wp2
  go_ret
  exact ⟨_, rfl, HO.out, hb0⟩
end Go.Proofs.Ytkgeeohgfbacaaa.Je
