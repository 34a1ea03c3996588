/- Layer 8: contexts in a memory: read; a reset. -/
import Derived.Test.YtpgophkegjeheaaCxR
import Derived.Test.YtpgophkegjeheaaMem6
namespace Go.Proofs.Ytpgophkegjeheaa
open Go.RowKit Go.Own
set_option linter.unusedVariables false
set_option linter.unusedSimpArgs false
instance (l : List Nat) : Decidable (cxGood l) := by unfold cxGood; infer_instance
/-- What the memory tells. -/
def toldL (ls : Nat → List Nat) : List Nat := pdat (ls (vst ls 3).2)
def toldOk (ls : Nat → List Nat) : Bool := decide (2 ≤ (vst ls 3).1) && decide (cxGood (toldL ls))
def toldCx (ls : Nat → List Nat) : Cx := if toldOk ls then cxOf (toldL ls) else cxDef
theorem toldCx_ok {ls : Nat → List Nat} (hb : bytes (toldL ls)) : (toldCx ls).Ok := by
  unfold toldCx
  split
  · exact cxOf_ok hb
  · exact cxDef_ok
theorem toldCx_right {ls : Nat → List Nat} : (toldCx ls).right = true := by
  unfold toldCx
  split
  · rename_i h
    unfold toldOk at h
    simp only [Bool.and_eq_true, decide_eq_true_eq] at h
    exact h.2.1
  · exact cxDef_right
section
variable {w : World} {B g : Nat} {v : Nat → Value} {ls : Nat → List Nat}
theorem vst_idx (ls : Nat → List Nat) : (vst ls 3).2 < 3 ∨ (vst ls 3).1 = 0 := by
  simp only [vst]
  split <;> split <;> split <;> simp <;> (try split) <;> (try split) <;> omega
theorem vst_lt3 (ls : Nat → List Nat) : (vst ls 3).2 < 3 := by
  simp only [vst]
  split <;> split <;> split <;> simp <;> (try split) <;> (try split) <;> omega
set_option maxRecDepth 100000 in
set_option maxHeartbeats 4000000 in
theorem cxRead (h : MemS w B g v ls) : Calls Try.prog 32 #[.pointer (some ⟨g, 0, none⟩)] w fun e w' => e = .returned (.tuple #[.agg #[.int .u16 (toldCx ls).f, .int .u16 (toldCx ls).i, .int .u8 (toldCx ls).r0, .int .u8 (toldCx ls).r1, .int .u8 (toldCx ls).r2, .int .u8 (toldCx ls).r3, .int .u8 (toldCx ls).r4, .int .u8 (toldCx ls).r5, .int .i8 (toldCx ls).c0, .int .i8 (toldCx ls).c1, .int .i8 (toldCx ls).c2, .int .i8 (toldCx ls).c3, .int .i8 (toldCx ls).c4, .int .i8 (toldCx ls).c5, .int .u8 (toldCx ls).m, .int .u16 (toldCx ls).n, .bool (toldCx ls).x, .int .u8 (toldCx ls).h], .bool (toldOk ls)]) ∧ Below w.heap.size w w' := by
  have hzc := zero_cx
  have hb0 : Below w.heap.size w (w.alloc (.cells #[.int .u16 cxZero.f, .int .u16 cxZero.i, .int .u8 cxZero.r0, .int .u8 cxZero.r1, .int .u8 cxZero.r2, .int .u8 cxZero.r3, .int .u8 cxZero.r4, .int .u8 cxZero.r5, .int .i8 cxZero.c0, .int .i8 cxZero.c1, .int .i8 cxZero.c2, .int .i8 cxZero.c3, .int .i8 cxZero.c4, .int .i8 cxZero.c5, .int .u8 cxZero.m, .int .u16 cxZero.n, .bool cxZero.x, .int .u8 cxZero.h] 28)) := (Below.refl _ _).alloc (Nat.le_refl _) _
  have hx0 := heap_alloc_new w (.cells #[.int .u16 cxZero.f, .int .u16 cxZero.i, .int .u8 cxZero.r0, .int .u8 cxZero.r1, .int .u8 cxZero.r2, .int .u8 cxZero.r3, .int .u8 cxZero.r4, .int .u8 cxZero.r5, .int .i8 cxZero.c0, .int .i8 cxZero.c1, .int .i8 cxZero.c2, .int .i8 cxZero.c3, .int .i8 cxZero.c4, .int .i8 cxZero.c5, .int .u8 cxZero.m, .int .u16 cxZero.n, .bool cxZero.x, .int .u8 cxZero.h] 28)
  have hi3 := vst_lt3 ls
  have hbyt : bytes (toldL ls) := pdat_bytes (h.byt _ (by omega))
  have HBY := Lib.hid hbyt
  have H1 := Lib.hid (h.below hb0)
  clear h hbyt
  go_enter Try.func32, Try.ntmps32
  go_wp2_with fail
  obtain ⟨w1, hw1⟩ : ∃ w1, w1 = w.alloc (.cells #[.int .u16 cxZero.f, .int .u16 cxZero.i, .int .u8 cxZero.r0, .int .u8 cxZero.r1, .int .u8 cxZero.r2, .int .u8 cxZero.r3, .int .u8 cxZero.r4, .int .u8 cxZero.r5, .int .i8 cxZero.c0, .int .i8 cxZero.c1, .int .i8 cxZero.c2, .int .i8 cxZero.c3, .int .i8 cxZero.c4, .int .i8 cxZero.c5, .int .u8 cxZero.m, .int .u16 cxZero.n, .bool cxZero.x, .int .u8 cxZero.h] 28) := ⟨_, rfl⟩
  obtain ⟨x0, hx00⟩ : ∃ x0, x0 = w.heap.size := ⟨_, rfl⟩
  have hxn : w.heap.size ≤ x0 := by omega
  rw [← hw1] at hb0 hx0 H1
  rw [← hx00] at hx0
  rw [← hw1, ← hx00]
  have HX0 := Lib.hid hx0
  clear hw1 hx00 hzc hx0
  go_at_call 72
  refine (mRead H1.out).mono ?_
  rintro e w2 ⟨hb2, ⟨h2, rfl⟩ | ⟨h2, x, xc, rfl, hown⟩⟩
  · have hno : toldOk ls = false := by unfold toldOk; simp; omega
    have hdf : toldCx ls = cxDef := by unfold toldCx; rw [hno]; rfl
    have HNO := Lib.hid hno
    have HDF := Lib.hid hdf
    have HB2 := Lib.hid (hb0.trans (hb2.mono hb0.size))
    have HX2 := Lib.hid (box_below HX0.out hb2 (box_lt HX0.out))
    clear hb2 HX0 hb0 hno hdf
    go_wp2_with fail
    go_at_call 28
    refine (Default_any _).mono ?_
    rintro e w3 ⟨rfl, hb3⟩
    have HB3 := Lib.hid (HB2.out.trans (hb3.mono HB2.out.size))
    have hx3 := box_below HX2.out hb3 (box_lt HX2.out)
    clear hb3 HB2 HX2
    go_wp2_with (first | (refine wpList_store_row rfl 28 _ _ rfl _ _ rfl rfl _ _ hx3 (by exact size_cx) (by rfl) (by simp [Value.oneCell']) ?_; (try go_simp)))
    have hfin := setRow_heap _ x0 _ #[.int .u16 cxDef.f, .int .u16 cxDef.i, .int .u8 cxDef.r0, .int .u8 cxDef.r1, .int .u8 cxDef.r2, .int .u8 cxDef.r3, .int .u8 cxDef.r4, .int .u8 cxDef.r5, .int .i8 cxDef.c0, .int .i8 cxDef.c1, .int .i8 cxDef.c2, .int .i8 cxDef.c3, .int .i8 cxDef.c4, .int .i8 cxDef.c5, .int .u8 cxDef.m, .int .u16 cxDef.n, .bool cxDef.x, .int .u8 cxDef.h] _ _ hx3
    refine bodyPost_ret (results_cell_tmp2 rfl _ _ _ _ _ _ rfl hfin Try.underlying28 rfl size_cx) rfl ?_
    have k := HB3.out
    rw [HNO.out, HDF.out]
    exact ⟨rfl, k.os, k.tape, k.output, by simpa [World.setRow] using k.size, fun i hi => (setRow_other _ x0 i _ (by omega)).trans (k.block i hi)⟩
  · obtain ⟨D, hD⟩ : ∃ D, D = toldL ls := ⟨_, rfl⟩
    have hDD : pdat (ls (vst ls 3).2) = D := hD.symm
    rw [hDD] at hown ⊢
    have hDb : bytes D := by rw [hD]; exact HBY.out
    have hrd := rd_of_own (f := bv D) hown (fun i hi => bl_at D hi)
    have hP : Calls Try.prog 24 #[.slice x D.length xc] w2 (CxParse w2 D) := by
      by_cases h21 : D.length = 21
      · exact cxParse_any x D.length xc w2.heap.size D w2 rfl (Nat.le_refl _) hrd hDb h21
      · refine cxParse_no x D.length xc D w2 rfl h21 ?_
        have h4 := H1.out.len _ (show (vst ls 3).2 < 4 by omega)
        rw [← hDD]
        unfold pdat
        rw [List.length_take, List.length_drop]
        omega
    have HP := Lib.hid hP
    have HD := Lib.hid hD
    have HB2 := Lib.hid (hb0.trans (hb2.mono hb0.size))
    have HX2 := Lib.hid (box_below HX0.out hb2 (box_lt HX0.out))
    have HV := Lib.hid h2
    clear hD hDD hown hDb hrd hP hb2 hb0 HX0 h2
    go_wp2_with fail
    go_at_call 24
    refine HP.out.mono ?_
    rintro e w3 ⟨hb3, ⟨hg, rfl⟩ | ⟨hg, rfl⟩⟩
    · have hyes : toldOk ls = true := by unfold toldOk; rw [← HD.out]; simp [HV.out, hg]
      have hdf : toldCx ls = cxOf D := by unfold toldCx; rw [hyes, HD.out]; rfl
      have HNO := Lib.hid hyes
      have HDF := Lib.hid hdf
      obtain ⟨c, hc⟩ : ∃ c, c = cxOf D := ⟨_, rfl⟩
      rw [← hc] at hdf ⊢
      have HDF := Lib.hid hdf
      have hal : Below w3.heap.size w3 (w3.alloc (.cells #[.int .u16 c.f, .int .u16 c.i, .int .u8 c.r0, .int .u8 c.r1, .int .u8 c.r2, .int .u8 c.r3, .int .u8 c.r4, .int .u8 c.r5, .int .i8 c.c0, .int .i8 c.c1, .int .i8 c.c2, .int .i8 c.c3, .int .i8 c.c4, .int .i8 c.c5, .int .u8 c.m, .int .u16 c.n, .bool c.x, .int .u8 c.h] 28)) := (Below.refl _ _).alloc (Nat.le_refl _) _
      have hb4 := hb3.trans (hal.mono hb3.size)
      have hx4 := box_below HX2.out hb4 (box_lt HX2.out)
      have HB4 := Lib.hid (HB2.out.trans (hb4.mono HB2.out.size))
      clear hb3 hal hb4 HX2 HB2 hyes hdf hc hg HP
      go_wp2_with (first | (refine wpList_store_row rfl 28 _ _ rfl _ _ rfl rfl _ _ hx4 (by exact size_cx) (by rfl) (by simp [Value.oneCell']) ?_; (try go_simp)) | (refine wpList_load_row rfl 28 _ rfl _ rfl _ _ _ _ (by (first | exact heap_alloc2_new _ _ _ | exact heap_alloc2_old _ _ _ | exact heap_alloc_new _ _ | assumption)) Try.underlying28 rfl (by exact size_cx) ?_; (try go_simp)) | (refine wpList_store_row rfl 28 _ _ rfl _ _ rfl rfl _ _ (by (first | exact heap_alloc2_new _ _ _ | exact heap_alloc2_old _ _ _ | exact heap_alloc_new _ _ | assumption)) (by exact size_cx) (by rfl) (by simp [Value.oneCell']) ?_; (first | rw [setRow_alloc2_new] | rw [setRow_alloc2_old] | rw [World.setRow_alloc_new] | skip); (try go_simp)))
      have hfin := setRow_heap _ x0 _ #[.int .u16 c.f, .int .u16 c.i, .int .u8 c.r0, .int .u8 c.r1, .int .u8 c.r2, .int .u8 c.r3, .int .u8 c.r4, .int .u8 c.r5, .int .i8 c.c0, .int .i8 c.c1, .int .i8 c.c2, .int .i8 c.c3, .int .i8 c.c4, .int .i8 c.c5, .int .u8 c.m, .int .u16 c.n, .bool c.x, .int .u8 c.h] _ _ hx4
      refine bodyPost_ret (results_cell_tmp2 rfl _ _ _ _ _ _ rfl hfin Try.underlying28 rfl size_cx) rfl ?_
      have k := HB4.out
      rw [HNO.out, HDF.out]
      exact ⟨rfl, k.os, k.tape, k.output, by simpa [World.setRow] using k.size, fun i hi => (setRow_other _ x0 i _ (by omega)).trans (k.block i hi)⟩
    · have hno : toldOk ls = false := by unfold toldOk; rw [← HD.out]; simp [hg]
      have hdf : toldCx ls = cxDef := by unfold toldCx; rw [hno]; rfl
      have HNO := Lib.hid hno
      have HDF := Lib.hid hdf
      have hal : Below w3.heap.size w3 (w3.alloc (.cells #[.int .u16 cxZero.f, .int .u16 cxZero.i, .int .u8 cxZero.r0, .int .u8 cxZero.r1, .int .u8 cxZero.r2, .int .u8 cxZero.r3, .int .u8 cxZero.r4, .int .u8 cxZero.r5, .int .i8 cxZero.c0, .int .i8 cxZero.c1, .int .i8 cxZero.c2, .int .i8 cxZero.c3, .int .i8 cxZero.c4, .int .i8 cxZero.c5, .int .u8 cxZero.m, .int .u16 cxZero.n, .bool cxZero.x, .int .u8 cxZero.h] 28)) := (Below.refl _ _).alloc (Nat.le_refl _) _
      have hb4 := hb3.trans (hal.mono hb3.size)
      have HX4 := Lib.hid (box_below HX2.out hb4 (box_lt HX2.out))
      have HB4 := Lib.hid (HB2.out.trans (hb4.mono HB2.out.size))
      clear hb3 hal hb4 HX2 HB2 hno hdf hg HP
      go_wp2_with (first | (refine wpList_store_row rfl 28 _ _ rfl _ _ rfl rfl _ _ (by (first | exact heap_alloc2_new _ _ _ | exact heap_alloc2_old _ _ _ | exact heap_alloc_new _ _ | assumption)) (by exact size_cx) (by rfl) (by simp [Value.oneCell']) ?_; (first | rw [setRow_alloc2_new] | rw [setRow_alloc2_old] | rw [World.setRow_alloc_new] | skip); (try go_simp)))
      obtain ⟨w4, hw4⟩ : ∃ w4, w4 = w3.alloc (.cells #[.int .u16 cxZero.f, .int .u16 cxZero.i, .int .u8 cxZero.r0, .int .u8 cxZero.r1, .int .u8 cxZero.r2, .int .u8 cxZero.r3, .int .u8 cxZero.r4, .int .u8 cxZero.r5, .int .i8 cxZero.c0, .int .i8 cxZero.c1, .int .i8 cxZero.c2, .int .i8 cxZero.c3, .int .i8 cxZero.c4, .int .i8 cxZero.c5, .int .u8 cxZero.m, .int .u16 cxZero.n, .bool cxZero.x, .int .u8 cxZero.h] 28) := ⟨_, rfl⟩
      rw [← hw4] at HX4 HB4 ⊢
      clear hw4
      go_at_call 28
      refine (Default_any _).mono ?_
      rintro e w5 ⟨rfl, hb5⟩
      have HB5 := Lib.hid (HB4.out.trans (hb5.mono HB4.out.size))
      have hx5 := box_below HX4.out hb5 (box_lt HX4.out)
      clear hb5 HB4 HX4
      go_wp2_with (first | (refine wpList_store_row rfl 28 _ _ rfl _ _ rfl rfl _ _ hx5 (by exact size_cx) (by rfl) (by simp [Value.oneCell']) ?_; (try go_simp)))
      have hfin := setRow_heap _ x0 _ #[.int .u16 cxDef.f, .int .u16 cxDef.i, .int .u8 cxDef.r0, .int .u8 cxDef.r1, .int .u8 cxDef.r2, .int .u8 cxDef.r3, .int .u8 cxDef.r4, .int .u8 cxDef.r5, .int .i8 cxDef.c0, .int .i8 cxDef.c1, .int .i8 cxDef.c2, .int .i8 cxDef.c3, .int .i8 cxDef.c4, .int .i8 cxDef.c5, .int .u8 cxDef.m, .int .u16 cxDef.n, .bool cxDef.x, .int .u8 cxDef.h] _ _ hx5
      refine bodyPost_ret (results_cell_tmp2 rfl _ _ _ _ _ _ rfl hfin Try.underlying28 rfl size_cx) rfl ?_
      have k := HB5.out
      rw [HNO.out, HDF.out]
      exact ⟨rfl, k.os, k.tape, k.output, by simpa [World.setRow] using k.size, fun i hi => (setRow_other _ x0 i _ (by omega)).trans (k.block i hi)⟩
end
set_option linter.unusedVariables false
set_option linter.unusedSimpArgs false
theorem own_setRow {w : World} {x base n size : Nat} {e t : TypeId} {v : Value} {xs : List Value} {old cs : Array Value} (h : w.ownsRow base e size v n xs) (hx : w.heap[x]? = some (.cells old t (0, 0))) (ht : t ≠ e) : (w.setRow x cs).ownsRow base e size v n xs := by
  obtain ⟨h1, h2 | ⟨g', cap, cur, hv, hb', hr, ho⟩⟩ := h
  · exact ⟨h1, .inl h2⟩
  · refine ⟨h1, .inr ⟨g', cap, cur, hv, hb', (setRow_other w x g' cs (fun e' => ?_)).trans hr, ho⟩⟩
    rw [e', hx] at hr
    injection hr with hr
    injection hr with _ hr
    exact ht hr
theorem MemS.setBox {w : World} {B g x : Nat} {v : Nat → Value} {ls : Nat → List Nat} {t : TypeId} {old : Array Value} (h : MemS w B g v ls) (hx : w.heap[x]? = some (.cells old t (0, 0))) (ht : t ≠ 5) (hxg : g ≠ x) (cs : Array Value) : MemS (w.setRow x cs) B g v ls :=
  ⟨(setRow_other w x g cs hxg).trans h.head, fun i hi => own_setRow (h.own i hi) hx ht, h.apart, h.byt, h.len, h.base⟩
theorem MStep.setRow {w w' : World} {g x : Nat} {v v' : Nat → Value} (h : MStep g v v' w w') (hx : w.heap.size ≤ x) (cs : Array Value) : MStep g v v' w (w'.setRow x cs) :=
  ⟨h.os, h.tape, h.output, by simpa [World.setRow] using h.size, fun k hk h1 h2 => (setRow_other w' x k cs (by omega)).trans (h.block k hk h1 h2), h.apart⟩
theorem vst_small (ls : Nat → List Nat) : ∀ k, k ≤ 3 → (vst ls k).2 < 3
  | 0, _ => by simp [vst]
  | k + 1, hk => by
    have ih := vst_small ls k (by omega)
    unfold vst
    split
    · show (if _ then k else (vst ls k).2) < 3
      split <;> omega
    · exact ih
theorem vst_same3 {ls ls' : Nat → List Nat} (h : ∀ i, i < 3 → ls' i = ls i) : ∀ k, k ≤ 3 → vst ls' k = vst ls k
  | 0, _ => rfl
  | k + 1, hk => by
    have ih := vst_same3 h k (by omega)
    have h1 := h k (by omega)
    have h2 := h _ (vst_small ls k (by omega))
    unfold vst
    rw [ih, h1, h2]
theorem vst_up (ls : Nat → List Nat) (d : List Nat) : vst (upd ls 3 d) 3 = vst ls 3 := vst_same3 (fun i hi => upd_other _ _ (by omega)) 3 (Nat.le_refl _)
theorem told_up (ls : Nat → List Nat) (d : List Nat) : toldL (upd ls 3 d) = toldL ls ∧ toldOk (upd ls 3 d) = toldOk ls ∧ toldCx (upd ls 3 d) = toldCx ls := by
  have h1 : toldL (upd ls 3 d) = toldL ls := by
    unfold toldL
    rw [vst_up, upd_other _ _ (by have := vst_lt3 ls; omega)]
  have h2 : toldOk (upd ls 3 d) = toldOk ls := by unfold toldOk; rw [h1, vst_up]
  exact ⟨h1, h2, by unfold toldCx; rw [h1, h2]⟩
theorem gtop_up (ls : Nat → List Nat) (d : List Nat) : gtop (upd ls 3 d) 3 = gtop ls 3 := by simp [gtop, upd]
/-- The memory's cell behind a reset. -/
def bootCell (ls : Nat → List Nat) : List Nat := mkCell (gtop ls 3 + 1) (bytesOf (toldCx ls).reset)
theorem nat_of {z : Int} (h : 0 ≤ z) : z = ((z.toNat : Nat) : Int) := (Int.toNat_of_nonneg h).symm
theorem Bytes_of (c : Cx) (w : World) (hok : c.Ok) (hr : c.right = true) : Calls Try.prog 17 #[.agg #[.int .u16 c.f, .int .u16 c.i, .int .u8 c.r0, .int .u8 c.r1, .int .u8 c.r2, .int .u8 c.r3, .int .u8 c.r4, .int .u8 c.r5, .int .i8 c.c0, .int .i8 c.c1, .int .i8 c.c2, .int .i8 c.c3, .int .i8 c.c4, .int .i8 c.c5, .int .u8 c.m, .int .u16 c.n, .bool c.x, .int .u8 c.h]] w fun e w' => ∃ v, e = .returned v ∧ w'.ownsRow w.heap.size 5 1 v 21 (bl (bytesOf c)) ∧ Below w.heap.size w w' := by
  have h1 := hok.f
  have h2 := hok.i
  have h3 := hok.n
  exact Bytes_yes c w hok hr c.f.toNat c.i.toNat c.n.toNat (nat_of h1.1) (nat_of h2.1) (nat_of h3.1) (by omega) (by omega) (by omega)
set_option maxRecDepth 100000 in
set_option maxHeartbeats 4000000 in
theorem cxBoot {w : World} {B g : Nat} {v : Nat → Value} {ls : Nat → List Nat} (h : MemS w B g v ls) (ht : gtop ls 3 < 4294967295) :
    Calls Try.prog 33 #[.pointer (some ⟨g, 0, none⟩)] w fun e w' => e = .returned (.tuple #[.agg #[.int .u16 (toldCx ls).reset.f, .int .u16 (toldCx ls).reset.i, .int .u8 (toldCx ls).reset.r0, .int .u8 (toldCx ls).reset.r1, .int .u8 (toldCx ls).reset.r2, .int .u8 (toldCx ls).reset.r3, .int .u8 (toldCx ls).reset.r4, .int .u8 (toldCx ls).reset.r5, .int .i8 (toldCx ls).reset.c0, .int .i8 (toldCx ls).reset.c1, .int .i8 (toldCx ls).reset.c2, .int .i8 (toldCx ls).reset.c3, .int .i8 (toldCx ls).reset.c4, .int .i8 (toldCx ls).reset.c5, .int .u8 (toldCx ls).reset.m, .int .u16 (toldCx ls).reset.n, .bool (toldCx ls).reset.x, .int .u8 (toldCx ls).reset.h], .bool (toldOk ls)]) ∧ ∃ v', MemS w' B g v' (sel4 (bootCell ls) (bootCell ls) (bootCell ls) []) ∧ MStep g v v' w w' := by
  have hzc := zero_cx
  have hb0 : Below w.heap.size w (w.alloc (.cells #[.int .u16 cxZero.f, .int .u16 cxZero.i, .int .u8 cxZero.r0, .int .u8 cxZero.r1, .int .u8 cxZero.r2, .int .u8 cxZero.r3, .int .u8 cxZero.r4, .int .u8 cxZero.r5, .int .i8 cxZero.c0, .int .i8 cxZero.c1, .int .i8 cxZero.c2, .int .i8 cxZero.c3, .int .i8 cxZero.c4, .int .i8 cxZero.c5, .int .u8 cxZero.m, .int .u16 cxZero.n, .bool cxZero.x, .int .u8 cxZero.h] 28)) := (Below.refl _ _).alloc (Nat.le_refl _) _
  have hx0 := heap_alloc_new w (.cells #[.int .u16 cxZero.f, .int .u16 cxZero.i, .int .u8 cxZero.r0, .int .u8 cxZero.r1, .int .u8 cxZero.r2, .int .u8 cxZero.r3, .int .u8 cxZero.r4, .int .u8 cxZero.r5, .int .i8 cxZero.c0, .int .i8 cxZero.c1, .int .i8 cxZero.c2, .int .i8 cxZero.c3, .int .i8 cxZero.c4, .int .i8 cxZero.c5, .int .u8 cxZero.m, .int .u16 cxZero.n, .bool cxZero.x, .int .u8 cxZero.h] 28)
  have hgw := h.lt
  have hvb : ∀ i, i < 4 → ∀ k, (v i).ownBlock = some k → k < w.heap.size := fun i hi k e => ((h.own i hi).lt k e).2
  have HVB := Lib.hid hvb
  have hbyt : bytes (toldL ls) := pdat_bytes (h.byt _ (by have := vst_lt3 ls; omega))
  have hcok := toldCx_ok hbyt
  have hcr := toldCx_right (ls := ls)
  obtain ⟨c, hc⟩ : ∃ c, c = toldCx ls := ⟨_, rfl⟩
  obtain ⟨ok, hok⟩ : ∃ ok, ok = toldOk ls := ⟨_, rfl⟩
  rw [← hc] at hcok hcr
  obtain ⟨c', hc'⟩ : ∃ c', c' = c.reset := ⟨_, rfl⟩
  have hcok' := Cx.reset_ok hcok
  have hcr' := Cx.reset_right hcr
  rw [← hc'] at hcok' hcr'
  have HCOK := Lib.hid hcok
  have HCOK' := Lib.hid hcok'
  have HCR' := Lib.hid hcr'
  have HC := Lib.hid hc
  have HC' := Lib.hid hc'
  have HOK := Lib.hid hok
  have HT := Lib.hid ht
  have H0 := Lib.hid (h.below hb0)
  have S0 := Lib.hid (MStep.of_below (g := g) (v := v) hb0)
  clear h hbyt hcok hcr hcok' hcr' hc hc' hok ht hvb
  go_enter Try.func33, Try.ntmps33
  go_wp2_with fail
  obtain ⟨w0, hw0⟩ : ∃ w0, w0 = w.alloc (.cells #[.int .u16 cxZero.f, .int .u16 cxZero.i, .int .u8 cxZero.r0, .int .u8 cxZero.r1, .int .u8 cxZero.r2, .int .u8 cxZero.r3, .int .u8 cxZero.r4, .int .u8 cxZero.r5, .int .i8 cxZero.c0, .int .i8 cxZero.c1, .int .i8 cxZero.c2, .int .i8 cxZero.c3, .int .i8 cxZero.c4, .int .i8 cxZero.c5, .int .u8 cxZero.m, .int .u16 cxZero.n, .bool cxZero.x, .int .u8 cxZero.h] 28) := ⟨_, rfl⟩
  obtain ⟨x0, hx00⟩ : ∃ x0, x0 = w.heap.size := ⟨_, rfl⟩
  have hx0n : w.heap.size ≤ x0 := by omega
  rw [← hw0] at hb0 hx0 H0 S0
  rw [← hx00] at hx0
  rw [← hw0, ← hx00]
  have hb0s := hb0.size
  have hx0lt := box_lt hx0
  clear hw0 hx00 hzc
  go_at_call 70
  refine (mReset H0.out).mono ?_
  rintro e w1 ⟨⟨u, rfl⟩, hm1, hs1⟩
  have HX1 := Lib.hid ((hs1.block x0 hx0lt (by omega) (fun i hi e => by have := HVB.out i hi x0 e; omega)).trans hx0)
  have H1 := Lib.hid hm1
  have S1 := Lib.hid (S0.out.trans hs1)
  have hs01 : w0.heap.size ≤ w1.heap.size := hs1.size
  clear hm1 hs1 hx0 hb0 S0 H0
  go_wp2_with fail
  go_at_call 32
  refine (cxRead H1.out).mono ?_
  rintro e w2 ⟨rfl, hb2⟩
  rw [(told_up ls []).2.1, (told_up ls []).2.2, ← HC.out, ← HOK.out]
  have hs12 : w1.heap.size ≤ w2.heap.size := hb2.size
  have hal : Below w2.heap.size w2 (w2.alloc (.cells #[.int .u16 c.f, .int .u16 c.i, .int .u8 c.r0, .int .u8 c.r1, .int .u8 c.r2, .int .u8 c.r3, .int .u8 c.r4, .int .u8 c.r5, .int .i8 c.c0, .int .i8 c.c1, .int .i8 c.c2, .int .i8 c.c3, .int .i8 c.c4, .int .i8 c.c5, .int .u8 c.m, .int .u16 c.n, .bool c.x, .int .u8 c.h] 28)) := (Below.refl _ _).alloc (Nat.le_refl _) _
  have hb3 := hb2.trans (hal.mono hs12)
  have hx4 := heap_alloc_new w2 (.cells #[.int .u16 c.f, .int .u16 c.i, .int .u8 c.r0, .int .u8 c.r1, .int .u8 c.r2, .int .u8 c.r3, .int .u8 c.r4, .int .u8 c.r5, .int .i8 c.c0, .int .i8 c.c1, .int .i8 c.c2, .int .i8 c.c3, .int .i8 c.c4, .int .i8 c.c5, .int .u8 c.m, .int .u16 c.n, .bool c.x, .int .u8 c.h] 28)
  obtain ⟨w3, hw3, hb3', hx4'⟩ : ∃ w3, w3 = w2.alloc (.cells #[.int .u16 c.f, .int .u16 c.i, .int .u8 c.r0, .int .u8 c.r1, .int .u8 c.r2, .int .u8 c.r3, .int .u8 c.r4, .int .u8 c.r5, .int .i8 c.c0, .int .i8 c.c1, .int .i8 c.c2, .int .i8 c.c3, .int .i8 c.c4, .int .i8 c.c5, .int .u8 c.m, .int .u16 c.n, .bool c.x, .int .u8 c.h] 28) ∧ Below w1.heap.size w1 w3 ∧ w3.heap[w2.heap.size]? = some (.cells #[.int .u16 c.f, .int .u16 c.i, .int .u8 c.r0, .int .u8 c.r1, .int .u8 c.r2, .int .u8 c.r3, .int .u8 c.r4, .int .u8 c.r5, .int .i8 c.c0, .int .i8 c.c1, .int .i8 c.c2, .int .i8 c.c3, .int .i8 c.c4, .int .i8 c.c5, .int .u8 c.m, .int .u16 c.n, .bool c.x, .int .u8 c.h] 28 (0, 0)) := ⟨_, rfl, hb3, hx4⟩
  have HW3 := Lib.hid hw3
  have hx4lt := box_lt hx4'
  have HX3 := Lib.hid (box_below HX1.out hb3' (box_lt HX1.out))
  have H3 := Lib.hid (H1.out.below hb3')
  have S3 := Lib.hid (S1.out.then_below hb3')
  clear hb2 hal hb3 hx4 hw3 hb3' HX1 H1 S1
  go_wp2_with (first | (refine wpList_load_row rfl 28 _ rfl _ rfl _ _ _ _ hx4' Try.underlying28 rfl (by exact size_cx) ?_; (try go_simp)) | ((refine wpList_store_row rfl 28 _ _ rfl _ _ rfl rfl _ _ (by (first | exact heap_alloc2_new _ _ _ | exact heap_alloc2_old _ _ _ | exact heap_alloc_new _ _ | assumption)) (by exact size_cx) (by rfl) (by simp [Value.oneCell']) ?_; (first | rw [setRow_alloc2_new] | rw [setRow_alloc2_old] | rw [World.setRow_alloc_new] | skip); (try go_simp)); rw [← HW3.out]))
  obtain ⟨x4, hx44⟩ : ∃ x4, x4 = w2.heap.size := ⟨_, rfl⟩
  have hx4n : w.heap.size ≤ x4 := by omega
  have hx04 : x0 ≠ x4 := by omega
  have hgx4 : g ≠ x4 := by omega
  rw [← hx44] at hx4' hx4lt ⊢
  clear hx44
  go_at_call 36
  refine (Reset_any c _ HCOK.out).mono ?_
  rintro e w4 ⟨rfl, hb4⟩
  rw [← HC'.out]
  have hx5 := box_below hx4' hb4 hx4lt
  have H5 := Lib.hid ((H3.out.below hb4).setBox hx5 (by decide) hgx4 #[.int .u16 c'.f, .int .u16 c'.i, .int .u8 c'.r0, .int .u8 c'.r1, .int .u8 c'.r2, .int .u8 c'.r3, .int .u8 c'.r4, .int .u8 c'.r5, .int .i8 c'.c0, .int .i8 c'.c1, .int .i8 c'.c2, .int .i8 c'.c3, .int .i8 c'.c4, .int .i8 c'.c5, .int .u8 c'.m, .int .u16 c'.n, .bool c'.x, .int .u8 c'.h])
  have S5 := Lib.hid ((S3.out.then_below hb4).setRow hx4n #[.int .u16 c'.f, .int .u16 c'.i, .int .u8 c'.r0, .int .u8 c'.r1, .int .u8 c'.r2, .int .u8 c'.r3, .int .u8 c'.r4, .int .u8 c'.r5, .int .i8 c'.c0, .int .i8 c'.c1, .int .i8 c'.c2, .int .i8 c'.c3, .int .i8 c'.c4, .int .i8 c'.c5, .int .u8 c'.m, .int .u16 c'.n, .bool c'.x, .int .u8 c'.h])
  have hx5b := setRow_heap _ x4 _ #[.int .u16 c'.f, .int .u16 c'.i, .int .u8 c'.r0, .int .u8 c'.r1, .int .u8 c'.r2, .int .u8 c'.r3, .int .u8 c'.r4, .int .u8 c'.r5, .int .i8 c'.c0, .int .i8 c'.c1, .int .i8 c'.c2, .int .i8 c'.c3, .int .i8 c'.c4, .int .i8 c'.c5, .int .u8 c'.m, .int .u16 c'.n, .bool c'.x, .int .u8 c'.h] _ _ hx5
  have HX5 := Lib.hid ((setRow_other w4 x4 x0 #[.int .u16 c'.f, .int .u16 c'.i, .int .u8 c'.r0, .int .u8 c'.r1, .int .u8 c'.r2, .int .u8 c'.r3, .int .u8 c'.r4, .int .u8 c'.r5, .int .i8 c'.c0, .int .i8 c'.c1, .int .i8 c'.c2, .int .i8 c'.c3, .int .i8 c'.c4, .int .i8 c'.c5, .int .u8 c'.m, .int .u16 c'.n, .bool c'.x, .int .u8 c'.h] hx04).trans (box_below HX3.out hb4 (box_lt HX3.out)))
  obtain ⟨w5, hw5, hx5b'⟩ : ∃ w5, w5 = w4.setRow x4 #[.int .u16 c'.f, .int .u16 c'.i, .int .u8 c'.r0, .int .u8 c'.r1, .int .u8 c'.r2, .int .u8 c'.r3, .int .u8 c'.r4, .int .u8 c'.r5, .int .i8 c'.c0, .int .i8 c'.c1, .int .i8 c'.c2, .int .i8 c'.c3, .int .i8 c'.c4, .int .i8 c'.c5, .int .u8 c'.m, .int .u16 c'.n, .bool c'.x, .int .u8 c'.h] ∧ w5.heap[x4]? = some (.cells #[.int .u16 c'.f, .int .u16 c'.i, .int .u8 c'.r0, .int .u8 c'.r1, .int .u8 c'.r2, .int .u8 c'.r3, .int .u8 c'.r4, .int .u8 c'.r5, .int .i8 c'.c0, .int .i8 c'.c1, .int .i8 c'.c2, .int .i8 c'.c3, .int .i8 c'.c4, .int .i8 c'.c5, .int .u8 c'.m, .int .u16 c'.n, .bool c'.x, .int .u8 c'.h] 28 (0, 0)) := ⟨_, rfl, hx5b⟩
  rw [← hw5] at H5 S5 HX5
  have HW5 := Lib.hid hw5
  clear hb4 hx4' hx4lt H3 S3 HX3 hx5b hw5
  go_wp2_with (first | (refine wpList_load_row rfl 28 _ rfl _ rfl _ _ _ _ hx5b' Try.underlying28 rfl (by exact size_cx) ?_; (try go_simp)) | ((refine wpList_store_row rfl 28 _ _ rfl _ _ rfl rfl _ _ hx5 (by exact size_cx) (by rfl) (by simp [Value.oneCell']) ?_; (try go_simp)); rw [← HW5.out]))
  clear hx5
  go_at_call 17
  refine (Bytes_of c' _ HCOK'.out HCR'.out).mono ?_
  rintro e w6 ⟨vb, rfl, hown, hb6⟩
  obtain ⟨va, vc, rfl⟩ := own_form hown
  obtain ⟨P, hP⟩ : ∃ P, P = bytesOf c' := ⟨_, rfl⟩
  rw [← hP] at hown
  have hPl : P.length = 21 := by rw [hP]; rfl
  have hPb : bytes P := by rw [hP]; exact bytesOf_bytes HCOK'.out HCR'.out
  have hrd := rd_of_own (f := bv P) hown (fun i hi => bl_at P (by rw [hPl]; exact hi))
  have H6 := Lib.hid (H5.out.below hb6)
  have S6 := Lib.hid (S5.out.then_below hb6)
  have HX6 := Lib.hid (box_below HX5.out hb6 (box_lt HX5.out))
  have HY6 := Lib.hid (box_below hx5b' hb6 (box_lt hx5b'))
  have hF := mFill va vc w6.heap.size P H6.out (Nat.le_refl _) (by rw [hPl]; exact hrd) hPb
  rw [gtop_up, hPl] at hF
  have HF := Lib.hid hF
  have HP := Lib.hid hP
  clear hown hb6 H5 S5 HX5 hx5b' hrd hF hP hPb hPl
  go_wp2_with fail
  go_at_call 29
  refine HF.out.mono ?_
  rintro e w7 (⟨h1, _⟩ | ⟨_, h1, _⟩ | ⟨_, _, rfl, v7, hm7, hs7⟩)
  · omega
  · have := HT.out; omega
  have hob : ∀ x, w.heap.size ≤ x → ∀ i, i < 4 → (upd v 3 (.slice none 0 0) i).ownBlock ≠ some x := fun x hx i hi e => by
    by_cases e3 : i = 3
    · subst e3; rw [upd_same] at e; simp [Value.ownBlock] at e
    · rw [upd_other _ _ e3] at e
      have := HVB.out i hi x e; omega
  have hx7 := (hs7.block x0 (box_lt HX6.out) (by omega) (hob x0 hx0n)).trans HX6.out
  have hy7 := (hs7.block x4 (box_lt HY6.out) (Ne.symm hgx4) (hob x4 hx4n)).trans HY6.out
  have H7 := Lib.hid (hm7.setBox hx7 (by decide) (by omega) #[.int .u16 c'.f, .int .u16 c'.i, .int .u8 c'.r0, .int .u8 c'.r1, .int .u8 c'.r2, .int .u8 c'.r3, .int .u8 c'.r4, .int .u8 c'.r5, .int .i8 c'.c0, .int .i8 c'.c1, .int .i8 c'.c2, .int .i8 c'.c3, .int .i8 c'.c4, .int .i8 c'.c5, .int .u8 c'.m, .int .u16 c'.n, .bool c'.x, .int .u8 c'.h])
  have S7 := Lib.hid ((S6.out.trans hs7).setRow hx0n #[.int .u16 c'.f, .int .u16 c'.i, .int .u8 c'.r0, .int .u8 c'.r1, .int .u8 c'.r2, .int .u8 c'.r3, .int .u8 c'.r4, .int .u8 c'.r5, .int .i8 c'.c0, .int .i8 c'.c1, .int .i8 c'.c2, .int .i8 c'.c3, .int .i8 c'.c4, .int .i8 c'.c5, .int .u8 c'.m, .int .u16 c'.n, .bool c'.x, .int .u8 c'.h])
  clear hm7 hs7 hob HX6 HY6 H6 S6 HF
  go_wp2_with (first | (refine wpList_load_row rfl 28 _ rfl _ rfl _ _ _ _ hy7 Try.underlying28 rfl (by exact size_cx) ?_; (try go_simp)) | (refine wpList_store_row rfl 28 _ _ rfl _ _ rfl rfl _ _ hx7 (by exact size_cx) (by rfl) (by simp [Value.oneCell']) ?_; (try go_simp)))
  have hfin := setRow_heap _ x0 _ #[.int .u16 c'.f, .int .u16 c'.i, .int .u8 c'.r0, .int .u8 c'.r1, .int .u8 c'.r2, .int .u8 c'.r3, .int .u8 c'.r4, .int .u8 c'.r5, .int .i8 c'.c0, .int .i8 c'.c1, .int .i8 c'.c2, .int .i8 c'.c3, .int .i8 c'.c4, .int .i8 c'.c5, .int .u8 c'.m, .int .u16 c'.n, .bool c'.x, .int .u8 c'.h] _ _ hx7
  refine bodyPost_ret (results_cell_tmp2 rfl _ _ _ _ _ _ rfl hfin Try.underlying28 rfl size_cx) rfl ?_
  have he : bootCell ls = mkCell (gtop ls 3 + 1) P := by unfold bootCell; rw [← HC.out, ← HC'.out, HP.out]
  rw [he, ← HC.out, ← HC'.out, ← HOK.out]
  exact ⟨rfl, v7, H7.out, S7.out⟩
end Go.Proofs.Ytpgophkegjeheaa
