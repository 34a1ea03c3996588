/- Layer 8: the document's own Parse. -/
import Derived.Test.YtpgophkegjeheaaCxR
import Derived.BigRegion
namespace Go.Proofs.Ytpgophkegjeheaa
open Go.RowKit Go.Own
set_option linter.unusedVariables false
set_option linter.unusedSimpArgs false
/-- What a right context's bytes must meet. -/
structure Fit (l : List Nat) : Prop where
  h16 : l.getD 16 0 ≤ 3
  h19 : l.getD 19 0 ≤ 1
  h20 : l.getD 20 0 ≤ 31
  hu : ∀ i, i < 6 → l.getD (10 + i) 0 ≤ 16
theorem unit_le {x : Nat} (h : x < 256) : (-1 ≤ unitOf x ∧ unitOf x < 16) ↔ x ≤ 16 := by
  unfold unitOf
  split
  · split <;> omega
  · omega
theorem unit_fit {x : Nat} (h : x ≤ 16) : unitOf x = (x : Int) - 1 := by
  unfold unitOf
  rw [if_pos (by omega), if_neg (by omega)]
theorem unit_toNat {x : Nat} (h : x ≤ 16) : (unitOf x + 1).toNat = x := by rw [unit_fit h]; omega
theorem list21 {l : List Nat} (h : l.length = 21) : l = [l.getD 0 0, l.getD 1 0, l.getD 2 0, l.getD 3 0, l.getD 4 0, l.getD 5 0, l.getD 6 0, l.getD 7 0, l.getD 8 0, l.getD 9 0, l.getD 10 0, l.getD 11 0, l.getD 12 0, l.getD 13 0, l.getD 14 0, l.getD 15 0, l.getD 16 0, l.getD 17 0, l.getD 18 0, l.getD 19 0, l.getD 20 0] := by
  match l, h with
  | [_, _, _, _, _, _, _, _, _, _, _, _, _, _, _, _, _, _, _, _, _], _ => rfl
theorem good_fit {l : List Nat} (hb : bytes l) (hl : l.length = 21) : cxGood l ↔ Fit l := by
  have g := fun i => hb.at i
  constructor
  · intro h
    obtain ⟨hu, hm, hh⟩ := (Cx.right_iff _).1 h.1
    have hm' : ((l.getD 16 0 : Nat) : Int) ≤ 3 := hm
    have hh' : ((l.getD 20 0 : Nat) : Int) < 32 := hh
    refine ⟨by omega, ?_, by omega, fun i hi => ?_⟩
    · have h2 : (if (cxOf l).x then 1 else 0) = l.getD 19 0 := congrArg (fun l => l.getD 19 0) h.2
      rw [← h2]; split <;> omega
    · have h3 := hu i hi
      have h4 : (cxOf l).u i = unitOf (l.getD (10 + i) 0) := by
        have : i = 0 ∨ i = 1 ∨ i = 2 ∨ i = 3 ∨ i = 4 ∨ i = 5 := by omega
        rcases this with rfl | rfl | rfl | rfl | rfl | rfl <;> rfl
      rw [h4] at h3
      exact (unit_le (g _)).1 h3
  · rintro ⟨h16, h19, h20, hu⟩
    refine ⟨(Cx.right_iff _).2 ⟨fun i hi => ?_, ?_, ?_⟩, ?_⟩
    · have h4 : (cxOf l).u i = unitOf (l.getD (10 + i) 0) := by
        have : i = 0 ∨ i = 1 ∨ i = 2 ∨ i = 3 ∨ i = 4 ∨ i = 5 := by omega
        rcases this with rfl | rfl | rfl | rfl | rfl | rfl <;> rfl
      rw [h4]
      exact (unit_le (g _)).2 (hu i hi)
    · show ((l.getD 16 0 : Nat) : Int) ≤ 3; omega
    · show ((l.getD 20 0 : Nat) : Int) < 32; omega
    · have u0 : (unitOf (l.getD 10 0) + 1).toNat = l.getD 10 0 := unit_toNat (hu 0 (by omega))
      have u1 : (unitOf (l.getD 11 0) + 1).toNat = l.getD 11 0 := unit_toNat (hu 1 (by omega))
      have u2 : (unitOf (l.getD 12 0) + 1).toNat = l.getD 12 0 := unit_toNat (hu 2 (by omega))
      have u3 : (unitOf (l.getD 13 0) + 1).toNat = l.getD 13 0 := unit_toNat (hu 3 (by omega))
      have u4 : (unitOf (l.getD 14 0) + 1).toNat = l.getD 14 0 := unit_toNat (hu 4 (by omega))
      have u5 : (unitOf (l.getD 15 0) + 1).toNat = l.getD 15 0 := unit_toNat (hu 5 (by omega))
      have hx : (if decide (l.getD 19 0 ≠ 0) then 1 else 0) = l.getD 19 0 := by
        have : l.getD 19 0 = 0 ∨ l.getD 19 0 = 1 := by omega
        rcases this with h | h <;> rw [h] <;> rfl
      have e : ∀ k, at2 l k / 256 = l.getD k 0 ∧ at2 l k % 256 = l.getD (k + 1) 0 := fun k => by
        have := g k
        have := g (k + 1)
        unfold at2
        omega
      conv => rhs; rw [list21 hl]
      show [at2 l 0 / 256, at2 l 0 % 256, at2 l 2 / 256, at2 l 2 % 256, ((l.getD 4 0 : Nat) : Int).toNat, ((l.getD 5 0 : Nat) : Int).toNat, ((l.getD 6 0 : Nat) : Int).toNat, ((l.getD 7 0 : Nat) : Int).toNat, ((l.getD 8 0 : Nat) : Int).toNat, ((l.getD 9 0 : Nat) : Int).toNat, (unitOf (l.getD 10 0) + 1).toNat, (unitOf (l.getD 11 0) + 1).toNat, (unitOf (l.getD 12 0) + 1).toNat, (unitOf (l.getD 13 0) + 1).toNat, (unitOf (l.getD 14 0) + 1).toNat, (unitOf (l.getD 15 0) + 1).toNat, ((l.getD 16 0 : Nat) : Int).toNat, at2 l 17 / 256, at2 l 17 % 256, (if decide (l.getD 19 0 ≠ 0) then 1 else 0), ((l.getD 20 0 : Nat) : Int).toNat] = _
      rw [(e 0).1, (e 0).2, (e 2).1, (e 2).2, (e 17).1, (e 17).2, u0, u1, u2, u3, u4, u5, hx]
      simp only [Int.toNat_natCast]
/-- The context, read so far. -/
def pcx (l : List Nat) : Nat → Cx
  | 0 => ⟨(at2 l 0 : Nat), (at2 l 2 : Nat), 0, 0, 0, 0, 0, 0, 0, 0, 0, 0, 0, 0, (l.getD 16 0 : Nat), (at2 l 17 : Nat), (l.getD 19 0 : Int) == 1, (l.getD 20 0 : Nat)⟩
  | k + 1 => ((pcx l k).setR k (l.getD (4 + k) 0 : Nat)).setU k ((l.getD (10 + k) 0 : Int) - 1)
theorem wrap8_small : ∀ y : Nat, y < 17 → IntKind.i8.wrap (y : Int) = (y : Int) ∧ IntKind.i8.wrap ((y : Int) - 1) = (y : Int) - 1 := by decide +kernel
theorem pcx_put (c : Cx) {k : Nat} (hk : k < 6) (x y : Int) : ((#[.int .u16 c.f, .int .u16 c.i, .int .u8 c.r0, .int .u8 c.r1, .int .u8 c.r2, .int .u8 c.r3, .int .u8 c.r4, .int .u8 c.r5, .int .i8 c.c0, .int .i8 c.c1, .int .i8 c.c2, .int .i8 c.c3, .int .i8 c.c4, .int .i8 c.c5, .int .u8 c.m, .int .u16 c.n, .bool c.x, .int .u8 c.h] : Array Value).setIfInBounds (2 + k) (.int .u8 x)).setIfInBounds (8 + k) (.int .i8 y) = #[.int .u16 ((c.setR k x).setU k y).f, .int .u16 ((c.setR k x).setU k y).i, .int .u8 ((c.setR k x).setU k y).r0, .int .u8 ((c.setR k x).setU k y).r1, .int .u8 ((c.setR k x).setU k y).r2, .int .u8 ((c.setR k x).setU k y).r3, .int .u8 ((c.setR k x).setU k y).r4, .int .u8 ((c.setR k x).setU k y).r5, .int .i8 ((c.setR k x).setU k y).c0, .int .i8 ((c.setR k x).setU k y).c1, .int .i8 ((c.setR k x).setU k y).c2, .int .i8 ((c.setR k x).setU k y).c3, .int .i8 ((c.setR k x).setU k y).c4, .int .i8 ((c.setR k x).setU k y).c5, .int .u8 ((c.setR k x).setU k y).m, .int .u16 ((c.setR k x).setU k y).n, .bool ((c.setR k x).setU k y).x, .int .u8 ((c.setR k x).setU k y).h] := by
  have : k = 0 ∨ k = 1 ∨ k = 2 ∨ k = 3 ∨ k = 4 ∨ k = 5 := by omega
  rcases this with rfl | rfl | rfl | rfl | rfl | rfl <;> rfl
theorem pcx_done {l : List Nat} (h : Fit l) : pcx l 6 = cxOf l := by
  have h0 := unit_fit (h.hu 0 (by omega))
  have h1 := unit_fit (h.hu 1 (by omega))
  have h2 := unit_fit (h.hu 2 (by omega))
  have h3 := unit_fit (h.hu 3 (by omega))
  have h4 := unit_fit (h.hu 4 (by omega))
  have h5 := unit_fit (h.hu 5 (by omega))
  have hx : ((l.getD 19 0 : Int) == 1) = decide (l.getD 19 0 ≠ 0) := by
    have h19 := h.h19
    have : l.getD 19 0 = 0 ∨ l.getD 19 0 = 1 := by omega
    rcases this with h | h <;> rw [h] <;> rfl
  rw [Cx.ext_iff]
  exact ⟨rfl, rfl, rfl, rfl, rfl, rfl, rfl, rfl, h0.symm, h1.symm, h2.symm, h3.symm, h4.symm, h5.symm, rfl, rfl, hx, rfl⟩
theorem sub2 {n len cap b off k : Nat} {w : World} {l : List Nat} (h : Rd n w (some ⟨b, off, none⟩) len cap (bv l)) (hk : k + 2 ≤ len) : Rd n w (some ⟨b, off + k, none⟩) 2 (cap - k) (bv [l.getD k 0, l.getD (k + 1) 0]) := by
  have h1 := h.le
  have h2 := h.top
  refine ⟨by omega, by omega, fun e => (by cases e), fun _ => ⟨b, off + k, rfl, ?_, fun i hi => ?_⟩⟩
  · obtain ⟨b', off', e, hb, _⟩ := h.row (by omega)
    simp only [Option.some.injEq, Addr.mk.injEq] at e
    obtain ⟨rfl, _, _⟩ := e
    exact hb
  · have : i = 0 ∨ i = 1 := by omega
    rcases this with rfl | rfl
    · exact rd_cell (k := k) h (by omega)
    · have := rd_cell (k := k + 1) h (by omega)
      rw [show off + k + 1 = off + (k + 1) by omega]
      exact this
theorem val2 (l : List Nat) (k : Nat) : val [l.getD k 0, l.getD (k + 1) 0] = at2 l k := by
  unfold val at2
  simp only [List.foldl]
  omega
/-- What the document's Parse hands back. -/
def RxParse (w : World) (l : List Nat) (e : Ending) (w' : World) : Prop :=
  Below w.heap.size w w' ∧ ((cxGood l ∧ e = .returned (.tuple #[.agg #[.int .u16 (cxOf l).f, .int .u16 (cxOf l).i, .int .u8 (cxOf l).r0, .int .u8 (cxOf l).r1, .int .u8 (cxOf l).r2, .int .u8 (cxOf l).r3, .int .u8 (cxOf l).r4, .int .u8 (cxOf l).r5, .int .i8 (cxOf l).c0, .int .i8 (cxOf l).c1, .int .i8 (cxOf l).c2, .int .i8 (cxOf l).c3, .int .i8 (cxOf l).c4, .int .i8 (cxOf l).c5, .int .u8 (cxOf l).m, .int .u16 (cxOf l).n, .bool (cxOf l).x, .int .u8 (cxOf l).h], .bool true])) ∨ (¬ cxGood l ∧ e = .returned (.tuple #[.agg #[.int .u16 cxZero.f, .int .u16 cxZero.i, .int .u8 cxZero.r0, .int .u8 cxZero.r1, .int .u8 cxZero.r2, .int .u8 cxZero.r3, .int .u8 cxZero.r4, .int .u8 cxZero.r5, .int .i8 cxZero.c0, .int .i8 cxZero.c1, .int .i8 cxZero.c2, .int .i8 cxZero.c3, .int .i8 cxZero.c4, .int .i8 cxZero.c5, .int .u8 cxZero.m, .int .u16 cxZero.n, .bool cxZero.x, .int .u8 cxZero.h], .bool false])))
set_option maxRecDepth 100000 in
set_option maxHeartbeats 4000000 in
theorem xParse_len (a : Option Addr) (len cap : Nat) (l : List Nat) (w : World) (hl : l.length = len) (h21 : len ≠ 21) :
    Calls Try.prog 25 #[.slice a len cap] w (RxParse w l) := by
  have hzc := zero_rc
  have hno : ¬ cxGood l := fun h => h21 (by rw [← hl]; exact good_len h)
  have hne : ((len : Int) != 21) = true := by simp [bne]; omega
  have HNO := Lib.hid hno
  clear hno hl
  go_enter Try.func25, Try.ntmps25
  go_wp2_with (first | (refine wpList_store_row rfl 35 _ _ rfl _ _ rfl rfl _ _ (by (first | exact heap_alloc2_new _ _ _ | exact heap_alloc2_old _ _ _ | exact heap_alloc_new _ _ | assumption)) (by exact size_rc) (by rfl) (by simp [Value.oneCell']) ?_; (first | rw [setRow_alloc2_new] | rw [setRow_alloc2_old] | rw [World.setRow_alloc_new] | skip); (try go_simp)))
  refine bodyPost_ret (results_cell_tmp2 rfl _ _ _ _ _ _ rfl (heap_alloc_new _ _) Try.underlying35 rfl size_rc) rfl ?_
  exact ⟨by repeat' (first | (with_reducible exact Below.refl _ _) | (with_reducible assumption) | (with_reducible refine Below.setCell ?_ ?_ _) | (with_reducible refine Below.alloc ?_ ?_ _) | (with_reducible refine Below.drew ?_) | (with_reducible refine Below.drawsN ?_ _) | go_size), .inr ⟨HNO.out, rfl⟩⟩
set_option maxRecDepth 100000 in
set_option maxHeartbeats 4000000 in
theorem xParse_21 (a : Option Addr) (cap n : Nat) (l : List Nat) (w : World) (hl : l.length = 21) (hn : n ≤ w.heap.size) (hr : Rd n w a 21 cap (bv l)) (hb : bytes l) :
    Calls Try.prog 25 #[.slice a 21 cap] w (RxParse w l) := by
  have hzc := zero_rc
  have h1 := hr.le
  have h2 := hr.top
  unfold maxLen at h2
  obtain ⟨b, off, rfl, hbn, hc⟩ := hr.row (by omega)
  have hb0 : Below w.heap.size w (w.alloc (.cells #[.int .u16 cxZero.f, .int .u16 cxZero.i, .int .u8 cxZero.r0, .int .u8 cxZero.r1, .int .u8 cxZero.r2, .int .u8 cxZero.r3, .int .u8 cxZero.r4, .int .u8 cxZero.r5, .int .i8 cxZero.c0, .int .i8 cxZero.c1, .int .i8 cxZero.c2, .int .i8 cxZero.c3, .int .i8 cxZero.c4, .int .i8 cxZero.c5, .int .u8 cxZero.m, .int .u16 cxZero.n, .bool cxZero.x, .int .u8 cxZero.h] 35)) := (Below.refl _ _).alloc (Nat.le_refl _) _
  have hC0 := heap_alloc_new w (.cells #[.int .u16 cxZero.f, .int .u16 cxZero.i, .int .u8 cxZero.r0, .int .u8 cxZero.r1, .int .u8 cxZero.r2, .int .u8 cxZero.r3, .int .u8 cxZero.r4, .int .u8 cxZero.r5, .int .i8 cxZero.c0, .int .i8 cxZero.c1, .int .i8 cxZero.c2, .int .i8 cxZero.c3, .int .i8 cxZero.c4, .int .i8 cxZero.c5, .int .u8 cxZero.m, .int .u16 cxZero.n, .bool cxZero.x, .int .u8 cxZero.h] 35)
  have HL := Lib.hid hl
  have HBY := Lib.hid hb
  have HR0 := Lib.hid ((hr.below' hb0 hn).mono (Nat.le_trans hn hb0.size))
  have HB0 := Lib.hid hb0
  obtain ⟨x16, hx16⟩ : ∃ x, x = l.getD 16 0 := ⟨_, rfl⟩
  obtain ⟨x19, hx19⟩ : ∃ x, x = l.getD 19 0 := ⟨_, rfl⟩
  obtain ⟨x20, hx20⟩ : ∃ x, x = l.getD 20 0 := ⟨_, rfl⟩
  have d16 := rd_cell (k := 16) HR0.out (by omega)
  have d19 := rd_cell (k := 19) HR0.out (by omega)
  have d20 := rd_cell (k := 20) HR0.out (by omega)
  unfold bv at d16 d19 d20
  rw [← hx16] at d16
  rw [← hx19] at d19
  rw [← hx20] at d20
  have HX16 := Lib.hid hx16
  have HX19 := Lib.hid hx19
  have HX20 := Lib.hid hx20
  clear hl hr hc hb0 hb hx16 hx19 hx20
  by_cases g16 : x16 ≤ 3
  case neg =>
    have HNO := Lib.hid (show ¬ cxGood l from fun h => by
      have hf := (good_fit HBY.out HL.out).1 h
      have e1 := hf.h16
      have e2 := hf.h19
      have e3 := hf.h20
      rw [← HX16.out] at e1
      rw [← HX19.out] at e2
      rw [← HX20.out] at e3
      omega)
    clear HX16 HX19 HX20
    go_enter Try.func25, Try.ntmps25
    go_wp2_with (first | (refine wpList_store_row rfl 35 _ _ rfl _ _ rfl rfl _ _ (by (first | exact heap_alloc2_new _ _ _ | exact heap_alloc2_old _ _ _ | exact heap_alloc_new _ _ | assumption)) (by exact size_rc) (by rfl) (by simp [Value.oneCell']) ?_; (first | rw [setRow_alloc2_new] | rw [setRow_alloc2_old] | rw [World.setRow_alloc_new] | skip); (try go_simp)))
    refine bodyPost_ret (results_cell_tmp2 rfl _ _ _ _ _ _ rfl (heap_alloc_new _ _) Try.underlying35 rfl size_rc) rfl ?_
    exact ⟨by repeat' (first | (with_reducible exact Below.refl _ _) | (with_reducible assumption) | (with_reducible refine Below.setCell ?_ ?_ _) | (with_reducible refine Below.alloc ?_ ?_ _) | (with_reducible refine Below.drew ?_) | (with_reducible refine Below.drawsN ?_ _) | go_size), .inr ⟨HNO.out, rfl⟩⟩
  by_cases g19 : x19 ≤ 1
  case neg =>
    have HNO := Lib.hid (show ¬ cxGood l from fun h => by
      have hf := (good_fit HBY.out HL.out).1 h
      have e1 := hf.h16
      have e2 := hf.h19
      have e3 := hf.h20
      rw [← HX16.out] at e1
      rw [← HX19.out] at e2
      rw [← HX20.out] at e3
      omega)
    clear HX16 HX19 HX20
    go_enter Try.func25, Try.ntmps25
    go_wp2_with (first | (refine wpList_store_row rfl 35 _ _ rfl _ _ rfl rfl _ _ (by (first | exact heap_alloc2_new _ _ _ | exact heap_alloc2_old _ _ _ | exact heap_alloc_new _ _ | assumption)) (by exact size_rc) (by rfl) (by simp [Value.oneCell']) ?_; (first | rw [setRow_alloc2_new] | rw [setRow_alloc2_old] | rw [World.setRow_alloc_new] | skip); (try go_simp)))
    refine bodyPost_ret (results_cell_tmp2 rfl _ _ _ _ _ _ rfl (heap_alloc_new _ _) Try.underlying35 rfl size_rc) rfl ?_
    exact ⟨by repeat' (first | (with_reducible exact Below.refl _ _) | (with_reducible assumption) | (with_reducible refine Below.setCell ?_ ?_ _) | (with_reducible refine Below.alloc ?_ ?_ _) | (with_reducible refine Below.drew ?_) | (with_reducible refine Below.drawsN ?_ _) | go_size), .inr ⟨HNO.out, rfl⟩⟩
  by_cases g20 : x20 ≤ 31
  case neg =>
    have HNO := Lib.hid (show ¬ cxGood l from fun h => by
      have hf := (good_fit HBY.out HL.out).1 h
      have e1 := hf.h16
      have e2 := hf.h19
      have e3 := hf.h20
      rw [← HX16.out] at e1
      rw [← HX19.out] at e2
      rw [← HX20.out] at e3
      omega)
    clear HX16 HX19 HX20
    go_enter Try.func25, Try.ntmps25
    go_wp2_with (first | (refine wpList_store_row rfl 35 _ _ rfl _ _ rfl rfl _ _ (by (first | exact heap_alloc2_new _ _ _ | exact heap_alloc2_old _ _ _ | exact heap_alloc_new _ _ | assumption)) (by exact size_rc) (by rfl) (by simp [Value.oneCell']) ?_; (first | rw [setRow_alloc2_new] | rw [setRow_alloc2_old] | rw [World.setRow_alloc_new] | skip); (try go_simp)))
    refine bodyPost_ret (results_cell_tmp2 rfl _ _ _ _ _ _ rfl (heap_alloc_new _ _) Try.underlying35 rfl size_rc) rfl ?_
    exact ⟨by repeat' (first | (with_reducible exact Below.refl _ _) | (with_reducible assumption) | (with_reducible refine Below.setCell ?_ ?_ _) | (with_reducible refine Below.alloc ?_ ?_ _) | (with_reducible refine Below.drew ?_) | (with_reducible refine Below.drawsN ?_ _) | go_size), .inr ⟨HNO.out, rfl⟩⟩
  go_enter Try.func25, Try.ntmps25
  go_wp2_with fail
  obtain ⟨w0, hw0⟩ : ∃ w0, w0 = w.alloc (.cells #[.int .u16 cxZero.f, .int .u16 cxZero.i, .int .u8 cxZero.r0, .int .u8 cxZero.r1, .int .u8 cxZero.r2, .int .u8 cxZero.r3, .int .u8 cxZero.r4, .int .u8 cxZero.r5, .int .i8 cxZero.c0, .int .i8 cxZero.c1, .int .i8 cxZero.c2, .int .i8 cxZero.c3, .int .i8 cxZero.c4, .int .i8 cxZero.c5, .int .u8 cxZero.m, .int .u16 cxZero.n, .bool cxZero.x, .int .u8 cxZero.h] 35) := ⟨_, rfl⟩
  obtain ⟨x0, hx0⟩ : ∃ x0, x0 = w.heap.size := ⟨_, rfl⟩
  have hx0n : w.heap.size ≤ x0 := by omega
  rw [← hw0] at HR0 HB0 d16 d19 d20 hC0
  rw [← hx0] at hC0
  rw [← hw0, ← hx0]
  clear hw0 hx0
  obtain ⟨F, hF⟩ : ∃ F, F = at2 l 0 := ⟨_, rfl⟩
  obtain ⟨I', hI⟩ : ∃ I', I' = at2 l 2 := ⟨_, rfl⟩
  obtain ⟨N, hN⟩ : ∃ N, N = at2 l 17 := ⟨_, rfl⟩
  have hFb : F < 65536 := by rw [hF]; exact at2_lt HBY.out 0
  have hIb : I' < 65536 := by rw [hI]; exact at2_lt HBY.out 2
  have hNb : N < 65536 := by rw [hN]; exact at2_lt HBY.out 17
  have hFw : IntKind.u16.wrap (F : Int) = (F : Int) := by rw [IntKind.wrap_u16]; omega
  have hIw : IntKind.u16.wrap (I' : Int) = (I' : Int) := by rw [IntKind.wrap_u16]; omega
  have hNw : IntKind.u16.wrap (N : Int) = (N : Int) := by rw [IntKind.wrap_u16]; omega
  have HF := Lib.hid hF
  have HI := Lib.hid hI
  have HN := Lib.hid hN
  clear hF hI hN
  have hbs : b < w0.heap.size := Nat.lt_of_lt_of_le hbn (Nat.le_trans hn HB0.out.size)
  have hS : ∀ k, k + 2 ≤ 21 → ∀ W : World, Below w0.heap.size w0 W → Calls Try.prog 59 #[.slice (some ⟨b, off + k, none⟩) 2 (cap - k)] W fun e w' => e = .returned (.int .u64 (at2 l k : Nat)) ∧ W = w' := fun k hk W hb => by
    have h := Value_any (some ⟨b, off + k, none⟩) 2 (cap - k) w0.heap.size _ W rfl (sub2 (HR0.out.below hb) hk) (fun x hx => by
      have e : x = l.getD k 0 ∨ x = l.getD (k + 1) 0 := by simpa using hx
      rcases e with rfl | rfl
      · exact HBY.out.at _
      · exact HBY.out.at _) (by decide)
    rw [val2] at h
    exact h
  have HS := Lib.hid hS
  clear hS
  obtain ⟨I, W, hne, hWI, hIW⟩ := Go.Mix.family (fun v => Below w0.heap.size w0 v) (Below.refl _ _)
  have HJ := Lib.hid hIW
  have HW := Lib.hid hWI
  clear hWI hIW
  refine Go.Flo.wp_region (fun w' => ∃ i, w' = W i) 24 [Go.Flo.Spec.is (.int .u64 (F : Nat)), Go.Flo.Spec.is (.int .u64 (I' : Nat)), Go.Flo.Spec.is (.int .u64 (N : Nat)), Go.Flo.Spec.ptr w0.heap.size #[.int .u16 cxZero.f, .int .u16 cxZero.i, .int .u8 cxZero.r0, .int .u8 cxZero.r1, .int .u8 cxZero.r2, .int .u8 cxZero.r3, .int .u8 cxZero.r4, .int .u8 cxZero.r5, .int .i8 cxZero.c0, .int .i8 cxZero.c1, .int .i8 cxZero.c2, .int .i8 cxZero.c3, .int .i8 cxZero.c4, .int .i8 cxZero.c5, .int .u8 cxZero.m, .int .u16 cxZero.n, .bool cxZero.x, .int .u8 cxZero.h] 35] (by kernel_rfl) (by kernel_rfl) (by decide) (by rintro _ w' ⟨i, rfl⟩ hb; exact HJ.out _ ((HW.out i).trans (hb.mono (HW.out i).size))) (HJ.out _ (Below.refl _ _).drew) ?_
  simp only [Go.Flo.pair, Go.Mix.calm, List.take, List.drop, if_true, Bool.false_eq_true, if_false, Nat.reduceAdd, Nat.reduceSub]
  have e16 : ∀ i, (W i).cell? ⟨b, off + 16, none⟩ = some (.int .u8 (x16 : Int)) := fun i => ((HW.out i).cell (p := ⟨b, off + 16, none⟩) hbs).trans d16
  have e19 : ∀ i, (W i).cell? ⟨b, off + 19, none⟩ = some (.int .u8 (x19 : Int)) := fun i => ((HW.out i).cell (p := ⟨b, off + 19, none⟩) hbs).trans d19
  have e20 : ∀ i, (W i).cell? ⟨b, off + 20, none⟩ = some (.int .u8 (x20 : Int)) := fun i => ((HW.out i).cell (p := ⟨b, off + 20, none⟩) hbs).trans d20
  clear d16 d19 d20
  (repeat (first | (refine Go.Flo.fw_calm rfl ?_ (fun K hK => ?_); (first | exact Go.Mix.wanted_none rfl | exact Go.Mix.wanted_tt rfl rfl rfl | exact Go.Mix.wanted_ff rfl rfl rfl); go_big_quiet_op; refine hK _ ?_; clear hK K) | (refine Go.Flo.fw_skip ?_ (fun K hK => ?_); (first | exact Go.Mix.wanted_tf rfl rfl rfl | exact Go.Mix.wanted_ft rfl rfl rfl); go_simp; refine hK _ ?_; clear hK K) | (refine Go.Flo.fw_any rfl ?_ (fun K hK => ?_); (first | exact Go.Mix.wanted_none rfl | exact Go.Mix.wanted_tt rfl rfl rfl | exact Go.Mix.wanted_ff rfl rfl rfl); go_simp; (try (go_ints; try go_simp)); refine hK _ ?_; clear hK K)))
  refine Go.Flo.fw_loud rfl ?_ rfl (by simp) (fun wv hwv hav K hK => ?_) (fun v hv K hK => ?_)
  · (first | exact Go.Mix.wanted_none rfl | exact Go.Mix.wanted_tt rfl rfl rfl | exact Go.Mix.wanted_ff rfl rfl rfl)
  · obtain ⟨iv, rfl⟩ := hwv
    have hbv := HW.out iv
    (first | go_big_op | go_simp)
    go_at_call 59
    refine (HS.out 0 (by decide) _ hbv).mono ?_
    rintro e w' ⟨rfl, rfl⟩
    rw [← HF.out]
    exact hK _ _ (Go.Flo.owes_is _ rfl (Below.refl _ _))
  obtain rfl := hv.is
  go_simp
  refine hK _ ?_
  clear hK K hv
  (repeat (first | (refine Go.Flo.fw_calm rfl ?_ (fun K hK => ?_); (first | exact Go.Mix.wanted_none rfl | exact Go.Mix.wanted_tt rfl rfl rfl | exact Go.Mix.wanted_ff rfl rfl rfl); go_big_quiet_op; refine hK _ ?_; clear hK K) | (refine Go.Flo.fw_skip ?_ (fun K hK => ?_); (first | exact Go.Mix.wanted_tf rfl rfl rfl | exact Go.Mix.wanted_ft rfl rfl rfl); go_simp; refine hK _ ?_; clear hK K) | (refine Go.Flo.fw_any rfl ?_ (fun K hK => ?_); (first | exact Go.Mix.wanted_none rfl | exact Go.Mix.wanted_tt rfl rfl rfl | exact Go.Mix.wanted_ff rfl rfl rfl); go_simp; (try (go_ints; try go_simp)); refine hK _ ?_; clear hK K)))
  refine Go.Flo.fw_loud rfl ?_ rfl (by simp) (fun wv hwv hav K hK => ?_) (fun v hv K hK => ?_)
  · (first | exact Go.Mix.wanted_none rfl | exact Go.Mix.wanted_tt rfl rfl rfl | exact Go.Mix.wanted_ff rfl rfl rfl)
  · obtain ⟨iv, rfl⟩ := hwv
    have hbv := HW.out iv
    (first | go_big_op | go_simp)
    go_at_call 59
    refine (HS.out 2 (by decide) _ hbv).mono ?_
    rintro e w' ⟨rfl, rfl⟩
    rw [← HI.out]
    exact hK _ _ (Go.Flo.owes_is _ rfl (Below.refl _ _))
  obtain rfl := hv.is
  go_simp
  refine hK _ ?_
  clear hK K hv
  (repeat (first | (refine Go.Flo.fw_calm rfl ?_ (fun K hK => ?_); (first | exact Go.Mix.wanted_none rfl | exact Go.Mix.wanted_tt rfl rfl rfl | exact Go.Mix.wanted_ff rfl rfl rfl); go_big_quiet_op; refine hK _ ?_; clear hK K) | (refine Go.Flo.fw_skip ?_ (fun K hK => ?_); (first | exact Go.Mix.wanted_tf rfl rfl rfl | exact Go.Mix.wanted_ft rfl rfl rfl); go_simp; refine hK _ ?_; clear hK K) | (refine Go.Flo.fw_any rfl ?_ (fun K hK => ?_); (first | exact Go.Mix.wanted_none rfl | exact Go.Mix.wanted_tt rfl rfl rfl | exact Go.Mix.wanted_ff rfl rfl rfl); go_simp; (try (go_ints; try go_simp)); refine hK _ ?_; clear hK K)))
  refine Go.Flo.fw_loud rfl ?_ rfl (by simp) (fun wv hwv hav K hK => ?_) (fun v hv K hK => ?_)
  · (first | exact Go.Mix.wanted_none rfl | exact Go.Mix.wanted_tt rfl rfl rfl | exact Go.Mix.wanted_ff rfl rfl rfl)
  · obtain ⟨iv, rfl⟩ := hwv
    have hbv := HW.out iv
    (first | go_big_op | go_simp)
    go_at_call 59
    refine (HS.out 17 (by decide) _ hbv).mono ?_
    rintro e w' ⟨rfl, rfl⟩
    rw [← HN.out]
    exact hK _ _ (Go.Flo.owes_is _ rfl (Below.refl _ _))
  obtain rfl := hv.is
  go_simp
  refine hK _ ?_
  clear hK K hv
  (repeat (first | (refine Go.Flo.fw_calm rfl ?_ (fun K hK => ?_); (first | exact Go.Mix.wanted_none rfl | exact Go.Mix.wanted_tt rfl rfl rfl | exact Go.Mix.wanted_ff rfl rfl rfl); go_big_quiet_op; refine hK _ ?_; clear hK K) | (refine Go.Flo.fw_skip ?_ (fun K hK => ?_); (first | exact Go.Mix.wanted_tf rfl rfl rfl | exact Go.Mix.wanted_ft rfl rfl rfl); go_simp; refine hK _ ?_; clear hK K) | (refine Go.Flo.fw_any rfl ?_ (fun K hK => ?_); (first | exact Go.Mix.wanted_none rfl | exact Go.Mix.wanted_tt rfl rfl rfl | exact Go.Mix.wanted_ff rfl rfl rfl); go_simp; (try (go_ints; try go_simp)); refine hK _ ?_; clear hK K)))
  refine Go.Flo.fw_loud rfl ?_ rfl (by simp) (fun wv hwv hav K hK => ?_) (fun v hv K hK => ?_)
  · (first | exact Go.Mix.wanted_none rfl | exact Go.Mix.wanted_tt rfl rfl rfl | exact Go.Mix.wanted_ff rfl rfl rfl)
  · obtain ⟨iv, rfl⟩ := hwv
    (first | go_big_op | go_simp)
    refine hK _ _ (Go.Flo.owes_ptr (HW.out iv).size)
  obtain ⟨g4, hg4, rfl, hng4⟩ := hv.ptr rfl
  go_simp
  refine hK _ ?_
  clear hK K hv
  (repeat (first | (refine Go.Flo.fw_calm rfl ?_ (fun K hK => ?_); (first | exact Go.Mix.wanted_none rfl | exact Go.Mix.wanted_tt rfl rfl rfl | exact Go.Mix.wanted_ff rfl rfl rfl); go_big_quiet_op; refine hK _ ?_; clear hK K) | (refine Go.Flo.fw_skip ?_ (fun K hK => ?_); (first | exact Go.Mix.wanted_tf rfl rfl rfl | exact Go.Mix.wanted_ft rfl rfl rfl); go_simp; refine hK _ ?_; clear hK K) | (refine Go.Flo.fw_any rfl ?_ (fun K hK => ?_); (first | exact Go.Mix.wanted_none rfl | exact Go.Mix.wanted_tt rfl rfl rfl | exact Go.Mix.wanted_ff rfl rfl rfl); go_simp; (try (go_ints; try go_simp)); refine hK _ ?_; clear hK K)))
  refine Go.Flo.fw_nil ?_
  intro w4 hww4 hfw4 huw4
  obtain ⟨iend, hiend⟩ := hww4
  have hbw4 := HW.out iend
  rw [← hiend] at hbw4
  clear hiend iend huw4
  have hC4 := Go.Flo.says_ptr ((hfw4 (some 4)).2 rfl).1
  have hp0 : (#[.int .u16 (pcx l 0).f, .int .u16 (pcx l 0).i, .int .u8 (pcx l 0).r0, .int .u8 (pcx l 0).r1, .int .u8 (pcx l 0).r2, .int .u8 (pcx l 0).r3, .int .u8 (pcx l 0).r4, .int .u8 (pcx l 0).r5, .int .i8 (pcx l 0).c0, .int .i8 (pcx l 0).c1, .int .i8 (pcx l 0).c2, .int .i8 (pcx l 0).c3, .int .i8 (pcx l 0).c4, .int .i8 (pcx l 0).c5, .int .u8 (pcx l 0).m, .int .u16 (pcx l 0).n, .bool (pcx l 0).x, .int .u8 (pcx l 0).h] : Array Value) = #[.int .u16 (F : Nat), .int .u16 (I' : Nat), .int .u8 0, .int .u8 0, .int .u8 0, .int .u8 0, .int .u8 0, .int .u8 0, .int .i8 0, .int .i8 0, .int .i8 0, .int .i8 0, .int .i8 0, .int .i8 0, .int .u8 (x16 : Nat), .int .u16 (N : Nat), .bool ((x19 : Int) == 1), .int .u8 (x20 : Nat)] := by
    show (#[.int .u16 ((at2 l 0 : Nat) : Int), .int .u16 ((at2 l 2 : Nat) : Int), .int .u8 0, .int .u8 0, .int .u8 0, .int .u8 0, .int .u8 0, .int .u8 0, .int .i8 0, .int .i8 0, .int .i8 0, .int .i8 0, .int .i8 0, .int .i8 0, .int .u8 ((l.getD 16 0 : Nat) : Int), .int .u16 ((at2 l 17 : Nat) : Int), .bool ((l.getD 19 0 : Int) == 1), .int .u8 ((l.getD 20 0 : Nat) : Int)] : Array Value) = _
    rw [← HF.out, ← HI.out, ← HN.out, ← HX16.out, ← HX19.out, ← HX20.out]
  have hb5 : Below w0.heap.size w0 (w4.setRow g4 #[.int .u16 (F : Nat), .int .u16 (I' : Nat), .int .u8 0, .int .u8 0, .int .u8 0, .int .u8 0, .int .u8 0, .int .u8 0, .int .i8 0, .int .i8 0, .int .i8 0, .int .i8 0, .int .i8 0, .int .i8 0, .int .u8 (x16 : Nat), .int .u16 (N : Nat), .bool ((x19 : Int) == 1), .int .u8 (x20 : Nat)]) := below_setRow hbw4 hg4 _
  have hc5 := setRow_heap _ g4 _ #[.int .u16 (F : Nat), .int .u16 (I' : Nat), .int .u8 0, .int .u8 0, .int .u8 0, .int .u8 0, .int .u8 0, .int .u8 0, .int .i8 0, .int .i8 0, .int .i8 0, .int .i8 0, .int .i8 0, .int .i8 0, .int .u8 (x16 : Nat), .int .u16 (N : Nat), .bool ((x19 : Int) == 1), .int .u8 (x20 : Nat)] _ _ hC4
  have hx04 : x0 ≠ g4 := by have := box_lt hC0; omega
  have hx5 := (setRow_other w4 g4 x0 #[.int .u16 (F : Nat), .int .u16 (I' : Nat), .int .u8 0, .int .u8 0, .int .u8 0, .int .u8 0, .int .u8 0, .int .u8 0, .int .i8 0, .int .i8 0, .int .i8 0, .int .i8 0, .int .i8 0, .int .i8 0, .int .u8 (x16 : Nat), .int .u16 (N : Nat), .bool ((x19 : Int) == 1), .int .u8 (x20 : Nat)] hx04).trans (box_below hC0 hbw4 (box_lt hC0))
  have hg4n : w.heap.size ≤ g4 := by have := HB0.out.size; omega
  clear hfw4 HJ HW hne e16 e19 e20 hng4 HS
  clear W I
  refine Go.Flo.tw_step ?_ (fun K hK => ?_)
  · (first | exact Go.Mix.wanted_none rfl | exact Go.Mix.wanted_tt rfl rfl rfl | exact Go.Mix.wanted_ff rfl rfl rfl)
  refine wp_store_row 35 (.tmp 4) (.tmp 50) rfl g4 #[.int .u16 (F : Nat), .int .u16 (I' : Nat), .int .u8 0, .int .u8 0, .int .u8 0, .int .u8 0, .int .u8 0, .int .u8 0, .int .i8 0, .int .i8 0, .int .i8 0, .int .i8 0, .int .i8 0, .int .i8 0, .int .u8 (x16 : Nat), .int .u16 (N : Nat), .bool ((x19 : Int) == 1), .int .u8 (x20 : Nat)] rfl rfl 35 _ hC4 size_rc rfl (by simp [Value.oneCell']) (hK _ _ ?_)
  clear hK K
  refine Go.Flo.tw_nil ?_
  rw [← hp0] at hb5 hc5 hx5 ⊢
  obtain ⟨w5, hw5⟩ : ∃ w5, w5 = w4.setRow g4 #[.int .u16 (pcx l 0).f, .int .u16 (pcx l 0).i, .int .u8 (pcx l 0).r0, .int .u8 (pcx l 0).r1, .int .u8 (pcx l 0).r2, .int .u8 (pcx l 0).r3, .int .u8 (pcx l 0).r4, .int .u8 (pcx l 0).r5, .int .i8 (pcx l 0).c0, .int .i8 (pcx l 0).c1, .int .i8 (pcx l 0).c2, .int .i8 (pcx l 0).c3, .int .i8 (pcx l 0).c4, .int .i8 (pcx l 0).c5, .int .u8 (pcx l 0).m, .int .u16 (pcx l 0).n, .bool (pcx l 0).x, .int .u8 (pcx l 0).h] := ⟨_, rfl⟩
  rw [← hw5] at hb5 hc5 hx5
  rw [← hw5]
  have HC5 := Lib.hid hc5
  have HX5 := Lib.hid hx5
  have HB5 := Lib.hid (HB0.out.trans (hb5.mono HB0.out.size))
  have HR5 := Lib.hid (HR0.out.below hb5)
  have HZC := Lib.hid hzc
  clear hp0 hw5 hc5 hx5 hb5 hC4 hbw4 hC0 HR0 hFw hIw hNw hzc
  go_wp2
  go_loopw [5] (fun i wr => ∃ k : Nat, k ≤ 6 ∧ i = .int .i64 (k : Nat) ∧ wr.heap[g4]? = some (.cells #[.int .u16 (pcx l k).f, .int .u16 (pcx l k).i, .int .u8 (pcx l k).r0, .int .u8 (pcx l k).r1, .int .u8 (pcx l k).r2, .int .u8 (pcx l k).r3, .int .u8 (pcx l k).r4, .int .u8 (pcx l k).r5, .int .i8 (pcx l k).c0, .int .i8 (pcx l k).c1, .int .i8 (pcx l k).c2, .int .i8 (pcx l k).c3, .int .i8 (pcx l k).c4, .int .i8 (pcx l k).c5, .int .u8 (pcx l k).m, .int .u16 (pcx l k).n, .bool (pcx l k).x, .int .u8 (pcx l k).h] 35 (0, 0)) ∧ wr.heap[x0]? = some (.cells #[.int .u16 cxZero.f, .int .u16 cxZero.i, .int .u8 cxZero.r0, .int .u8 cxZero.r1, .int .u8 cxZero.r2, .int .u8 cxZero.r3, .int .u8 cxZero.r4, .int .u8 cxZero.r5, .int .i8 cxZero.c0, .int .i8 cxZero.c1, .int .i8 cxZero.c2, .int .i8 cxZero.c3, .int .i8 cxZero.c4, .int .i8 cxZero.c5, .int .u8 cxZero.m, .int .u16 cxZero.n, .bool cxZero.x, .int .u8 cxZero.h] 35 (0, 0)) ∧ Below w.heap.size w wr ∧ Below w0.heap.size w5 wr ∧ ∀ j, j < k → l.getD (10 + j) 0 ≤ 16) (fun i _ => 6 - (intOf i).toNat)
  case atStart => exact ⟨0, by omega, rfl, HC5.out, HX5.out, HB5.out, Below.refl _ _, fun j hj => absurd hj (by omega)⟩
  case round =>
    obtain ⟨k, hk, rfl, hc, hx, hB, hB5, hup⟩ := hrel
    by_cases hlt : k < 6
    · have dx := rd_cell (k := 4 + k) (HR5.out.below hB5) (by omega)
      have dy := rd_cell (k := 10 + k) (HR5.out.below hB5) (by omega)
      unfold bv at dx dy
      obtain ⟨x, hxx⟩ : ∃ x, x = l.getD (4 + k) 0 := ⟨_, rfl⟩
      obtain ⟨y, hyy⟩ : ∃ y, y = l.getD (10 + k) 0 := ⟨_, rfl⟩
      rw [← hxx] at dx
      rw [← hyy] at dy
      have hxb : x < 256 := by rw [hxx]; exact HBY.out.at _
      have hyb : y < 256 := by rw [hyy]; exact HBY.out.at _
      have HXX := Lib.hid hxx
      have HYY := Lib.hid hyy
      clear hxx hyy
      by_cases h16 : y ≤ 16
      · obtain ⟨v1, k1⟩ : ∃ v, wr.cell? ⟨g4, 2 + k, none⟩ = some v := by
          have : k = 0 ∨ k = 1 ∨ k = 2 ∨ k = 3 ∨ k = 4 ∨ k = 5 := by omega
          rcases this with rfl | rfl | rfl | rfl | rfl | rfl <;> exact ⟨_, cell_of_row wr g4 _ _ _ _ hc⟩
        obtain ⟨v2, k2⟩ : ∃ v, wr.cell? ⟨g4, 8 + k, none⟩ = some v := by
          have : k = 0 ∨ k = 1 ∨ k = 2 ∨ k = 3 ∨ k = 4 ∨ k = 5 := by omega
          rcases this with rfl | rfl | rfl | rfl | rfl | rfl <;> exact ⟨_, cell_of_row wr g4 _ _ _ _ hc⟩
        have f1 := frozen_of_row wr g4 (2 + k) _ _ hc
        have f2 := frozen_of_row wr g4 (8 + k) _ _ hc
        have hne : 2 + k ≠ 8 + k := by omega
        have hw1 := (wrap8_small y (by omega)).1
        have hw2 := (wrap8_small y (by omega)).2
        have hc6 := heap_setCell_same _ g4 (8 + k) _ _ (.int .i8 ((y : Int) - 1)) (heap_setCell_same wr g4 (2 + k) _ _ (.int .u8 (x : Int)) hc)
        rw [pcx_put (pcx l k) hlt] at hc6
        have e5 : pcx l (k + 1) = ((pcx l k).setR k (x : Nat)).setU k ((y : Int) - 1) := by rw [HXX.out, HYY.out]; rfl
        rw [← e5] at hc6
        have hx6 := (heap_setCell_other (wr.setCell ⟨g4, 2 + k, none⟩ (.int .u8 (x : Int))) ⟨g4, 8 + k, none⟩ x0 (.int .i8 ((y : Int) - 1)) hx04).trans ((heap_setCell_other wr ⟨g4, 2 + k, none⟩ x0 (.int .u8 (x : Int)) hx04).trans hx)
        have hB6 := (hB.setCell (p := ⟨g4, 2 + k, none⟩) hg4n (.int .u8 (x : Int))).setCell (p := ⟨g4, 8 + k, none⟩) hg4n (.int .i8 ((y : Int) - 1))
        have hB7 := (hB5.setCell (p := ⟨g4, 2 + k, none⟩) hg4 (.int .u8 (x : Int))).setCell (p := ⟨g4, 8 + k, none⟩) hg4 (.int .i8 ((y : Int) - 1))
        have HC6 := Lib.hid hc6
        have HX6 := Lib.hid hx6
        have HB6 := Lib.hid hB6
        have HB7 := Lib.hid hB7
        have HUP := Lib.hid (show ∀ j, j < k + 1 → l.getD (10 + j) 0 ≤ 16 from fun j hj => by
          by_cases e : j = k
          · subst e; rw [← HYY.out]; exact h16
          · exact hup j (by omega))
        clear hc hx hup hB hB5 hc6 hx6 hB6 hB7 e5 HXX HYY
        go_wp2
        go_region
        obtain ⟨w6, hw6⟩ : ∃ w6, w6 = (wr.setCell ⟨g4, 2 + k, none⟩ (.int .u8 (x : Int))).setCell ⟨g4, 8 + k, none⟩ (.int .i8 ((y : Int) - 1)) := ⟨_, rfl⟩
        rw [← hw6] at HC6 HX6 HB6 HB7 ⊢
        clear hw6
        go_wp2
        go_roundw
        case rel => exact ⟨k + 1, by omega, by go_num, HC6.out, HX6.out, HB6.out.drew, HB7.out.drew, HUP.out⟩
        case measure => simp [intOf]; omega
      · have HNO := Lib.hid (show ¬ cxGood l from fun h => by
          have hf := ((good_fit HBY.out HL.out).1 h).hu k hlt
          rw [← HYY.out] at hf
          omega)
        have HB := Lib.hid hB
        have hzc := HZC.out
        clear hc hup hB hB5 dx HXX HYY
        go_wp2_with (first | (refine wpList_store_row rfl 35 _ _ rfl _ _ rfl rfl _ _ hx (by exact size_rc) (by rfl) (by simp [Value.oneCell']) ?_; (try go_simp)))
        have hfin := setRow_heap _ x0 _ #[.int .u16 cxZero.f, .int .u16 cxZero.i, .int .u8 cxZero.r0, .int .u8 cxZero.r1, .int .u8 cxZero.r2, .int .u8 cxZero.r3, .int .u8 cxZero.r4, .int .u8 cxZero.r5, .int .i8 cxZero.c0, .int .i8 cxZero.c1, .int .i8 cxZero.c2, .int .i8 cxZero.c3, .int .i8 cxZero.c4, .int .i8 cxZero.c5, .int .u8 cxZero.m, .int .u16 cxZero.n, .bool cxZero.x, .int .u8 cxZero.h] _ _ hx
        refine bodyPost_ret (results_cell_tmp2 rfl _ _ _ _ _ _ rfl hfin Try.underlying35 rfl size_rc) rfl ?_
        exact ⟨below_setRow HB.out hx0n _, .inr ⟨HNO.out, rfl⟩⟩
    · obtain rfl : k = 6 := by omega
      have hfit : Fit l := ⟨by rw [← HX16.out]; exact g16, by rw [← HX19.out]; exact g19, by rw [← HX20.out]; exact g20, hup⟩
      have HG := Lib.hid ((good_fit HBY.out HL.out).2 hfit)
      rw [pcx_done hfit] at hc
      have HB := Lib.hid hB
      clear hup hB hB5 hfit
      go_wp2_with (first | (refine wpList_load_row rfl 35 _ rfl _ rfl _ _ _ _ hc Try.underlying35 rfl (by exact size_rc) ?_; (try go_simp)) | (refine wpList_store_row rfl 35 _ _ rfl _ _ rfl rfl _ _ hx (by exact size_rc) (by rfl) (by simp [Value.oneCell']) ?_; (try go_simp)))
      have hfin := setRow_heap _ x0 _ #[.int .u16 (cxOf l).f, .int .u16 (cxOf l).i, .int .u8 (cxOf l).r0, .int .u8 (cxOf l).r1, .int .u8 (cxOf l).r2, .int .u8 (cxOf l).r3, .int .u8 (cxOf l).r4, .int .u8 (cxOf l).r5, .int .i8 (cxOf l).c0, .int .i8 (cxOf l).c1, .int .i8 (cxOf l).c2, .int .i8 (cxOf l).c3, .int .i8 (cxOf l).c4, .int .i8 (cxOf l).c5, .int .u8 (cxOf l).m, .int .u16 (cxOf l).n, .bool (cxOf l).x, .int .u8 (cxOf l).h] _ _ hx
      refine bodyPost_ret (results_cell_tmp2 rfl _ _ _ _ _ _ rfl hfin Try.underlying35 rfl size_rc) rfl ?_
      exact ⟨below_setRow HB.out hx0n _, .inl ⟨HG.out, rfl⟩⟩
theorem xParse_any (a : Option Addr) (len cap n : Nat) (l : List Nat) (w : World) (hl : l.length = len) (hn : n ≤ w.heap.size) (hr : Rd n w a len cap (bv l)) (hb : bytes l) :
    Calls Try.prog 25 #[.slice a len cap] w (RxParse w l) := by
  by_cases h : len = 21
  · subst h
    exact xParse_21 a cap n l w hl hn hr hb
  · exact xParse_len a len cap l w hl h
end Go.Proofs.Ytpgophkegjeheaa
