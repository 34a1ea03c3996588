/- Layer 18: the nearest chain; how many there are. -/
import Derived.Test.YtioclbkgfbjpdaaSw7
import Derived.Test.YtioclbkgfbjpdaaRes
namespace Go.Proofs.Ytioclbkgfbjpdaa
open Go.RowKit Go.Own Bs
set_option linter.unusedVariables false
set_option linter.unusedSimpArgs false
/-- A map in memory. -/
structure MapIs (n : Nat) (w : World) (a : Option Addr) (len cap : Nat) (l : List Nat) (lk : Nat → Nat) : Prop where
  hl : l.length = len
  hv : ∀ t ∈ l, t < 65536
  hlk : ∀ i, lk i < 65536
  hn : n ≤ w.heap.size
  hr : Rd n w a len cap (sv l)
  h6 : len ≤ 6
theorem MapIs.below {n : Nat} {w w' : World} {a : Option Addr} {len cap : Nat} {l : List Nat} {lk : Nat → Nat} (h : MapIs n w a len cap l lk) (hb : Below w.heap.size w w') : MapIs n w' a len cap l lk :=
  ⟨h.hl, h.hv, h.hlk, Nat.le_trans h.hn hb.size, h.hr.below (hb.mono h.hn), h.h6⟩
/-- What the search finds. -/
def findR (l : List Nat) (lk : Nat → Nat) (near : Nat → Int) (bad : Nat) : Wy := fromW (tabW (fun r => l.getD r 0 &&& (65535 - bad)) lk near l.length l.length) l.length 0 65535
theorem findR_le (l : List Nat) (lk : Nat → Nat) (near : Nat → Int) (bad : Nat) (h : l.length ≤ 6) : (findR l lk near bad).n ≤ 16777216 := by
  unfold findR
  have hb := Bd.tab (fun r => l.getD r 0 &&& (65535 - bad)) lk near l.length l.length (Nat.le_refl _)
  unfold fromW
  split
  · simp
  · obtain ⟨h1, h2⟩ := foldW_bd (hb 0) (upTo 65535 16)
    have h3 := upTo_len 65535 16
    have h4 : 16 ^ (l.length - 1 - 0) ≤ 16 ^ 5 := Nat.pow_le_pow_right (by omega) (by omega)
    have h5 : 16 ^ (l.length - 1 - 0) * (upTo 65535 16).length ≤ 16 ^ 5 * 16 := Nat.mul_le_mul h4 h3
    omega
theorem find_is {n : Nat} {w : World} {a : Option Addr} {len cap : Nat} {l : List Nat} {lk : Nat → Nat} (h : MapIs n w a len cap l lk) (near : Nat → Int) (bad : Nat) (hbad : bad < 65536) : Calls Try.prog 76 #[.agg #[.slice a len cap, .int .u16 ((lk 0 : Nat) : Int), .int .u16 ((lk 1 : Nat) : Int), .int .u16 ((lk 2 : Nat) : Int), .int .u16 ((lk 3 : Nat) : Int), .int .u16 ((lk 4 : Nat) : Int), .int .u16 ((lk 5 : Nat) : Int), .int .u16 ((lk 6 : Nat) : Int), .int .u16 ((lk 7 : Nat) : Int), .int .u16 ((lk 8 : Nat) : Int), .int .u16 ((lk 9 : Nat) : Int), .int .u16 ((lk 10 : Nat) : Int), .int .u16 ((lk 11 : Nat) : Int), .int .u16 ((lk 12 : Nat) : Int), .int .u16 ((lk 13 : Nat) : Int), .int .u16 ((lk 14 : Nat) : Int), .int .u16 ((lk 15 : Nat) : Int)], .agg #[.int .i8 (near 0), .int .i8 (near 1), .int .i8 (near 2), .int .i8 (near 3), .int .i8 (near 4), .int .i8 (near 5)], .int .u16 (bad : Nat)] w fun e w' => e = .returned (.agg #[.int .i64 ((Wy.n (findR l lk near bad) : Nat) : Int), .int .i8 (Wy.b (findR l lk near bad) 0), .int .i8 (Wy.b (findR l lk near bad) 1), .int .i8 (Wy.b (findR l lk near bad) 2), .int .i8 (Wy.b (findR l lk near bad) 3), .int .i8 (Wy.b (findR l lk near bad) 4), .int .i8 (Wy.b (findR l lk near bad) 5), .int .i64 ((Wy.d (findR l lk near bad) : Nat) : Int)]) ∧ Below w.heap.size w w' := by
  have := find_any a len cap n bad l lk near w h.hl h.hv h.hlk hbad h.hn h.hr h.h6
  unfold findR
  rw [h.hl]
  exact this
theorem wy_field (X : Wy) (w : World) : (Instr.field 135 (.agg #[.int .i64 ((Wy.n X : Nat) : Int), .int .i8 (Wy.b X 0), .int .i8 (Wy.b X 1), .int .i8 (Wy.b X 2), .int .i8 (Wy.b X 3), .int .i8 (Wy.b X 4), .int .i8 (Wy.b X 5), .int .i64 ((Wy.d X : Nat) : Int)]) 0).run Try.prog w = .ok (.int .i64 ((X.n : Nat) : Int)) w := by kernel_rfl
def nearC (X : Wy) : Nat → Int := if X.n = 0 then noneC else X.b
theorem size_mp : (Try.prog.info? 65).map (·.size) = some 17 := by kernel_rfl
set_option maxRecDepth 100000 in
set_option maxHeartbeats 8000000 in
theorem Near_any {n : Nat} {w : World} {a : Option Addr} {len cap : Nat} {l : List Nat} {lk : Nat → Nat} (h : MapIs n w a len cap l lk) (near : Nat → Int) (bad : Nat) (hbad : bad < 65536) : Calls Try.prog 39 #[.agg #[.slice a len cap, .int .u16 ((lk 0 : Nat) : Int), .int .u16 ((lk 1 : Nat) : Int), .int .u16 ((lk 2 : Nat) : Int), .int .u16 ((lk 3 : Nat) : Int), .int .u16 ((lk 4 : Nat) : Int), .int .u16 ((lk 5 : Nat) : Int), .int .u16 ((lk 6 : Nat) : Int), .int .u16 ((lk 7 : Nat) : Int), .int .u16 ((lk 8 : Nat) : Int), .int .u16 ((lk 9 : Nat) : Int), .int .u16 ((lk 10 : Nat) : Int), .int .u16 ((lk 11 : Nat) : Int), .int .u16 ((lk 12 : Nat) : Int), .int .u16 ((lk 13 : Nat) : Int), .int .u16 ((lk 14 : Nat) : Int), .int .u16 ((lk 15 : Nat) : Int)], .agg #[.int .i8 (near 0), .int .i8 (near 1), .int .i8 (near 2), .int .i8 (near 3), .int .i8 (near 4), .int .i8 (near 5)], .int .u16 (bad : Nat)] w fun e w' => e = .returned (.tuple #[.agg #[.int .i8 ((nearC (findR l lk near bad)) 0), .int .i8 ((nearC (findR l lk near bad)) 1), .int .i8 ((nearC (findR l lk near bad)) 2), .int .i8 ((nearC (findR l lk near bad)) 3), .int .i8 ((nearC (findR l lk near bad)) 4), .int .i8 ((nearC (findR l lk near bad)) 5)], .bool (decide (0 < (findR l lk near bad).n))]) ∧ Below w.heap.size w w' := by
  have hzw := zero_wy
  have hzc := zero_ch
  have H := Lib.hid h
  have hle := findR_le l lk near bad (by rw [h.hl]; exact h.h6)
  obtain ⟨X, hX⟩ : ∃ X, X = findR l lk near bad := ⟨_, rfl⟩
  rw [← hX] at hle ⊢
  have HX := Lib.hid hX
  have hq := (((Bq.nil w).new #[.slice a len cap, .int .u16 ((lk 0 : Nat) : Int), .int .u16 ((lk 1 : Nat) : Int), .int .u16 ((lk 2 : Nat) : Int), .int .u16 ((lk 3 : Nat) : Int), .int .u16 ((lk 4 : Nat) : Int), .int .u16 ((lk 5 : Nat) : Int), .int .u16 ((lk 6 : Nat) : Int), .int .u16 ((lk 7 : Nat) : Int), .int .u16 ((lk 8 : Nat) : Int), .int .u16 ((lk 9 : Nat) : Int), .int .u16 ((lk 10 : Nat) : Int), .int .u16 ((lk 11 : Nat) : Int), .int .u16 ((lk 12 : Nat) : Int), .int .u16 ((lk 13 : Nat) : Int), .int .u16 ((lk 14 : Nat) : Int), .int .u16 ((lk 15 : Nat) : Int)] 65).new #[.int .i8 (near 0), .int .i8 (near 1), .int .i8 (near 2), .int .i8 (near 3), .int .i8 (near 4), .int .i8 (near 5)] 76).new (#[.int .i8 0, .int .i8 0, .int .i8 0, .int .i8 0, .int .i8 0, .int .i8 0] : Array Value) 76
  simp only [World.size_alloc] at hq
  clear h hX
  go_enter Try.func39, Try.ntmps39
  go_upto_region 1 with fail
  obtain ⟨w1, hw1⟩ : ∃ w1, w1 = (((w.alloc (.cells #[.slice a len cap, .int .u16 ((lk 0 : Nat) : Int), .int .u16 ((lk 1 : Nat) : Int), .int .u16 ((lk 2 : Nat) : Int), .int .u16 ((lk 3 : Nat) : Int), .int .u16 ((lk 4 : Nat) : Int), .int .u16 ((lk 5 : Nat) : Int), .int .u16 ((lk 6 : Nat) : Int), .int .u16 ((lk 7 : Nat) : Int), .int .u16 ((lk 8 : Nat) : Int), .int .u16 ((lk 9 : Nat) : Int), .int .u16 ((lk 10 : Nat) : Int), .int .u16 ((lk 11 : Nat) : Int), .int .u16 ((lk 12 : Nat) : Int), .int .u16 ((lk 13 : Nat) : Int), .int .u16 ((lk 14 : Nat) : Int), .int .u16 ((lk 15 : Nat) : Int)] 65)).alloc (.cells #[.int .i8 (near 0), .int .i8 (near 1), .int .i8 (near 2), .int .i8 (near 3), .int .i8 (near 4), .int .i8 (near 5)] 76)).alloc (.cells (#[.int .i8 0, .int .i8 0, .int .i8 0, .int .i8 0, .int .i8 0, .int .i8 0] : Array Value) 76)) := ⟨_, rfl⟩
  rw [← hw1] at hq ⊢
  obtain ⟨g2, hg2⟩ : ∃ b, b = w.heap.size + 1 + 1 := ⟨_, rfl⟩
  obtain ⟨g1, hg1⟩ : ∃ b, b = w.heap.size + 1 := ⟨_, rfl⟩
  rw [← hg2] at hq ⊢
  rw [← hg1] at hq ⊢
  obtain ⟨g0, hg0⟩ : ∃ b, b = w.heap.size := ⟨_, rfl⟩
  rw [show (Value.pointer (some ⟨w.heap.size, 0, none⟩)) = .pointer (some ⟨g0, 0, none⟩) by rw [hg0]]
  have hq1 : Bq w w1 [(g0, #[.slice a len cap, .int .u16 ((lk 0 : Nat) : Int), .int .u16 ((lk 1 : Nat) : Int), .int .u16 ((lk 2 : Nat) : Int), .int .u16 ((lk 3 : Nat) : Int), .int .u16 ((lk 4 : Nat) : Int), .int .u16 ((lk 5 : Nat) : Int), .int .u16 ((lk 6 : Nat) : Int), .int .u16 ((lk 7 : Nat) : Int), .int .u16 ((lk 8 : Nat) : Int), .int .u16 ((lk 9 : Nat) : Int), .int .u16 ((lk 10 : Nat) : Int), .int .u16 ((lk 11 : Nat) : Int), .int .u16 ((lk 12 : Nat) : Int), .int .u16 ((lk 13 : Nat) : Int), .int .u16 ((lk 14 : Nat) : Int), .int .u16 ((lk 15 : Nat) : Int)], 65), (g1, #[.int .i8 (near 0), .int .i8 (near 1), .int .i8 (near 2), .int .i8 (near 3), .int .i8 (near 4), .int .i8 (near 5)], 76), (g2, (#[.int .i8 0, .int .i8 0, .int .i8 0, .int .i8 0, .int .i8 0, .int .i8 0] : Array Value), 76)] := by rw [hg0]; exact hq
  have HQ := Lib.hid hq1
  clear hw1 hg2 hg1 hg0 hq hq1
  have b0 := HQ.out.of 0 rfl
  have b1 := HQ.out.of 1 rfl
  go_wp2_with (first | ((with_reducible show wpList _ _ _ (_ :: _) _ _); refine wpList_load_row rfl 65 _ rfl _ rfl _ _ _ _ b0 Try.underlying65 rfl (by exact size_mp) ?_; (try go_simp)) | ((with_reducible show wpList _ _ _ (_ :: _) _ _); refine wpList_load_row rfl 76 _ rfl _ rfl _ _ _ _ b1 Try.underlying76 rfl (by exact size_ch) ?_; (try go_simp)))
  go_at_call 76
  refine (find_is (H.out.below (HQ.out.be)) near bad hbad).mono ?_
  rintro e w2 ⟨rfl, hb⟩
  rw [← HX.out]
  have HQ2 := Lib.hid ((HQ.out.step hb).new #[.int .i64 ((Wy.n X : Nat) : Int), .int .i8 (Wy.b X 0), .int .i8 (Wy.b X 1), .int .i8 (Wy.b X 2), .int .i8 (Wy.b X 3), .int .i8 (Wy.b X 4), .int .i8 (Wy.b X 5), .int .i64 ((Wy.d X : Nat) : Int)] 135)
  clear hb b0 b1
  go_upto_region 2 with ((with_reducible show wpList _ _ _ (_ :: _) _ _); refine wpList_store_row rfl 135 _ _ rfl _ _ rfl rfl _ _ (heap_alloc_new _ _) (by exact size_wy) (by rfl) (by simp [Value.oneCell']) ?_; rw [World.setRow_alloc_new])
  obtain ⟨w3, hw3⟩ : ∃ w3, w3 = w2.alloc (.cells #[.int .i64 ((Wy.n X : Nat) : Int), .int .i8 (Wy.b X 0), .int .i8 (Wy.b X 1), .int .i8 (Wy.b X 2), .int .i8 (Wy.b X 3), .int .i8 (Wy.b X 4), .int .i8 (Wy.b X 5), .int .i64 ((Wy.d X : Nat) : Int)] 135) := ⟨_, rfl⟩
  obtain ⟨g8, hg8⟩ : ∃ g, g = w2.heap.size := ⟨_, rfl⟩
  rw [← hw3, ← hg8] at HQ2
  rw [← hw3, ← hg8]
  clear hw3 hg8 HQ
  have c80 := cell_of_row _ g8 0 _ _ _ (HQ2.out.of 3 rfl)
  simp at c80
  have b2 := HQ2.out.of 2 rfl
  by_cases hx0 : X.n = 0
  · have hd : ((X.n : Nat) : Int) = 0 := by omega
    have hr : decide (0 < X.n) = false := by simp [hx0]
    have hr2 : nearC X = noneC := by unfold nearC; rw [if_pos hx0]
    rw [hd] at c80
    have HR1 := Lib.hid hr
    have HR2 := Lib.hid hr2
    clear hd hr hr2 hx0
    go_wp2_with fail
    go_at_call 35
    refine (None_any w3).mono ?_
    rintro e w4 ⟨rfl, hb⟩
    have HQ4 := Lib.hid (HQ2.out.step hb)
    have b2 := HQ4.out.of 2 rfl
    have HQ5 := Lib.hid (HQ4.out.put 2 rfl #[.int .i8 (noneC 0), .int .i8 (noneC 1), .int .i8 (noneC 2), .int .i8 (noneC 3), .int .i8 (noneC 4), .int .i8 (noneC 5)])
    clear c80 hb HQ2
    go_wp2_with ((with_reducible show wpList _ _ _ (_ :: _) _ _); refine wpList_store_row rfl 76 _ _ rfl _ _ rfl rfl _ _ b2 (by exact size_ch) (by rfl) (by simp [Value.oneCell']) ?_)
    refine bodyPost_ret (res_ct rfl _ _ _ _ _ _ rfl (HQ5.out.of 2 rfl) Try.underlying76 rfl size_ch) rfl ?_
    exact ⟨by rw [HR1.out, HR2.out]; rfl, HQ5.out.be⟩
  · have hd : (((X.n : Nat) : Int) == 0) = false := by rw [beq_eq_false_iff_ne]; omega
    have hr : decide (0 < X.n) = true := by simp; omega
    have hr2 : nearC X = X.b := by unfold nearC; rw [if_neg hx0]
    have HR1 := Lib.hid hr
    have HR2 := Lib.hid hr2
    have HQ5 := Lib.hid (HQ2.out.put 2 rfl #[.int .i8 ((Wy.b X) 0), .int .i8 ((Wy.b X) 1), .int .i8 ((Wy.b X) 2), .int .i8 ((Wy.b X) 3), .int .i8 ((Wy.b X) 4), .int .i8 ((Wy.b X) 5)])
    have c81 := cell_of_row _ g8 1 _ _ _ (HQ2.out.of 3 rfl)
    have c82 := cell_of_row _ g8 2 _ _ _ (HQ2.out.of 3 rfl)
    have c83 := cell_of_row _ g8 3 _ _ _ (HQ2.out.of 3 rfl)
    have c84 := cell_of_row _ g8 4 _ _ _ (HQ2.out.of 3 rfl)
    have c85 := cell_of_row _ g8 5 _ _ _ (HQ2.out.of 3 rfl)
    have c86 := cell_of_row _ g8 6 _ _ _ (HQ2.out.of 3 rfl)
    simp at c81 c82 c83 c84 c85 c86
    clear hr hr2 hx0
    go_wp2_with ((with_reducible show wpList _ _ _ (_ :: _) _ _); refine wpList_store_row rfl 76 _ _ rfl _ _ rfl rfl _ _ b2 (by exact size_ch) (by rfl) (by simp [Value.oneCell']) ?_)
    refine bodyPost_ret (res_ct rfl _ _ _ _ _ _ rfl (HQ5.out.of 2 rfl) Try.underlying76 rfl size_ch) rfl ?_
    exact ⟨by rw [HR1.out, HR2.out]; rfl, HQ5.out.be⟩
set_option maxRecDepth 100000 in
set_option maxHeartbeats 8000000 in
theorem Count_any' {n : Nat} {w : World} {a : Option Addr} {len cap : Nat} {l : List Nat} {lk : Nat → Nat} (h : MapIs n w a len cap l lk) (bad : Nat) (hbad : bad < 65536) : Calls Try.prog 34 #[.agg #[.slice a len cap, .int .u16 ((lk 0 : Nat) : Int), .int .u16 ((lk 1 : Nat) : Int), .int .u16 ((lk 2 : Nat) : Int), .int .u16 ((lk 3 : Nat) : Int), .int .u16 ((lk 4 : Nat) : Int), .int .u16 ((lk 5 : Nat) : Int), .int .u16 ((lk 6 : Nat) : Int), .int .u16 ((lk 7 : Nat) : Int), .int .u16 ((lk 8 : Nat) : Int), .int .u16 ((lk 9 : Nat) : Int), .int .u16 ((lk 10 : Nat) : Int), .int .u16 ((lk 11 : Nat) : Int), .int .u16 ((lk 12 : Nat) : Int), .int .u16 ((lk 13 : Nat) : Int), .int .u16 ((lk 14 : Nat) : Int), .int .u16 ((lk 15 : Nat) : Int)], .int .u16 (bad : Nat)] w fun e w' => e = .returned (.int .i64 ((findR l lk noneC bad).n : Nat)) ∧ Below w.heap.size w w' := by
  have hle := findR_le l lk noneC bad (by rw [h.hl]; exact h.h6)
  obtain ⟨X, hX⟩ : ∃ X, X = findR l lk noneC bad := ⟨_, rfl⟩
  rw [← hX] at hle ⊢
  have HX := Lib.hid hX
  have hq := (Bq.nil w).new #[.slice a len cap, .int .u16 ((lk 0 : Nat) : Int), .int .u16 ((lk 1 : Nat) : Int), .int .u16 ((lk 2 : Nat) : Int), .int .u16 ((lk 3 : Nat) : Int), .int .u16 ((lk 4 : Nat) : Int), .int .u16 ((lk 5 : Nat) : Int), .int .u16 ((lk 6 : Nat) : Int), .int .u16 ((lk 7 : Nat) : Int), .int .u16 ((lk 8 : Nat) : Int), .int .u16 ((lk 9 : Nat) : Int), .int .u16 ((lk 10 : Nat) : Int), .int .u16 ((lk 11 : Nat) : Int), .int .u16 ((lk 12 : Nat) : Int), .int .u16 ((lk 13 : Nat) : Int), .int .u16 ((lk 14 : Nat) : Int), .int .u16 ((lk 15 : Nat) : Int)] 65
  have H := Lib.hid h
  clear h hX
  go_enter Try.func34, Try.ntmps34
  go_upto_region 1 with fail
  obtain ⟨w1, hw1⟩ : ∃ w1, w1 = w.alloc (.cells #[.slice a len cap, .int .u16 ((lk 0 : Nat) : Int), .int .u16 ((lk 1 : Nat) : Int), .int .u16 ((lk 2 : Nat) : Int), .int .u16 ((lk 3 : Nat) : Int), .int .u16 ((lk 4 : Nat) : Int), .int .u16 ((lk 5 : Nat) : Int), .int .u16 ((lk 6 : Nat) : Int), .int .u16 ((lk 7 : Nat) : Int), .int .u16 ((lk 8 : Nat) : Int), .int .u16 ((lk 9 : Nat) : Int), .int .u16 ((lk 10 : Nat) : Int), .int .u16 ((lk 11 : Nat) : Int), .int .u16 ((lk 12 : Nat) : Int), .int .u16 ((lk 13 : Nat) : Int), .int .u16 ((lk 14 : Nat) : Int), .int .u16 ((lk 15 : Nat) : Int)] 65) := ⟨_, rfl⟩
  rw [← hw1] at hq ⊢
  obtain ⟨g0, hg0⟩ : ∃ b, b = w.heap.size := ⟨_, rfl⟩
  rw [show (Value.pointer (some ⟨w.heap.size, 0, none⟩)) = .pointer (some ⟨g0, 0, none⟩) by rw [hg0]]
  have hq1 : Bq w w1 [(g0, #[.slice a len cap, .int .u16 ((lk 0 : Nat) : Int), .int .u16 ((lk 1 : Nat) : Int), .int .u16 ((lk 2 : Nat) : Int), .int .u16 ((lk 3 : Nat) : Int), .int .u16 ((lk 4 : Nat) : Int), .int .u16 ((lk 5 : Nat) : Int), .int .u16 ((lk 6 : Nat) : Int), .int .u16 ((lk 7 : Nat) : Int), .int .u16 ((lk 8 : Nat) : Int), .int .u16 ((lk 9 : Nat) : Int), .int .u16 ((lk 10 : Nat) : Int), .int .u16 ((lk 11 : Nat) : Int), .int .u16 ((lk 12 : Nat) : Int), .int .u16 ((lk 13 : Nat) : Int), .int .u16 ((lk 14 : Nat) : Int), .int .u16 ((lk 15 : Nat) : Int)], 65)] := by rw [hg0]; exact hq
  have HQ := Lib.hid hq1
  clear hw1 hg0 hq hq1
  have z0 := box_lt (HQ.out.of 0 rfl)
  have hfd := wy_field X
  obtain ⟨I, W, hne, hWI, hIW⟩ := Go.Mix.family (fun v => Below w1.heap.size w1 v) (Below.refl _ _)
  have HJ := Lib.hid hIW
  have HW := Lib.hid hWI
  clear hWI hIW
  refine Go.Flo3.wp_region (fun w' => ∃ i, w' = W i) 4 [Go.Flo.Spec.is (.agg #[.int .i8 (noneC 0), .int .i8 (noneC 1), .int .i8 (noneC 2), .int .i8 (noneC 3), .int .i8 (noneC 4), .int .i8 (noneC 5)]), Go.Flo.Spec.is (.agg #[.int .i64 ((Wy.n X : Nat) : Int), .int .i8 (Wy.b X 0), .int .i8 (Wy.b X 1), .int .i8 (Wy.b X 2), .int .i8 (Wy.b X 3), .int .i8 (Wy.b X 4), .int .i8 (Wy.b X 5), .int .i64 ((Wy.d X : Nat) : Int)])] (by kernel_rfl) (by kernel_rfl) (by decide) (by rintro _ w' ⟨i, rfl⟩ hb; exact HJ.out _ ((HW.out i).trans (hb.mono (HW.out i).size))) (HJ.out _ (Below.refl _ _).drew) ?_
  simp only [Go.Flo.pair, Go.Mix.calm, List.take, List.drop, if_true, Bool.false_eq_true, if_false, Nat.reduceAdd, Nat.reduceSub]
  (refine Go.Flo.fw_calm rfl ?_ (fun K hK => ?_); (first | exact Go.Mix.wanted_none rfl | exact Go.Mix.wanted_tt rfl rfl rfl | exact Go.Mix.wanted_ff rfl rfl rfl); refine Go.Flo.quiet_load_row 65 _ rfl g0 rfl _ #[.slice a len cap, .int .u16 ((lk 0 : Nat) : Int), .int .u16 ((lk 1 : Nat) : Int), .int .u16 ((lk 2 : Nat) : Int), .int .u16 ((lk 3 : Nat) : Int), .int .u16 ((lk 4 : Nat) : Int), .int .u16 ((lk 5 : Nat) : Int), .int .u16 ((lk 6 : Nat) : Int), .int .u16 ((lk 7 : Nat) : Int), .int .u16 ((lk 8 : Nat) : Int), .int .u16 ((lk 9 : Nat) : Int), .int .u16 ((lk 10 : Nat) : Int), .int .u16 ((lk 11 : Nat) : Int), .int .u16 ((lk 12 : Nat) : Int), .int .u16 ((lk 13 : Nat) : Int), .int .u16 ((lk 14 : Nat) : Int), .int .u16 ((lk 15 : Nat) : Int)] _ (by rintro _ ⟨i, rfl⟩; exact ((HW.out i).block g0 z0).trans (HQ.out.of 0 rfl)) Try.underlying65 rfl size_mp ?_; go_simp; refine hK _ ?_; clear hK K)
  refine Go.Flo.fw_loud rfl ?_ rfl (by simp) (fun wv hwv hav K hK => ?_) (fun v hv K hK => ?_)
  · (first | exact Go.Mix.wanted_none rfl | exact Go.Mix.wanted_tt rfl rfl rfl | exact Go.Mix.wanted_ff rfl rfl rfl)
  · obtain ⟨iv, rfl⟩ := hwv
    have hbv := HW.out iv
    (first | go_big_op | go_simp)
    go_at_call 35
    refine (None_any _).mono ?_
    rintro e w' ⟨rfl, hb⟩
    exact hK _ _ (Go.Flo.owes_is _ rfl hb)
  obtain rfl := hv.is
  go_simp
  refine hK _ ?_
  clear hK K hv
  (repeat (first | (refine Go.Flo.fw_calm rfl ?_ (fun K hK => ?_); (first | exact Go.Mix.wanted_none rfl | exact Go.Mix.wanted_tt rfl rfl rfl | exact Go.Mix.wanted_ff rfl rfl rfl); go_big_quiet_op; refine hK _ ?_; clear hK K) | (refine Go.Flo.fw_skip ?_ (fun K hK => ?_); (first | exact Go.Mix.wanted_tf rfl rfl rfl | exact Go.Mix.wanted_ft rfl rfl rfl); go_simp; refine hK _ ?_; clear hK K) | (refine Go.Flo.fw_any rfl ?_ (fun K hK => ?_); (first | exact Go.Mix.wanted_none rfl | exact Go.Mix.wanted_tt rfl rfl rfl | exact Go.Mix.wanted_ff rfl rfl rfl); go_simp; (try (go_ints; try go_simp)); refine hK _ ?_; clear hK K)))
  refine Go.Flo.fw_loud rfl ?_ rfl (by simp) (fun wv hwv hav K hK => ?_) (fun v hv K hK => ?_)
  · (first | exact Go.Mix.wanted_none rfl | exact Go.Mix.wanted_tt rfl rfl rfl | exact Go.Mix.wanted_ff rfl rfl rfl)
  · obtain ⟨iv, rfl⟩ := hwv
    have hbv := HW.out iv
    (first | go_big_op | go_simp)
    go_at_call 76
    refine (find_is (H.out.below (HQ.out.be.trans ((HW.out iv).mono HQ.out.be.size))) noneC bad hbad).mono ?_
    rintro e w' ⟨rfl, hb⟩
    rw [← HX.out]
    exact hK _ _ (Go.Flo.owes_is _ rfl hb)
  obtain rfl := hv.is
  go_simp
  refine hK _ ?_
  clear hK K hv
  refine Go.Flo.fw_nil ?_
  intro w4 hww4 hfw4 huw4
  obtain ⟨iend, hiend⟩ := hww4
  have hbw4 := HW.out iend
  rw [← hiend] at hbw4
  clear hiend iend huw4
  have HB4 := Lib.hid (HQ.out.be.trans (hbw4.mono HQ.out.be.size))
  clear hfw4 HJ HW hne hbw4
  clear W I
  refine ⟨fun _ => True, trivial, ?_⟩

  (repeat (first | (refine Go.Mix.walk_calm rfl ?_ (fun K hK => ?_); (first | exact Go.Mix.wanted_none rfl | exact Go.Mix.wanted_tt rfl rfl rfl | exact Go.Mix.wanted_ff rfl rfl rfl); go_big_quiet_op; refine hK _ ?_; clear hK K) | (refine Go.Mix.walk_skip ?_ (fun K hK => ?_); (first | exact Go.Mix.wanted_tf rfl rfl rfl | exact Go.Mix.wanted_ft rfl rfl rfl); go_simp; refine hK _ ?_; clear hK K) | (refine Go.Mix.walk_loud rfl ?_ (fun K hK => ?_); (first | exact Go.Mix.wanted_none rfl | exact Go.Mix.wanted_tt rfl rfl rfl | exact Go.Mix.wanted_ff rfl rfl rfl); (first | go_big_op | go_simp); (first | (refine hK _ _ trivial ?_; clear hK K) | (fail; (try dsimp only); refine hK _ _ trivial ?_; clear hK K))) | (refine Go.Mix.walk_step (fun K hK => ?_); go_simp; (try (go_ints; try go_simp)); refine hK _ _ ?_; clear hK K)))
  refine Go.Mix.walk_nil ?_
  go_wp2_with fail
  go_ret
  exact ⟨by rw [HX.out]; rfl, HB4.out⟩
set_option maxRecDepth 100000 in
set_option maxHeartbeats 8000000 in
theorem Search_any {n : Nat} {w : World} {a : Option Addr} {len cap : Nat} {l : List Nat} {lk : Nat → Nat} (h : MapIs n w a len cap l lk) (bad : Nat) (hbad : bad < 65536) : Calls Try.prog 32 #[.agg #[.slice a len cap, .int .u16 ((lk 0 : Nat) : Int), .int .u16 ((lk 1 : Nat) : Int), .int .u16 ((lk 2 : Nat) : Int), .int .u16 ((lk 3 : Nat) : Int), .int .u16 ((lk 4 : Nat) : Int), .int .u16 ((lk 5 : Nat) : Int), .int .u16 ((lk 6 : Nat) : Int), .int .u16 ((lk 7 : Nat) : Int), .int .u16 ((lk 8 : Nat) : Int), .int .u16 ((lk 9 : Nat) : Int), .int .u16 ((lk 10 : Nat) : Int), .int .u16 ((lk 11 : Nat) : Int), .int .u16 ((lk 12 : Nat) : Int), .int .u16 ((lk 13 : Nat) : Int), .int .u16 ((lk 14 : Nat) : Int), .int .u16 ((lk 15 : Nat) : Int)], .int .u16 (bad : Nat)] w fun e w' => e = .returned (.tuple #[.agg #[.int .i8 ((nearC (findR l lk noneC bad)) 0), .int .i8 ((nearC (findR l lk noneC bad)) 1), .int .i8 ((nearC (findR l lk noneC bad)) 2), .int .i8 ((nearC (findR l lk noneC bad)) 3), .int .i8 ((nearC (findR l lk noneC bad)) 4), .int .i8 ((nearC (findR l lk noneC bad)) 5)], .bool (decide (0 < (findR l lk noneC bad).n))]) ∧ Below w.heap.size w w' := by
  have hzc := zero_ch
  obtain ⟨X, hX⟩ : ∃ X, X = findR l lk noneC bad := ⟨_, rfl⟩
  rw [← hX]
  obtain ⟨B, hB⟩ : ∃ B, B = decide (0 < X.n) := ⟨_, rfl⟩
  obtain ⟨c, hc⟩ : ∃ c, c = nearC X := ⟨_, rfl⟩
  rw [← hB, ← hc]
  have HX := Lib.hid (show (.tuple #[.agg #[.int .i8 ((nearC (findR l lk noneC bad)) 0), .int .i8 ((nearC (findR l lk noneC bad)) 1), .int .i8 ((nearC (findR l lk noneC bad)) 2), .int .i8 ((nearC (findR l lk noneC bad)) 3), .int .i8 ((nearC (findR l lk noneC bad)) 4), .int .i8 ((nearC (findR l lk noneC bad)) 5)], .bool (decide (0 < (findR l lk noneC bad).n))] : Value) = .tuple #[.agg #[.int .i8 (c 0), .int .i8 (c 1), .int .i8 (c 2), .int .i8 (c 3), .int .i8 (c 4), .int .i8 (c 5)], .bool B] by rw [← hX, ← hB, ← hc])
  have hq := ((Bq.nil w).new #[.slice a len cap, .int .u16 ((lk 0 : Nat) : Int), .int .u16 ((lk 1 : Nat) : Int), .int .u16 ((lk 2 : Nat) : Int), .int .u16 ((lk 3 : Nat) : Int), .int .u16 ((lk 4 : Nat) : Int), .int .u16 ((lk 5 : Nat) : Int), .int .u16 ((lk 6 : Nat) : Int), .int .u16 ((lk 7 : Nat) : Int), .int .u16 ((lk 8 : Nat) : Int), .int .u16 ((lk 9 : Nat) : Int), .int .u16 ((lk 10 : Nat) : Int), .int .u16 ((lk 11 : Nat) : Int), .int .u16 ((lk 12 : Nat) : Int), .int .u16 ((lk 13 : Nat) : Int), .int .u16 ((lk 14 : Nat) : Int), .int .u16 ((lk 15 : Nat) : Int)] 65).new (#[.int .i8 0, .int .i8 0, .int .i8 0, .int .i8 0, .int .i8 0, .int .i8 0] : Array Value) 76
  simp only [World.size_alloc] at hq
  have H := Lib.hid h
  clear h hX hB hc
  go_enter Try.func32, Try.ntmps32
  go_upto_region 1 with fail
  obtain ⟨w1, hw1⟩ : ∃ w1, w1 = (w.alloc (.cells #[.slice a len cap, .int .u16 ((lk 0 : Nat) : Int), .int .u16 ((lk 1 : Nat) : Int), .int .u16 ((lk 2 : Nat) : Int), .int .u16 ((lk 3 : Nat) : Int), .int .u16 ((lk 4 : Nat) : Int), .int .u16 ((lk 5 : Nat) : Int), .int .u16 ((lk 6 : Nat) : Int), .int .u16 ((lk 7 : Nat) : Int), .int .u16 ((lk 8 : Nat) : Int), .int .u16 ((lk 9 : Nat) : Int), .int .u16 ((lk 10 : Nat) : Int), .int .u16 ((lk 11 : Nat) : Int), .int .u16 ((lk 12 : Nat) : Int), .int .u16 ((lk 13 : Nat) : Int), .int .u16 ((lk 14 : Nat) : Int), .int .u16 ((lk 15 : Nat) : Int)] 65)).alloc (.cells (#[.int .i8 0, .int .i8 0, .int .i8 0, .int .i8 0, .int .i8 0, .int .i8 0] : Array Value) 76) := ⟨_, rfl⟩
  rw [← hw1] at hq ⊢
  obtain ⟨g1, hg1⟩ : ∃ b, b = w.heap.size + 1 := ⟨_, rfl⟩
  rw [← hg1] at hq ⊢
  obtain ⟨g0, hg0⟩ : ∃ b, b = w.heap.size := ⟨_, rfl⟩
  rw [show (Value.pointer (some ⟨w.heap.size, 0, none⟩)) = .pointer (some ⟨g0, 0, none⟩) by rw [hg0]]
  have hq1 : Bq w w1 [(g0, #[.slice a len cap, .int .u16 ((lk 0 : Nat) : Int), .int .u16 ((lk 1 : Nat) : Int), .int .u16 ((lk 2 : Nat) : Int), .int .u16 ((lk 3 : Nat) : Int), .int .u16 ((lk 4 : Nat) : Int), .int .u16 ((lk 5 : Nat) : Int), .int .u16 ((lk 6 : Nat) : Int), .int .u16 ((lk 7 : Nat) : Int), .int .u16 ((lk 8 : Nat) : Int), .int .u16 ((lk 9 : Nat) : Int), .int .u16 ((lk 10 : Nat) : Int), .int .u16 ((lk 11 : Nat) : Int), .int .u16 ((lk 12 : Nat) : Int), .int .u16 ((lk 13 : Nat) : Int), .int .u16 ((lk 14 : Nat) : Int), .int .u16 ((lk 15 : Nat) : Int)], 65), (g1, (#[.int .i8 0, .int .i8 0, .int .i8 0, .int .i8 0, .int .i8 0, .int .i8 0] : Array Value), 76)] := by rw [hg0]; exact hq
  have HQ := Lib.hid hq1
  clear hw1 hg1 hg0 hq hq1
  have z0 := box_lt (HQ.out.of 0 rfl)
  obtain ⟨I, W, hne, hWI, hIW⟩ := Go.Mix.family (fun v => Below w1.heap.size w1 v) (Below.refl _ _)
  have HJ := Lib.hid hIW
  have HW := Lib.hid hWI
  clear hWI hIW
  refine Go.Flo3.wp_region (fun w' => ∃ i, w' = W i) 4 [Go.Flo.Spec.is (.agg #[.int .i8 (noneC 0), .int .i8 (noneC 1), .int .i8 (noneC 2), .int .i8 (noneC 3), .int .i8 (noneC 4), .int .i8 (noneC 5)]), Go.Flo.Spec.is (.tuple #[.agg #[.int .i8 (c 0), .int .i8 (c 1), .int .i8 (c 2), .int .i8 (c 3), .int .i8 (c 4), .int .i8 (c 5)], .bool B])] (by kernel_rfl) (by kernel_rfl) (by decide) (by rintro _ w' ⟨i, rfl⟩ hb; exact HJ.out _ ((HW.out i).trans (hb.mono (HW.out i).size))) (HJ.out _ (Below.refl _ _).drew) ?_
  simp only [Go.Flo.pair, Go.Mix.calm, List.take, List.drop, if_true, Bool.false_eq_true, if_false, Nat.reduceAdd, Nat.reduceSub]
  (refine Go.Flo.fw_calm rfl ?_ (fun K hK => ?_); (first | exact Go.Mix.wanted_none rfl | exact Go.Mix.wanted_tt rfl rfl rfl | exact Go.Mix.wanted_ff rfl rfl rfl); refine Go.Flo.quiet_load_row 65 _ rfl g0 rfl _ #[.slice a len cap, .int .u16 ((lk 0 : Nat) : Int), .int .u16 ((lk 1 : Nat) : Int), .int .u16 ((lk 2 : Nat) : Int), .int .u16 ((lk 3 : Nat) : Int), .int .u16 ((lk 4 : Nat) : Int), .int .u16 ((lk 5 : Nat) : Int), .int .u16 ((lk 6 : Nat) : Int), .int .u16 ((lk 7 : Nat) : Int), .int .u16 ((lk 8 : Nat) : Int), .int .u16 ((lk 9 : Nat) : Int), .int .u16 ((lk 10 : Nat) : Int), .int .u16 ((lk 11 : Nat) : Int), .int .u16 ((lk 12 : Nat) : Int), .int .u16 ((lk 13 : Nat) : Int), .int .u16 ((lk 14 : Nat) : Int), .int .u16 ((lk 15 : Nat) : Int)] _ (by rintro _ ⟨i, rfl⟩; exact ((HW.out i).block g0 z0).trans (HQ.out.of 0 rfl)) Try.underlying65 rfl size_mp ?_; go_simp; refine hK _ ?_; clear hK K)
  refine Go.Flo.fw_loud rfl ?_ rfl (by simp) (fun wv hwv hav K hK => ?_) (fun v hv K hK => ?_)
  · (first | exact Go.Mix.wanted_none rfl | exact Go.Mix.wanted_tt rfl rfl rfl | exact Go.Mix.wanted_ff rfl rfl rfl)
  · obtain ⟨iv, rfl⟩ := hwv
    have hbv := HW.out iv
    (first | go_big_op | go_simp)
    go_at_call 35
    refine (None_any _).mono ?_
    rintro e w' ⟨rfl, hb⟩
    exact hK _ _ (Go.Flo.owes_is _ rfl hb)
  obtain rfl := hv.is
  go_simp
  refine hK _ ?_
  clear hK K hv
  (repeat (first | (refine Go.Flo.fw_calm rfl ?_ (fun K hK => ?_); (first | exact Go.Mix.wanted_none rfl | exact Go.Mix.wanted_tt rfl rfl rfl | exact Go.Mix.wanted_ff rfl rfl rfl); go_big_quiet_op; refine hK _ ?_; clear hK K) | (refine Go.Flo.fw_skip ?_ (fun K hK => ?_); (first | exact Go.Mix.wanted_tf rfl rfl rfl | exact Go.Mix.wanted_ft rfl rfl rfl); go_simp; refine hK _ ?_; clear hK K) | (refine Go.Flo.fw_any rfl ?_ (fun K hK => ?_); (first | exact Go.Mix.wanted_none rfl | exact Go.Mix.wanted_tt rfl rfl rfl | exact Go.Mix.wanted_ff rfl rfl rfl); go_simp; (try (go_ints; try go_simp)); refine hK _ ?_; clear hK K)))
  refine Go.Flo.fw_loud rfl ?_ rfl (by simp) (fun wv hwv hav K hK => ?_) (fun v hv K hK => ?_)
  · (first | exact Go.Mix.wanted_none rfl | exact Go.Mix.wanted_tt rfl rfl rfl | exact Go.Mix.wanted_ff rfl rfl rfl)
  · obtain ⟨iv, rfl⟩ := hwv
    have hbv := HW.out iv
    (first | go_big_op | go_simp)
    go_at_call 39
    refine (Near_any (H.out.below (HQ.out.be.trans ((HW.out iv).mono HQ.out.be.size))) noneC bad hbad).mono ?_
    rintro e w' ⟨rfl, hb⟩
    rw [HX.out]
    exact hK _ _ (Go.Flo.owes_is _ rfl hb)
  obtain rfl := hv.is
  go_simp
  refine hK _ ?_
  clear hK K hv
  refine Go.Flo.fw_nil ?_
  intro w4 hww4 hfw4 huw4
  obtain ⟨iend, hiend⟩ := hww4
  have hbw4 := HW.out iend
  rw [← hiend] at hbw4
  clear hiend iend huw4
  have HQ4 := Lib.hid (HQ.out.step hbw4)
  have b4 := HQ4.out.of 1 rfl
  have HQ5 := Lib.hid (HQ4.out.put 1 rfl #[.int .i8 (c 0), .int .i8 (c 1), .int .i8 (c 2), .int .i8 (c 3), .int .i8 (c 4), .int .i8 (c 5)])
  clear hfw4 HJ HW hne hbw4
  clear W I
  refine ⟨fun _ => True, trivial, ?_⟩

  (repeat (first | (refine Go.Mix.walk_calm rfl ?_ (fun K hK => ?_); (first | exact Go.Mix.wanted_none rfl | exact Go.Mix.wanted_tt rfl rfl rfl | exact Go.Mix.wanted_ff rfl rfl rfl); go_big_quiet_op; refine hK _ ?_; clear hK K) | (refine Go.Mix.walk_skip ?_ (fun K hK => ?_); (first | exact Go.Mix.wanted_tf rfl rfl rfl | exact Go.Mix.wanted_ft rfl rfl rfl); go_simp; refine hK _ ?_; clear hK K) | (refine Go.Mix.walk_loud rfl ?_ (fun K hK => ?_); (first | exact Go.Mix.wanted_none rfl | exact Go.Mix.wanted_tt rfl rfl rfl | exact Go.Mix.wanted_ff rfl rfl rfl); (first | go_big_op | go_simp); (first | (refine hK _ _ trivial ?_; clear hK K) | (fail; (try dsimp only); refine hK _ _ trivial ?_; clear hK K))) | (refine Go.Mix.walk_step (fun K hK => ?_); go_simp; (try (go_ints; try go_simp)); refine hK _ _ ?_; clear hK K)))
  (refine Go.Mix.walk_loud rfl ?_ (fun K hK => ?_); (first | exact Go.Mix.wanted_none rfl | exact Go.Mix.wanted_tt rfl rfl rfl | exact Go.Mix.wanted_ff rfl rfl rfl); refine wp_store_row 76 _ _ rfl _ #[.int .i8 (c 0), .int .i8 (c 1), .int .i8 (c 2), .int .i8 (c 3), .int .i8 (c 4), .int .i8 (c 5)] rfl rfl 76 _ b4 size_ch rfl (by simp [Value.oneCell']) (hK _ _ trivial ?_); clear hK K)
  (repeat (first | (refine Go.Mix.walk_calm rfl ?_ (fun K hK => ?_); (first | exact Go.Mix.wanted_none rfl | exact Go.Mix.wanted_tt rfl rfl rfl | exact Go.Mix.wanted_ff rfl rfl rfl); go_big_quiet_op; refine hK _ ?_; clear hK K) | (refine Go.Mix.walk_skip ?_ (fun K hK => ?_); (first | exact Go.Mix.wanted_tf rfl rfl rfl | exact Go.Mix.wanted_ft rfl rfl rfl); go_simp; refine hK _ ?_; clear hK K) | (refine Go.Mix.walk_loud rfl ?_ (fun K hK => ?_); (first | exact Go.Mix.wanted_none rfl | exact Go.Mix.wanted_tt rfl rfl rfl | exact Go.Mix.wanted_ff rfl rfl rfl); (first | go_big_op | go_simp); (first | (refine hK _ _ trivial ?_; clear hK K) | (fail; (try dsimp only); refine hK _ _ trivial ?_; clear hK K))) | (refine Go.Mix.walk_step (fun K hK => ?_); go_simp; (try (go_ints; try go_simp)); refine hK _ _ ?_; clear hK K)))
  refine Go.Mix.walk_nil ?_
  go_wp2_with fail
  refine bodyPost_ret (res_ct rfl _ _ _ _ _ _ rfl (HQ5.out.of 1 rfl) Try.underlying76 rfl size_ch) rfl ?_
  exact ⟨rfl, HQ5.out.be⟩
end Go.Proofs.Ytioclbkgfbjpdaa
