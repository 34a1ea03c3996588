/- Contracts of layer 6 (cells). -/
import Derived.Test.YtpgophkegjeheaaCrc2
namespace Go.Proofs.Ytpgophkegjeheaa
open Go.RowKit Go.Own
set_option linter.unusedVariables false
set_option linter.unusedSimpArgs false

theorem zero_content (w : World) : (zeroValue 173).run Try.prog w = .ok (.agg #[.int .u32 0, .slice none 0 0]) w := by kernel_rfl
theorem wraps_u32 (n : Int) (h0 : 0 ≤ n) (h1 : n < 2 ^ 32) : IntKind.u32.wrap n = n := by rw [IntKind.wrap_u32]; omega
theorem orI (x y : Nat) (hx : x < 256) (hy : y < 256) : bits .or .i64 ((x : Int) * 256) (y : Int) = ((x * 256 + y : Nat) : Int) :=
  (bits_join .i64 16 (by decide) wraps_i64_16 8 _ _ (by omega) (by omega) (by omega) (by omega) (by omega) (by omega)).trans (by omega)
theorem or32 (i : Nat) (x y : Int) (h0 : 0 ≤ x) (hx : x % 2 ^ i = 0) (h1 : x < 4294967296) (h2 : 0 ≤ y) (h3 : y < 2 ^ i) (h4 : y < 4294967296) : bits .or .u32 x y = x + y :=
  bits_join .u32 32 (by decide) wraps_u32 i x y h0 hx h1 h2 h3 h4
theorem or_u32a (a b : Nat) (ha : a < 256) (hb : b < 256) : bits .or .u32 ((a : Int) * 16777216) ((b : Int) * 65536) = (a : Int) * 16777216 + b * 65536 := or32 24 _ _ (by omega) (by omega) (by omega) (by omega) (by omega) (by omega)
theorem or_u32b (a b c : Nat) (ha : a < 256) (hb : b < 256) (hc : c < 256) : bits .or .u32 ((a : Int) * 16777216 + b * 65536) ((c : Int) * 256) = (a : Int) * 16777216 + b * 65536 + c * 256 := or32 16 _ _ (by omega) (by omega) (by omega) (by omega) (by omega) (by omega)
theorem or_u32c (a b c d : Nat) (ha : a < 256) (hb : b < 256) (hc : c < 256) (hd : d < 256) : bits .or .u32 ((a : Int) * 16777216 + b * 65536 + c * 256) (d : Int) = ((a * 16777216 + b * 65536 + c * 256 + d : Nat) : Int) := (or32 8 _ _ (by omega) (by omega) (by omega) (by omega) (by omega) (by omega)).trans (by omega)

/-- How many bytes of data a cell states; its number; its data; its error. -/
def psize (l : List Nat) : Nat := l.getD 4 0 * 256 + l.getD 5 0
def pseq (l : List Nat) : Nat := l.getD 0 0 * 16777216 + l.getD 1 0 * 65536 + l.getD 2 0 * 256 + l.getD 3 0
def pdat (l : List Nat) : List Nat := (l.drop 6).take (l.length - 8)
def perr (l : List Nat) : Nat := if l.length < 8 ∨ psize l + 8 ≠ l.length then 2 else if rightB l = true then (if 200 < psize l then 4 else 0) else 5
theorem pseq_lt {l : List Nat} (h : bytes l) : pseq l < 4294967296 := by
  have a := h.at 0
  have b := h.at 1
  have c := h.at 2
  have d := h.at 3
  unfold pseq
  omega
theorem pdat_len {l : List Nat} (h : 8 ≤ l.length) : (pdat l).length = l.length - 8 := by simp [pdat]; omega
theorem pdat_bytes {l : List Nat} (h : bytes l) : bytes (pdat l) := (h.drop 6).take _
def OpenPost (n : Nat) (w : World) (l : List Nat) (e : Ending) (w' : World) : Prop :=
  Below w.heap.size w w' ∧ ((perr l = 0 ∧ ∃ x c, e = .returned (.tuple #[.agg #[.int .u32 (pseq l : Nat), .slice x (pdat l).length c], .int .i64 0]) ∧ Rd n w' x (pdat l).length c (bv (pdat l))) ∨
    (perr l ≠ 0 ∧ e = .returned (.tuple #[.agg #[.int .u32 0, .slice none 0 0], .int .i64 (perr l : Nat)])))

theorem set_two {w : World} {g : Nat} {u v : Value} (u' v' : Value) (h0 : w.cell? ⟨g, 0, none⟩ = some u) (h1 : w.cell? ⟨g, 1, none⟩ = some v) : (w.setCell ⟨g, 0, none⟩ u').cell? ⟨g, 0, none⟩ = some u' ∧ ((w.setCell ⟨g, 0, none⟩ u').setCell ⟨g, 1, none⟩ v').cell? ⟨g, 1, none⟩ = some v' := by
  constructor <;> go_simp
theorem sub_rd {n len cap b off k : Nat} {l : List Nat} {w : World} (hl : l.length = len) (h : Rd n w (some ⟨b, off, none⟩) len cap (bv l)) (hk : (pdat l).length = k) (hz : len = k + 8) : Rd n w (some ⟨b, off + 6, none⟩) (pdat l).length (cap - 6) (bv (pdat l)) := by
  have h1 := h.le
  have h2 := h.top
  obtain ⟨b', off', e, hb, hc⟩ := h.row (by omega)
  cases e
  rw [hk]
  refine ⟨by omega, by omega, fun h => (by cases h), fun _ => ⟨b, off + 6, rfl, hb, fun i hi => ?_⟩⟩
  rw [show off + 6 + i = off + (6 + i) by omega, hc (6 + i) (by omega)]
  unfold bv pdat
  simp only [List.getD, List.getElem?_take, List.getElem?_drop]
  rw [if_pos (by omega)]
theorem below_drews (B : Nat) (w : World) (n : Nat) : Below B w (w.drewN n) := ⟨rfl, rfl, rfl, Nat.le_refl _, fun _ _ => rfl⟩
set_option maxRecDepth 100000 in
set_option maxHeartbeats 2000000 in
theorem open_any (a : Option Addr) (len cap n : Nat) (l : List Nat) (w : World) (hl : l.length = len) (hn : n ≤ w.heap.size) (hr : Rd n w a len cap (bv l)) (hb : bytes l) :
    Calls Try.prog 98 #[.agg tabV, .slice a len cap] w (OpenPost n w l) := by
  have hzc := zero_content
  have h1 := hr.le
  have h2 := hr.top
  unfold maxLen at h2
  have HR := Lib.hid hr
  have HL := Lib.hid hl
  have hT := IsTab.new w
  have hB0 : Below w.heap.size w ((w.alloc (.cells tabV 170)).alloc (.cells #[.int .u32 0, .slice none 0 0] 173)) := ((Below.refl _ _).alloc (Nat.le_refl _) _).alloc (by simp) _
  have HB0 := Lib.hid hB0
  clear hB0 hr hl
  by_cases h : len < 8
  · have he : perr l = 2 := by unfold perr; rw [if_pos (Or.inl (by rw [HL.out]; exact h))]
    have HE := Lib.hid he
    clear he
    go_enter Try.func98, Try.ntmps98
    go_wp2
    refine bodyPost_ret (v := .tuple #[.agg #[.int .u32 0, .slice none 0 0], .int .i64 2]) (by simp [results, Try.results98, go_sem]) rfl ?_
    exact ⟨HB0.out, .inr ⟨by rw [HE.out]; decide, by rw [HE.out]; rfl⟩⟩
  · have hx := hb.at 4
    have hy := hb.at 5
    obtain ⟨b, off, rfl, hbn, hc⟩ := HR.out.row (by omega)
    have c4 := hc 4 (by omega)
    have c5 := hc 5 (by omega)
    unfold bv at c4 c5
    have hq : psize l = l.getD 4 0 * 256 + l.getD 5 0 := rfl
    have hor := orI (l.getD 4 0) (l.getD 5 0) hx hy
    obtain ⟨x, hx'⟩ : ∃ x, x = l.getD 4 0 := ⟨_, rfl⟩
    obtain ⟨y, hy'⟩ : ∃ y, y = l.getD 5 0 := ⟨_, rfl⟩
    rw [← hx'] at c4 hx hq hor
    rw [← hy'] at c5 hy hq hor
    obtain ⟨z, hz⟩ : ∃ z, z = x * 256 + y := ⟨_, rfl⟩
    rw [← hz] at hq hor
    have HQ := Lib.hid hq
    clear hx' hy' hq
    have k4 : ((w.alloc (.cells tabV 170)).alloc (.cells #[.int .u32 0, .slice none 0 0] 173)).cell? ⟨b, off + 4, none⟩ = some (.int .u8 (x : Int)) := (HB0.out.cell (p := ⟨b, off + 4, none⟩) (Nat.lt_of_lt_of_le hbn hn)).trans c4
    have k5 : ((w.alloc (.cells tabV 170)).alloc (.cells #[.int .u32 0, .slice none 0 0] 173)).cell? ⟨b, off + 5, none⟩ = some (.int .u8 (y : Int)) := (HB0.out.cell (p := ⟨b, off + 5, none⟩) (Nat.lt_of_lt_of_le hbn hn)).trans c5
    obtain ⟨w0, hw0⟩ : ∃ w0, w0 = (w.alloc (.cells tabV 170)).alloc (.cells #[.int .u32 0, .slice none 0 0] 173) := ⟨_, rfl⟩
    have hsz0 : w0.heap.size = w.heap.size + 2 := by rw [hw0]; simp
    have hT0 : IsTab w0 w.heap.size := by rw [hw0]; exact hT.below (Below.alloc (Below.refl _ _) (Nat.le_refl _) _) (by simp)
    have hC0 : w0.heap[w.heap.size + 1]? = some (.cells #[.int .u32 0, .slice none 0 0] 173 (0, 0)) := by rw [hw0]; exact heap_alloc2_new w _ _
    rw [← hw0] at HB0 k4 k5
    have HW0 := Lib.hid hw0
    clear hT hw0
    by_cases hs : len = z + 8
    · have hsI : (len : Int) = 6 + ((x : Int) * 256 + y) + 2 := by omega
      have HSZ := Lib.hid hs
      have hsN : ¬ len < 8 := by omega
      clear hs
      cases hR : rightB l
      · have he : perr l = 5 := by unfold perr; rw [if_neg (by rw [HL.out, HQ.out]; omega), hR]; rfl
        have HE := Lib.hid he
        have HRB := Lib.hid hR
        clear he hR
        go_enter Try.func98, Try.ntmps98
        go_wp2
        rw [← HW0.out]
        go_quiet (fail)
        obtain ⟨w1, hw1⟩ : ∃ w1, w1 = w0.drewN nq := ⟨_, rfl⟩
        have hb01 : Below w0.heap.size w0 w1 := by rw [hw1]; exact below_drews _ _ _
        have hT1 := hT0.below hb01 (by omega)
        have hC1 := (hb01.block (w.heap.size + 1) (by omega)).trans hC0
        have c0 := cell_of_row w1 _ 0 _ _ _ hC1
        have c1 := cell_of_row w1 _ 1 _ _ _ hC1
        have f0 := frozen_of_row w1 _ 0 _ _ hC1
        have f1 := frozen_of_row w1 _ 1 _ _ hC1
        have hb1 := HB0.out.trans (hb01.mono (by omega))
        have hs1 : w.heap.size + 2 ≤ w1.heap.size := by have := hb01.size; omega
        rw [← hw1]
        clear hw1 hb01
        go_wp2_with (first | (refine wpList_load_row rfl 170 _ rfl w.heap.size rfl _ _ _ _ hT1 Try.underlying170 rfl size_tab' ?_) | (go_at_call 109; refine (TRight_any _ _ _ n l _ HL.out (by omega) (HR.out.below' hb1 hn) hb).mono ?_; rintro e w2 ⟨rfl, hb2⟩; rw [HRB.out]; have hC2 := (hb2.block (w.heap.size + 1) (by omega)).trans hC1; clear c0 c1 f0 f1; have c0 := cell_of_row w2 _ 0 _ _ _ hC2; have c1 := cell_of_row w2 _ 1 _ _ _ hC2; have f0 := frozen_of_row w2 _ 0 _ _ hC2; have f1 := frozen_of_row w2 _ 1 _ _ hC2; have hB2 := hb1.trans (hb2.mono (by omega)); have hs2 := hb2.size))
        obtain ⟨r0, r1⟩ := set_two (.int .u32 0) (.slice none 0 0) c0 c1
        refine bodyPost_ret (v := .tuple #[.agg #[.int .u32 0, .slice none 0 0], .int .i64 5]) (by simp [results, Try.results98, go_sem, r0, r1]) rfl ?_
        refine ⟨?_, .inr ⟨by rw [HE.out]; decide, by rw [HE.out]; rfl⟩⟩
        repeat' (first | (with_reducible exact Below.refl _ _) | (with_reducible assumption) | (with_reducible refine Below.setCell ?_ ?_ _) | (with_reducible refine Below.alloc ?_ ?_ _) | (with_reducible refine Below.drew ?_) | (with_reducible refine Below.drawsN ?_ _) | go_size)
      · by_cases hz2 : 200 < z
        · have he : perr l = 4 := by unfold perr; rw [if_neg (by rw [HL.out, HQ.out, HSZ.out]; omega), hR, HQ.out]; simp [hz2]
          have hzI : 200 < (x : Int) * 256 + y := by omega
          have HE := Lib.hid he
          have HRB := Lib.hid hR
          clear he hR
          go_enter Try.func98, Try.ntmps98
          go_wp2
          rw [← HW0.out]
          go_quiet (fail)
          obtain ⟨w1, hw1⟩ : ∃ w1, w1 = w0.drewN nq := ⟨_, rfl⟩
          have hb01 : Below w0.heap.size w0 w1 := by rw [hw1]; exact below_drews _ _ _
          have hT1 := hT0.below hb01 (by omega)
          have hC1 := (hb01.block (w.heap.size + 1) (by omega)).trans hC0
          have c0 := cell_of_row w1 _ 0 _ _ _ hC1
          have c1 := cell_of_row w1 _ 1 _ _ _ hC1
          have f0 := frozen_of_row w1 _ 0 _ _ hC1
          have f1 := frozen_of_row w1 _ 1 _ _ hC1
          have hb1 := HB0.out.trans (hb01.mono (by omega))
          have hs1 : w.heap.size + 2 ≤ w1.heap.size := by have := hb01.size; omega
          rw [← hw1]
          clear hw1 hb01
          go_wp2_with (first | (refine wpList_load_row rfl 170 _ rfl w.heap.size rfl _ _ _ _ hT1 Try.underlying170 rfl size_tab' ?_) | (go_at_call 109; refine (TRight_any _ _ _ n l _ HL.out (by omega) (HR.out.below' hb1 hn) hb).mono ?_; rintro e w2 ⟨rfl, hb2⟩; rw [HRB.out]; have hC2 := (hb2.block (w.heap.size + 1) (by omega)).trans hC1; clear c0 c1 f0 f1; have c0 := cell_of_row w2 _ 0 _ _ _ hC2; have c1 := cell_of_row w2 _ 1 _ _ _ hC2; have f0 := frozen_of_row w2 _ 0 _ _ hC2; have f1 := frozen_of_row w2 _ 1 _ _ hC2; have hB2 := hb1.trans (hb2.mono (by omega)); have hs2 := hb2.size))
          obtain ⟨r0, r1⟩ := set_two (.int .u32 0) (.slice none 0 0) c0 c1
          refine bodyPost_ret (v := .tuple #[.agg #[.int .u32 0, .slice none 0 0], .int .i64 4]) (by simp [results, Try.results98, go_sem, r0, r1]) rfl ?_
          refine ⟨?_, .inr ⟨by rw [HE.out]; decide, by rw [HE.out]; rfl⟩⟩
          repeat' (first | (with_reducible exact Below.refl _ _) | (with_reducible assumption) | (with_reducible refine Below.setCell ?_ ?_ _) | (with_reducible refine Below.alloc ?_ ?_ _) | (with_reducible refine Below.drew ?_) | (with_reducible refine Below.drawsN ?_ _) | go_size)
        · have he : perr l = 0 := by unfold perr; rw [if_neg (by rw [HL.out, HQ.out, HSZ.out]; omega), hR, HQ.out]; simp [hz2]
          have hzI : (x : Int) * 256 + y ≤ 200 := by omega
          have HE := Lib.hid he
          have HRB := Lib.hid hR
          have b0 := hb.at 0
          have b1 := hb.at 1
          have b2 := hb.at 2
          have b3 := hb.at 3
          have d0 := hc 0 (by omega)
          have d1 := hc 1 (by omega)
          have d2 := hc 2 (by omega)
          have d3 := hc 3 (by omega)
          have hsq : pseq l = l.getD 0 0 * 16777216 + l.getD 1 0 * 65536 + l.getD 2 0 * 256 + l.getD 3 0 := rfl
          unfold bv at d0 d1 d2 d3
          obtain ⟨s0, hs0⟩ : ∃ s0, s0 = l.getD 0 0 := ⟨_, rfl⟩
          obtain ⟨s1, hs1'⟩ : ∃ s1, s1 = l.getD 1 0 := ⟨_, rfl⟩
          obtain ⟨s2, hs2'⟩ : ∃ s2, s2 = l.getD 2 0 := ⟨_, rfl⟩
          obtain ⟨s3, hs3'⟩ : ∃ s3, s3 = l.getD 3 0 := ⟨_, rfl⟩
          rw [← hs0] at d0 b0 hsq
          rw [← hs1'] at d1 b1 hsq
          rw [← hs2'] at d2 b2 hsq
          rw [← hs3'] at d3 b3 hsq
          have HSQ := Lib.hid hsq
          have or1 := or_u32a s0 s1 b0 b1
          have or2 := or_u32b s0 s1 s2 b0 b1 b2
          have or3 := or_u32c s0 s1 s2 s3 b0 b1 b2 b3
          clear he hR hsq hs0 hs1' hs2' hs3'
          go_enter Try.func98, Try.ntmps98
          go_wp2
          rw [← HW0.out]
          go_quiet (fail)
          obtain ⟨w1, hw1⟩ : ∃ w1, w1 = w0.drewN nq := ⟨_, rfl⟩
          have hb01 : Below w0.heap.size w0 w1 := by rw [hw1]; exact below_drews _ _ _
          have hT1 := hT0.below hb01 (by omega)
          have hC1 := (hb01.block (w.heap.size + 1) (by omega)).trans hC0
          have c0 := cell_of_row w1 _ 0 _ _ _ hC1
          have c1 := cell_of_row w1 _ 1 _ _ _ hC1
          have f0 := frozen_of_row w1 _ 0 _ _ hC1
          have f1 := frozen_of_row w1 _ 1 _ _ hC1
          have hb1 := HB0.out.trans (hb01.mono (by omega))
          have hs1 : w.heap.size + 2 ≤ w1.heap.size := by have := hb01.size; omega
          rw [← hw1]
          clear hw1 hb01
          go_wp2_with (first | (refine wpList_load_row rfl 170 _ rfl w.heap.size rfl _ _ _ _ hT1 Try.underlying170 rfl size_tab' ?_) | (go_at_call 109; refine (TRight_any _ _ _ n l _ HL.out (by omega) (HR.out.below' hb1 hn) hb).mono ?_; rintro e w2 ⟨rfl, hb2⟩; rw [HRB.out]; have hC2 := (hb2.block (w.heap.size + 1) (by omega)).trans hC1; clear c0 c1 f0 f1; have c0 := cell_of_row w2 _ 0 _ _ _ hC2; have c1 := cell_of_row w2 _ 1 _ _ _ hC2; have f0 := frozen_of_row w2 _ 0 _ _ hC2; have f1 := frozen_of_row w2 _ 1 _ _ hC2; have hB2 := hb1.trans (hb2.mono (by omega)); have hs2 := hb2.size))
          have k0 : w2.cell? ⟨b, off + 0, none⟩ = some (.int .u8 (s0 : Int)) := (hB2.cell (p := ⟨b, off + 0, none⟩) (Nat.lt_of_lt_of_le hbn hn)).trans d0
          have k1 : w2.cell? ⟨b, off + 1, none⟩ = some (.int .u8 (s1 : Int)) := (hB2.cell (p := ⟨b, off + 1, none⟩) (Nat.lt_of_lt_of_le hbn hn)).trans d1
          have k2 : w2.cell? ⟨b, off + 2, none⟩ = some (.int .u8 (s2 : Int)) := (hB2.cell (p := ⟨b, off + 2, none⟩) (Nat.lt_of_lt_of_le hbn hn)).trans d2
          have k3 : w2.cell? ⟨b, off + 3, none⟩ = some (.int .u8 (s3 : Int)) := (hB2.cell (p := ⟨b, off + 3, none⟩) (Nat.lt_of_lt_of_le hbn hn)).trans d3
          rw [Nat.add_zero] at k0
          clear d0 d1 d2 d3 c4 c5 k4 k5
          go_quiet (fail)
          obtain ⟨w3, hw3⟩ : ∃ w3, w3 = w2.drewN nq := ⟨_, rfl⟩
          have hb23 : Below w2.heap.size w2 w3 := by rw [hw3]; exact below_drews _ _ _
          have hC3 := (hb23.block (w.heap.size + 1) (by omega)).trans hC2
          clear c0 c1 f0 f1
          have c0 := cell_of_row w3 _ 0 _ _ _ hC3
          have c1 := cell_of_row w3 _ 1 _ _ _ hC3
          have f0 := frozen_of_row w3 _ 0 _ _ hC3
          have f1 := frozen_of_row w3 _ 1 _ _ hC3
          have hB3 := hB2.trans (hb23.mono (by omega))
          have hs3 := hb23.size
          rw [← hw3]
          clear hw3 hb23 k0 k1 k2 k3 or1 or2 or3
          go_wp2
          obtain ⟨r0, r1⟩ := set_two (.int .u32 ((s0 : Int) * 16777216 + s1 * 65536 + s2 * 256 + s3)) (.slice (some ⟨b, off + 6, none⟩) (x * 256 + y) (cap - 6)) c0 c1
          refine bodyPost_ret (v := .tuple #[.agg #[.int .u32 ((s0 : Int) * 16777216 + s1 * 65536 + s2 * 256 + s3), .slice (some ⟨b, off + 6, none⟩) (x * 256 + y) (cap - 6)], .int .i64 0]) (by simp [results, Try.results98, go_sem, r0, r1]) rfl ?_
          have hB4 : Below w.heap.size w ((w3.setCell ⟨w.heap.size + 1, 0, none⟩ (.int .u32 ((s0 : Int) * 16777216 + s1 * 65536 + s2 * 256 + s3))).setCell ⟨w.heap.size + 1, 1, none⟩ (.slice (some ⟨b, off + 6, none⟩) (x * 256 + y) (cap - 6))) := by repeat' (first | (with_reducible exact Below.refl _ _) | (with_reducible assumption) | (with_reducible refine Below.setCell ?_ ?_ _) | (with_reducible refine Below.alloc ?_ ?_ _) | (with_reducible refine Below.drew ?_) | (with_reducible refine Below.drawsN ?_ _) | go_size)
          have hlen : (pdat l).length = x * 256 + y := by rw [pdat_len (by rw [HL.out]; omega), HL.out, HSZ.out]; omega
          refine ⟨hB4, .inl ⟨HE.out, _, _, ?_, sub_rd HL.out (HR.out.below' hB4 hn) hlen (by rw [HSZ.out]; omega)⟩⟩
          have hcast : ((s0 * 16777216 + s1 * 65536 + s2 * 256 + s3 : Nat) : Int) = (s0 : Int) * 16777216 + s1 * 65536 + s2 * 256 + s3 := by omega
          rw [HSQ.out, hcast, hlen]
    · have he : perr l = 2 := by unfold perr; rw [if_pos (Or.inr (by rw [HL.out, HQ.out]; omega))]
      have HE := Lib.hid he
      clear he
      go_enter Try.func98, Try.ntmps98
      go_wp2
      rw [← HW0.out]
      go_quiet (fail)
      obtain ⟨w1, hw1⟩ : ∃ w1, w1 = w0.drewN nq := ⟨_, rfl⟩
      have hb01 : Below w0.heap.size w0 w1 := by rw [hw1]; exact below_drews _ _ _
      have hT1 := hT0.below hb01 (by omega)
      have hC1 := (hb01.block (w.heap.size + 1) (by omega)).trans hC0
      have c0 := cell_of_row w1 _ 0 _ _ _ hC1
      have c1 := cell_of_row w1 _ 1 _ _ _ hC1
      have f0 := frozen_of_row w1 _ 0 _ _ hC1
      have f1 := frozen_of_row w1 _ 1 _ _ hC1
      have hb1 := HB0.out.trans (hb01.mono (by omega))
      have hs1 : w.heap.size + 2 ≤ w1.heap.size := by have := hb01.size; omega
      rw [← hw1]
      clear hw1 hb01
      go_wp2
      obtain ⟨r0, r1⟩ := set_two (.int .u32 0) (.slice none 0 0) c0 c1
      refine bodyPost_ret (v := .tuple #[.agg #[.int .u32 0, .slice none 0 0], .int .i64 2]) (by simp [results, Try.results98, go_sem, r0, r1]) rfl ?_
      refine ⟨?_, .inr ⟨by rw [HE.out]; decide, by rw [HE.out]; rfl⟩⟩
      repeat' (first | (with_reducible exact Below.refl _ _) | (with_reducible assumption) | (with_reducible refine Below.setCell ?_ ?_ _) | (with_reducible refine Below.alloc ?_ ?_ _) | (with_reducible refine Below.drew ?_) | (with_reducible refine Below.drawsN ?_ _) | go_size)
end Go.Proofs.Ytpgophkegjeheaa
