/- Contracts of package crc and of the document's own sum. -/
import Derived.Test.YtmihhapedpalmaaCrcPlain
import Derived.Test.YtmihhapedpalmaaByt
import Derived.Test.YtmihhapedpalmaaFlo
import Derived.Lib.EndianBits
import Derived.Deep.WholeRow
import Derived.Laws.CopyOwn
namespace Go.Proofs.Ytmihhapedpalmaa
open Go.RowKit Go.Own
set_option linter.unusedVariables false
set_option linter.unusedSimpArgs false

theorem xorNatJ (k : IntKind) (j : Nat) (hj : j ≤ k.bits) (hk : ∀ n : Int, 0 ≤ n → n < 2 ^ j → k.wrap n = n) (a b : Nat) (ha : a < 2 ^ j) (hb : b < 2 ^ j) : bits .xor k (a : Int) (b : Int) = ((a ^^^ b : Nat) : Int) := by
  have hp : 2 ^ j ≤ 2 ^ k.bits := Nat.pow_le_pow_right (by decide) hj
  have ha' : a % 2 ^ k.bits = a := Nat.mod_eq_of_lt (Nat.lt_of_lt_of_le ha hp)
  have hb' : b % 2 ^ k.bits = b := Nat.mod_eq_of_lt (Nat.lt_of_lt_of_le hb hp)
  simp only [bits, BitVec.ofInt_natCast, BitVec.toNat_xor, BitVec.toNat_ofNat, ha', hb']
  exact hk _ (Int.natCast_nonneg _) (by exact_mod_cast Nat.xor_lt_two_pow ha hb)
theorem xorNat (k : IntKind) (hk : ∀ n : Int, 0 ≤ n → n < 2 ^ k.bits → k.wrap n = n) (a b : Nat) (ha : a < 2 ^ k.bits) (hb : b < 2 ^ k.bits) : bits .xor k (a : Int) (b : Int) = ((a ^^^ b : Nat) : Int) := xorNatJ k k.bits (Nat.le_refl _) hk a b ha hb
theorem wraps_i64_16 (n : Int) (h0 : 0 ≤ n) (h1 : n < 2 ^ 16) : IntKind.i64.wrap n = n := by rw [IntKind.wrap_i64]; omega
theorem xor64 (a b : Nat) (ha : a < 65536) (hb : b < 65536) : bits .xor .i64 (a : Int) (b : Int) = ((a ^^^ b : Nat) : Int) := xorNatJ .i64 16 (by decide) wraps_i64_16 a b ha hb
theorem xor16 (a b : Nat) (ha : a < 65536) (hb : b < 65536) : bits .xor .u16 (a : Int) (b : Int) = ((a ^^^ b : Nat) : Int) := xorNat .u16 wraps_u16 a b ha hb
theorem xor8 (a b : Nat) (ha : a < 256) (hb : b < 256) : bits .xor .u8 (a : Int) (b : Int) = ((a ^^^ b : Nat) : Int) := xorNat .u8 wraps_u8 a b ha hb
theorem step_start (s b : Nat) (hs : s < 65536) (hb : b < 256) : bits .xor .u16 (s : Int) ((b : Int) * 256) = ((s ^^^ b * 256 : Nat) : Int) := by
  rw [← xor16 s (b * 256) hs (by omega)]; simp
theorem f_int (s : Nat) (hs : s < 65536) : bits .xor .u16 (IntKind.u16.wrap ((s : Int) * 2)) ((s : Int) / 32768 * 4129) = ((Cr.f s : Nat) : Int) := by
  unfold Cr.f
  have h1 : s / 32768 * 4129 < 65536 := by omega
  rw [← xor16 (s * 2 % 65536) (s / 32768 * 4129) (by omega) h1, IntKind.wrap_u16]
  congr 1
theorem fs_succ' (k s : Nat) : Cr.fs (k + 1) s = Cr.f (Cr.fs k s) := Cr.fs_add k 1 s

set_option maxHeartbeats 400000 in
theorem Step_any (s b : Nat) (w : World) (hs : s < 65536) (hb : b < 256) :
    Calls Try.prog 92 #[.int .u16 s, .int .u8 b] w fun e w' => e = .returned (.int .u16 (Cr.step s b : Nat)) ∧ w = w' := by
  have hx : s ^^^ b * 256 < 65536 := Cr.xor_lt hs (by omega)
  go_enter Try.func92, Try.ntmps92
  go_wp2
  rw [step_start s b hs hb]
  go_loop [0, 11] (fun v i => ∃ k : Nat, k ≤ 8 ∧ i = .int .i64 k ∧ v = .int .u16 (Cr.fs k (s ^^^ b * 256) : Nat)) (fun _ i => 8 - (intOf i).toNat)
  case atStart => exact ⟨0, Nat.zero_le _, rfl, rfl⟩
  case round =>
    obtain ⟨k, hk, rfl, rfl⟩ := hrel
    by_cases hlt : k < 8
    · have hf := Cr.fs_lt k _ hx
      have hs := fs_succ' k (s ^^^ b * 256)
      obtain ⟨v, hv⟩ : ∃ v, v = Cr.fs k (s ^^^ b * 256) := ⟨_, rfl⟩
      rw [← hv] at hf hs ⊢
      have HS := Lib.hid hs
      clear hs hv
      go_wp2
      go_round
      case rel => exact ⟨k + 1, by omega, by go_num, by rw [HS.out]; exact ret_int' (f_int v hf)⟩
      case measure => simp [intOf]; omega
    · obtain rfl : k = 8 := by omega
      go_wp2
      go_ret
      exact ⟨rfl, rfl⟩

/-- The table's cells. -/
def tabV : Array Value := ((List.range 256).map fun i => Value.int .u16 (Cr.step 0 i : Nat)).toArray
theorem tabV_size : tabV.size = 256 := by simp [tabV]
theorem tabV_at (i : Nat) (h : i < 256) : tabV[i]? = some (.int .u16 (Cr.step 0 i : Nat)) := by simp [tabV, h]
/-- A block that is the table. -/
def IsTab (w : World) (g : Nat) : Prop := w.heap[g]? = some (.cells tabV 143 (0, 0))
theorem IsTab.lt {w : World} {g : Nat} (h : IsTab w g) : g < w.heap.size := by
  rcases Nat.lt_or_ge g w.heap.size with h' | h'
  · exact h'
  · unfold IsTab at h; rw [Array.getElem?_eq_none h'] at h; cases h
theorem IsTab.cell {w : World} {g : Nat} (h : IsTab w g) (i : Nat) (hi : i < 256) : w.cell? ⟨g, i, none⟩ = some (.int .u16 (Cr.step 0 i : Nat)) := by
  rw [cell_of_row w g i tabV _ _ h, tabV_at i hi]
theorem IsTab.new (w : World) : IsTab (w.alloc (.cells tabV 143)) w.heap.size := heap_alloc_new w _
theorem IsTab.below {w w' : World} {g n : Nat} (h : IsTab w g) (hb : Below n w w') (hg : g < n) : IsTab w' g := (hb.block g hg).trans h
attribute [irreducible] tabV

theorem table_int (s b : Nat) (hs : s < 65536) (hb : b < 256) : bits .xor .u16 (IntKind.u16.wrap ((s : Int) * 256)) ((Cr.step 0 (s / 256 ^^^ b) : Nat) : Int) = ((Cr.step s b : Nat) : Int) := by
  have h1 : s / 256 ^^^ b < 256 := Nat.xor_lt_two_pow (n := 8) (by omega) hb
  rw [Cr.step_table s b hs hb, ← xor16 _ _ (by omega) (Cr.step_lt 0 _ (by omega) h1), IntKind.wrap_u16]
  congr 1

/-- Parts one behind another: what has come till part k. -/
theorem sum_flat (ls : Nat → List Nat) (k : Nat) : Cr.sum (flat ls (k + 1)) = Cr.sumFrom (Cr.sum (flat ls k)) (ls k) := by
  rw [flat_succ, Cr.sum_append]
theorem sumFrom_take (s : Nat) (l : List Nat) (j : Nat) (h : j < l.length) : Cr.sumFrom s (l.take (j + 1)) = Cr.step (Cr.sumFrom s (l.take j)) (l.getD j 0) := by
  rw [take_succ l h, Cr.sumFrom_append]; rfl
theorem flat_bytes {ls : Nat → List Nat} {k : Nat} (h : ∀ i, i < k → bytes (ls i)) : bytes (flat ls k) := by
  intro b hb
  simp only [flat, List.mem_flatMap, List.mem_range] at hb
  obtain ⟨i, hi, hb⟩ := hb
  exact h i hi b hb

set_option maxRecDepth 100000 in
set_option maxHeartbeats 2000000 in
theorem TSum_any (a : Option Addr) (len cap n : Nat) (pa : Nat → Option Addr) (pc : Nat → Nat) (ls : Nat → List Nat) (w : World) (hn : n ≤ w.heap.size)
    (hr : Rd n w a len cap (fun i => .slice (pa i) (ls i).length (pc i))) (hp : ∀ i, i < len → Rd n w (pa i) (ls i).length (pc i) (bv (ls i))) (hb : ∀ i, i < len → bytes (ls i)) :
    Calls Try.prog 93 #[.agg tabV, .slice a len cap] w fun e w' => e = .returned (.int .u16 (Cr.sum (flat ls len) : Nat)) ∧ Below w.heap.size w w' := by
  have h1 := hr.le
  have h2 := hr.top
  unfold maxLen at h2
  go_enter Try.func93, Try.ntmps93
  go_wp2
  have hT := IsTab.new w
  have hB0 : Below w.heap.size w (w.alloc (.cells tabV 143)) := (Below.refl _ _).alloc (Nat.le_refl _) _
  have hr := hr.below' hB0 hn
  have hp := fun i hi => (hp i hi).below' hB0 hn
  have hn1 : n ≤ (w.alloc (.cells tabV 143)).heap.size := by simp; omega
  have hg : w.heap.size < (w.alloc (.cells tabV 143)).heap.size := by simp
  obtain ⟨w1, hw1⟩ : ∃ w1, w1 = w.alloc (.cells tabV 143) := ⟨_, rfl⟩
  obtain ⟨g, hg'⟩ : ∃ g, g = w.heap.size := ⟨_, rfl⟩
  rw [← hw1] at hT hr hp hn1 hB0 hg ⊢
  rw [← hg'] at hT hg ⊢
  clear hw1
  have HG := Lib.hid hg'
  clear hg'
  go_loop [5, 12] (fun v i => ∃ k : Nat, k ≤ len ∧ i = .int .i64 k ∧ v = .int .u16 (Cr.sum (flat ls k) : Nat)) (fun _ i => len - (intOf i).toNat)
  case atStart => exact ⟨0, Nat.zero_le _, rfl, rfl⟩
  case round =>
    obtain ⟨k, hk, rfl, rfl⟩ := hrel
    by_cases hlt : k < len
    · obtain ⟨b, off, rfl, hbk, hc⟩ := hr.at hlt
      have hq := hp k hlt
      have hbk := hb k hlt
      have hs := sum_flat ls k
      have hlt0 := Cr.sum_lt _ (flat_bytes (fun i (hi : i < k) => hb i (by omega)))
      obtain ⟨s0, hs0⟩ : ∃ s0, s0 = Cr.sum (flat ls k) := ⟨_, rfl⟩
      rw [← hs0] at hs hlt0 ⊢
      have HS := Lib.hid hs
      have HQ := Lib.hid hq
      have h3 := hq.le
      have h4 := hq.top
      unfold maxLen at h4
      clear hs hs0 hq
      obtain ⟨l, hl⟩ : ∃ l, l = ls k := ⟨_, rfl⟩
      obtain ⟨m, hm⟩ : ∃ m, m = (ls k).length := ⟨_, rfl⟩
      rw [← hm] at h3 hc
      have hlm : l.length = m := by rw [hm, hl]
      have hlb : bytes l := by rw [hl]; exact hbk
      have HQ' : Rd n w1 (pa k) m (pc k) (bv l) := by rw [hm, hl]; exact HQ.out
      have HS' := HS.out
      rw [← hl] at HS'
      have HS2 := Lib.hid HS'
      have HL := Lib.hid hlm
      clear HS HQ HS' hm hl hbk
      obtain ⟨A, hA⟩ : ∃ A, A = pa k := ⟨_, rfl⟩
      obtain ⟨C, hC⟩ : ∃ C, C = pc k := ⟨_, rfl⟩
      rw [← hA, ← hC] at HQ' hc
      rw [← hC] at h3 h4
      clear hA hC hlm
      go_wp2
      go_loop [5, 18] (fun v i => ∃ j : Nat, j ≤ m ∧ i = .int .i64 j ∧ v = .int .u16 (Cr.sumFrom s0 (l.take j) : Nat)) (fun _ i => m - (intOf i).toNat)
      case atStart => exact ⟨0, Nat.zero_le _, rfl, rfl⟩
      case round =>
        obtain ⟨j, hj, rfl, rfl⟩ := hrel
        by_cases hjm : j < m
        · obtain ⟨b2, off2, rfl, hb2, hc2⟩ := HQ'.at hjm
          unfold bv at hc2
          have hx := hlb.at j
          have hst := sumFrom_take s0 l j (by rw [HL.out]; exact hjm)
          have hv0 := Cr.sumFrom_lt (l.take j) s0 hlt0 (hlb.take j)
          obtain ⟨x, hx'⟩ : ∃ x, x = l.getD j 0 := ⟨_, rfl⟩
          obtain ⟨v, hv'⟩ : ∃ v, v = Cr.sumFrom s0 (l.take j) := ⟨_, rfl⟩
          rw [← hx'] at hc2 hx hst
          rw [← hv'] at hst hv0 ⊢
          have HST := Lib.hid hst
          clear hst hx' hv'
          have hd : v / 256 < 256 := by omega
          have hix : v / 256 ^^^ x < 256 := Nat.xor_lt_two_pow (n := 8) hd hx
          have hxi : bits .xor .u8 ((v : Int) / 256) (x : Int) = ((v / 256 ^^^ x : Nat) : Int) := by rw [← xor8 _ _ hd hx]; simp
          have hcell := hT.cell _ hix
          have hrr := table_int v x hv0 hx
          obtain ⟨q, hq⟩ : ∃ q, q = v / 256 ^^^ x := ⟨_, rfl⟩
          rw [← hq] at hcell hxi hix hrr
          have HR := Lib.hid hrr
          clear hrr hq
          go_wp2
          go_round
          case rel => exact ⟨j + 1, by omega, by go_num, by rw [HST.out]; exact ret_int' HR.out⟩
          case measure => simp [intOf]; omega
        · obtain rfl : j = m := by omega
          have ht : l.take j = l := List.take_of_length_le (by rw [HL.out]; exact Nat.le_refl _)
          rw [ht]
          clear ht
          go_wp2
          go_round
          case rel => exact ⟨k + 1, by omega, by go_num, by rw [HS2.out]⟩
          case measure => simp [intOf]; omega
    · obtain rfl : k = len := by omega
      go_wp2
      go_ret
      exact ⟨rfl, hB0⟩

/-- The table while it is filled. -/
def rowV (k : Nat) : Array Value := ((List.range 256).map fun i => if i < k then Value.int .u16 (Cr.step 0 i : Nat) else .int .u16 0).toArray
theorem rowV_size (k : Nat) : (rowV k).size = 256 := by simp [rowV]
theorem rowV_all : rowV 256 = tabV := by
  unfold rowV tabV
  refine congrArg List.toArray (List.map_congr_left fun i hi => ?_)
  rw [if_pos (List.mem_range.1 hi)]
def entV (k i : Nat) : Value := if i < k then .int .u16 (Cr.step 0 i : Nat) else .int .u16 0
theorem rowV_get (k i : Nat) : (rowV k)[i]? = if i < 256 then some (entV k i) else none := by
  unfold rowV
  rw [List.getElem?_toArray, List.getElem?_map]
  by_cases h : i < 256
  · rw [List.getElem?_range h, if_pos h]; rfl
  · rw [if_neg h, List.getElem?_eq_none (by rw [List.length_range]; omega)]; rfl
theorem rowV_set (k : Nat) : (rowV k).setIfInBounds k (.int .u16 (Cr.step 0 k : Nat)) = rowV (k + 1) := by
  apply Array.ext_getElem?
  intro i
  rw [Array.getElem?_setIfInBounds, rowV_get, rowV_get, rowV_size]
  by_cases hk : k = i
  · subst hk
    rw [if_pos rfl]
    unfold entV
    rw [if_pos (Nat.lt_succ_self k)]
  · rw [if_neg hk]
    have e : entV k i = entV (k + 1) i := by
      unfold entV
      by_cases h1 : i < k
      · have h2 : i < k + 1 := by omega
        rw [if_pos h1, if_pos h2]
      · have h2 : ¬ i < k + 1 := by omega
        rw [if_neg h1, if_neg h2]
    rw [e]
theorem info_tab : (Try.prog.info? 143).map (fun i => (i.zero, i.size)) = some (some (.agg (rowV 0)), 256) := by kernel_rfl
theorem rowV_one (k : Nat) : (rowV k).all (·.oneCell') = true := by
  rw [Array.all_eq_true_iff_forall_mem]
  intro x hx
  simp only [rowV, List.mem_toArray, List.mem_map] at hx
  obtain ⟨i, _, rfl⟩ := hx
  split <;> rfl
theorem rowV_at (k i : Nat) (h : i < 256) : ∃ v, (rowV k)[i]? = some (.int .u16 v) := by
  rw [rowV_get, if_pos h]
  unfold entV
  split
  · exact ⟨_, rfl⟩
  · exact ⟨_, rfl⟩
attribute [irreducible] rowV
theorem zero_tab (w : World) : (zeroValue 143).run Try.prog w = .ok (.agg (rowV 0)) w := (zero_of_info info_tab).1 w
theorem size_tab (k : Nat) : (Try.prog.info? 143).map (·.size) = some (rowV k).size := by rw [rowV_size]; exact (zero_of_info info_tab).2
theorem size_tab' : (Try.prog.info? 143).map (·.size) = some tabV.size := by rw [← rowV_all]; exact size_tab 256
def HasRow (w : World) (g k : Nat) : Prop := w.heap[g]? = some (.cells (rowV k) 143 (0, 0))
theorem HasRow.below {w w' : World} {g k n : Nat} (h : HasRow w g k) (hb : Below n w w') (hg : g < n) : HasRow w' g k := (hb.block g hg).trans h
theorem HasRow.tab {w : World} {g : Nat} (h : HasRow w g 256) : IsTab w g := by unfold HasRow at h; rw [rowV_all] at h; exact h

set_option maxRecDepth 100000 in
set_option maxHeartbeats 2000000 in
theorem Make_any (w : World) : Calls Try.prog 84 #[] w fun e w' => e = .returned (.agg tabV) ∧ Below w.heap.size w w' := by
  have hz := zero_tab
  go_enter Try.func84, Try.ntmps84
  go_wp2
  have h0 : HasRow ((w.alloc (.cells (rowV 0) 143)).alloc (.cells (rowV 0) 143)) w.heap.size 0 := heap_alloc2_old _ _ _
  have h1 : HasRow ((w.alloc (.cells (rowV 0) 143)).alloc (.cells (rowV 0) 143)) (w.heap.size + 1) 0 := heap_alloc2_new _ _ _
  have hB : Below w.heap.size w ((w.alloc (.cells (rowV 0) 143)).alloc (.cells (rowV 0) 143)) := ((Below.refl _ _).alloc (Nat.le_refl _) _).alloc (by simp) _
  clear hz
  obtain ⟨w1, hw1⟩ : ∃ w1, w1 = ((w.alloc (.cells (rowV 0) 143)).alloc (.cells (rowV 0) 143)) := ⟨_, rfl⟩
  obtain ⟨g, hg⟩ : ∃ g, g = w.heap.size := ⟨_, rfl⟩
  rw [← hw1] at h0 h1 hB ⊢
  rw [← hg] at h0 h1 hB ⊢
  clear hw1
  have HG := Lib.hid hg
  clear hg
  go_loopw [3] (fun i wr => ∃ k : Nat, k ≤ 256 ∧ i = .int .i64 k ∧ HasRow wr (g + 1) k ∧ HasRow wr g 0 ∧ Below g w wr) (fun i _ => 256 - (intOf i).toNat)
  case atStart => exact ⟨0, Nat.zero_le _, rfl, h1, h0, hB⟩
  case round =>
    clear h0 h1 hB
    obtain ⟨k, hk, rfl, h1, h0, hBk⟩ := hrel
    by_cases hlt : k < 256
    · obtain ⟨v, hv⟩ := rowV_at k k hlt
      have hc : wr.cell? ⟨g + 1, k, none⟩ = some (.int .u16 v) := (cell_of_row wr (g + 1) k _ _ _ h1).trans hv
      have hf : wr.frozen? ⟨g + 1, k, none⟩ = false := frozen_of_row wr (g + 1) k _ _ h1
      have H1 := Lib.hid h1
      have H0 := Lib.hid h0
      clear h1 h0
      go_wp2_with (go_at_call 92; (refine (Step_any 0 k _ (by omega) (by omega)).mono ?_); rintro e w' ⟨rfl, rfl⟩)
      go_roundw
      case rel =>
        have e := heap_setCell_same wr (g + 1) k _ _ (.int .u16 (Cr.step 0 k : Nat)) H1.out
        rw [rowV_set] at e
        exact ⟨k + 1, by omega, by go_num, e, (heap_setCell_other wr ⟨g + 1, k, none⟩ g _ (by simp)).trans H0.out, hBk.setCell (p := ⟨g + 1, k, none⟩) (by simp) _⟩
      case measure => simp [intOf]; omega
    · obtain rfl : k = 256 := by omega
      go_wp2_with (first | (refine wpList_load_row rfl 143 _ rfl (g + 1) rfl _ _ _ _ h1 Try.underlying143 rfl (size_tab _) ?_) | (refine wpList_store_row rfl 143 _ _ rfl g _ rfl rfl _ _ h0 (size_tab _) (by rw [rowV_size, rowV_size]) (rowV_one _) ?_))
      refine bodyPost_ret (v := .agg tabV) ?_ rfl ⟨rfl, ?_⟩
      · have e := setRow_heap wr g _ (rowV 256) _ _ h0
        rw [rowV_all] at e ⊢
        exact results_cell_row rfl _ _ g _ _ _ _ rfl e Try.underlying143 rfl size_tab'
      · rw [← HG.out]; exact (below_setRow hBk (Nat.le_refl _) _)

theorem feed_succ (n v b : Nat) : Cr.feed (n + 1) v b = Cr.feed n (Cr.bitStep v (b / 2 ^ n % 2)) b := rfl
theorem bit_yes (v b n : Nat) (h : (b / 2 ^ n % 2 + v / 32768) % 2 = 1) : Cr.bitStep v (b / 2 ^ n % 2) = (v * 2 % 65536) ^^^ 4129 := if_pos h
theorem bit_no (v b n : Nat) (h : ¬ (b / 2 ^ n % 2 + v / 32768) % 2 = 1) : Cr.bitStep v (b / 2 ^ n % 2) = v * 2 % 65536 := if_neg h
set_option maxHeartbeats 2000000 in
theorem rSum_any (a : Option Addr) (len cap n : Nat) (l : List Nat) (w : World) (hl : l.length = len) (hr : Rd n w a len cap (bv l)) (hb : bytes l) :
    Calls Try.prog 66 #[.slice a len cap] w fun e w' => e = .returned (.int .u16 (Cr.sum l : Nat)) ∧ w = w' := by
  have h1 := hr.le
  have h2 := hr.top
  unfold maxLen at h2
  go_enter Try.func66, Try.ntmps66
  go_wp2
  go_loop [3, 10] (fun v i => ∃ k : Nat, k ≤ len ∧ i = .int .i64 k ∧ v = .int .i64 (Cr.sum (l.take k) : Nat)) (fun _ i => len - (intOf i).toNat)
  case atStart => exact ⟨0, Nat.zero_le _, rfl, rfl⟩
  case round =>
    obtain ⟨k, hk, rfl, rfl⟩ := hrel
    have hlt0 := Cr.sum_lt _ (hb.take k)
    by_cases hlt : k < len
    · obtain ⟨b, off, rfl, _, hc⟩ := hr.at hlt
      unfold bv at hc
      have hx := hb.at k
      have hs : Cr.sum (l.take (k + 1)) = Cr.step (Cr.sum (l.take k)) (l.getD k 0) := sumFrom_take _ l k (by omega)
      obtain ⟨x, hx'⟩ : ∃ x, x = l.getD k 0 := ⟨_, rfl⟩
      obtain ⟨s0, hs0⟩ : ∃ s0, s0 = Cr.sum (l.take k) := ⟨_, rfl⟩
      rw [← hx'] at hc hx hs
      rw [← hs0] at hs hlt0 ⊢
      rw [← Cr.feed_step s0 x hlt0 hx] at hs
      have HS := Lib.hid hs
      clear hs hx' hs0
      go_wp2
      go_loop [3, 6] (fun v i => ∃ m u : Nat, m ≤ 8 ∧ i = .int .i64 ((m : Int) - 1) ∧ v = .int .i64 u ∧ u < 65536 ∧ Cr.feed m u x = Cr.feed 8 s0 x) (fun _ i => (intOf i + 1).toNat)
      case atStart => exact ⟨8, s0, Nat.le_refl _, rfl, rfl, hlt0, rfl⟩
      case round =>
        obtain ⟨m, u, hm, rfl, rfl, hu, hf⟩ := hrel
        rcases Nat.eq_zero_or_pos m with rfl | hpos
        · go_wp2
          go_round
          case rel => exact ⟨k + 1, by omega, by go_num, by rw [HS.out, ← hf]; rfl⟩
          case measure => simp [intOf]; omega
        · obtain ⟨q, rfl⟩ : ∃ q, m = q + 1 := ⟨m - 1, by omega⟩
          rw [feed_succ] at hf
          have e : ((q + 1 : Nat) : Int) - 1 = (q : Int) := by omega
          rw [e]
          have HF := Lib.hid hf
          clear hf e
          have hy : ((x : Int) / 2 ^ q) = ((x / 2 ^ q : Nat) : Int) := by simp
          have hy0 : 0 ≤ (x : Int) / 2 ^ q := by rw [hy]; exact Int.natCast_nonneg _
          have hy1 : (x : Int) / 2 ^ q ≤ 255 := by rw [hy]; have := Nat.div_le_self x (2 ^ q); omega
          by_cases hbit : (x / 2 ^ q % 2 + u / 32768) % 2 = 1
          · have ht : (((x : Int) / 2 ^ q % 2 + (u : Int) / 32768) % 2 == 1) = true := by rw [hy]; simp; omega
            have hX : bits .xor .i64 ((u : Int) * 2 % 65536) 4129 = ((u * 2 % 65536 ^^^ 4129 : Nat) : Int) := by rw [← xor64 _ _ (by omega) (by omega)]; simp
            have hS := bit_yes u x q hbit
            have HX := Lib.hid hX
            have HS2 := Lib.hid hS
            clear hX hS hy hbit
            go_wp2
            go_round
            case rel => exact ⟨q, _, by omega, rfl, by rw [HX.out], Cr.xor_lt (by omega) (by omega), by rw [← HS2.out]; exact HF.out⟩
            case measure => simp [intOf] <;> omega
          · have ht : (((x : Int) / 2 ^ q % 2 + (u : Int) / 32768) % 2 == 1) = false := by rw [hy]; simp; omega
            have hS := bit_no u x q hbit
            have HS2 := Lib.hid hS
            clear hS hy hbit
            go_wp2
            go_round
            case rel => exact ⟨q, u * 2 % 65536, by omega, rfl, by go_num, by omega, by rw [← HS2.out]; exact HF.out⟩
            case measure => simp [intOf] <;> omega
    · obtain rfl : k = len := by omega
      have ht : l.take k = l := List.take_of_length_le (by omega)
      rw [ht] at hlt0 ⊢
      clear ht
      go_wp2
      go_ret
      exact ⟨rfl, rfl⟩
end Go.Proofs.Ytmihhapedpalmaa
