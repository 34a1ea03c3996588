/- Commands and reports: number, isSize, Lay. -/
import Derived.Test.YtmihhapedpalmaaPs
import Derived.Test.YtmihhapedpalmaaCel
namespace Go.Proofs.Ytmihhapedpalmaa
open Go.RowKit Go.Own
set_option linter.unusedVariables false
set_option linter.unusedSimpArgs false

set_option maxHeartbeats 1000000 in
theorem number_any (a : Option Addr) (len cap n : Nat) (l : List Nat) (w : World) (hl : l.length = len) (hr : Rd n w a len cap (bv l)) (hb : bytes l) (h4 : len ≤ 4) :
    Calls Try.prog 87 #[.slice a len cap] w fun e w' => e = .returned (.int .u32 (val l : Nat)) ∧ w = w' := by
  have h1 := hr.le
  have h2 := hr.top
  unfold maxLen at h2
  go_enter Try.func87, Try.ntmps87
  go_wp2
  go_loop [3, 8] (fun v i => ∃ k : Nat, k ≤ len ∧ i = .int .i64 k ∧ v = .int .u32 (val (l.take k) : Nat)) (fun _ i => len - (intOf i).toNat)
  case atStart => exact ⟨0, Nat.zero_le _, rfl, rfl⟩
  case round =>
    obtain ⟨k, hk, rfl, rfl⟩ := hrel
    by_cases hlt : k < len
    · obtain ⟨b, off, rfl, _, hc⟩ := hr.at hlt
      unfold bv at hc
      have ht : val (l.take (k + 1)) = 256 * val (l.take k) + l.getD k 0 := by rw [take_succ l (by omega), val_snoc]
      have hx := hb.at k
      have hv : val (l.take k) < 16777216 := by
        have h := val_lt _ (hb.take k)
        rw [List.length_take, hl, show min k len = k by omega] at h
        exact Nat.lt_of_lt_of_le h (Nat.pow_le_pow_right (n := 256) (by omega) (show k ≤ 3 by omega))
      obtain ⟨x, hx'⟩ : ∃ x, x = l.getD k 0 := ⟨_, rfl⟩
      obtain ⟨v, hv'⟩ : ∃ v, v = val (l.take k) := ⟨_, rfl⟩
      rw [← hx'] at hc ht hx
      rw [← hv'] at ht hv ⊢
      have hor : bits .or .u32 ((v : Int) * 256) (x : Int) = ((256 * v + x : Nat) : Int) := by
        rw [or32 8 _ _ (by omega) (by omega) (by omega) (by omega) (by omega) (by omega)]; omega
      have HT := Lib.hid ht
      clear ht hx' hv'
      go_wp2
      go_round
      case rel => exact ⟨k + 1, by omega, by go_num, by rw [HT.out]; go_num⟩
      case measure => simp [intOf]; omega
    · obtain rfl : k = len := by omega
      have ht : l.take k = l := List.take_of_length_le (by omega)
      rw [ht]
      clear ht
      go_wp2
      go_ret
      exact ⟨rfl, rfl⟩
/-- Is it a size? -/
def isSz (z : Int) : Bool := decide (z = 1 ∨ z = 2 ∨ z = 4)
theorem isSize_any (z : Int) (w : World) : Calls Try.prog 91 #[.int .i64 z] w fun e w' => e = .returned (.bool (isSz z)) ∧ w = w' := by
  by_cases h1 : z = 1
  · subst h1
    go_enter Try.func91, Try.ntmps91
    go_wp2
    go_ret
    exact ⟨rfl, rfl⟩
  by_cases h2 : z = 2
  · subst h2
    go_enter Try.func91, Try.ntmps91
    go_wp2
    go_ret
    exact ⟨rfl, rfl⟩
  by_cases h4 : z = 4
  · subst h4
    go_enter Try.func91, Try.ntmps91
    go_wp2
    go_ret
    exact ⟨rfl, rfl⟩
  have e1 : (z == 1) = false := by simp [h1]
  have e2 : (z == 2) = false := by simp [h2]
  have e4 : (z == 4) = false := by simp [h4]
  have e : isSz z = false := by simp [isSz, h1, h2, h4]
  rw [e]
  go_enter Try.func91, Try.ntmps91
  go_wp2
  go_ret
  exact ⟨rfl, rfl⟩
theorem lay1_no {z : Int} (h : isSz z = false) (n : Nat) : lay1 z n = [] := by
  unfold isSz at h
  rw [decide_eq_false_iff_not] at h
  unfold lay1
  rw [if_neg h]
theorem lay1_yes {z : Int} (h : isSz z = true) (n : Nat) : ∃ q : Nat, z = (q : Int) ∧ 1 ≤ q ∧ q ≤ 4 ∧ lay1 z n = numB n q := by
  unfold isSz at h
  rw [decide_eq_true_eq] at h
  refine ⟨z.toNat, by omega, by omega, by omega, ?_⟩
  unfold lay1
  rw [if_pos h]
/-- The number of a place. -/
def nth (v : Nat → Nat) (m k : Nat) : Nat := if k < m then v k else 0
theorem own_snoc {w : World} {base : Nat} {v' : Value} {m : Nat} {l : List Nat} {x : Nat} (h : w.ownsRow base 5 1 v' (m + 1) (bl l ++ [.int .u8 (x : Int)])) : w.ownsRow base 5 1 v' (m + 1) (bl (l ++ [x])) := by
  rw [bl_append]; exact h
set_option maxRecDepth 100000 in
set_option maxHeartbeats 4000000 in
theorem Lay_any (a b : Option Addr) (len cap m mc n n' : Nat) (s : Nat → Int) (v : Nat → Nat) (w : World) (hr : Rd n w a len cap (fun i => .int .i64 (s i))) (hv : Rd n' w b m mc (fun i => .int .u32 (v i : Nat))) (hn : n ≤ w.heap.size) (hn' : n' ≤ w.heap.size) (h32 : ∀ i, i < m → v i < 4294967296) (hm : len ≤ 10000) :
    Calls Try.prog 83 #[.slice a len cap, .slice b m mc] w fun e w' => ∃ p, e = .returned p ∧ w'.ownsRow w.heap.size 5 1 p (flat (fun i => lay1 (s i) (nth v m i)) len).length (bl (flat (fun i => lay1 (s i) (nth v m i)) len)) ∧ Below w.heap.size w w' := by
  obtain ⟨i0, hi, hz0, hz1, hz2⟩ := info_parts info_u8
  have h1 := hr.le
  have h2 := hr.top
  have h3 := hv.le
  have h4 := hv.top
  unfold maxLen at h2 h4
  have hfl := flat_len4 (fun i => lay1 (s i) (nth v m i)) (fun i => lay1_len _ _)
  obtain ⟨ls, hls⟩ : ∃ ls : Nat → List Nat, ls = fun i => lay1 (s i) (nth v m i) := ⟨_, rfl⟩
  rw [← hls] at hfl ⊢
  have hlk : ∀ i, ls i = lay1 (s i) (nth v m i) := fun i => by rw [hls]
  have HLK := Lib.hid hlk
  have HFL4 := Lib.hid hfl
  clear hls hlk hfl
  go_enter Try.func83, Try.ntmps83
  go_wp2
  go_loopw [5, 12] (fun p i wr => ∃ k A : Nat, k ≤ len ∧ i = .int .i64 k ∧ wr.ownsRow w.heap.size 5 1 p A (bl (flat ls k)) ∧ (flat ls k).length = A ∧ Below w.heap.size w wr) (fun _ i _ => len - (intOf i).toNat)
  case atStart => exact ⟨0, 0, Nat.zero_le _, rfl, by simpa [flat, bl] using World.ownsRow_nil _ _ _ _, rfl, Below.refl _ _⟩
  case round =>
    obtain ⟨k, A, hk, rfl, hown, hA, hB⟩ := hrel
    by_cases hlt : k < len
    · obtain ⟨ba, oa, rfl, hba, hca⟩ := (hr.below' hB hn).at hlt
      have hA4 := HFL4.out k
      rw [hA] at hA4
      have hfs := flat_succ ls k
      rw [HLK.out k] at hfs
      obtain ⟨F, hF⟩ : ∃ F, F = flat ls k := ⟨_, rfl⟩
      obtain ⟨z, hz⟩ : ∃ z, z = s k := ⟨_, rfl⟩
      rw [← hF] at hown hA hfs
      rw [← hz] at hca hfs
      have HO := Lib.hid hown
      have HFL := Lib.hid hA
      have HB := Lib.hid hB
      clear hown hA hF hz
      cases hsz : isSz z with
      | false =>
        rw [lay1_no hsz, List.append_nil] at hfs
        have HFS := Lib.hid hfs
        have HS := Lib.hid hsz
        clear hfs hsz
        go_wp2_with (go_at_call 91; refine (isSize_any z _).mono ?_; rintro e wx ⟨rfl, rfl⟩; rw [HS.out])
        go_roundw
        case rel => exact ⟨k + 1, A, by omega, by go_num, by rw [HFS.out]; exact HO.out, by rw [HFS.out]; exact HFL.out, HB.out⟩
        case measure => simp [intOf]; omega
      | true =>
        obtain ⟨q, rfl, hq1, hq4, he⟩ := lay1_yes hsz (nth v m k)
        rw [he] at hfs
        have HS := Lib.hid hsz
        clear hsz he
        by_cases hkm : k < m
        · have hnth : nth v m k = v k := by unfold nth; rw [if_pos hkm]
          rw [hnth] at hfs
          have HFS := Lib.hid hfs
          obtain ⟨bb, ob, rfl, hbb, hcb⟩ := (hv.below' hB hn').at hkm
          have hN := h32 k hkm
          obtain ⟨N, hN'⟩ : ∃ N, N = v k := ⟨_, rfl⟩
          rw [← hN'] at hcb hN HFS
          clear hfs hnth hN' hB
          go_wp2_with (go_at_call 91; refine (isSize_any (q : Int) _).mono ?_; rintro e wx ⟨rfl, rfl⟩; rw [HS.out])
          go_loopw [5, 9] (fun p i wr => ∃ j : Nat, j ≤ q ∧ i = .int .i64 ((q : Int) - 1 - j) ∧ wr.ownsRow w.heap.size 5 1 p (A + j) (bl (F ++ (numB N q).take j)) ∧ Below w.heap.size w wr) (fun _ i _ => (intOf i + 1).toNat)
          case atStart => exact ⟨0, Nat.zero_le _, ret_int' (by omega), by rw [List.take_zero, List.append_nil]; exact HO.out, HB.out⟩
          case round =>
            obtain ⟨j, hj, rfl, hown, hB⟩ := hrel
            by_cases hlt : j < q
            · have h4 : q - 1 - j = 0 ∨ q - 1 - j = 1 ∨ q - 1 - j = 2 ∨ q - 1 - j = 3 := by omega
              rcases h4 with h4 | h4 | h4 | h4
              · have hz : (numB N q).getD j 0 = N / 1 % 256 := by rw [numB_at N q j hlt, show q - 1 - j = 0 by omega]
                have htk := take_succ (numB N q) (k := j) (by rw [numB_len]; exact hlt)
                rw [hz] at htk
                obtain ⟨y, hy⟩ : ∃ y, y = N / 1 % 256 := ⟨_, rfl⟩
                rw [← hy] at htk
                have hlow : (q : Int) - 1 - j = 0 := by omega
                rw [hlow]
                have HLOW := Lib.hid hlow
                have hyI : IntKind.u8.wrap ((N : Int) / 1) = (y : Int) := by rw [IntKind.wrap_u8]; omega
                have hyJ : (N : Int) / 1 % 256 = (y : Int) := by omega
                have HTK := Lib.hid htk
                have HY := Lib.hid hy
                clear htk hz hy hlow
                go_wp2_with (at_builtin; refine wpList_append_own _ rfl _ _ 54 rfl w.heap.size 5 i0 (.int .u8 0) 1 1 Try.underlying54 hi hz0 hz1 hz2 rfl (by decide) _ _ _ rfl (hown.alloc _) ⟨wr.heap.size, 0, none⟩ 1 1 [.int .u8 (y : Int)] rfl rfl ?c1 ?c2 ?c3 ?c4 ?c5 ?_)
                case c1 => first | exact cell_one_new _ _ _ | (rw [show (N : Int) % 256 = (y : Int) by have := HY.out; omega]; exact cell_one_new _ _ _) | (rw [← hyJ]; exact cell_one_new _ _ _) | (rw [← hyI]; exact cell_one_new _ _ _)
                case c2 => simp [Value.oneCell']
                case c3 => unfold maxLen; omega
                case c4 => omega
                case c5 => have := hB.size; simp; omega
                intro v' w1 hown1 hgrow1 _
                have hB1 := (hB.alloc hB.size _).grown hgrow1 (by have := hB.size; simp; omega) (fun j hj => (hown.lt j hj).1)
                have HOW := Lib.hid (own_snoc hown1)
                clear hown1 hgrow1 hyI hyJ
                go_wp2
                go_roundw
                case rel => exact ⟨j + 1, by omega, ret_int' (by have := HLOW.out; omega), by rw [HTK.out, ← List.append_assoc, ← Nat.add_assoc]; exact HOW.out, hB1⟩
                case measure => simp [intOf]
              · have hz : (numB N q).getD j 0 = N / 256 % 256 := by rw [numB_at N q j hlt, show q - 1 - j = 1 by omega]
                have htk := take_succ (numB N q) (k := j) (by rw [numB_len]; exact hlt)
                rw [hz] at htk
                obtain ⟨y, hy⟩ : ∃ y, y = N / 256 % 256 := ⟨_, rfl⟩
                rw [← hy] at htk
                have hlow : (q : Int) - 1 - j = 1 := by omega
                rw [hlow]
                have HLOW := Lib.hid hlow
                have hyI : IntKind.u8.wrap ((N : Int) / 256) = (y : Int) := by rw [IntKind.wrap_u8]; omega
                have hyJ : (N : Int) / 256 % 256 = (y : Int) := by omega
                have HTK := Lib.hid htk
                have HY := Lib.hid hy
                clear htk hz hy hlow
                go_wp2_with (at_builtin; refine wpList_append_own _ rfl _ _ 54 rfl w.heap.size 5 i0 (.int .u8 0) 1 1 Try.underlying54 hi hz0 hz1 hz2 rfl (by decide) _ _ _ rfl (hown.alloc _) ⟨wr.heap.size, 0, none⟩ 1 1 [.int .u8 (y : Int)] rfl rfl ?c1 ?c2 ?c3 ?c4 ?c5 ?_)
                case c1 => first | exact cell_one_new _ _ _ | (rw [show (N : Int) % 256 = (y : Int) by have := HY.out; omega]; exact cell_one_new _ _ _) | (rw [← hyJ]; exact cell_one_new _ _ _) | (rw [← hyI]; exact cell_one_new _ _ _)
                case c2 => simp [Value.oneCell']
                case c3 => unfold maxLen; omega
                case c4 => omega
                case c5 => have := hB.size; simp; omega
                intro v' w1 hown1 hgrow1 _
                have hB1 := (hB.alloc hB.size _).grown hgrow1 (by have := hB.size; simp; omega) (fun j hj => (hown.lt j hj).1)
                have HOW := Lib.hid (own_snoc hown1)
                clear hown1 hgrow1 hyI hyJ
                go_wp2
                go_roundw
                case rel => exact ⟨j + 1, by omega, ret_int' (by have := HLOW.out; omega), by rw [HTK.out, ← List.append_assoc, ← Nat.add_assoc]; exact HOW.out, hB1⟩
                case measure => simp [intOf]
              · have hz : (numB N q).getD j 0 = N / 65536 % 256 := by rw [numB_at N q j hlt, show q - 1 - j = 2 by omega]
                have htk := take_succ (numB N q) (k := j) (by rw [numB_len]; exact hlt)
                rw [hz] at htk
                obtain ⟨y, hy⟩ : ∃ y, y = N / 65536 % 256 := ⟨_, rfl⟩
                rw [← hy] at htk
                have hlow : (q : Int) - 1 - j = 2 := by omega
                rw [hlow]
                have HLOW := Lib.hid hlow
                have hyI : IntKind.u8.wrap ((N : Int) / 65536) = (y : Int) := by rw [IntKind.wrap_u8]; omega
                have hyJ : (N : Int) / 65536 % 256 = (y : Int) := by omega
                have HTK := Lib.hid htk
                have HY := Lib.hid hy
                clear htk hz hy hlow
                go_wp2_with (at_builtin; refine wpList_append_own _ rfl _ _ 54 rfl w.heap.size 5 i0 (.int .u8 0) 1 1 Try.underlying54 hi hz0 hz1 hz2 rfl (by decide) _ _ _ rfl (hown.alloc _) ⟨wr.heap.size, 0, none⟩ 1 1 [.int .u8 (y : Int)] rfl rfl ?c1 ?c2 ?c3 ?c4 ?c5 ?_)
                case c1 => first | exact cell_one_new _ _ _ | (rw [show (N : Int) % 256 = (y : Int) by have := HY.out; omega]; exact cell_one_new _ _ _) | (rw [← hyJ]; exact cell_one_new _ _ _) | (rw [← hyI]; exact cell_one_new _ _ _)
                case c2 => simp [Value.oneCell']
                case c3 => unfold maxLen; omega
                case c4 => omega
                case c5 => have := hB.size; simp; omega
                intro v' w1 hown1 hgrow1 _
                have hB1 := (hB.alloc hB.size _).grown hgrow1 (by have := hB.size; simp; omega) (fun j hj => (hown.lt j hj).1)
                have HOW := Lib.hid (own_snoc hown1)
                clear hown1 hgrow1 hyI hyJ
                go_wp2
                go_roundw
                case rel => exact ⟨j + 1, by omega, ret_int' (by have := HLOW.out; omega), by rw [HTK.out, ← List.append_assoc, ← Nat.add_assoc]; exact HOW.out, hB1⟩
                case measure => simp [intOf]
              · have hz : (numB N q).getD j 0 = N / 16777216 % 256 := by rw [numB_at N q j hlt, show q - 1 - j = 3 by omega]
                have htk := take_succ (numB N q) (k := j) (by rw [numB_len]; exact hlt)
                rw [hz] at htk
                obtain ⟨y, hy⟩ : ∃ y, y = N / 16777216 % 256 := ⟨_, rfl⟩
                rw [← hy] at htk
                have hlow : (q : Int) - 1 - j = 3 := by omega
                rw [hlow]
                have HLOW := Lib.hid hlow
                have hyI : IntKind.u8.wrap ((N : Int) / 16777216) = (y : Int) := by rw [IntKind.wrap_u8]; omega
                have hyJ : (N : Int) / 16777216 % 256 = (y : Int) := by omega
                have HTK := Lib.hid htk
                have HY := Lib.hid hy
                clear htk hz hy hlow
                go_wp2_with (at_builtin; refine wpList_append_own _ rfl _ _ 54 rfl w.heap.size 5 i0 (.int .u8 0) 1 1 Try.underlying54 hi hz0 hz1 hz2 rfl (by decide) _ _ _ rfl (hown.alloc _) ⟨wr.heap.size, 0, none⟩ 1 1 [.int .u8 (y : Int)] rfl rfl ?c1 ?c2 ?c3 ?c4 ?c5 ?_)
                case c1 => first | exact cell_one_new _ _ _ | (rw [show (N : Int) % 256 = (y : Int) by have := HY.out; omega]; exact cell_one_new _ _ _) | (rw [← hyJ]; exact cell_one_new _ _ _) | (rw [← hyI]; exact cell_one_new _ _ _)
                case c2 => simp [Value.oneCell']
                case c3 => unfold maxLen; omega
                case c4 => omega
                case c5 => have := hB.size; simp; omega
                intro v' w1 hown1 hgrow1 _
                have hB1 := (hB.alloc hB.size _).grown hgrow1 (by have := hB.size; simp; omega) (fun j hj => (hown.lt j hj).1)
                have HOW := Lib.hid (own_snoc hown1)
                clear hown1 hgrow1 hyI hyJ
                go_wp2
                go_roundw
                case rel => exact ⟨j + 1, by omega, ret_int' (by have := HLOW.out; omega), by rw [HTK.out, ← List.append_assoc, ← Nat.add_assoc]; exact HOW.out, hB1⟩
                case measure => simp [intOf]
            · obtain rfl : j = q := by omega
              have hlow : (j : Int) - 1 - j = -1 := by omega
              rw [hlow]
              rw [List.take_of_length_le (by rw [numB_len]; exact Nat.le_refl _)] at hown
              have HOW := Lib.hid hown
              clear hown hlow
              go_wp2
              go_roundw
              case rel => exact ⟨k + 1, A + j, by omega, by go_num, by rw [HFS.out]; exact HOW.out, by rw [HFS.out, List.length_append, HFL.out, numB_len], hB⟩
              case measure => simp [intOf]; omega
        · have hnth : nth v m k = 0 := by unfold nth; rw [if_neg hkm]
          rw [hnth] at hfs
          have HFS := Lib.hid hfs
          obtain ⟨N, hN'⟩ : ∃ N : Nat, N = 0 := ⟨_, rfl⟩
          have hN : N < 4294967296 := by omega
          rw [← hN'] at HFS
          have HN0 := Lib.hid (show Value.int .u32 0 = .int .u32 ((N : Nat) : Int) by rw [hN']; rfl)
          clear hfs hnth hB hN'
          go_wp2_with (go_at_call 91; refine (isSize_any (q : Int) _).mono ?_; rintro e wx ⟨rfl, rfl⟩; rw [HS.out])
          rw [HN0.out]
          go_loopw [5, 9] (fun p i wr => ∃ j : Nat, j ≤ q ∧ i = .int .i64 ((q : Int) - 1 - j) ∧ wr.ownsRow w.heap.size 5 1 p (A + j) (bl (F ++ (numB N q).take j)) ∧ Below w.heap.size w wr) (fun _ i _ => (intOf i + 1).toNat)
          case atStart => exact ⟨0, Nat.zero_le _, ret_int' (by omega), by rw [List.take_zero, List.append_nil]; exact HO.out, HB.out⟩
          case round =>
            obtain ⟨j, hj, rfl, hown, hB⟩ := hrel
            by_cases hlt : j < q
            · have h4 : q - 1 - j = 0 ∨ q - 1 - j = 1 ∨ q - 1 - j = 2 ∨ q - 1 - j = 3 := by omega
              rcases h4 with h4 | h4 | h4 | h4
              · have hz : (numB N q).getD j 0 = N / 1 % 256 := by rw [numB_at N q j hlt, show q - 1 - j = 0 by omega]
                have htk := take_succ (numB N q) (k := j) (by rw [numB_len]; exact hlt)
                rw [hz] at htk
                obtain ⟨y, hy⟩ : ∃ y, y = N / 1 % 256 := ⟨_, rfl⟩
                rw [← hy] at htk
                have hlow : (q : Int) - 1 - j = 0 := by omega
                rw [hlow]
                have HLOW := Lib.hid hlow
                have hyI : IntKind.u8.wrap ((N : Int) / 1) = (y : Int) := by rw [IntKind.wrap_u8]; omega
                have hyJ : (N : Int) / 1 % 256 = (y : Int) := by omega
                have HTK := Lib.hid htk
                have HY := Lib.hid hy
                clear htk hz hy hlow
                go_wp2_with (at_builtin; refine wpList_append_own _ rfl _ _ 54 rfl w.heap.size 5 i0 (.int .u8 0) 1 1 Try.underlying54 hi hz0 hz1 hz2 rfl (by decide) _ _ _ rfl (hown.alloc _) ⟨wr.heap.size, 0, none⟩ 1 1 [.int .u8 (y : Int)] rfl rfl ?c1 ?c2 ?c3 ?c4 ?c5 ?_)
                case c1 => first | exact cell_one_new _ _ _ | (rw [show (N : Int) % 256 = (y : Int) by have := HY.out; omega]; exact cell_one_new _ _ _) | (rw [← hyJ]; exact cell_one_new _ _ _) | (rw [← hyI]; exact cell_one_new _ _ _)
                case c2 => simp [Value.oneCell']
                case c3 => unfold maxLen; omega
                case c4 => omega
                case c5 => have := hB.size; simp; omega
                intro v' w1 hown1 hgrow1 _
                have hB1 := (hB.alloc hB.size _).grown hgrow1 (by have := hB.size; simp; omega) (fun j hj => (hown.lt j hj).1)
                have HOW := Lib.hid (own_snoc hown1)
                clear hown1 hgrow1 hyI hyJ
                go_wp2
                go_roundw
                case rel => exact ⟨j + 1, by omega, ret_int' (by have := HLOW.out; omega), by rw [HTK.out, ← List.append_assoc, ← Nat.add_assoc]; exact HOW.out, hB1⟩
                case measure => simp [intOf]
              · have hz : (numB N q).getD j 0 = N / 256 % 256 := by rw [numB_at N q j hlt, show q - 1 - j = 1 by omega]
                have htk := take_succ (numB N q) (k := j) (by rw [numB_len]; exact hlt)
                rw [hz] at htk
                obtain ⟨y, hy⟩ : ∃ y, y = N / 256 % 256 := ⟨_, rfl⟩
                rw [← hy] at htk
                have hlow : (q : Int) - 1 - j = 1 := by omega
                rw [hlow]
                have HLOW := Lib.hid hlow
                have hyI : IntKind.u8.wrap ((N : Int) / 256) = (y : Int) := by rw [IntKind.wrap_u8]; omega
                have hyJ : (N : Int) / 256 % 256 = (y : Int) := by omega
                have HTK := Lib.hid htk
                have HY := Lib.hid hy
                clear htk hz hy hlow
                go_wp2_with (at_builtin; refine wpList_append_own _ rfl _ _ 54 rfl w.heap.size 5 i0 (.int .u8 0) 1 1 Try.underlying54 hi hz0 hz1 hz2 rfl (by decide) _ _ _ rfl (hown.alloc _) ⟨wr.heap.size, 0, none⟩ 1 1 [.int .u8 (y : Int)] rfl rfl ?c1 ?c2 ?c3 ?c4 ?c5 ?_)
                case c1 => first | exact cell_one_new _ _ _ | (rw [show (N : Int) % 256 = (y : Int) by have := HY.out; omega]; exact cell_one_new _ _ _) | (rw [← hyJ]; exact cell_one_new _ _ _) | (rw [← hyI]; exact cell_one_new _ _ _)
                case c2 => simp [Value.oneCell']
                case c3 => unfold maxLen; omega
                case c4 => omega
                case c5 => have := hB.size; simp; omega
                intro v' w1 hown1 hgrow1 _
                have hB1 := (hB.alloc hB.size _).grown hgrow1 (by have := hB.size; simp; omega) (fun j hj => (hown.lt j hj).1)
                have HOW := Lib.hid (own_snoc hown1)
                clear hown1 hgrow1 hyI hyJ
                go_wp2
                go_roundw
                case rel => exact ⟨j + 1, by omega, ret_int' (by have := HLOW.out; omega), by rw [HTK.out, ← List.append_assoc, ← Nat.add_assoc]; exact HOW.out, hB1⟩
                case measure => simp [intOf]
              · have hz : (numB N q).getD j 0 = N / 65536 % 256 := by rw [numB_at N q j hlt, show q - 1 - j = 2 by omega]
                have htk := take_succ (numB N q) (k := j) (by rw [numB_len]; exact hlt)
                rw [hz] at htk
                obtain ⟨y, hy⟩ : ∃ y, y = N / 65536 % 256 := ⟨_, rfl⟩
                rw [← hy] at htk
                have hlow : (q : Int) - 1 - j = 2 := by omega
                rw [hlow]
                have HLOW := Lib.hid hlow
                have hyI : IntKind.u8.wrap ((N : Int) / 65536) = (y : Int) := by rw [IntKind.wrap_u8]; omega
                have hyJ : (N : Int) / 65536 % 256 = (y : Int) := by omega
                have HTK := Lib.hid htk
                have HY := Lib.hid hy
                clear htk hz hy hlow
                go_wp2_with (at_builtin; refine wpList_append_own _ rfl _ _ 54 rfl w.heap.size 5 i0 (.int .u8 0) 1 1 Try.underlying54 hi hz0 hz1 hz2 rfl (by decide) _ _ _ rfl (hown.alloc _) ⟨wr.heap.size, 0, none⟩ 1 1 [.int .u8 (y : Int)] rfl rfl ?c1 ?c2 ?c3 ?c4 ?c5 ?_)
                case c1 => first | exact cell_one_new _ _ _ | (rw [show (N : Int) % 256 = (y : Int) by have := HY.out; omega]; exact cell_one_new _ _ _) | (rw [← hyJ]; exact cell_one_new _ _ _) | (rw [← hyI]; exact cell_one_new _ _ _)
                case c2 => simp [Value.oneCell']
                case c3 => unfold maxLen; omega
                case c4 => omega
                case c5 => have := hB.size; simp; omega
                intro v' w1 hown1 hgrow1 _
                have hB1 := (hB.alloc hB.size _).grown hgrow1 (by have := hB.size; simp; omega) (fun j hj => (hown.lt j hj).1)
                have HOW := Lib.hid (own_snoc hown1)
                clear hown1 hgrow1 hyI hyJ
                go_wp2
                go_roundw
                case rel => exact ⟨j + 1, by omega, ret_int' (by have := HLOW.out; omega), by rw [HTK.out, ← List.append_assoc, ← Nat.add_assoc]; exact HOW.out, hB1⟩
                case measure => simp [intOf]
              · have hz : (numB N q).getD j 0 = N / 16777216 % 256 := by rw [numB_at N q j hlt, show q - 1 - j = 3 by omega]
                have htk := take_succ (numB N q) (k := j) (by rw [numB_len]; exact hlt)
                rw [hz] at htk
                obtain ⟨y, hy⟩ : ∃ y, y = N / 16777216 % 256 := ⟨_, rfl⟩
                rw [← hy] at htk
                have hlow : (q : Int) - 1 - j = 3 := by omega
                rw [hlow]
                have HLOW := Lib.hid hlow
                have hyI : IntKind.u8.wrap ((N : Int) / 16777216) = (y : Int) := by rw [IntKind.wrap_u8]; omega
                have hyJ : (N : Int) / 16777216 % 256 = (y : Int) := by omega
                have HTK := Lib.hid htk
                have HY := Lib.hid hy
                clear htk hz hy hlow
                go_wp2_with (at_builtin; refine wpList_append_own _ rfl _ _ 54 rfl w.heap.size 5 i0 (.int .u8 0) 1 1 Try.underlying54 hi hz0 hz1 hz2 rfl (by decide) _ _ _ rfl (hown.alloc _) ⟨wr.heap.size, 0, none⟩ 1 1 [.int .u8 (y : Int)] rfl rfl ?c1 ?c2 ?c3 ?c4 ?c5 ?_)
                case c1 => first | exact cell_one_new _ _ _ | (rw [show (N : Int) % 256 = (y : Int) by have := HY.out; omega]; exact cell_one_new _ _ _) | (rw [← hyJ]; exact cell_one_new _ _ _) | (rw [← hyI]; exact cell_one_new _ _ _)
                case c2 => simp [Value.oneCell']
                case c3 => unfold maxLen; omega
                case c4 => omega
                case c5 => have := hB.size; simp; omega
                intro v' w1 hown1 hgrow1 _
                have hB1 := (hB.alloc hB.size _).grown hgrow1 (by have := hB.size; simp; omega) (fun j hj => (hown.lt j hj).1)
                have HOW := Lib.hid (own_snoc hown1)
                clear hown1 hgrow1 hyI hyJ
                go_wp2
                go_roundw
                case rel => exact ⟨j + 1, by omega, ret_int' (by have := HLOW.out; omega), by rw [HTK.out, ← List.append_assoc, ← Nat.add_assoc]; exact HOW.out, hB1⟩
                case measure => simp [intOf]
            · obtain rfl : j = q := by omega
              have hlow : (j : Int) - 1 - j = -1 := by omega
              rw [hlow]
              rw [List.take_of_length_le (by rw [numB_len]; exact Nat.le_refl _)] at hown
              have HOW := Lib.hid hown
              clear hown hlow
              go_wp2
              go_roundw
              case rel => exact ⟨k + 1, A + j, by omega, by go_num, by rw [HFS.out]; exact HOW.out, by rw [HFS.out, List.length_append, HFL.out, numB_len], hB⟩
              case measure => simp [intOf]; omega
    · obtain rfl : k = len := by omega
      have HO := Lib.hid hown
      clear hown
      go_wp2
      go_ret
      exact ⟨_, rfl, by rw [hA]; exact HO.out, hB⟩
end Go.Proofs.Ytmihhapedpalmaa
