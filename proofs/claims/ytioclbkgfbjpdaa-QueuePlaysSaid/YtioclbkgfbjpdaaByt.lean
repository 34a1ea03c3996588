/- Contracts of the document's own helpers on bytes. -/
import Derived.Test.YtioclbkgfbjpdaaRd
import Derived.Test.YtioclbkgfbjpdaaFrame
import Derived.Handy
import Derived.Lib.Hide
import Derived.Maps.AppendAt
import Derived.LoopTactic
import Derived.Deep.QuietTactic
import Derived.BigQuiet
import Derived.OwnWalk
import Derived.Lib.LazyBuf
namespace Go.Proofs.Ytioclbkgfbjpdaa
open Go.RowKit Go.Own
set_option linter.unusedVariables false
set_option linter.unusedSimpArgs false

/-- A byte's value; a list of bytes. -/
def bv (l : List Nat) : Nat → Value := fun i => .int .u8 ((l.getD i 0 : Nat) : Int)
theorem bv_one (l : List Nat) (i : Nat) : (bv l i).oneCell' = true := rfl
def bl (l : List Nat) : List Value := l.map fun b => .int .u8 ((b : Nat) : Int)
theorem bl_at (l : List Nat) {i : Nat} (h : i < l.length) : (bl l)[i]? = some (bv l i) := by simp [bl, bv, h]
theorem bl_len (l : List Nat) : (bl l).length = l.length := by simp [bl]
theorem bl_append (l m : List Nat) : bl (l ++ m) = bl l ++ bl m := by simp [bl]
theorem bl_range (l : List Nat) : (List.range l.length).map (bv l) = bl l := by
  apply List.ext_getElem?
  intro i
  by_cases h : i < l.length
  · rw [bl_at l h]; simp [h]
  · simp [bl, h]
def bytes (l : List Nat) : Prop := ∀ b ∈ l, b < 256
theorem bytes.at {l : List Nat} (h : bytes l) (i : Nat) : l.getD i 0 < 256 := by
  by_cases hi : i < l.length
  · simp only [List.getD, hi, List.getElem?_eq_getElem, Option.getD_some]; exact h _ (List.getElem_mem hi)
  · simp [List.getD, Nat.le_of_not_lt hi]
theorem bytes.take {l : List Nat} (h : bytes l) (n : Nat) : bytes (l.take n) := fun b hb => h b (List.mem_of_mem_take hb)
theorem bytes.drop {l : List Nat} (h : bytes l) (n : Nat) : bytes (l.drop n) := fun b hb => h b (List.mem_of_mem_drop hb)
theorem bytes.append {l m : List Nat} (h : bytes l) (h' : bytes m) : bytes (l ++ m) := fun b hb => (List.mem_append.1 hb).elim (h b) (h' b)
theorem ret_int' {k : IntKind} {a b : Int} (h : a = b) : Value.int k a = .int k b := by rw [h]
theorem take_succ (l : List Nat) {k : Nat} (h : k < l.length) : l.take (k + 1) = l.take k ++ [l.getD k 0] := by
  rw [List.take_succ_eq_append_getElem h]; simp [List.getD, h]
theorem info_u8 : (Try.prog.info? 5).map (fun i => (i.zero, i.size, i.bytes)) = some (some (.int .u8 0), 1, 1) := by kernel_rfl

set_option maxHeartbeats 1000000 in
theorem Cut_any (a : Option Addr) (len cap : Nat) (l : List Nat) (n : Nat) (w : World) (hl : l.length = len) (hr : Rd w.heap.size w a len cap (bv l)) (hn : n ≤ 1000) :
    Calls Try.prog 19 #[.slice a len cap, .int .i64 n] w fun e w' => ∃ v, e = .returned v ∧ w'.ownsRow w.heap.size 5 1 v (min n len) (bl (l.take n)) ∧ Below w.heap.size w w' := by
  obtain ⟨i0, hi, hz0, hz1, hz2⟩ := info_parts info_u8
  have hle := hr.le
  have htop := hr.top
  unfold maxLen at htop
  go_enter Try.func19, Try.ntmps19
  go_wp2
  go_loopw [5, 10] (fun v i wr => ∃ k : Nat, k ≤ len ∧ i = .int .i64 k ∧ wr.ownsRow w.heap.size 5 1 v (min n k) (bl (l.take (min n k))) ∧ Below w.heap.size w wr)
    (fun _ i _ => len - (intOf i).toNat)
  case atStart => exact ⟨0, Nat.zero_le _, rfl, by simpa [bl] using World.ownsRow_nil _ _ _ _, Below.refl _ _⟩
  case round =>
    obtain ⟨k, hk, rfl, hown, hB⟩ := hrel
    by_cases hlt : k < len
    · obtain ⟨b, off, rfl, hb, hc⟩ := (hr.below hB).at hlt
      unfold bv at hc
      obtain ⟨x, hx⟩ : ∃ x, x = l.getD k 0 := ⟨_, rfl⟩
      rw [← hx] at hc
      have HX := Lib.hid hx
      clear hx
      by_cases hkn : k < n
      · have e1 : min n k = k := by omega
        rw [e1] at hown
        go_wp2_with (at_builtin; refine wpList_append_own _ rfl _ _ 43 rfl w.heap.size 5 i0 (.int .u8 0) 1 1 Try.underlying43 hi hz0 hz1 hz2 rfl (by decide) _ _ _ rfl (hown.alloc _) ⟨wr.heap.size, 0, none⟩ 1 1 [.int .u8 (x : Int)] rfl rfl ?c1 ?c2 ?c3 ?c4 ?c5 ?_)
        case c1 => exact cell_one_new _ _ _
        case c2 => simp [Value.oneCell']
        case c3 => unfold maxLen; omega
        case c4 => omega
        case c5 => have := hB.size; simp; omega
        intro v' w1 hown1 hgrow1 _
        have hB1 := (hB.alloc hB.size _).grown hgrow1 (by have := hB.size; simp; omega) (fun j hj => (hown.lt j hj).1)
        go_wp2
        go_roundw
        case rel => exact ⟨k + 1, by omega, by go_num, by rw [show min n (k + 1) = k + 1 by omega, take_succ l (by omega), bl_append, ← HX.out]; exact hown1, hB1⟩
        case measure => simp [intOf]; omega
      · have e1 : min n k = n := by omega
        rw [e1] at hown
        go_wp2
        go_roundw
        case rel => exact ⟨k + 1, by omega, by go_num, by rw [show min n (k + 1) = n by omega]; exact hown, hB⟩
        case measure => simp [intOf]; omega
    · obtain rfl : k = len := by omega
      go_wp2
      go_ret
      refine ⟨_, rfl, ?_, hB⟩
      by_cases hkn : k ≤ n
      · rw [show min n k = k by omega] at hown ⊢
        rw [show l.take n = l.take k by rw [List.take_of_length_le (by omega), List.take_of_length_le (by omega)]]; exact hown
      · rw [show min n k = n by omega] at hown ⊢; exact hown

theorem ne_of_at {l m : List Nat} {k : Nat} (h : l.getD k 0 ≠ m.getD k 0) : l ≠ m := fun e => h (by rw [e])
theorem eq_of_takes {l m : List Nat} (h1 : l.length = m.length) (h : l.take l.length = m.take l.length) : l = m := by
  rw [List.take_length] at h
  rw [h, h1, List.take_length]

set_option maxHeartbeats 1000000 in
theorem Same_any (a b : Option Addr) (la lb ca cb n m : Nat) (l r : List Nat) (w : World) (hl : l.length = la) (hr : r.length = lb) (ra : Rd n w a la ca (bv l)) (rb : Rd m w b lb cb (bv r)) (bl_ : bytes l) (br_ : bytes r) :
    Calls Try.prog 66 #[.slice a la ca, .slice b lb cb] w fun e w' => e = .returned (.bool (decide (l = r))) ∧ ∃ j, w' = w.drewN j := by
  have h1 := ra.le
  have h2 := ra.top
  have h3 := rb.le
  have h4 := rb.top
  unfold maxLen at h2 h4
  by_cases hne : la = lb
  · subst hne
    go_enter Try.func66, Try.ntmps66
    go_wp2
    go_loopw [13] (fun i wr => ∃ k : Nat, k ≤ la ∧ i = .int .i64 k ∧ l.take k = r.take k ∧ ∃ j, wr = w.drewN j) (fun i _ => la - (intOf i).toNat)
    case atStart => exact ⟨0, Nat.zero_le _, rfl, rfl, 0, rfl⟩
    case round =>
      obtain ⟨k, hk, rfl, heq, j, rfl⟩ := hrel
      by_cases hlt : k < la
      · obtain ⟨ba, oa, rfl, _, hca⟩ := ra.at hlt
        obtain ⟨bb, ob, rfl, _, hcb⟩ := rb.at hlt
        unfold bv at hca hcb
        obtain ⟨x, hx⟩ : ∃ x, x = l.getD k 0 := ⟨_, rfl⟩
        obtain ⟨y, hy⟩ : ∃ y, y = r.getD k 0 := ⟨_, rfl⟩
        rw [← hx] at hca
        rw [← hy] at hcb
        have hE := Lib.hid heq
        have HX := Lib.hid hx
        have HY := Lib.hid hy
        clear heq hx hy
        by_cases hxy : x = y
        · subst hxy
          go_wp2
          go_quiet (fail)
          all_goals
            go_wp2
            go_roundw
            case rel => exact ⟨k + 1, by omega, by go_num, by rw [take_succ l (by omega), take_succ r (by omega), hE.out, ← HX.out, ← HY.out], _, rfl⟩
            case measure => simp [intOf]; omega
        · have hne' : ((x : Int) == (y : Int)) = false := by rw [beq_eq_false_iff_ne]; omega
          have hne2 : (((x : Nat) : Int) != (y : Int)) = true := by simp [bne, hne']
          have hd : l ≠ r := ne_of_at (k := k) (by rw [← HX.out, ← HY.out]; exact hxy)
          go_wp2
          go_quiet (fail)
          all_goals
            go_wp2
            go_ret
            exact ⟨by simp [hd], _, World.drewN_drewN _ _ _⟩
      · obtain rfl : k = la := by omega
        go_wp2
        go_ret
        have : l = r := eq_of_takes (by omega) (by rw [hl]; exact heq)
        exact ⟨by simp [this], _, rfl⟩
  · have hd : l ≠ r := fun e => hne (by rw [← hl, ← hr, e])
    have hne2 : ((la : Int) != (lb : Int)) = true := by simp [bne]; omega
    go_enter Try.func66, Try.ntmps66
    go_wp2
    go_ret
    exact ⟨by simp [hd], 0, rfl⟩

/-- The number that bytes are, the first one the greatest. -/
def val (l : List Nat) : Nat := l.foldl (fun v b => 256 * v + b) 0
theorem val_snoc (l : List Nat) (b : Nat) : val (l ++ [b]) = 256 * val l + b := by simp [val]
theorem val_lt (l : List Nat) (h : bytes l) : val l < 256 ^ l.length := by
  rcases List.eq_nil_or_concat l with rfl | ⟨m, b, rfl⟩
  · decide
  · rw [List.concat_eq_append] at h ⊢
    rw [val_snoc]
    have h1 := val_lt m (fun x hx => h x (by simp [hx]))
    have h2 := h b (by simp)
    rw [List.length_append, List.length_cons, List.length_nil, Nat.pow_succ]
    omega
termination_by l.length
decreasing_by simp_wf; rename_i e; rw [e]; simp

theorem val_take_lt (l : List Nat) (h : bytes l) (k : Nat) (hk : k ≤ 8) : val (l.take k) < 18446744073709551616 := by
  have h1 := val_lt _ (h.take k)
  have h2 : (l.take k).length ≤ 8 := by rw [List.length_take]; omega
  have h3 : 256 ^ (l.take k).length ≤ 256 ^ 8 := Nat.pow_le_pow_right (by omega) h2
  have h4 : (256 : Nat) ^ 8 = 18446744073709551616 := by decide
  omega
theorem val_step (l : List Nat) (h : bytes l) {k : Nat} (hk : k < l.length) (h8 : l.length ≤ 8) : 256 * val (l.take k) + l.getD k 0 < 18446744073709551616 := by
  rw [← val_snoc, ← take_succ l hk]
  exact val_take_lt l h (k + 1) (by omega)

/-- The k lowest digits of n in base 256, the greatest first. -/
def numB (n : Nat) : Nat → List Nat
  | 0 => []
  | k + 1 => (n / 256 ^ k % 256) :: numB n k
theorem numB_len (n : Nat) : ∀ k, (numB n k).length = k
  | 0 => rfl
  | k + 1 => by simp [numB, numB_len n k]
theorem numB_bytes (n : Nat) : ∀ k, bytes (numB n k)
  | 0 => fun b hb => by cases hb
  | k + 1 => fun b hb => by
    simp only [numB, List.mem_cons] at hb
    rcases hb with rfl | hb
    · omega
    · exact numB_bytes n k b hb
def numR (n k j : Nat) : List Nat := List.replicate (k - j) 0 ++ numB n j
theorem numR_len (n k j : Nat) (h : j ≤ k) : (numR n k j).length = k := by simp [numR, numB_len]; omega
theorem numR_zero (n k : Nat) : numR n k 0 = List.replicate k 0 := by simp [numR, numB]
theorem numR_all (n k : Nat) : numR n k k = numB n k := by simp [numR]
theorem numR_set (n k j : Nat) (h : j < k) : (bl (numR n k j)).set (k - 1 - j) (.int .u8 ((n / 256 ^ j % 256 : Nat) : Int)) = bl (numR n k (j + 1)) := by
  have e : k - j = (k - 1 - j) + 1 := by omega
  unfold numR
  rw [e, List.replicate_succ', List.append_assoc, bl_append, bl_append, show k - (j + 1) = k - 1 - j by omega]
  rw [List.set_append_right _ _ (by simp [bl_len])]
  simp [bl_len, bl, numB]
theorem zeros_bl (k : Nat) : (madeCells #[Value.int .u8 0] k).toList = bl (List.replicate k 0) := by
  rw [toList_madeCells_one]
  simp [bl]

/-- Lists one behind another. -/
def flat (ls : Nat → List Nat) (k : Nat) : List Nat := (List.range k).flatMap ls
theorem flat_succ (ls : Nat → List Nat) (k : Nat) : flat ls (k + 1) = flat ls k ++ ls k := by simp [flat, List.range_succ]
theorem flat_le (ls : Nat → List Nat) {k n : Nat} (h : k ≤ n) : (flat ls k).length ≤ (flat ls n).length := by
  induction n with
  | zero => have e : k = 0 := by omega
            rw [e]; exact Nat.le_refl _
  | succ n ih =>
    rcases Nat.lt_or_ge n k with h' | h'
    · obtain rfl : k = n + 1 := by omega
      exact Nat.le_refl _
    · rw [flat_succ, List.length_append]; have := ih h'; omega

set_option maxHeartbeats 1000000 in
theorem Clone_any (a : Option Addr) (len cap n : Nat) (l : List Nat) (w : World) (hn : n ≤ w.heap.size) (hl : l.length = len) (hr : Rd n w a len cap (bv l)) (hm : len ≤ 140737488355328) :
    Calls Try.prog 68 #[.slice a len cap] w fun e w' => ∃ v, e = .returned v ∧ w'.ownsRow w.heap.size 5 1 v len (bl l) ∧ Below w.heap.size w w' := by
  obtain ⟨i0, hi, hz0, hz1, hz2⟩ := info_parts info_u8
  have hz := fun (w : World) => run_eql_slice_nil (P := Try.prog) w 43 5 a len cap Try.underlying43
  cases a with
  | none =>
    have h1 := hr.nil_ rfl
    have h2 := hr.le
    obtain rfl : cap = 0 := h1
    obtain rfl : len = 0 := by omega
    obtain rfl : l = [] := List.eq_nil_of_length_eq_zero hl
    go_enter Try.func68, Try.ntmps68
    go_wp2
    go_ret
    exact ⟨_, rfl, by simpa [bl] using World.ownsRow_nil _ _ _ _, Below.refl _ _⟩
  | some x =>
    go_enter Try.func68, Try.ntmps68
    go_wp2_with (at_builtin; refine wpList_app rfl _ _ 43 rfl w.heap.size 5 i0 (.int .u8 0) 1 Try.underlying43 hi hz0 hz1 hz2 rfl _ _ _ rfl (World.ownsRow_made _ #[] 0 ?c0 (by decide) rfl) rfl (hr.below' ((Below.refl _ _).alloc (Nat.le_refl _) _) hn) (bv_one _) ?c3 ?c4 ?c5 ?_)
    case c0 => exact Nat.le_refl _
    case c3 => unfold maxLen; omega
    case c4 => omega
    case c5 => simp
    intro v' w1 hown1 hgrow1
    have hB1 := ((Below.refl w.heap.size w).alloc (Nat.le_refl _) _).grown hgrow1 (by simp) (fun j hj => by simp [Value.ownBlock] at hj; omega)
    go_wp2
    go_ret
    refine ⟨_, rfl, ?_, hB1⟩
    rw [← hl] at hown1 ⊢
    simpa [bl_range] using hown1
end Go.Proofs.Ytioclbkgfbjpdaa
