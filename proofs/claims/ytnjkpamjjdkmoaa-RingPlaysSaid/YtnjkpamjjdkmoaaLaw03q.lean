/- Layer 3: what is kept by offering, and by pushing. -/
import Derived.Test.YtnjkpamjjdkmoaaLaw03
namespace Go.Proofs.Ytnjkpamjjdkmoaa
open Go.RowKit Go.Own
set_option linter.unusedVariables false
set_option linter.unusedSimpArgs false

theorem eq_of_takesI {l m : List Int} (h1 : l.length = m.length) (h : l.take l.length = m.take l.length) : l = m := by
  rw [List.take_length] at h
  rw [h, h1, List.take_length]
set_option maxHeartbeats 1000000 in
theorem SameI_any (a b : Option Addr) (la lb ca cb n m : Nat) (l r : List Int) (w : World) (hl : l.length = la) (hr : r.length = lb) (ra : Rd n w a la ca (iv l)) (rb : Rd m w b lb cb (iv r)) :
    Calls Try.prog 26 #[.slice a la ca, .slice b lb cb] w fun e w' => e = .returned (.bool (decide (l = r))) ∧ ∃ j, w' = w.drewN j := by
  have h1 := ra.le
  have h2 := ra.top
  have h3 := rb.le
  have h4 := rb.top
  unfold maxLen at h2 h4
  by_cases hne : la = lb
  · subst hne
    go_enter Try.func26, Try.ntmps26
    go_wp2
    go_loopw [13] (fun i wr => ∃ k : Nat, k ≤ la ∧ i = .int .i64 k ∧ l.take k = r.take k ∧ ∃ j, wr = w.drewN j) (fun i _ => la - (intOf i).toNat)
    case atStart => exact ⟨0, Nat.zero_le _, rfl, rfl, 0, rfl⟩
    case round =>
      obtain ⟨k, hk, rfl, heq, j, rfl⟩ := hrel
      by_cases hlt : k < la
      · obtain ⟨ba, oa, rfl, _, hca⟩ := ra.at hlt
        obtain ⟨bb, ob, rfl, _, hcb⟩ := rb.at hlt
        unfold iv at hca hcb
        obtain ⟨x, hx⟩ : ∃ x, x = l.getD k 0 := ⟨_, rfl⟩
        obtain ⟨y, hy⟩ : ∃ y, y = r.getD k 0 := ⟨_, rfl⟩
        rw [← hx] at hca
        rw [← hy] at hcb
        have hE := Lib.hid heq
        have HX := Lib.hid hx
        have HY := Lib.hid hy
        clear heq hx hy
        by_cases hxy : x = y
        · subst hxy
          go_wp2
          go_quiet (fail)
          all_goals
            go_wp2
            go_roundw
            case rel => exact ⟨k + 1, by omega, by go_num, by rw [takeL_succ l (by omega), takeL_succ r (by omega), hE.out, ← HX.out, ← HY.out], _, rfl⟩
            case measure => simp [intOf]; omega
        · have hne' : (x == y) = false := by rw [beq_eq_false_iff_ne]; omega
          have hne2 : (x != y) = true := by simp [bne, hne']
          have hd : l ≠ r := fun e => hxy (by rw [HX.out, HY.out, e])
          go_wp2
          go_quiet (fail)
          all_goals
            go_wp2
            go_ret
            exact ⟨by simp [hd], _, World.drewN_drewN _ _ _⟩
      · obtain rfl : k = la := by omega
        go_wp2
        go_ret
        have : l = r := eq_of_takesI (by omega) (by rw [hl]; exact heq)
        exact ⟨by simp [this], _, rfl⟩
  · have hd : l ≠ r := fun e => hne (by rw [← hl, ← hr, e])
    have hne2 : ((la : Int) != (lb : Int)) = true := by simp [bne]; omega
    go_enter Try.func26, Try.ntmps26
    go_wp2
    go_ret
    exact ⟨by simp [hd], 0, rfl⟩
theorem isRow_ints {w : World} {a : Option Addr} {len cap : Nat} {z : List Int} (h : IsRow .i64 w a len cap z) : ∃ l : List Int, l.length = len ∧ Rd w.heap.size w a len cap (iv l) := by
  rcases h with ⟨rfl, rfl, rfl, rfl⟩ | ⟨x, rfl, hl, hm, hz, hcell, hwz⟩
  · exact ⟨[], rfl, Rd.none_ _ _ _⟩
  · refine ⟨z.take len, by simp; omega, (rd_of_row hl hm (by omega) hcell).same fun i hi => ?_⟩
    unfold iv
    simp [List.getD, hi]
theorem run_min2 {P : Program} (ats : Array TypeId) (ty : TypeId) (k : IntKind) (a b : Int) (w : World) : (Builtin.min_ ats ty #[.int k a, .int k b]).run P w = .ok (.int k (min a b)) w := by
  have e2 : (Builtin.min2 (.int k a) (.int k b)).run P w = .ok (.int k (min a b)) w := by
    unfold Builtin.min2
    by_cases h : b < a
    · have e : min a b = b := by omega
      simp [e, h]
    · have e : min a b = a := by omega
      simp [e, h]
  simp [Builtin.min_, e2]
theorem iv_one (l : List Int) (i : Nat) : (iv l i).oneCell' = true := rfl
theorem iv_range (l : List Int) : (List.range l.length).map (iv l) = il l := by
  apply List.ext_getElem?
  intro i
  by_cases h : i < l.length
  · rw [il_at l h]; simp [h, iv]
  · simp [il, h]
theorem run_slice_upto (a : Option Addr) (len cap k : Nat) (hk : k ≤ cap) (w : World) : (Instr.slice 38 (.slice a len cap) none (some (.int .i64 (k : Nat))) none).run Try.prog w = .ok (.slice a k cap) w := by
  rw [run_slice_h w 38 a len cap (by kernel_rfl) .i64 _ (by omega) (by omega)]
  have hz : (sizeOf (Try.prog.elem 38)).run Try.prog w = .ok 1 w := by kernel_rfl
  rw [hz]
  simp [sliced, Result.andThen]
  cases a <;> simp [Addr.add]
theorem run_slice_from (a : Option Addr) (len cap k : Nat) (hk : k ≤ len) (w : World) : (Instr.slice 38 (.slice a len cap) (some (.int .i64 (k : Nat))) none none).run Try.prog w = .ok (.slice (if cap = k then a else a.map (·.add k)) (len - k) (cap - k)) w := by
  rw [run_slice_l w 38 a len cap (by kernel_rfl) .i64 _ (by omega) (by omega)]
  have hz : (sizeOf (Try.prog.elem 38)).run Try.prog w = .ok 1 w := by kernel_rfl
  rw [hz]
  simp [sliced, Result.andThen]
end Go.Proofs.Ytnjkpamjjdkmoaa
