/- Layer 18: branches; the union of sets; the set of some units. -/
import Derived.Test.YtioclbkgfbjpdaaSw2
namespace Go.Proofs.Ytioclbkgfbjpdaa
open Go.RowKit Go.Own Bs
set_option linter.unusedVariables false
set_option linter.unusedSimpArgs false
/-- A branch that has units, none of them bad. -/
def soundB (a bad : Nat) : Bool := decide (a ≠ 0 ∧ a &&& bad = 0)
set_option maxHeartbeats 1000000 in
theorem sound_any (a bad : Nat) (w : World) (ha : a < 65536) (hb : bad < 65536) : Calls Try.prog 83 #[.int .u16 (a : Nat), .int .u16 (bad : Nat)] w fun e w' => e = .returned (.bool (soundB a bad)) ∧ w = w' := by
  have hA := And_any a bad
  by_cases h0 : a = 0
  · have e : soundB a bad = false := by simp [soundB, h0]
    rw [e]
    subst h0
    clear e
    go_enter Try.func83, Try.ntmps83
    go_wp2_with fail
    go_ret
    exact ⟨rfl, rfl⟩
  · have hn : ((a : Int) != 0) = true := by simp only [bne_iff_ne]; omega
    obtain ⟨q, hq⟩ : ∃ q, q = a &&& bad := ⟨_, rfl⟩
    have e : soundB a bad = decide (q = 0) := by rw [hq]; simp [soundB, h0]
    rw [e]
    have HA := Lib.hid hA
    have HQ := Lib.hid hq
    clear e hA hq
    by_cases h1 : q = 0
    · rw [decide_eq_true h1]
      have HQ1 := Lib.hid h1
      clear h1
      go_enter Try.func83, Try.ntmps83
      go_wp2_with fail
      go_at_call 38
      refine (HA.out w ha hb).mono ?_
      rintro e w2 ⟨rfl, rfl⟩
      rw [← HQ.out, HQ1.out]
      go_wp2_with fail
      go_ret
      exact ⟨rfl, rfl⟩
    · rw [decide_eq_false h1]
      have hq2 : ((q : Int) == 0) = false := by rw [beq_eq_false_iff_ne]; omega
      go_enter Try.func83, Try.ntmps83
      go_wp2_with fail
      go_at_call 38
      refine (HA.out w ha hb).mono ?_
      rintro e w2 ⟨rfl, rfl⟩
      rw [← HQ.out]
      go_wp2_with fail
      go_ret
      exact ⟨rfl, rfl⟩
set_option maxHeartbeats 1000000 in
theorem Branch_any (a b bad : Nat) (w : World) (ha : a < 65536) (hb : b < 65536) (hd : bad < 65536) : Calls Try.prog 47 #[.int .u16 (a : Nat), .int .u16 (b : Nat), .int .u16 (bad : Nat)] w fun e w' => e = .returned (.tuple #[.int .u16 ((if soundB a bad then a else if soundB b bad then b else 0 : Nat) : Int), .bool (soundB a bad || soundB b bad)]) ∧ w = w' := by
  have HA := Lib.hid (fun w => sound_any a bad w ha hd)
  have HB := Lib.hid (fun w => sound_any b bad w hb hd)
  obtain ⟨p, hp⟩ : ∃ p, p = soundB a bad := ⟨_, rfl⟩
  obtain ⟨q, hq⟩ : ∃ q, q = soundB b bad := ⟨_, rfl⟩
  rw [← hp, ← hq]
  have HP := Lib.hid hp
  have HQ := Lib.hid hq
  clear hp hq
  cases p with
  | true =>
    go_enter Try.func47, Try.ntmps47
    go_wp2_with fail
    go_at_call 83
    refine (HA.out _).mono ?_
    rintro e w2 ⟨rfl, rfl⟩
    rw [← HP.out]
    go_wp2_with fail
    refine bodyPost_ret (v := .tuple #[.int .u16 ((a : Nat) : Int), .bool true]) (by simp [results, Try.results47, go_sem]) rfl ?_
    exact ⟨rfl, rfl⟩
  | false =>
    cases q with
    | true =>
      go_enter Try.func47, Try.ntmps47
      go_wp2_with fail
      go_at_call 83
      refine (HA.out _).mono ?_
      rintro e w2 ⟨rfl, rfl⟩
      rw [← HP.out]
      go_wp2_with fail
      go_at_call 83
      refine (HB.out _).mono ?_
      rintro e w3 ⟨rfl, rfl⟩
      rw [← HQ.out]
      go_wp2_with fail
      refine bodyPost_ret (v := .tuple #[.int .u16 ((b : Nat) : Int), .bool true]) (by simp [results, Try.results47, go_sem]) rfl ?_
      exact ⟨rfl, rfl⟩
    | false =>
      go_enter Try.func47, Try.ntmps47
      go_wp2_with fail
      go_at_call 83
      refine (HA.out _).mono ?_
      rintro e w2 ⟨rfl, rfl⟩
      rw [← HP.out]
      go_wp2_with fail
      go_at_call 83
      refine (HB.out _).mono ?_
      rintro e w3 ⟨rfl, rfl⟩
      rw [← HQ.out]
      go_wp2_with fail
      refine bodyPost_ret (v := .tuple #[.int .u16 0, .bool false]) (by simp [results, Try.results47, go_sem]) rfl ?_
      exact ⟨rfl, rfl⟩
def sv (l : List Nat) : Nat → Value := fun i => .int .u16 ((l.getD i 0 : Nat) : Int)
def orS (s : Nat) (l : List Nat) : Nat := l.foldl (fun s t => s ||| t) s
theorem orS_lt {s : Nat} (h : s < 65536) (l : List Nat) (hl : ∀ t ∈ l, t < 65536) : orS s l < 65536 := by
  unfold orS
  induction l generalizing s with
  | nil => exact h
  | cons t l ih => exact ih (Nat.or_lt_two_pow (n := 16) h (hl t (by simp))) (fun t h => hl t (by simp [h]))
set_option maxHeartbeats 1000000 in
theorem Or_any (a : Option Addr) (len cap n s : Nat) (l : List Nat) (w : World) (hs : s < 65536) (hl : l.length = len) (hv : ∀ t ∈ l, t < 65536) (hn : n ≤ w.heap.size) (hr : Rd n w a len cap (sv l)) :
    Calls Try.prog 48 #[.int .u16 (s : Nat), .slice a len cap] w fun e w' => e = .returned (.int .u16 (orS s l : Nat)) ∧ w = w' := by
  have h1 := hr.le
  have h2 := hr.top
  unfold maxLen at h2
  have HR := Lib.hid hr
  have HV := Lib.hid hv
  clear hr hv
  go_enter Try.func48, Try.ntmps48
  go_wp2_with fail
  go_loopw [0, 9] (fun v i wr => ∃ k : Nat, k ≤ len ∧ i = .int .i64 k ∧ v = .int .u16 (orS s (l.take k) : Nat) ∧ wr = w) (fun _ i _ => len - (intOf i).toNat)
  case atStart => exact ⟨0, Nat.zero_le _, rfl, rfl, rfl⟩
  case round =>
    obtain ⟨k, hk, rfl, rfl, rfl⟩ := hrel
    by_cases hlt : k < len
    · obtain ⟨b, off, rfl, _, hc⟩ := HR.out.at hlt
      unfold sv at hc
      have hx := orS_lt hs (l.take k) (fun t h => HV.out t (List.mem_of_mem_take h))
      have hy : l.getD k 0 < 65536 := HV.out _ (by
        unfold List.getD
        rw [List.getElem?_eq_getElem (show k < l.length by omega)]
        exact List.getElem_mem _)
      have ht : orS s (l.take (k + 1)) = orS s (l.take k) ||| l.getD k 0 := by
        have e : l.take (k + 1) = l.take k ++ [l.getD k 0] := by
          rw [List.take_add_one, List.getElem?_eq_getElem (show k < l.length by omega)]
          simp [List.getD, show k < l.length by omega]
        unfold orS
        rw [e, List.foldl_append]
        rfl
      obtain ⟨x, hx'⟩ : ∃ x, x = l.getD k 0 := ⟨_, rfl⟩
      obtain ⟨v, hv'⟩ : ∃ v, v = orS s (l.take k) := ⟨_, rfl⟩
      rw [← hx'] at hc ht hy
      rw [← hv'] at hx ht ⊢
      have hor := or16 v x hx hy
      have HT := Lib.hid ht
      clear ht hx' hv'
      go_wp2_with fail
      go_roundw
      case rel => exact ⟨k + 1, by omega, by go_num, by rw [HT.out], trivial⟩
      case measure => simp [intOf]; omega
    · obtain rfl : k = len := by omega
      rw [List.take_of_length_le (by omega)]
      go_wp2_with fail
      go_ret
      exact ⟨rfl, rfl⟩
end Go.Proofs.Ytioclbkgfbjpdaa
