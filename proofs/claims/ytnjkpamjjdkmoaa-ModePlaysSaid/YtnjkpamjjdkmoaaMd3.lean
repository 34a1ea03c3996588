/- Layer 24: the document's Step and Ask. -/
import Derived.Test.YtnjkpamjjdkmoaaMd2
namespace Go.Proofs.Ytnjkpamjjdkmoaa
open Go.RowKit Go.Own
set_option linter.unusedVariables false
set_option linter.unusedSimpArgs false
theorem quiet_eqM {P : Program} {f : FuncId} {args : Array Value} {w : World} {n : Nat} {v : Value}
    (h : Calls P f args (w.drewN n) fun e w' => e = .returned v ∧ w.drewN n = w') : Calls P f args (w.drewN n) fun e w'' => e = .returned v ∧ ∃ m, w'' = w.drewN m :=
  h.mono fun _ _ ⟨he, hm⟩ => ⟨he, n, hm.symm⟩
theorem size_mr : (Try.prog.info? 129).map (·.size) = some 5 := by kernel_rfl
theorem zero_mr (w : World) : (zeroValue 129).run Try.prog w = .ok (.agg #[.int .u8 0, .int .u16 0, .int .u8 0, .int .u8 0, .int .u8 0]) w := by kernel_rfl
set_option maxRecDepth 100000 in
set_option maxHeartbeats 400000 in
theorem rUp_any (n k : Nat) (w : World) (hk : k ≤ 65535) (hn : n ≤ k) : Calls Try.prog 123 #[.int .i64 (n : Nat), .int .i64 (k : Nat)] w fun e w' => e = .returned (.int .i64 ((upM n k : Nat) : Int)) ∧ w = w' := by
  obtain ⟨x, hx⟩ : ∃ x, upM n k = x := ⟨_, rfl⟩
  rw [hx]
  unfold upM at hx
  by_cases h : n < k
  · rw [if_pos h] at hx
    have HX := Lib.hid hx
    clear hx
    go_enter Try.func123, Try.ntmps123
    go_wp2
    go_ret
    exact ⟨by rw [← HX.out]; go_num, rfl⟩
  · rw [if_neg h] at hx
    have HX := Lib.hid hx
    clear hx
    go_enter Try.func123, Try.ntmps123
    go_wp2
    go_ret
    exact ⟨by rw [← HX.out]; rfl, rfl⟩
theorem rUp_s (n : Nat) (w : World) (hn : n ≤ 65535) : Calls Try.prog 123 #[.int .i64 (n : Nat), .int .i64 65535] w fun e w' => e = .returned (.int .i64 ((upM n 65535 : Nat) : Int)) ∧ w = w' := rUp_any n 65535 w (Nat.le_refl _) hn
theorem rUp_b (n : Nat) (w : World) (hn : n < 256) : Calls Try.prog 123 #[.int .i64 (n : Nat), .int .i64 255] w fun e w' => e = .returned (.int .i64 ((upM n 255 : Nat) : Int)) ∧ w = w' := rUp_any n 255 w (by decide) (by omega)
end Go.Proofs.Ytnjkpamjjdkmoaa
