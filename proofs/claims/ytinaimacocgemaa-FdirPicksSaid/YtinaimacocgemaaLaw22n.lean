/- FdirPicks: what the law wants besides. -/
import Derived.Test.YtinaimacocgemaaArp
import Derived.Test.YtinaimacocgemaaLaw22e
namespace Go.Proofs.Ytinaimacocgemaa
open Go.RowKit Go.Own Go.Proofs Bs
set_option linter.unusedVariables false
set_option linter.unusedSimpArgs false
theorem eqAr {q : Al} (hl : q.l < 256) (he : q.e < 256) (hu : (Lit.int .i64 q.u).wf = true) (w : World) : (binOp .eql 87 (.agg #[.int .u8 (q.l : Nat), .int .i64 q.u, .int .u8 (q.e : Nat)]) (.agg #[.int .u8 (q.l : Nat), .int .i64 q.u, .int .u8 (q.e : Nat)])).run Try.prog w = .ok (.bool true) w := by
  obtain ⟨r, h, hi⟩ := eql_plain (P := Try.prog) (t := 87) (sh := [.int .u8, .int .i64, .int .u8]) (xs := #[.int .u8 (q.l : Nat), .int .i64 q.u, .int .u8 (q.e : Nat)]) (ys := #[.int .u8 (q.l : Nat), .int .i64 q.u, .int .u8 (q.e : Nat)]) (m := 9) (by omega) (by kernel_rfl) (by kernel_rfl) (by kernel_rfl) (by kernel_rfl) ⟨⟨_, rfl, wf_b8 hl⟩, ⟨_, rfl, hu⟩, ⟨_, rfl, wf_b8 he⟩, trivial⟩ ⟨⟨_, rfl, wf_b8 hl⟩, ⟨_, rfl, hu⟩, ⟨_, rfl, wf_b8 he⟩, trivial⟩ w
  rw [h, hi.2 rfl]
theorem inAr {q : Al} (hl : q.l < 256) (he : q.e < 256) (hu : (Lit.int .i64 q.u).wf = true) (w : World) : (Op.equalIn 10000 87 (.agg #[.int .u8 (q.l : Nat), .int .i64 q.u, .int .u8 (q.e : Nat)]) (.agg #[.int .u8 (q.l : Nat), .int .i64 q.u, .int .u8 (q.e : Nat)])).run Try.prog w = .ok true w := by
  have h := eqAr hl he hu w
  rw [run_eql_struct] at h
  revert h
  cases (Op.equalIn 10000 87 (.agg #[.int .u8 (q.l : Nat), .int .i64 q.u, .int .u8 (q.e : Nat)]) (.agg #[.int .u8 (q.l : Nat), .int .i64 q.u, .int .u8 (q.e : Nat)])).run Try.prog w with
  | ok b w' => intro h; simp only [Result.andThen, Result.ok.injEq, Value.bool.injEq] at h; rw [h.1, h.2]
  | _ => intro h; simp [Result.andThen] at h
theorem neqAr {q : Al} (hl : q.l < 256) (he : q.e < 256) (hu : (Lit.int .i64 q.u).wf = true) (w : World) : (binOp .neq 87 (.agg #[.int .u8 (q.l : Nat), .int .i64 q.u, .int .u8 (q.e : Nat)]) (.agg #[.int .u8 (q.l : Nat), .int .i64 q.u, .int .u8 (q.e : Nat)])).run Try.prog w = .ok (.bool false) w := by
  rw [run_neq_struct, inAr hl he hu]
  rfl
theorem al_big (inh : Nat) {l : Nat} (h : ¬ l < 5) : al inh l = false := by unfold al; rw [decide_eq_false h]; rfl
set_option maxHeartbeats 1000000 in
theorem rAllowed_big (inh l : Nat) (w : World) (hi : inh < 256) (h : ¬ l < 5) (h2 : l < 256) : Calls Try.prog 51 #[.int .u8 (inh : Nat), .int .i64 (l : Nat)] w fun e w' => e = .returned (.bool (al inh l)) ∧ w = w' := by
  go_enter Try.func51, Try.ntmps51
  go_wp2_with fail
  go_loopw [0, 5] (fun v0 v5 wr => ∃ k : Nat, k ≤ l ∧ v5 = .int .i64 (k : Nat) ∧ v0 = .int .u8 ((inh / 2 ^ k : Nat) : Int) ∧ w = wr) (fun _ v _ => l - (intOf v).toNat)
  case atStart => exact ⟨0, Nat.zero_le _, rfl, by simp, rfl⟩
  case round =>
    obtain ⟨k, hk, rfl, rfl, hw⟩ := hrel
    subst hw
    have hd := div_pow inh k
    obtain ⟨x, hx⟩ : ∃ x, x = inh / 2 ^ k := ⟨_, rfl⟩
    have hxb : x < 256 := by rw [hx]; exact Nat.lt_of_le_of_lt (Nat.div_le_self _ _) hi
    rw [← hx] at hd ⊢
    have HD := Lib.hid hd
    clear hd hx
    by_cases hlt : k < l
    · go_wp2
      go_roundw
      case rel => exact ⟨k + 1, by omega, by go_num, by rw [← HD.out]; go_num, by first | rfl | trivial⟩
      case measure => simp [intOf]; omega
    · obtain rfl : k = l := by omega
      have HA := Lib.hid (al_big inh h)
      have h5 : ¬ (k : Int) < 5 := by omega
      go_wp2
      go_ret
      exact ⟨by rw [HA.out]; rfl, rfl⟩
theorem rAllowed_all (inh l : Nat) (w : World) (hi : inh < 256) (h2 : l < 256) : Calls Try.prog 51 #[.int .u8 (inh : Nat), .int .i64 (l : Nat)] w fun e w' => e = .returned (.bool (al inh l)) ∧ w = w' := by
  by_cases h : l < 5
  · exact rAllowed_any inh l w hi h
  · exact rAllowed_big inh l w hi h h2
theorem pk_form (o : Option Al) : pkV o = .tuple #[.agg #[.int .u8 ((o.getD al0).l : Nat), .int .i64 (o.getD al0).u, .int .u8 ((o.getD al0).e : Nat)], .bool o.isSome] := by cases o <;> rfl
theorem AlS.up {lo n k : Nat} {w w' : World} {a : Option Addr} {cap : Nat} {l : List Al} (h : AlS lo n w a cap l) (hb : Below k w w') (hk : n ≤ k) (hn : n ≤ w'.heap.size) : AlS 0 w'.heap.size w' a cap l :=
  ⟨h.le, h.top, fun hl => by
    obtain ⟨b, off, e, hlo, hlt, hc⟩ := (h.below hb hk).at_ hl
    exact ⟨b, off, e, Nat.zero_le _, Nat.lt_of_lt_of_le hlt hn, hc⟩⟩
theorem fnd_ok {L : List Al} (h : AlOk L) (inh : Nat) : ((fnd inh (ordA (rl L))).getD al0).l < 256 ∧ ((fnd inh (ordA (rl L))).getD al0).e < 256 ∧ (Lit.int .i64 ((fnd inh (ordA (rl L))).getD al0).u).wf = true := by
  cases hf : fnd inh (ordA (rl L)) with
  | none => exact ⟨by decide, by decide, by decide⟩
  | some x => exact ok_ord h x (List.mem_of_find?_eq_some hf)
end Go.Proofs.Ytinaimacocgemaa
