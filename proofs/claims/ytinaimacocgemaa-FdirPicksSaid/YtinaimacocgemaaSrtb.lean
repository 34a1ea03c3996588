/- Layer 22: what Order compares by. -/
import Derived.Test.YtinaimacocgemaaSrt
import Derived.Test.YtinaimacocgemaaFd2
import Derived.Test.YtinaimacocgemaaBx
namespace Go.Proofs.Ytinaimacocgemaa
open Go.RowKit Go.Own Go.Shelf Go.Lib Go.Sort Bs
set_option linter.unusedVariables false
set_option linter.unusedSimpArgs false
/-- An alarm. -/
structure Al where
  l : Nat
  u : Int
  e : Nat
deriving Inhabited
def Al.cs (a : Al) : List Value := [.int .u8 (a.l : Nat), .int .i64 a.u, .int .u8 (a.e : Nat)]
theorem Al.len (a : Al) : a.cs.length = 3 := rfl
theorem Al.one (a : Al) : ∀ v ∈ a.cs, v.oneCell' = true := fun v h => by
  simp only [Al.cs, List.mem_cons, List.not_mem_nil, or_false] at h
  rcases h with rfl | rfl | rfl <;> rfl
theorem isNaN_any (x : Nat) (w : World) : Calls Try.prog 117 #[.int .u8 (x : Nat)] w fun e w' => e = .returned (.bool false) ∧ w = w' := by
  go_enter Try.func117, Try.ntmps117
  go_wp2
  go_ret
  exact ⟨rfl, rfl⟩
def cmp8 (x y : Nat) : Int := if x < y then -1 else if y < x then 1 else 0
theorem Compare_any (x y : Nat) (w : World) : Calls Try.prog 97 #[.int .u8 (x : Nat), .int .u8 (y : Nat)] w fun e w' => e = .returned (.int .i64 (cmp8 x y)) ∧ w = w' := by
  have HN := Lib.hid (fun (n : Nat) (w : World) => isNaN_any n w)
  rcases (by omega : x < y ∨ (¬ x < y ∧ y < x) ∨ (¬ x < y ∧ ¬ y < x)) with h | ⟨h, h2⟩ | ⟨h, h2⟩
  · have e : cmp8 x y = -1 := by unfold cmp8; rw [if_pos h]
    rw [e]
    have hz : (x : Int) < (y : Int) := by omega
    clear e h
    go_enter Try.func97, Try.ntmps97
    go_wp2_with (go_at_call 117; refine (HN.out _ _).mono ?_; rintro e w2 ⟨rfl, rfl⟩)
    go_ret
    exact ⟨rfl, rfl⟩
  · have e : cmp8 x y = 1 := by unfold cmp8; rw [if_neg h, if_pos h2]
    rw [e]
    have hz : (y : Int) < (x : Int) := by omega
    have hz2 : ¬ (x : Int) < (y : Int) := by omega
    clear e h h2
    go_enter Try.func97, Try.ntmps97
    go_wp2_with (go_at_call 117; refine (HN.out _ _).mono ?_; rintro e w2 ⟨rfl, rfl⟩)
    go_ret
    exact ⟨rfl, rfl⟩
  · have e : cmp8 x y = 0 := by unfold cmp8; rw [if_neg h, if_neg h2]
    rw [e]
    have hz : ¬ (y : Int) < (x : Int) := by omega
    have hz2 : ¬ (x : Int) < (y : Int) := by omega
    clear e h h2
    go_enter Try.func97, Try.ntmps97
    go_wp2_with (go_at_call 117; refine (HN.out _ _).mono ?_; rintro e w2 ⟨rfl, rfl⟩)
    go_ret
    exact ⟨rfl, rfl⟩
def cfA (x y : Al) : Int := cmp8 y.l x.l
set_option maxHeartbeats 1000000 in
theorem cmpA (x y : Al) (w : World) : Calls Try.prog 96 #[.agg x.cs.toArray, .agg y.cs.toArray] w fun e w' => e = .returned (.int .i64 (cfA x y)) ∧ ∃ q os', w' = grow (w.drewN q) os' := by
  have HC := Lib.hid (fun (w : World) => Compare_any y.l x.l w)
  obtain ⟨xl, xu, xe⟩ := x
  obtain ⟨yl, yu, ye⟩ := y
  show Calls Try.prog 96 #[.agg #[.int .u8 ((xl : Nat) : Int), .int .i64 xu, .int .u8 ((xe : Nat) : Int)], .agg #[.int .u8 ((yl : Nat) : Int), .int .i64 yu, .int .u8 ((ye : Nat) : Int)]] w _
  go_enter Try.func96, Try.ntmps96
  go_wp2_with fail
  go_at_call 97
  refine (HC.out _).mono ?_
  rintro e w2 ⟨rfl, rfl⟩
  go_wp2_with fail
  go_ret
  exact ⟨rfl, 0, _, by rw [alloc_eq_grow, alloc_eq_grow, grow_grow]; rfl⟩
theorem cmpLays (blk off size : Nat) (w : World) : CmpLays Try.prog 96 #[] Al.cs 3 cfA blk off size w :=
  fun m os dk hs x y => (cmpA x y _)
end Go.Proofs.Ytinaimacocgemaa
