/- Layer 8: numbers of two bytes. -/
import Derived.Test.YtpgophkegjeheaaCx2
namespace Go.Proofs.Ytpgophkegjeheaa
open Go.RowKit Go.Own
set_option linter.unusedVariables false
set_option linter.unusedSimpArgs false

set_option maxHeartbeats 1000000 in
theorem put_any (b off len cap n : Nat) (w : World) (x y : Value) (hn : n < 65536) (h2 : 2 ≤ len) (c0 : w.cell? ⟨b, off, none⟩ = some x) (c1 : w.cell? ⟨b, off + 1, none⟩ = some y) (f0 : w.frozen? ⟨b, off, none⟩ = false) (f1 : w.frozen? ⟨b, off + 1, none⟩ = false) :
    Calls Try.prog 65 #[.slice (some ⟨b, off, none⟩) len cap, .int .u16 (n : Nat)] w fun e w' => (∃ v, e = .returned v) ∧ w' = (w.setCell ⟨b, off, none⟩ (.int .u8 ((n / 256 : Nat) : Int))).setCell ⟨b, off + 1, none⟩ (.int .u8 ((n % 256 : Nat) : Int)) := by
  obtain ⟨q, hq⟩ : ∃ q, q = n / 256 := ⟨_, rfl⟩
  obtain ⟨r, hr⟩ : ∃ r, r = n % 256 := ⟨_, rfl⟩
  have e1 : (n : Int) / 256 = (q : Int) := by omega
  have e2 : IntKind.u8.wrap (q : Int) = (q : Int) := by rw [IntKind.wrap_u8]; omega
  have e3 : IntKind.u8.wrap (n : Int) = (r : Int) := by rw [IntKind.wrap_u8]; omega
  have e4 : (n : Int) % 256 = (r : Int) := by omega
  have h0 : ¬ ((len : Int) ≤ 0) := by omega
  have h1 : ¬ ((len : Int) ≤ 1) := by omega
  rw [← hq, ← hr]
  clear hq hr
  go_enter Try.func65, Try.ntmps65
  go_wp2
  go_end0
  exact ⟨⟨_, rfl⟩, rfl⟩
set_option maxHeartbeats 1000000 in
theorem get_any (b off len cap x y : Nat) (w : World) (h2 : 2 ≤ len) (hx : x < 256) (hy : y < 256) (c0 : w.cell? ⟨b, off, none⟩ = some (.int .u8 (x : Nat))) (c1 : w.cell? ⟨b, off + 1, none⟩ = some (.int .u8 (y : Nat))) :
    Calls Try.prog 66 #[.slice (some ⟨b, off, none⟩) len cap] w fun e w' => e = .returned (.int .u16 ((x * 256 + y : Nat) : Int)) ∧ ∃ q, w' = w.drewN q := by
  obtain ⟨z, hz⟩ : ∃ z, z = x * 256 := ⟨_, rfl⟩
  have e1 : (x : Int) * 256 = (z : Int) := by omega
  have e2 : IntKind.u16.wrap ((x : Int) * 256) = (z : Int) := by rw [IntKind.wrap_u16]; omega
  have e5 : IntKind.u16.wrap (z : Int) = (z : Int) := by rw [IntKind.wrap_u16]; omega
  obtain ⟨s, hs⟩ : ∃ s, s = x * 256 + y := ⟨_, rfl⟩
  have e3 : bits .or .u16 (z : Int) (y : Int) = (s : Int) := by
    have h := bits_join .u16 16 (by decide) wraps_u16 8 (z : Int) (y : Int) (by omega) (by omega) (by omega) (by omega) (by omega) (by omega)
    rw [h]; omega
  have h0 : ¬ ((len : Int) ≤ 0) := by omega
  have h1 : ¬ ((len : Int) ≤ 1) := by omega
  rw [← hs]
  clear hz hs
  go_enter Try.func66, Try.ntmps66
  go_wp2
  go_quiet (fail)
  all_goals
    go_wp2
    go_ret
    exact ⟨rfl, _, rfl⟩
end Go.Proofs.Ytpgophkegjeheaa
