/- Contracts of layer 3 (rings of ints), on: looked at. -/
import Derived.Test.YtnjkpamjjdkmoaaRingM
namespace Go.Proofs.Ytnjkpamjjdkmoaa
open Go.RowKit Go.Own
set_option linter.unusedVariables false
set_option linter.unusedSimpArgs false
variable {w : World} {g b n l d : Nat} {L : List Int}
set_option maxRecDepth 100000 in
set_option maxHeartbeats 1000000 in
theorem rAt_some (h : Ring w g b n L l d) (i : Nat) (hi : i < L.length) : Calls Try.prog 32 #[.pointer (some ⟨g, 0, none⟩), .int .i64 (i : Nat)] w fun e w' => e = .returned (.tuple #[.int .i64 (L.getD i 0), .bool true]) ∧ ∃ q, w' = w.drewN q := by
  have hle := h.le
  have hlt : ¬ (L.length : Int) ≤ (i : Int) := by omega
  obtain ⟨f, sl, h1, h2⟩ := id h
  have he := h2 i hi
  have hf := h1.hf
  obtain ⟨s, hs⟩ : ∃ s, s = (f + i) % n := ⟨_, rfl⟩
  have hsn : s < n := by rw [hs]; exact Nat.mod_lt _ (by omega)
  have d0 := h1.c0
  have dx := h1.at hsn
  rw [← hs] at he
  rw [he] at dx
  obtain ⟨x, hx⟩ : ∃ x, x = L.getD i 0 := ⟨_, rfl⟩
  rw [← hx] at dx
  have HX := Lib.hid hx
  have H := Lib.hid h
  have H1 := Lib.hid h1
  have HS := Lib.hid hs
  obtain ⟨c, hc⟩ : ∃ c, c = L.length := ⟨_, rfl⟩
  have HC := Lib.hid hc
  rw [← hc] at hlt
  have hic : i < c := by omega
  have hc4 : c ≤ 4096 := by omega
  have hslot : ∀ q, Calls Try.prog 97 #[.pointer (some ⟨g, 0, none⟩), .int .i64 (i : Nat)] (w.drewN q) fun e w' => e = .returned (.int .i64 ((s : Nat) : Int)) ∧ ∃ m, w' = (w.drewN q).drewN m := by
    intro q
    rw [hs]
    exact islot_any (H1.out.drewN q) i (by omega)
  have HSL := Lib.hid hslot
  clear h h1 h2 he hs hx hc hslot
  go_enter Try.func32, Try.ntmps32
  go_wp2_with fail
  go_at_call 27
  refine (rLen H.out).mono ?_
  rintro e w' ⟨rfl, rfl⟩
  rw [← HC.out]
  go_wp2
  go_quiet ((go_at_call 97; exact Calls.quiet_of (HSL.out _)))
  all_goals
    go_wp2
    go_ret2
    exact ⟨by rw [← HX.out]; rfl, _, rfl⟩
end Go.Proofs.Ytnjkpamjjdkmoaa
