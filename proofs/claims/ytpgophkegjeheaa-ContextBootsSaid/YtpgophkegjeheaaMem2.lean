/- Layer 7: New, Reset, Pending, Read, Good. -/
import Derived.Test.YtpgophkegjeheaaMem
namespace Go.Proofs.Ytpgophkegjeheaa
open Go.RowKit Go.Own
set_option linter.unusedVariables false
set_option linter.unusedSimpArgs false
variable {w : World} {B g : Nat} {v : Nat → Value} {ls : Nat → List Nat}

def noV : Nat → Value := fun _ => .slice none 0 0
def noL : Nat → List Nat := fun _ => []
set_option maxHeartbeats 1000000 in
theorem mNew (w : World) : Calls Try.prog 27 #[] w fun e w' => e = .returned (.pointer (some ⟨w.heap.size, 0, none⟩)) ∧ MemS w' w.heap.size w.heap.size noV noL ∧ Below w.heap.size w w' := by
  go_enter Try.func27, Try.ntmps27
  go_wp2
  go_ret
  refine ⟨rfl, ⟨heap_alloc_new _ _, fun i hi => ⟨rfl, .inl ⟨rfl, rfl⟩⟩, fun i j _ _ _ => .inl rfl, fun i hi => (fun b hb => absurd hb (by simp [noL])), fun i hi => (by simp [noL]), Nat.le_refl _⟩, by repeat' (first | (with_reducible exact Below.refl _ _) | (with_reducible assumption) | (with_reducible refine Below.setCell ?_ ?_ _) | (with_reducible refine Below.alloc ?_ ?_ _) | (with_reducible refine Below.drew ?_) | (with_reducible refine Below.drawsN ?_ _) | go_size)⟩
set_option maxHeartbeats 1000000 in
theorem mReset (h : MemS w B g v ls) : Calls Try.prog 70 #[.pointer (some ⟨g, 0, none⟩)] w fun e w' => (∃ u, e = .returned u) ∧ MemS w' B g (upd v 3 (.slice none 0 0)) (upd ls 3 []) ∧ MStep g v (upd v 3 (.slice none 0 0)) w w' := by
  have f3 := h.f 3
  have c3 := h.c3
  have H := Lib.hid h
  clear h
  go_enter Try.func70, Try.ntmps70
  go_wp2
  go_end0
  refine ⟨⟨_, rfl⟩, H.out.put (i := 3) (by omega) ⟨rfl, .inl ⟨rfl, rfl⟩⟩ (fun b hb => absurd hb (by simp)) (by simp) (fun j _ _ => .inl rfl), (MStep.refl g v w).put (fun b hb => by simp [Value.ownBlock] at hb)⟩
set_option maxHeartbeats 1000000 in
theorem zReset (w : World) : Calls Try.prog 70 #[.pointer none] w fun e w' => (∃ u, e = .returned u) ∧ w = w' := by
  go_enter Try.func70, Try.ntmps70
  go_wp2
  go_end0
  exact ⟨⟨_, rfl⟩, rfl⟩
set_option maxHeartbeats 1000000 in
theorem mPending (h : MemS w B g v ls) : Calls Try.prog 39 #[.pointer (some ⟨g, 0, none⟩)] w fun e w' => e = .returned (.bool (decide (0 < (ls 3).length))) ∧ w = w' := by
  have c3 := h.c3
  obtain ⟨a, c, e, hr⟩ := h.rd (i := 3) (by omega)
  rw [e] at c3
  obtain ⟨n, hn⟩ : ∃ n, n = (ls 3).length := ⟨_, rfl⟩
  rw [← hn] at c3 ⊢
  have hd : decide ((0 : Int) < (n : Int)) = decide (0 < n) := by simp
  have HD := Lib.hid hd
  clear h e hr hn hd
  go_enter Try.func39, Try.ntmps39
  go_wp2
  go_ret
  exact ⟨rfl, rfl⟩
set_option maxHeartbeats 1000000 in
theorem zPending (w : World) : Calls Try.prog 39 #[.pointer none] w fun e w' => e = .returned (.bool false) ∧ w = w' := by
  go_enter Try.func39, Try.ntmps39
  go_wp2
  go_ret
  exact ⟨rfl, rfl⟩
set_option maxHeartbeats 1000000 in
theorem mRead (h : MemS w B g v ls) : Calls Try.prog 72 #[.pointer (some ⟨g, 0, none⟩)] w (VoteOwn w ls 3) := by
  obtain ⟨a, c, hf⟩ := h.forms
  have hrow := h.row hf
  have hV := fun (w1 : World) (hb : Below w.heap.size w w1) => cVote_own (some ⟨g, 0, none⟩) 3 3 w1.heap.size a c ls w1 (Nat.le_refl _) ((hrow.below hb).mono hb.size) (fun i hi => ((hf i (by omega)).2.below hb).mono hb.size) (fun i hi => h.byt i (by omega)) (fun i hi => h.len i (by omega))
  have HV := Lib.hid hV
  clear hV hrow hf h
  go_enter Try.func72, Try.ntmps72
  go_wp2_with fail
  go_at_call 95
  refine (HV.out w (Below.refl _ _)).mono ?_
  rintro e w' ⟨hb, ⟨h1, rfl⟩ | ⟨h1, x, c, rfl, h2⟩⟩
  · have H1 := Lib.hid h1
    clear h1
    go_wp2
    go_ret3
    exact ⟨hb, .inl ⟨H1.out, rfl⟩⟩
  · have H1 := Lib.hid h1
    have H2 := Lib.hid h2
    clear h1 h2
    go_wp2
    go_ret3
    exact ⟨hb, .inr ⟨H1.out, _, _, rfl, H2.out⟩⟩
set_option maxHeartbeats 1000000 in
theorem zRead (w : World) : Calls Try.prog 72 #[.pointer none] w fun e w' => e = .returned (.tuple #[.int .u32 0, .slice none 0 0, .int .i64 3]) ∧ w = w' := by
  go_enter Try.func72, Try.ntmps72
  go_wp2
  go_ret3
  exact ⟨rfl, rfl⟩
set_option maxHeartbeats 1000000 in
theorem mGood (h : MemS w B g v ls) : Calls Try.prog 37 #[.pointer (some ⟨g, 0, none⟩)] w fun e w' => e = .returned (.int .u16 (gset ls 3 : Nat)) ∧ Below w.heap.size w w' := by
  obtain ⟨a, c, hf⟩ := h.forms
  have hrow := h.row hf
  have hV := fun (w1 : World) (hb : Below w.heap.size w w1) => Good_any (some ⟨g, 0, none⟩) 3 3 w1.heap.size a c ls w1 (Nat.le_refl _) (by omega) ((hrow.below hb).mono hb.size) (fun i hi => ((hf i (by omega)).2.below hb).mono hb.size) (fun i hi => h.byt i (by omega))
  have HV := Lib.hid hV
  clear hV hrow hf h
  go_enter Try.func37, Try.ntmps37
  go_wp2_with fail
  go_at_call 74
  refine (HV.out w (Below.refl _ _)).mono ?_
  rintro e w' ⟨rfl, hb⟩
  go_wp2
  go_ret
  exact ⟨rfl, hb⟩
set_option maxHeartbeats 1000000 in
theorem zGood (w : World) : Calls Try.prog 37 #[.pointer none] w fun e w' => e = .returned (.int .u16 0) ∧ w = w' := by
  go_enter Try.func37, Try.ntmps37
  go_wp2
  go_ret
  exact ⟨rfl, rfl⟩
end Go.Proofs.Ytpgophkegjeheaa
