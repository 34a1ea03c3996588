/- Layer 7: Flip, Scrub, Copies. -/
import Derived.Test.YtpgophkegjeheaaMem5
namespace Go.Proofs.Ytpgophkegjeheaa
open Go.RowKit Go.Own
set_option linter.unusedVariables false
set_option linter.unusedSimpArgs false
variable {w : World} {B g : Nat} {v : Nat → Value} {ls : Nat → List Nat}

set_option maxHeartbeats 1000000 in
theorem zFlip (i j m : Int) (w : World) : Calls Try.prog 30 #[.pointer none, .int .i64 i, .int .i64 j, .int .u8 m] w fun e w' => e = .returned (.int .i64 3) ∧ w = w' := by
  go_enter Try.func30, Try.ntmps30
  go_wp2
  go_ret
  exact ⟨rfl, rfl⟩
set_option maxHeartbeats 1000000 in
theorem zBegin (x : Value) (w : World) : Calls Try.prog 31 #[.pointer none, x] w fun e w' => e = .returned (.int .i64 3) ∧ w = w' := by
  go_enter Try.func31, Try.ntmps31
  go_wp2
  go_ret
  exact ⟨rfl, rfl⟩
set_option maxHeartbeats 1000000 in
theorem zFill (x : Value) (w : World) : Calls Try.prog 29 #[.pointer none, x] w fun e w' => e = .returned (.int .i64 3) ∧ w = w' := by
  go_enter Try.func29, Try.ntmps29
  go_wp2
  go_ret
  exact ⟨rfl, rfl⟩
set_option maxHeartbeats 1000000 in
theorem zCopies (w : World) : Calls Try.prog 34 #[.pointer none] w fun e w' => e = .returned (.slice none 0 0) ∧ w = w' := by
  go_enter Try.func34, Try.ntmps34
  go_wp2
  go_ret
  exact ⟨rfl, rfl⟩
/-- A byte turned. -/
def turnL (l : List Nat) (j t : Nat) : List Nat := l.set j (l.getD j 0 ^^^ t)
theorem turnL_len (l : List Nat) (j t : Nat) : (turnL l j t).length = l.length := List.length_set
theorem turnL_bytes {l : List Nat} (h : bytes l) (j : Nat) {t : Nat} (ht : t < 256) : bytes (turnL l j t) := set_bytes h _ (Nat.xor_lt_two_pow (n := 8) (h.at _) ht)
/-- A cell of a copy is laid anew. -/
theorem MemS.turn (h : MemS w B g v ls) {i j b c : Nat} (hi : i < 4) (hv : v i = .slice (some ⟨b, 0, none⟩) (ls i).length c) (x : Nat) (hx : x < 256) :
    MemS (w.setCell ⟨b, j, none⟩ (.int .u8 (x : Nat))) B g v (upd ls i ((ls i).set j x)) ∧ MStep g v v w (w.setCell ⟨b, j, none⟩ (.int .u8 (x : Nat))) := by
  have ho := h.own i hi
  rw [hv] at ho
  obtain ⟨h1, h2⟩ := ho.stored j (.int .u8 (x : Nat))
  have hvb : (v i).ownBlock = some b := by rw [hv]; rfl
  refine ⟨⟨box_kept h.head h2 (fun e => h.ne hi (by rw [hvb]; exact e.symm)), fun k hk => ?_, h.apart, fun k hk => ?_, fun k hk => ?_, h.base⟩, ⟨rfl, rfl, rfl, by simp, fun k hk hg hn => heap_setCell_other w ⟨b, j, none⟩ k _ (fun e => hn i hi (by rw [hvb, e])), fun k hk hn => hn⟩⟩
  · by_cases e : k = i
    · subst e
      rw [upd_same, hv, List.length_set, ← set_bl]
      exact h1
    · rw [upd_other _ _ e]
      refine (h.own k hk).kept h2 ?_
      rcases h.apart k i hk hi e with h3 | h3
      · exact .inl h3
      · exact .inr (by rw [← hvb]; exact h3)
  · by_cases e : k = i
    · subst e; rw [upd_same]; exact set_bytes (h.byt k hk) _ hx
    · rw [upd_other _ _ e]; exact h.byt k hk
  · by_cases e : k = i
    · subst e; rw [upd_same, List.length_set]; exact h.len k hk
    · rw [upd_other _ _ e]; exact h.len k hk
set_option maxRecDepth 100000 in
set_option maxHeartbeats 4000000 in
theorem mFlip (i j t : Nat) (h : MemS w B g v ls) (hi : i < 3) (hj : j < (ls i).length) (ht : t < 256) :
    Calls Try.prog 30 #[.pointer (some ⟨g, 0, none⟩), .int .i64 (i : Nat), .int .i64 (j : Nat), .int .u8 (t : Nat)] w fun e w' => e = .returned (.int .i64 0) ∧ MemS w' B g v (upd ls i (turnL (ls i) j t)) ∧ MStep g v v w w' := by
  have : i = 0 ∨ i = 1 ∨ i = 2 := by omega
  rcases this with rfl | rfl | rfl
  · have c0 := h.c0
    have ho := h.own 0 (by omega)
    obtain ⟨b, cp, hv, hbB, hbw⟩ := own_some ho (by omega)
    rw [hv] at c0 ho
    have hc := ho.cellAt j (by omega)
    have hz := ho.frozenAt j
    rw [bl_at _ hj] at hc
    unfold bv at hc
    obtain ⟨x, hx⟩ : ∃ x, x = (ls 0).getD j 0 := ⟨_, rfl⟩
    have hx2 := (h.byt 0 (by omega)).at j
    rw [← hx] at hc hx2
    have hxor := xor8w x t hx2 ht
    have hT := h.turn (i := 0) (j := j) (by omega) hv (x ^^^ t) (Nat.xor_lt_two_pow (n := 8) hx2 ht)
    have HT := Lib.hid hT
    have HX := Lib.hid hx
    obtain ⟨n, hn⟩ : ∃ n, n = (ls 0).length := ⟨_, rfl⟩
    rw [← hn] at c0 hj
    have hjI : ¬ ((n : Int) ≤ (j : Int)) := by omega
    clear ho hx hT h hv hn hbB
    go_enter Try.func30, Try.ntmps30
    go_wp2
    go_ret
    refine ⟨rfl, ?_, HT.out.2⟩
    unfold turnL
    rw [← HX.out]
    exact HT.out.1
  · have c0 := h.c1
    have ho := h.own 1 (by omega)
    obtain ⟨b, cp, hv, hbB, hbw⟩ := own_some ho (by omega)
    rw [hv] at c0 ho
    have hc := ho.cellAt j (by omega)
    have hz := ho.frozenAt j
    rw [bl_at _ hj] at hc
    unfold bv at hc
    obtain ⟨x, hx⟩ : ∃ x, x = (ls 1).getD j 0 := ⟨_, rfl⟩
    have hx2 := (h.byt 1 (by omega)).at j
    rw [← hx] at hc hx2
    have hxor := xor8w x t hx2 ht
    have hT := h.turn (i := 1) (j := j) (by omega) hv (x ^^^ t) (Nat.xor_lt_two_pow (n := 8) hx2 ht)
    have HT := Lib.hid hT
    have HX := Lib.hid hx
    obtain ⟨n, hn⟩ : ∃ n, n = (ls 1).length := ⟨_, rfl⟩
    rw [← hn] at c0 hj
    have hjI : ¬ ((n : Int) ≤ (j : Int)) := by omega
    clear ho hx hT h hv hn hbB
    go_enter Try.func30, Try.ntmps30
    go_wp2
    go_ret
    refine ⟨rfl, ?_, HT.out.2⟩
    unfold turnL
    rw [← HX.out]
    exact HT.out.1
  · have c0 := h.c2
    have ho := h.own 2 (by omega)
    obtain ⟨b, cp, hv, hbB, hbw⟩ := own_some ho (by omega)
    rw [hv] at c0 ho
    have hc := ho.cellAt j (by omega)
    have hz := ho.frozenAt j
    rw [bl_at _ hj] at hc
    unfold bv at hc
    obtain ⟨x, hx⟩ : ∃ x, x = (ls 2).getD j 0 := ⟨_, rfl⟩
    have hx2 := (h.byt 2 (by omega)).at j
    rw [← hx] at hc hx2
    have hxor := xor8w x t hx2 ht
    have hT := h.turn (i := 2) (j := j) (by omega) hv (x ^^^ t) (Nat.xor_lt_two_pow (n := 8) hx2 ht)
    have HT := Lib.hid hT
    have HX := Lib.hid hx
    obtain ⟨n, hn⟩ : ∃ n, n = (ls 2).length := ⟨_, rfl⟩
    rw [← hn] at c0 hj
    have hjI : ¬ ((n : Int) ≤ (j : Int)) := by omega
    clear ho hx hT h hv hn hbB
    go_enter Try.func30, Try.ntmps30
    go_wp2
    go_ret
    refine ⟨rfl, ?_, HT.out.2⟩
    unfold turnL
    rw [← HX.out]
    exact HT.out.1
end Go.Proofs.Ytpgophkegjeheaa
