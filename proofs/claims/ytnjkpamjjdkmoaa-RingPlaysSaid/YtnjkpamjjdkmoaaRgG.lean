/- Layer 3: what an act does; cleared; out of range. -/
import Derived.Test.YtnjkpamjjdkmoaaRgF
import Derived.Test.YtnjkpamjjdkmoaaRingO
namespace Go.Proofs.Ytnjkpamjjdkmoaa
open Go.RowKit Go.Own
set_option linter.unusedVariables false
set_option linter.unusedSimpArgs false
/-- A ring, and what an act answers. -/
structure RA where
  L : List Int
  lo : Nat
  d : Nat
  ret : Int
  out : List Int
def ringM (n k : Nat) (V M : Int) (L : List Int) (lo d : Nat) : RA :=
  if k % 6 = 2 then (if L.length < n then ⟨L ++ [V], lo, d, 1, []⟩ else ⟨L, lo, min (d + 1) 65535, 0, []⟩)
  else if k % 6 = 3 then (match L with | [] => ⟨[], lo, d, -1, []⟩ | y :: T => ⟨T, lo, d, y, []⟩)
  else if k % 6 = 4 then ⟨[], lo, d, 0, L⟩
  else if k % 6 = 5 then ⟨[], 0, 0, 0, []⟩
  else ⟨lastn n (L ++ vsP V (manyN M)), min (lo + (L.length + manyN M - n)) 65535, d, ((L.length + manyN M - n : Nat) : Int), []⟩
def RA.Ok (n : Nat) (r : RA) : Prop := r.L.length ≤ n ∧ r.lo ≤ 65535 ∧ r.d ≤ 65535
theorem ringM_ok {n k : Nat} {V M : Int} {L : List Int} {lo d : Nat} (h1 : L.length ≤ n) (h2 : lo ≤ 65535) (h3 : d ≤ 65535) : (ringM n k V M L lo d).Ok n := by
  unfold ringM RA.Ok
  split
  · split
    · refine ⟨?_, h2, h3⟩
      simp; omega
    · refine ⟨h1, h2, ?_⟩
      show min (d + 1) 65535 ≤ 65535
      omega
  · split
    · split
      · exact ⟨Nat.zero_le _, h2, h3⟩
      · refine ⟨?_, h2, h3⟩
        simp at h1 ⊢; omega
    · split
      · exact ⟨Nat.zero_le _, h2, h3⟩
      · split
        · exact ⟨Nat.zero_le _, Nat.zero_le _, Nat.zero_le _⟩
        · refine ⟨?_, ?_, h3⟩
          · show (lastn n _).length ≤ n
            rw [lastn_len]; omega
          · show min _ 65535 ≤ 65535
            omega
set_option maxHeartbeats 1000000 in
theorem D_any {w : World} {gx base n : Nat} {L : List Int} {lo d cap : Nat} {a : Option Addr} (k : Nat) (V M : Int) (hx : XS w gx base n L lo d a cap) (hn1 : 1 ≤ n) (hn : n ≤ 9) (hL : L.length ≤ n) (hlo : lo ≤ 65535) (hd : d ≤ 65535) (hV0 : -1000 ≤ V) (hV1 : V ≤ 1000) (hk2 : k < 256) (hbs : base ≤ w.heap.size) :
    Calls Try.prog 24 #[.pointer (some ⟨gx, 0, none⟩), .agg #[.int .u8 ((k : Nat) : Int), .int .i64 V, .int .i64 M]] w fun e w' => ∃ vo co a' cap', e = .returned (.tuple #[.int .i64 (ringM n k V M L lo d).ret, .slice vo (ringM n k V M L lo d).out.length co]) ∧ XS w' gx base n (ringM n k V M L lo d).L (ringM n k V M L lo d).lo (ringM n k V M L lo d).d a' cap' ∧ CutI base w' vo (ringM n k V M L lo d).out.length co (ringM n k V M L lo d).out ∧ BK gx a cap w w' := by
  by_cases h2 : k % 6 = 2
  · by_cases hr : L.length < n
    · rw [show ringM n k V M L lo d = ⟨L ++ [V], lo, d, 1, []⟩ by simp [ringM, h2, hr]]
      refine (D_offer_room k V M hx h2 hr hn hk2 hbs).mono ?_
      rintro e w' ⟨rfl, ⟨a', cap', hx'⟩, hb⟩
      exact ⟨none, 0, a', cap', rfl, hx', cut_nil _ _, hb⟩
    · rw [show ringM n k V M L lo d = ⟨L, lo, min (d + 1) 65535, 0, []⟩ by simp [ringM, h2, hr]]
      refine (D_offer_full k V M hx h2 (by omega) hn hd hk2).mono ?_
      rintro e w' ⟨rfl, hx', hb⟩
      exact ⟨none, 0, _, _, rfl, hx', cut_nil _ _, hb⟩
  by_cases h3 : k % 6 = 3
  · match L, hx, hL with
    | [], hx, _ =>
      rw [show ringM n k V M [] lo d = ⟨[], lo, d, -1, []⟩ by simp [ringM, h3]]
      refine (D_pop_none k V M hx h3 hk2).mono ?_
      rintro e w' ⟨rfl, hx', hb⟩
      exact ⟨none, 0, _, _, rfl, hx', cut_nil _ _, hb⟩
    | y :: T, hx, _ =>
      rw [show ringM n k V M (y :: T) lo d = ⟨T, lo, d, y, []⟩ by simp [ringM, h3]]
      refine (D_pop_some k V M hx h3 hk2).mono ?_
      rintro e w' ⟨rfl, ⟨a', cap', hx'⟩, hb⟩
      exact ⟨none, 0, a', cap', rfl, hx', cut_nil _ _, hb⟩
  by_cases h4 : k % 6 = 4
  · rw [show ringM n k V M L lo d = ⟨[], lo, d, 0, L⟩ by simp [ringM, h4]]
    refine (D_drain k V M hx h4 hk2).mono ?_
    rintro e w' ⟨rfl, hx', hb, hc⟩
    exact ⟨a, cap, _, _, rfl, hx', hc, hb⟩
  by_cases h5 : k % 6 = 5
  · rw [show ringM n k V M L lo d = ⟨[], 0, 0, 0, []⟩ by simp [ringM, h5]]
    refine (D_clear k V M hx h5 hk2).mono ?_
    rintro e w' ⟨rfl, hx', hb⟩
    exact ⟨none, 0, _, _, rfl, hx', cut_nil _ _, hb⟩
  · rw [show ringM n k V M L lo d = ⟨lastn n (L ++ vsP V (manyN M)), min (lo + (L.length + manyN M - n)) 65535, d, ((L.length + manyN M - n : Nat) : Int), []⟩ by simp [ringM, h2, h3, h4, h5]]
    refine (D_push k V M hx (by omega) hn1 hn hL hlo hV0 hV1 hk2 hbs).mono ?_
    rintro e w' ⟨rfl, ⟨a', cap', hx'⟩, hb⟩
    exact ⟨none, 0, a', cap', rfl, hx', cut_nil _ _, hb⟩
set_option maxRecDepth 100000 in
set_option maxHeartbeats 1000000 in
theorem rClear {w : World} {g b n l d : Nat} {L : List Int} (h : Ring w g b n L l d) : Calls Try.prog 95 #[.pointer (some ⟨g, 0, none⟩)] w fun e w' => (∃ v, e = .returned v) ∧ Ring w' g b n [] 0 0 ∧ Kept g b w w' := by
  have H := Lib.hid h
  clear h
  go_enter Try.func95, Try.ntmps95
  go_wp2_with fail
  go_at_call 131
  refine (rEmpty H.out).mono ?_
  rintro e w1 ⟨⟨v, rfl⟩, ⟨f, sl, h1, h2⟩, k1⟩
  have c3 := h1.c3
  have c4 := h1.c4
  have f3 := h1.fz 3
  have f4 := h1.fz 4
  have E1 := Lib.hid h1
  have E2 := Lib.hid h2
  have K1 := Lib.hid k1
  clear h1 h2 k1
  go_wp2
  go_end0
  exact ⟨⟨_, rfl⟩, ⟨f, _, (E1.out.setLost 0 (by omega)).setDropped 0 (by omega), E2.out⟩, (K1.out.set (a := ⟨g, 3, none⟩) (.inl rfl) _).set (a := ⟨g, 4, none⟩) (.inl rfl) _⟩
set_option maxRecDepth 100000 in
set_option maxHeartbeats 1000000 in
theorem rAt_none {w : World} {g b n l d : Nat} {L : List Int} (h : Ring w g b n L l d) (i : Int) (hi : ¬ (0 ≤ i ∧ i < (L.length : Int))) : Calls Try.prog 32 #[.pointer (some ⟨g, 0, none⟩), .int .i64 i] w fun e w' => e = .returned (.tuple #[.int .i64 0, .bool false]) ∧ ∃ q, w' = w.drewN q := by
  have hle := h.le
  have H := Lib.hid h
  obtain ⟨c, hc⟩ : ∃ c, c = L.length := ⟨_, rfl⟩
  have HC := Lib.hid hc
  rw [← hc] at hi
  clear h hc
  by_cases h0 : i < 0
  · clear hi
    go_enter Try.func32, Try.ntmps32
    go_wp2
    go_ret2
    exact ⟨rfl, 0, rfl⟩
  · have h1 : (c : Int) ≤ i := by omega
    clear hi
    go_enter Try.func32, Try.ntmps32
    go_wp2_with fail
    go_at_call 27
    refine (rLen H.out).mono ?_
    rintro e w' ⟨rfl, rfl⟩
    rw [← HC.out]
    go_wp2
    go_ret2
    exact ⟨rfl, 0, rfl⟩
end Go.Proofs.Ytnjkpamjjdkmoaa
