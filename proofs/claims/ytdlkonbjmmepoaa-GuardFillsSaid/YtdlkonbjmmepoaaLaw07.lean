/- Layer 7: the example. -/
import Derived.Test.YtdlkonbjmmepoaaMem7
namespace Go.Proofs.Ytdlkonbjmmepoaa
open Go.RowKit Go.Own
set_option linter.unusedVariables false
set_option linter.unusedSimpArgs false

section
variable {w w' : World} {B B' g n : Nat} {v v' : Nat → Value} {ls : Nat → List Nat} {x : Value} {e : TypeId} {xs : List Value}
/-- A row that is none of the memory's. -/
def Off (g : Nat) (v : Nat → Value) (x : Value) : Prop := ∀ k, x.ownBlock = some k → k ≠ g ∧ ∀ i, i < 4 → (v i).ownBlock ≠ some k
theorem MStep.row (s : MStep g v v' w w') (ho : w.ownsRow B' e 1 x n xs) (hx : Off g v x) : w'.ownsRow B' e 1 x n xs ∧ Off g v' x := by
  refine ⟨?_, fun k hk => ⟨(hx k hk).1, s.apart k (ho.lt k hk).2 (hx k hk).2⟩⟩
  obtain ⟨h1, h2 | ⟨b, cap, cur, hv, hb, hr, h3⟩⟩ := ho
  · exact ⟨h1, .inl h2⟩
  · have hk : x.ownBlock = some b := by rw [hv]; rfl
    exact ⟨h1, .inr ⟨b, cap, cur, hv, hb, (s.block b (Array.getElem?_eq_some_iff.1 hr).1 (hx b hk).1 (hx b hk).2).trans hr, h3⟩⟩
theorem MemS.off (h : MemS w B g v ls) (hx : w'.ownsRow w.heap.size e 1 x n xs) : Off g v x := fun k hk =>
  ⟨fun e => by have := (hx.lt k hk).1; have := h.lt; omega, fun i hi e => by have := (hx.lt k hk).1; have := ((h.own i hi).lt k e).2; omega⟩
end
theorem gtop_no : gtop noL 3 = 0 := by decide +kernel
def cA : List Nat := mkCell 1 [97]
def cB : List Nat := mkCell 2 [98]
theorem awk_vote1 : (vst (sel4 cB cA cA []) 3).1 = 3 ∧ sel4 cB cA cA [] (vst (sel4 cB cA cA []) 3).2 = cB := by decide +kernel
theorem awk_vote2 : (vst (sel4 (turnL cB 7 1) cA cA []) 3).1 = 2 ∧ sel4 (turnL cB 7 1) cA cA [] (vst (sel4 (turnL cB 7 1) cA cA []) 3).2 = cA := by decide +kernel
theorem cA_dat : pdat cA = [97] := mkCell_dat _ _
theorem cB_dat : pdat cB = [98] := mkCell_dat _ _
theorem cB_len : cB.length = 9 := mkCell_len _ _
theorem awk_top : gtop (sel4 cA cA cA []) 3 = 1 := by decide +kernel
theorem strB_a : strB [97] = ⟨#[97]⟩ := by decide +kernel
theorem strB_b : strB [98] = ⟨#[98]⟩ := by decide +kernel
theorem awk_sel (l m k : List Nat) : ∀ i, i < 4 → sel4 l m m [] i = upd (sel4 l m m k) 3 [] i := by
  intro i hi
  have : i = 0 ∨ i = 1 ∨ i = 2 ∨ i = 3 := by omega
  rcases this with rfl | rfl | rfl | rfl <;> rfl
theorem awk_sel2 (l l' m k : List Nat) : ∀ i, i < 4 → sel4 l' m m k i = upd (sel4 l m m k) 0 l' i := by
  intro i hi
  have : i = 0 ∨ i = 1 ∨ i = 2 ∨ i = 3 := by omega
  rcases this with rfl | rfl | rfl | rfl <;> rfl
attribute [irreducible] cA cB
set_option maxRecDepth 100000 in
set_option maxHeartbeats 4000000 in
theorem awake07 (w : World) : Calls Try.prog 15 #[] w fun e w' => e = .returned (.bool true) ∧ Below w.heap.size w w' := by
  have kc := fun (w : World) (C : Array Value) (n c : Nat) => Lib.run_convert_bytes_const (P := Try.prog) w 22 5 C n c Try.underlying22 Try.underlying5
  go_enter Try.func15, Try.ntmps15
  go_wp2_with fail
  go_at_call 16
  refine (mNew w).mono ?_
  rintro e w1 ⟨rfl, hm, hb⟩
  obtain ⟨n0, hn0⟩ : ∃ n0, n0 = w.heap.size := ⟨_, rfl⟩
  rw [← hn0] at hm hb ⊢
  have S := Lib.hid hb
  have H := Lib.hid hm
  have HN0 := Lib.hid hn0
  clear hm hb hn0
  go_wp2_with fail
  go_at_call 18
  have hal : Below w1.heap.size w1 (w1.alloc (.cells #[.int .u8 97] 5 (1, 2))) := (Below.refl _ _).alloc (Nat.le_refl _) _
  refine (mFill (some ⟨w1.heap.size, 0, none⟩) 1 _ [97] (H.out.below hal) (Nat.le_refl _) (rd_lit (l := [97]) (heap_alloc_new _ _) (by decide)) (by unfold bytes; decide)).mono ?_
  rintro e w2 (⟨h, _⟩ | ⟨_, h, _⟩ | ⟨_, _, rfl, v2, hm2, hs2⟩)
  · exact absurd h (by decide)
  · rw [gtop_no] at h; exact absurd h (by decide)
  have hs2 := ((MStep.of_below hal).trans hs2).below H.out
  have S2 := Lib.hid (S.out.trans hs2)
  rw [gtop_no, show mkCell (0 + 1) [97] = cA from by unfold cA; rfl] at hm2
  have H2 := Lib.hid hm2
  clear hm2 hs2 hal S H
  go_wp2_with fail
  go_at_call 21
  have hal : Below w2.heap.size w2 (w2.alloc (.cells #[.int .u8 98] 5 (1, 2))) := (Below.refl _ _).alloc (Nat.le_refl _) _
  refine (mBegin (some ⟨w2.heap.size, 0, none⟩) 1 _ [98] (H2.out.below hal) (Nat.le_refl _) (rd_lit (l := [98]) (heap_alloc_new _ _) (by decide)) (by unfold bytes; decide)).mono ?_
  rintro e w3 (⟨h, _⟩ | ⟨_, h, _⟩ | ⟨_, _, h, _⟩ | ⟨_, _, _, rfl, v3, hm3, hs3⟩)
  · exact absurd h (by decide)
  · exact absurd rfl h
  · rw [awk_top] at h; exact absurd h (by decide)
  have hs3 := ((MStep.of_below hal).trans hs3).below H2.out
  have S3 := Lib.hid (S2.out.trans hs3)
  rw [awk_top, show mkCell (1 + 1) [98] = cB from by unfold cB; rfl] at hm3
  have H3 := Lib.hid hm3
  clear hm3 hs3 hal S2 H2
  go_wp2_with fail
  go_at_call 23
  refine (mReset H3.out).mono ?_
  rintro e w4 ⟨⟨u, rfl⟩, hm4, hs4⟩
  have S4 := Lib.hid (S3.out.trans (hs4.below H3.out))
  have H4 := Lib.hid (hm4.congr (ls' := sel4 cB cA cA []) (awk_sel _ _ _))
  clear hm4 hs4 S3 H3
  go_wp2_with fail
  go_at_call 24
  refine (mRead H4.out).mono ?_
  rintro e w5 ⟨hb5, ⟨h, _⟩ | ⟨_, x, c, rfl, hown⟩⟩
  · rw [awk_vote1.1] at h; exact absurd h (by decide)
  rw [awk_vote1.2, cB_dat] at hown
  rw [awk_vote1.2, cB_dat]
  have hoff := H4.out.off hown
  have S5 := Lib.hid (S4.out.trans (hb5.mono (by rw [HN0.out]; exact S4.out.size)))
  have H5 := Lib.hid (H4.out.below hb5)
  have HX := Lib.hid hown
  have HO := Lib.hid hoff
  clear hown hoff hb5 S4 H4
  go_wp2_with fail
  go_at_call 20
  refine (mFlip 0 7 1 H5.out (by omega) (by show 7 < cB.length; rw [cB_len]; omega) (by omega)).mono ?_
  rintro e w6 ⟨rfl, hm6, hs6⟩
  have S6 := Lib.hid (S5.out.trans (hs6.below H5.out))
  have H6 := Lib.hid (hm6.congr (ls' := sel4 (turnL cB 7 1) cA cA []) (awk_sel2 _ _ _ _))
  have HX6 := Lib.hid (hs6.row HX.out HO.out).1
  clear hm6 hs6 S5 H5 HX HO
  go_wp2_with fail
  go_at_call 24
  refine (mRead H6.out).mono ?_
  rintro e w7 ⟨hb7, ⟨h, _⟩ | ⟨_, y, d, rfl, hown⟩⟩
  · rw [awk_vote2.1] at h; exact absurd h (by decide)
  rw [awk_vote2.2, cA_dat] at hown
  rw [awk_vote2.2, cA_dat]
  have S7 := Lib.hid (S6.out.trans (hb7.mono (by rw [HN0.out]; exact S6.out.size)))
  have k1 := conv_own rfl (own_keep HX6.out hb7)
  have k2 := conv_own rfl hown
  rw [strB_b] at k1
  rw [strB_a] at k2
  simp only [List.length_cons, List.length_nil, Nat.reduceAdd] at k1 k2
  clear hown hb7 S6 H6 HX6 kc
  go_wp2
  go_ret
  exact ⟨rfl, by rw [← HN0.out]; exact S7.out⟩
end Go.Proofs.Ytdlkonbjmmepoaa
