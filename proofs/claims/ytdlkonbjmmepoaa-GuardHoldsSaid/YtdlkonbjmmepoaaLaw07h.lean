/- GuardHolds: wherever it is cut, with one copy spoilt at most. -/
import Derived.Test.YtdlkonbjmmepoaaLaw07n
namespace Go.Proofs.Ytdlkonbjmmepoaa
open Go.RowKit Go.Own
set_option linter.unusedVariables false
set_option linter.unusedSimpArgs false

/-- What a hit does. -/
def hitL (when at_ : Nat) (ls : Nat → List Nat) : Nat → List Nat := if at_ / 3 % 4 = when then upd ls (at_ % 3) (turnL (ls (at_ % 3)) (at_ / 12 % 8) (2 ^ (at_ / 100 % 8))) else ls
theorem box_step {w w' : World} {B g b : Nat} {v v' : Nat → Value} {ls : Nat → List Nat} {cs : Array Value} {t : TypeId} (s : MStep g v v' w w') (m : MemS w B g v ls) (hb : w.heap[b]? = some (.cells cs t (0, 0))) (hne : b ≠ g) (ht : t ≠ 5) : w'.heap[b]? = some (.cells cs t (0, 0)) :=
  (s.block b (box_lt hb) hne (fun i hi e => box_apart hb (m.own i hi) ht e.symm)).trans hb
theorem pow_u8n {r t : Nat} (h : 2 ^ r < 256) (ht : t = 2 ^ r) : IntKind.u8.wrap ((2 : Int) ^ r) = (t : Int) := pow_u8 h ht
set_option maxRecDepth 100000 in
set_option maxHeartbeats 4000000 in
theorem hit_any {w : World} {B g ba bm when at_ : Nat} {v : Nat → Value} {ls : Nat → List Nat} (h : MemS w B g v ls) (h8 : ∀ i, i < 3 → 8 ≤ (ls i).length) (hat : at_ < 65536) (hwh : when < 4)
    (hba : w.heap[ba]? = some (.cells #[.int .u16 (at_ : Nat)] 31 (0, 0))) (hbm : w.heap[bm]? = some (.cells #[.pointer (some ⟨g, 0, none⟩)] 26 (0, 0))) :
    Calls Try.prog 19 #[.int .u16 (when : Nat), .pointer (some ⟨ba, 0, none⟩), .pointer (some ⟨bm, 0, none⟩)] w fun e w' => (∃ u, e = .returned u) ∧ MemS w' B g v (hitL when at_ ls) ∧ MStep g v v w w' := by
  have c0 := box_cell hba
  have c1 := box_cell hbm
  obtain ⟨q3, hq3⟩ : ∃ q, q = at_ / 3 := ⟨_, rfl⟩
  obtain ⟨r4, hr4⟩ : ∃ q, q = q3 % 4 := ⟨_, rfl⟩
  have e1 : (at_ : Int) / 3 = (q3 : Int) := by omega
  have e2 : (q3 : Int) % 4 = (r4 : Int) := by omega
  by_cases hit : r4 = when
  · have hb : ((r4 : Int) == (when : Int)) = true := by rw [beq_iff_eq]; omega
    obtain ⟨x, hx⟩ : ∃ q, q = at_ % 3 := ⟨_, rfl⟩
    obtain ⟨q12, hq12⟩ : ∃ q, q = at_ / 12 := ⟨_, rfl⟩
    obtain ⟨j, hj⟩ : ∃ q, q = q12 % 8 := ⟨_, rfl⟩
    obtain ⟨q100, hq100⟩ : ∃ q, q = at_ / 100 := ⟨_, rfl⟩
    obtain ⟨r, hr⟩ : ∃ q, q = q100 % 8 := ⟨_, rfl⟩
    have e3 : (at_ : Int) % 3 = (x : Int) := by omega
    have e4 : (at_ : Int) / 12 = (q12 : Int) := by omega
    have e5 : (q12 : Int) % 8 = (j : Int) := by omega
    have e6 : (at_ : Int) / 100 = (q100 : Int) := by omega
    have e7 : (q100 : Int) % 8 = (r : Int) := by omega
    have hx3 : x < 3 := by omega
    have hj8 : j < 8 := by omega
    have ht : 2 ^ r < 256 := by rw [hr]; exact pow8_lt q100
    obtain ⟨t, ht'⟩ : ∃ t, t = 2 ^ r := ⟨_, rfl⟩
    have g1 : IntKind.u8.wrap ((2 : Int) ^ r) = (t : Int) := pow_u8 ht ht'
    rw [← ht'] at ht
    have hF := mFlip x j t h hx3 (by have := h8 x hx3; omega) ht
    have e : hitL when at_ ls = upd ls x (turnL (ls x) j t) := by
      unfold hitL
      rw [if_pos (by rw [← hq3, ← hr4]; exact hit), ← hx, ← hq12, ← hj, ← hq100, ← hr, ← ht']
    rw [e]
    have HF := Lib.hid hF
    clear hF e h h8 hba hbm hx hq12 hj hq100 hr ht' hq3 hr4 hit
    go_enter Try.func19, Try.ntmps19
    go_wp2_with fail
    go_at_call 20
    refine HF.out.mono ?_
    rintro e w' ⟨rfl, hm, hs⟩
    have HM := Lib.hid hm
    have HS := Lib.hid hs
    clear hm hs HF
    go_wp2
    go_end0
    exact ⟨⟨_, rfl⟩, HM.out, HS.out⟩
  · have hb : ((r4 : Int) == (when : Int)) = false := by rw [beq_eq_false_iff_ne]; omega
    have e : hitL when at_ ls = ls := by
      unfold hitL
      rw [if_neg (by rw [← hq3, ← hr4]; exact hit)]
    rw [e]
    have H := Lib.hid h
    clear e h h8 hba hbm hq3 hr4 hit
    go_enter Try.func19, Try.ntmps19
    go_wp2
    go_end0
    exact ⟨⟨_, rfl⟩, H.out, MStep.refl _ _ _⟩
/-- A cell that is right. -/
structure Fine (c : List Nat) : Prop where
  byt : bytes c
  err : perr c = 0
  len : 8 ≤ c.length
theorem Fine.turn {c : List Nat} (h : Fine c) (at_ : Nat) : perr (turnL c (at_ / 12 % 8) (2 ^ (at_ / 100 % 8))) ≠ 0 :=
  turned_err h.byt h.err (by have := h.len; omega) (Nat.ne_of_gt (Nat.pow_pos (by decide))) (pow8_lt _)
theorem hitL_3 (when at_ : Nat) (ls : Nat → List Nat) : hitL when at_ ls 3 = ls 3 := by
  unfold hitL
  split
  · rw [upd_other _ _ (by omega)]
  · rfl
theorem hitL_len (when at_ : Nat) (ls : Nat → List Nat) (i : Nat) : (hitL when at_ ls i).length = (ls i).length := by
  unfold hitL
  split
  · by_cases h : i = at_ % 3
    · subst h; rw [upd_same, turnL_len]
    · rw [upd_other _ _ h]
  · rfl
/-- Which cells are told. -/
theorem best_of {ls : Nat → List Nat} {c d : List Nat} (h2 : 2 ≤ (vst ls 3).1) (h : ∀ i, i < 3 → ls i = c ∨ ls i = d ∨ perr (ls i) ≠ 0) : best ls = c ∨ best ls = d := by
  obtain ⟨h3, h4⟩ := best_ok h2
  unfold best at h4 ⊢
  rcases h _ h3 with h | h | h
  · exact .inl h
  · exact .inr h
  · exact absurd h4 h
theorem best_new {ls : Nat → List Nat} {c d : List Nat} (h2 : 2 ≤ (vst ls 3).1) (h : ∀ i, i < 3 → ls i = c ∨ ls i = d ∨ perr (ls i) ≠ 0) (hd : perr d = 0) (hlt : pseq c < pseq d) {i : Nat} (hi : i < 3) (hid : ls i = d) : best ls = d := by
  rcases best_of h2 h with e | e
  · have := (vst_good ls 3 (by omega)).2 i hi (by rw [hid]; exact hd)
    rw [hid] at this
    unfold best at e
    rw [e] at this
    omega
  · exact e
section
variable {c d : List Nat} (hc : Fine c) (hd : Fine d) (at_ : Nat)
def A1 (c : List Nat) (at_ : Nat) : Nat → List Nat := hitL 1 at_ (sel4 c c c [])
def A2 (c d : List Nat) (at_ : Nat) : Nat → List Nat := hitL 2 at_ (sel4 d (A1 c at_ 1) (A1 c at_ 2) d)
def A0 (c : List Nat) (at_ : Nat) : Nat → List Nat := hitL 3 at_ (hitL 2 at_ (A1 c at_))
def A3 (c d : List Nat) (at_ : Nat) : Nat → List Nat := hitL 3 at_ (A2 c d at_)
def A4 (c d : List Nat) (at_ : Nat) : Nat → List Nat := hitL 3 at_ (sel4 (A2 c d at_ 0) d d [])
theorem A1_top (hc : Fine c) : gtop (A1 c at_) 3 = pseq c := by
  have hb := hc.turn at_
  have he := hc.err
  have hw : at_ / 3 % 4 = 0 ∨ at_ / 3 % 4 = 1 ∨ at_ / 3 % 4 = 2 ∨ at_ / 3 % 4 = 3 := by omega
  have hx : at_ % 3 = 0 ∨ at_ % 3 = 1 ∨ at_ % 3 = 2 := by omega
  rw [gtop3]
  rcases hw with h | h | h | h <;> rcases hx with k | k | k <;> simp [A1, hitL, h, k, upd, sel4, he, hb]
theorem A0_good (hc : Fine c) : 2 ≤ (vst (upd (A0 c at_) 3 []) 3).1 ∧ best (upd (A0 c at_) 3 []) = c := by
  have hb := hc.turn at_
  have he := hc.err
  have h2 : 2 ≤ (vst (upd (A0 c at_) 3 []) 3).1 := by
    have hw : at_ / 3 % 4 = 0 ∨ at_ / 3 % 4 = 1 ∨ at_ / 3 % 4 = 2 ∨ at_ / 3 % 4 = 3 := by omega
    have hx : at_ % 3 = 0 ∨ at_ % 3 = 1 ∨ at_ % 3 = 2 := by omega
    rcases hw with h | h | h | h <;> rcases hx with k | k | k <;> simp [A0, A1, hitL, h, k, upd, sel4, he, hb, vst_cnt, vst]
  refine ⟨h2, ?_⟩
  have hall : ∀ i, i < 3 → upd (A0 c at_) 3 [] i = c ∨ upd (A0 c at_) 3 [] i = c ∨ perr (upd (A0 c at_) 3 [] i) ≠ 0 := by
    intro i hi
    have hw : at_ / 3 % 4 = 0 ∨ at_ / 3 % 4 = 1 ∨ at_ / 3 % 4 = 2 ∨ at_ / 3 % 4 = 3 := by omega
    have hx : at_ % 3 = 0 ∨ at_ % 3 = 1 ∨ at_ % 3 = 2 := by omega
    rcases three_cases hi with rfl | rfl | rfl <;> rcases hw with h | h | h | h <;> rcases hx with k | k | k <;> simp [A0, A1, hitL, h, k, upd, sel4, hb]
  rcases best_of h2 hall with e | e <;> exact e
theorem A3_good (hc : Fine c) (hd : Fine d) : 2 ≤ (vst (upd (A3 c d at_) 3 []) 3).1 ∧ (best (upd (A3 c d at_) 3 []) = c ∨ best (upd (A3 c d at_) 3 []) = d) := by
  have hb := hc.turn at_
  have he := hc.err
  have hb' := hd.turn at_
  have he' := hd.err
  have h2 : 2 ≤ (vst (upd (A3 c d at_) 3 []) 3).1 := by
    have hw : at_ / 3 % 4 = 0 ∨ at_ / 3 % 4 = 1 ∨ at_ / 3 % 4 = 2 ∨ at_ / 3 % 4 = 3 := by omega
    have hx : at_ % 3 = 0 ∨ at_ % 3 = 1 ∨ at_ % 3 = 2 := by omega
    rcases hw with h | h | h | h <;> rcases hx with k | k | k <;> simp [A3, A2, A1, hitL, h, k, upd, sel4, he, hb, he', hb', vst_cnt, vst]
  refine ⟨h2, best_of h2 (fun i hi => ?_)⟩
  have hw : at_ / 3 % 4 = 0 ∨ at_ / 3 % 4 = 1 ∨ at_ / 3 % 4 = 2 ∨ at_ / 3 % 4 = 3 := by omega
  have hx : at_ % 3 = 0 ∨ at_ % 3 = 1 ∨ at_ % 3 = 2 := by omega
  rcases three_cases hi with rfl | rfl | rfl <;> rcases hw with h | h | h | h <;> rcases hx with k | k | k <;> simp [A3, A2, A1, hitL, h, k, upd, sel4, hb, hb']
theorem A4_good (hc : Fine c) (hd : Fine d) : 2 ≤ (vst (upd (A4 c d at_) 3 []) 3).1 ∧ best (upd (A4 c d at_) 3 []) = d := by
  have hb := hc.turn at_
  have he := hc.err
  have hb' := hd.turn at_
  have he' := hd.err
  have h2 : 2 ≤ (vst (upd (A4 c d at_) 3 []) 3).1 := by
    have hw : at_ / 3 % 4 = 0 ∨ at_ / 3 % 4 = 1 ∨ at_ / 3 % 4 = 2 ∨ at_ / 3 % 4 = 3 := by omega
    have hx : at_ % 3 = 0 ∨ at_ % 3 = 1 ∨ at_ % 3 = 2 := by omega
    rcases hw with h | h | h | h <;> rcases hx with k | k | k <;> simp [A4, A2, A1, hitL, h, k, upd, sel4, he, hb, he', hb', vst_cnt, vst]
  refine ⟨h2, ?_⟩
  have hall : ∀ i, i < 3 → upd (A4 c d at_) 3 [] i = d ∨ upd (A4 c d at_) 3 [] i = d ∨ perr (upd (A4 c d at_) 3 [] i) ≠ 0 := by
    intro i hi
    have hw : at_ / 3 % 4 = 0 ∨ at_ / 3 % 4 = 1 ∨ at_ / 3 % 4 = 2 ∨ at_ / 3 % 4 = 3 := by omega
    have hx : at_ % 3 = 0 ∨ at_ % 3 = 1 ∨ at_ % 3 = 2 := by omega
    rcases three_cases hi with rfl | rfl | rfl <;> rcases hw with h | h | h | h <;> rcases hx with k | k | k <;> simp [A4, A2, A1, hitL, h, k, upd, sel4, hb, hb']
  rcases best_of h2 hall with e | e <;> exact e
end
end Go.Proofs.Ytdlkonbjmmepoaa
