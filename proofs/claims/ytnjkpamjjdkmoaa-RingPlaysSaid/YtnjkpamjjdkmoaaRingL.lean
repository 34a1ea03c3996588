/- Layer 3 (rings of ints): a ring is a list. -/
import Derived.Test.YtnjkpamjjdkmoaaRingK
namespace Go.Proofs.Ytnjkpamjjdkmoaa
open Go.RowKit Go.Own
set_option linter.unusedVariables false
set_option linter.unusedSimpArgs false

/-- The ring holds the list L. -/
def Ring (w : World) (g b n : Nat) (L : List Int) (l d : Nat) : Prop :=
  ∃ (f : Nat) (sl : List Int), RingS w g b n f L.length l d sl ∧ ∀ i, i < L.length → sl.getD ((f + i) % n) 0 = L.getD i 0
theorem wrapn {f i n : Nat} (hf : f < n) (hi : i ≤ n) : (f + i) % n = if f + i < n then f + i else f + i - n := by
  split
  · rename_i h; exact Nat.mod_eq_of_lt h
  · rename_i h
    rw [Nat.mod_eq_sub_mod (by omega), Nat.mod_eq_of_lt (by omega)]
theorem wrap_ne {f i j n : Nat} (hf : f < n) (hi : i < n) (hj : j < n) (h : i ≠ j) : (f + i) % n ≠ (f + j) % n := by
  rw [wrapn hf (by omega), wrapn hf (by omega)]
  split <;> split <;> omega
theorem getD_set_other (l : List Int) {i j : Nat} (x : Int) (h : i ≠ j) : (l.set i x).getD j 0 = l.getD j 0 := by
  simp only [List.getD, List.getElem?_set, h, if_false]
theorem getD_set_here (l : List Int) {i : Nat} (x : Int) (h : i < l.length) : (l.set i x).getD i 0 = x := by
  simp [List.getD, h]
theorem Ring.below {w w' : World} {g b n l d : Nat} {L : List Int} (h : Ring w g b n L l d) {k : Nat} (hb : Below k w w') (hk : w.heap.size ≤ k) : Ring w' g b n L l d := by
  obtain ⟨f, sl, h1, h2⟩ := h
  exact ⟨f, sl, h1.below hb hk, h2⟩
theorem Ring.kept {w w' : World} {g b g' b' n l d : Nat} {L : List Int} (h : Ring w g b n L l d) (hk : Kept g' b' w w') (h1 : g ≠ g') (h2 : g ≠ b') (h3 : b ≠ g') (h4 : b ≠ b') : Ring w' g b n L l d := by
  obtain ⟨f, sl, e1, e2⟩ := h
  exact ⟨f, sl, e1.kept hk h1 h2 h3 h4, e2⟩
theorem Ring.le {w : World} {g b n l d : Nat} {L : List Int} (h : Ring w g b n L l d) : L.length ≤ n ∧ 1 ≤ n ∧ n ≤ 4096 ∧ l ≤ 65535 ∧ d ≤ 65535 ∧ g < w.heap.size ∧ b < w.heap.size ∧ g ≠ b := by
  obtain ⟨f, sl, h1, h2⟩ := h
  exact ⟨h1.hc, h1.n1, h1.n2, h1.hl, h1.hd, box_lt h1.head, box_lt h1.row, h1.ne⟩
theorem ring_put {w : World} {g b n f l d : Nat} {sl : List Int} {L : List Int} (x : Int) (hn : L.length < n) (hf : f < n) (hl : sl.length = n) (h : ∀ i, i < L.length → sl.getD ((f + i) % n) 0 = L.getD i 0) :
    ∀ i, i < (L ++ [x]).length → (sl.set ((f + L.length) % n) x).getD ((f + i) % n) 0 = (L ++ [x]).getD i 0 := by
  intro i hi
  simp only [List.length_append, List.length_singleton] at hi
  rcases Nat.lt_or_ge i L.length with h1 | h1
  · rw [getD_set_other _ _ (wrap_ne hf (by omega) (by omega) (by omega)), h i h1]
    simp [List.getD, List.getElem?_append, h1]
  · obtain rfl : i = L.length := by omega
    rw [getD_set_here _ _ (by rw [hl]; exact Nat.mod_lt _ (by omega))]
    simp [List.getD]
theorem ring_pop {n f : Nat} {sl : List Int} {y : Int} {L : List Int} (hn : L.length < n) (hf : f < n) (h : ∀ i, i < (y :: L).length → sl.getD ((f + i) % n) 0 = (y :: L).getD i 0) :
    sl.getD f 0 = y ∧ ∀ i, i < L.length → (sl.set f 0).getD (((f + 1) % n + i) % n) 0 = L.getD i 0 := by
  constructor
  · have := h 0 (by simp)
    rw [Nat.add_zero, Nat.mod_eq_of_lt hf] at this
    simpa using this
  · intro i hi
    have e : ((f + 1) % n + i) % n = (f + (i + 1)) % n := by rw [Nat.mod_add_mod]; congr 1; omega
    have hne : f ≠ (f + (i + 1)) % n := by
      have := wrap_ne (i := 0) (j := i + 1) hf (by omega) (by omega) (by omega)
      rw [Nat.add_zero, Nat.mod_eq_of_lt hf] at this
      exact this
    rw [e, getD_set_other _ _ hne, h (i + 1) (by simp; omega)]
    simp [List.getD]

section
variable {w : World} {g b n l d : Nat} {L : List Int}
theorem rLen (h : Ring w g b n L l d) : Calls Try.prog 27 #[.pointer (some ⟨g, 0, none⟩)] w fun e w' => e = .returned (.int .i64 (L.length : Nat)) ∧ w = w' := by
  obtain ⟨f, sl, h1, _⟩ := h
  exact iLen_any h1
theorem rRoom (h : Ring w g b n L l d) : Calls Try.prog 28 #[.pointer (some ⟨g, 0, none⟩)] w fun e w' => e = .returned (.int .i64 ((n - L.length : Nat) : Int)) ∧ ∃ q, w' = w.drewN q := by
  obtain ⟨f, sl, h1, _⟩ := h
  exact iRoom_any h1
theorem rLost (h : Ring w g b n L l d) : Calls Try.prog 29 #[.pointer (some ⟨g, 0, none⟩)] w fun e w' => e = .returned (.int .i64 (l : Nat)) ∧ w = w' := by
  obtain ⟨f, sl, h1, _⟩ := h
  exact iLost_any h1
theorem rDropped (h : Ring w g b n L l d) : Calls Try.prog 30 #[.pointer (some ⟨g, 0, none⟩)] w fun e w' => e = .returned (.int .i64 (d : Nat)) ∧ w = w' := by
  obtain ⟨f, sl, h1, _⟩ := h
  exact iDropped_any h1
theorem rPut (x : Int) (h : Ring w g b n L l d) (hc : L.length < n) : Calls Try.prog 129 #[.pointer (some ⟨g, 0, none⟩), .int .i64 x] w fun e w' => (∃ v, e = .returned v) ∧ Ring w' g b n (L ++ [x]) l d ∧ Kept g b w w' := by
  obtain ⟨f, sl, h1, h2⟩ := h
  refine (iput_any x h1 hc).mono ?_
  rintro e w' ⟨hv, h3, hk⟩
  refine ⟨hv, ⟨f, _, by simpa using h3, ring_put (w := w) (g := g) (b := b) (l := l) (d := d) x hc h1.hf h1.len h2⟩, hk⟩
theorem rPop_none (h : Ring w g b n [] l d) : Calls Try.prog 92 #[.pointer (some ⟨g, 0, none⟩)] w fun e w' => e = .returned (.tuple #[.int .i64 0, .bool false]) ∧ w = w' := by
  obtain ⟨f, sl, h1, h2⟩ := h
  exact iPop_none h1
theorem rPop_some {y : Int} (h : Ring w g b n (y :: L) l d) : Calls Try.prog 92 #[.pointer (some ⟨g, 0, none⟩)] w fun e w' => e = .returned (.tuple #[.int .i64 y, .bool true]) ∧ Ring w' g b n L l d ∧ Kept g b w w' := by
  obtain ⟨f, sl, h1, h2⟩ := h
  have hc := h1.hc
  simp only [List.length_cons] at h1 hc
  obtain ⟨e1, e2⟩ := ring_pop (by omega) h1.hf h2
  refine (iPop_some h1).mono ?_
  rintro e w' ⟨rfl, h3, hk⟩
  exact ⟨by rw [e1], ⟨_, _, h3, e2⟩, hk⟩

set_option maxRecDepth 100000 in
set_option maxHeartbeats 1000000 in
theorem rOffer_full (x : Int) (h : Ring w g b n L l d) (hc : L.length = n) : Calls Try.prog 91 #[.pointer (some ⟨g, 0, none⟩), .int .i64 x] w fun e w' => e = .returned (.bool false) ∧ Ring w' g b n L l (min (d + 1) 65535) ∧ Kept g b w w' := by
  have hle := h.le
  have h0 : n - L.length = 0 := by omega
  have H := Lib.hid h
  have HZ := Lib.hid h0
  clear h h0 hc
  go_enter Try.func91, Try.ntmps91
  go_wp2_with fail
  go_at_call 28
  refine (rRoom H.out).mono ?_
  rintro e w' ⟨rfl, q, rfl⟩
  rw [HZ.out]
  have h1 : Ring (w.drewN q) g b n L l d := H.out.below (below_drewsI _ _ q) (Nat.le_refl _)
  have K1 := Lib.hid ((Kept.refl g b w).drewN q)
  obtain ⟨w1, hw1⟩ : ∃ w1, w1 = w.drewN q := ⟨_, rfl⟩
  rw [← hw1] at h1 K1
  rw [← hw1]
  obtain ⟨f, sl, e1, e2⟩ := h1
  have c4 := e1.c4
  have f4 := e1.fz 4
  have hd := e1.hd
  have E1 := Lib.hid e1
  have E2 := Lib.hid e2
  clear hw1 e1 e2
  go_wp2_with (go_at_call 128; refine (more_any d 1 _ hd (by omega)).mono ?_; rintro e w' ⟨rfl, rfl⟩)
  go_ret
  refine ⟨rfl, ⟨f, sl, E1.out.setDropped _ (by omega), E2.out⟩, K1.out.set (a := ⟨g, 4, none⟩) (.inl rfl) _⟩
set_option maxRecDepth 100000 in
set_option maxHeartbeats 1000000 in
theorem rOffer_room (x : Int) (h : Ring w g b n L l d) (hc : L.length < n) : Calls Try.prog 91 #[.pointer (some ⟨g, 0, none⟩), .int .i64 x] w fun e w' => e = .returned (.bool true) ∧ Ring w' g b n (L ++ [x]) l d ∧ Kept g b w w' := by
  have hle := h.le
  have hz : (((n - L.length : Nat) : Int) == 0) = false := by rw [beq_eq_false_iff_ne]; omega
  obtain ⟨r, hr⟩ : ∃ r, r = n - L.length := ⟨_, rfl⟩
  rw [← hr] at hz
  have H := Lib.hid h
  have HR := Lib.hid hr
  clear h hr
  go_enter Try.func91, Try.ntmps91
  go_wp2_with fail
  go_at_call 28
  refine (rRoom H.out).mono ?_
  rintro e w' ⟨rfl, q, rfl⟩
  rw [← HR.out]
  have h1 : Ring (w.drewN q) g b n L l d := H.out.below (below_drewsI _ _ q) (Nat.le_refl _)
  have K1 := Lib.hid ((Kept.refl g b w).drewN q)
  obtain ⟨w1, hw1⟩ : ∃ w1, w1 = w.drewN q := ⟨_, rfl⟩
  rw [← hw1] at h1 K1
  rw [← hw1]
  have H1 := Lib.hid h1
  clear hw1 h1
  go_wp2_with fail
  go_at_call 129
  refine (rPut x H1.out hc).mono ?_
  rintro e w2 ⟨⟨v, rfl⟩, h2, k2⟩
  go_wp2
  go_ret
  exact ⟨rfl, h2, K1.out.trans k2⟩
end
end Go.Proofs.Ytnjkpamjjdkmoaa
