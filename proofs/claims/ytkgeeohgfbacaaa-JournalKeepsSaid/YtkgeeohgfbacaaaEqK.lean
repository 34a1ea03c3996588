/- Contracts of layer 3 (rings of entries), on: a ring is a list; offered, looked at, made. -/
import Derived.Test.YtkgeeohgfbacaaaEqJ
namespace Go.Proofs.Ytkgeeohgfbacaaa.Je
open Go.RowKit Go.Own
set_option linter.unusedVariables false
set_option linter.unusedSimpArgs false
/-- The ring holds the list L. -/
def Ring (w : World) (g b n : Nat) (L : List En) (d : Nat) : Prop :=
  ∃ (f : Nat) (sl : List En), RingP w g b n f L.length d sl ∧ ∀ i, i < L.length → sl.getD ((f + i) % n) en0 = L.getD i en0
theorem wrapn {f i n : Nat} (hf : f < n) (hi : i ≤ n) : (f + i) % n = if f + i < n then f + i else f + i - n := by
  split
  · rename_i h; exact Nat.mod_eq_of_lt h
  · rename_i h
    rw [Nat.mod_eq_sub_mod (by omega), Nat.mod_eq_of_lt (by omega)]
theorem wrap_ne {f i j n : Nat} (hf : f < n) (hi : i < n) (hj : j < n) (h : i ≠ j) : (f + i) % n ≠ (f + j) % n := by
  rw [wrapn hf (by omega), wrapn hf (by omega)]
  split <;> split <;> omega
theorem getD_set_other (l : List En) {i j : Nat} (x : En) (h : i ≠ j) : (l.set i x).getD j en0 = l.getD j en0 := by
  simp only [List.getD, List.getElem?_set, h, if_false]
theorem getD_set_here (l : List En) {i : Nat} (x : En) (h : i < l.length) : (l.set i x).getD i en0 = x := by
  simp [List.getD, h]
theorem Ring.below {w w' : World} {g b n d : Nat} {L : List En} (h : Ring w g b n L d) {k : Nat} (hb : Below k w w') (hk : w.heap.size ≤ k) : Ring w' g b n L d := by
  obtain ⟨f, sl, h1, h2⟩ := h
  exact ⟨f, sl, h1.below hb hk, h2⟩
theorem Ring.same {w w' : World} {g b n d : Nat} {L : List En} (h : Ring w g b n L d) (e1 : w'.heap[g]? = w.heap[g]?) (e2 : w'.heap[b]? = w.heap[b]?) : Ring w' g b n L d := by
  obtain ⟨f, sl, h1, h2⟩ := h
  exact ⟨f, sl, h1.same e1 e2, h2⟩
theorem Ring.le {w : World} {g b n d : Nat} {L : List En} (h : Ring w g b n L d) : L.length ≤ n ∧ 1 ≤ n ∧ n ≤ 4096 ∧ d ≤ 65535 ∧ g < w.heap.size ∧ b < w.heap.size ∧ g ≠ b := by
  obtain ⟨f, sl, h1, h2⟩ := h
  exact ⟨h1.hc, h1.n1, h1.n2, h1.hd, box_lt h1.head, h1.hb, h1.ne⟩
theorem ring_put {n f : Nat} {sl : List En} {L : List En} (x : En) (hn : L.length < n) (hf : f < n) (hl : sl.length = n) (h : ∀ i, i < L.length → sl.getD ((f + i) % n) en0 = L.getD i en0) :
    ∀ i, i < (L ++ [x]).length → (sl.set ((f + L.length) % n) x).getD ((f + i) % n) en0 = (L ++ [x]).getD i en0 := by
  intro i hi
  simp only [List.length_append, List.length_singleton] at hi
  rcases Nat.lt_or_ge i L.length with h1 | h1
  · rw [getD_set_other _ _ (wrap_ne hf (by omega) (by omega) (by omega)), h i h1]
    simp [List.getD, List.getElem?_append, h1]
  · obtain rfl : i = L.length := by omega
    rw [getD_set_here _ _ (by rw [hl]; exact Nat.mod_lt _ (by omega))]
    simp [List.getD]
theorem ring_pop {n f : Nat} {sl : List En} {y : En} {L : List En} (hn : L.length < n) (hf : f < n) (h : ∀ i, i < (y :: L).length → sl.getD ((f + i) % n) en0 = (y :: L).getD i en0) :
    sl.getD f en0 = y ∧ ∀ i, i < L.length → (sl.set f en0).getD (((f + 1) % n + i) % n) en0 = L.getD i en0 := by
  constructor
  · have := h 0 (by simp)
    rw [Nat.add_zero, Nat.mod_eq_of_lt hf] at this
    simpa using this
  · intro i hi
    have e : ((f + 1) % n + i) % n = (f + (i + 1)) % n := by rw [Nat.mod_add_mod]; congr 1; omega
    have hne : f ≠ (f + (i + 1)) % n := by
      have := wrap_ne (i := 0) (j := i + 1) hf (by omega) (by omega) (by omega)
      rw [Nat.add_zero, Nat.mod_eq_of_lt hf] at this
      exact this
    rw [e, getD_set_other _ _ hne, h (i + 1) (by simp; omega)]
    simp [List.getD]
section
variable {w : World} {g b n d : Nat} {L : List En}
theorem rLen (h : Ring w g b n L d) : Calls Try.prog 117 #[.pointer (some ⟨g, 0, none⟩)] w fun e w' => e = .returned (.int .i64 (L.length : Nat)) ∧ w = w' := by
  obtain ⟨f, sl, h1, _⟩ := h
  exact iLen_any h1
theorem rRoom (h : Ring w g b n L d) : Calls Try.prog 150 #[.pointer (some ⟨g, 0, none⟩)] w fun e w' => e = .returned (.int .i64 ((n - L.length : Nat) : Int)) ∧ ∃ q, w' = w.drewN q := by
  obtain ⟨f, sl, h1, _⟩ := h
  exact iRoom_any h1
theorem rLost (h : Ring w g b n L d) : Calls Try.prog 118 #[.pointer (some ⟨g, 0, none⟩)] w fun e w' => e = .returned (.int .i64 (d : Nat)) ∧ w = w' := by
  obtain ⟨f, sl, h1, _⟩ := h
  exact iLost_any h1
theorem rPut (x : En) (h : Ring w g b n L d) (hc : L.length < n) : Calls Try.prog 152 #[.pointer (some ⟨g, 0, none⟩), .agg #[.int .u32 (x.q : Nat), .int .u32 (x.t : Nat), .int .u8 (x.e : Nat), .int .u8 (x.g : Nat), .int .u32 (x.d : Nat)]] w fun e w' => (∃ v, e = .returned v) ∧ Ring w' g b n (L ++ [x]) d ∧ Kept g b w w' := by
  obtain ⟨f, sl, h1, h2⟩ := h
  refine (iput_any x h1 hc).mono ?_
  rintro e w' ⟨hv, h3, hk⟩
  exact ⟨hv, ⟨f, _, by simpa using h3, ring_put x hc h1.hf h1.len h2⟩, hk⟩
theorem rPop_none (h : Ring w g b n [] d) : Calls Try.prog 151 #[.pointer (some ⟨g, 0, none⟩)] w fun e w' => e = .returned (.tuple #[.agg #[.int .u32 (en0.q : Nat), .int .u32 (en0.t : Nat), .int .u8 (en0.e : Nat), .int .u8 (en0.g : Nat), .int .u32 (en0.d : Nat)], .bool false]) ∧ Below w.heap.size w w' := by
  obtain ⟨f, sl, h1, h2⟩ := h
  exact iPop_none h1
theorem rPop_some {y : En} (h : Ring w g b n (y :: L) d) : Calls Try.prog 151 #[.pointer (some ⟨g, 0, none⟩)] w fun e w' => e = .returned (.tuple #[.agg #[.int .u32 (y.q : Nat), .int .u32 (y.t : Nat), .int .u8 (y.e : Nat), .int .u8 (y.g : Nat), .int .u32 (y.d : Nat)], .bool true]) ∧ Ring w' g b n L d ∧ Kept g b w w' := by
  obtain ⟨f, sl, h1, h2⟩ := h
  have hc := h1.hc
  simp only [List.length_cons] at h1 hc
  obtain ⟨e1, e2⟩ := ring_pop (by omega) h1.hf h2
  refine (iPop_some h1).mono ?_
  rintro e w' ⟨rfl, h3, hk⟩
  exact ⟨by rw [e1], ⟨_, _, h3, e2⟩, hk⟩
end
end Go.Proofs.Ytkgeeohgfbacaaa.Je
