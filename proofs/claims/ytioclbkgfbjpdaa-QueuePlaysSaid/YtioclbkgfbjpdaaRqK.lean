/- Contracts of layer 3 (rings of reports), on: a ring is a list; offered, looked at, made. -/
import Derived.Test.YtioclbkgfbjpdaaRqJ
namespace Go.Proofs.Ytioclbkgfbjpdaa
open Go.RowKit Go.Own
set_option linter.unusedVariables false
set_option linter.unusedSimpArgs false
/-- The ring holds the list L. -/
def Ring (w : World) (g b n : Nat) (L : List Rq) (d : Nat) : Prop :=
  ∃ (f : Nat) (sl : List Rq), RingP w g b n f L.length d sl ∧ ∀ i, i < L.length → sl.getD ((f + i) % n) rq0 = L.getD i rq0
theorem wrapn {f i n : Nat} (hf : f < n) (hi : i ≤ n) : (f + i) % n = if f + i < n then f + i else f + i - n := by
  split
  · rename_i h; exact Nat.mod_eq_of_lt h
  · rename_i h
    rw [Nat.mod_eq_sub_mod (by omega), Nat.mod_eq_of_lt (by omega)]
theorem wrap_ne {f i j n : Nat} (hf : f < n) (hi : i < n) (hj : j < n) (h : i ≠ j) : (f + i) % n ≠ (f + j) % n := by
  rw [wrapn hf (by omega), wrapn hf (by omega)]
  split <;> split <;> omega
theorem getD_set_other (l : List Rq) {i j : Nat} (x : Rq) (h : i ≠ j) : (l.set i x).getD j rq0 = l.getD j rq0 := by
  simp only [List.getD, List.getElem?_set, h, if_false]
theorem getD_set_here (l : List Rq) {i : Nat} (x : Rq) (h : i < l.length) : (l.set i x).getD i rq0 = x := by
  simp [List.getD, h]
theorem Ring.below {w w' : World} {g b n d : Nat} {L : List Rq} (h : Ring w g b n L d) {k : Nat} (hb : Below k w w') (hk : w.heap.size ≤ k) : Ring w' g b n L d := by
  obtain ⟨f, sl, h1, h2⟩ := h
  exact ⟨f, sl, h1.below hb hk, h2⟩
theorem Ring.same {w w' : World} {g b n d : Nat} {L : List Rq} (h : Ring w g b n L d) (e1 : w'.heap[g]? = w.heap[g]?) (e2 : w'.heap[b]? = w.heap[b]?) : Ring w' g b n L d := by
  obtain ⟨f, sl, h1, h2⟩ := h
  exact ⟨f, sl, h1.same e1 e2, h2⟩
theorem Ring.le {w : World} {g b n d : Nat} {L : List Rq} (h : Ring w g b n L d) : L.length ≤ n ∧ 1 ≤ n ∧ n ≤ 4096 ∧ d ≤ 65535 ∧ g < w.heap.size ∧ b < w.heap.size ∧ g ≠ b := by
  obtain ⟨f, sl, h1, h2⟩ := h
  exact ⟨h1.hc, h1.n1, h1.n2, h1.hd, box_lt h1.head, h1.hb, h1.ne⟩
theorem ring_put {n f : Nat} {sl : List Rq} {L : List Rq} (x : Rq) (hn : L.length < n) (hf : f < n) (hl : sl.length = n) (h : ∀ i, i < L.length → sl.getD ((f + i) % n) rq0 = L.getD i rq0) :
    ∀ i, i < (L ++ [x]).length → (sl.set ((f + L.length) % n) x).getD ((f + i) % n) rq0 = (L ++ [x]).getD i rq0 := by
  intro i hi
  simp only [List.length_append, List.length_singleton] at hi
  rcases Nat.lt_or_ge i L.length with h1 | h1
  · rw [getD_set_other _ _ (wrap_ne hf (by omega) (by omega) (by omega)), h i h1]
    simp [List.getD, List.getElem?_append, h1]
  · obtain rfl : i = L.length := by omega
    rw [getD_set_here _ _ (by rw [hl]; exact Nat.mod_lt _ (by omega))]
    simp [List.getD]
theorem ring_pop {n f : Nat} {sl : List Rq} {y : Rq} {L : List Rq} (hn : L.length < n) (hf : f < n) (h : ∀ i, i < (y :: L).length → sl.getD ((f + i) % n) rq0 = (y :: L).getD i rq0) :
    sl.getD f rq0 = y ∧ ∀ i, i < L.length → (sl.set f rq0).getD (((f + 1) % n + i) % n) rq0 = L.getD i rq0 := by
  constructor
  · have := h 0 (by simp)
    rw [Nat.add_zero, Nat.mod_eq_of_lt hf] at this
    simpa using this
  · intro i hi
    have e : ((f + 1) % n + i) % n = (f + (i + 1)) % n := by rw [Nat.mod_add_mod]; congr 1; omega
    have hne : f ≠ (f + (i + 1)) % n := by
      have := wrap_ne (i := 0) (j := i + 1) hf (by omega) (by omega) (by omega)
      rw [Nat.add_zero, Nat.mod_eq_of_lt hf] at this
      exact this
    rw [e, getD_set_other _ _ hne, h (i + 1) (by simp; omega)]
    simp [List.getD]
section
variable {w : World} {g b n d : Nat} {L : List Rq}
theorem rLen (h : Ring w g b n L d) : Calls Try.prog 70 #[.pointer (some ⟨g, 0, none⟩)] w fun e w' => e = .returned (.int .i64 (L.length : Nat)) ∧ w = w' := by
  obtain ⟨f, sl, h1, _⟩ := h
  exact iLen_any h1
theorem rRoom (h : Ring w g b n L d) : Calls Try.prog 88 #[.pointer (some ⟨g, 0, none⟩)] w fun e w' => e = .returned (.int .i64 ((n - L.length : Nat) : Int)) ∧ ∃ q, w' = w.drewN q := by
  obtain ⟨f, sl, h1, _⟩ := h
  exact iRoom_any h1
theorem rDropped (h : Ring w g b n L d) : Calls Try.prog 71 #[.pointer (some ⟨g, 0, none⟩)] w fun e w' => e = .returned (.int .i64 (d : Nat)) ∧ w = w' := by
  obtain ⟨f, sl, h1, _⟩ := h
  exact iDropped_any h1
theorem rPut (x : Rq) (h : Ring w g b n L d) (hc : L.length < n) : Calls Try.prog 90 #[.pointer (some ⟨g, 0, none⟩), .agg #[.int .u8 (x.s : Nat), .int .u8 (x.u : Nat), .int .u16 (x.c : Nat), .int .u32 (x.t : Nat), .slice x.a x.n x.cp]] w fun e w' => (∃ v, e = .returned v) ∧ Ring w' g b n (L ++ [x]) d ∧ Kept g b w w' := by
  obtain ⟨f, sl, h1, h2⟩ := h
  refine (iput_any x h1 hc).mono ?_
  rintro e w' ⟨hv, h3, hk⟩
  exact ⟨hv, ⟨f, _, by simpa using h3, ring_put x hc h1.hf h1.len h2⟩, hk⟩
theorem rPop_none (h : Ring w g b n [] d) : Calls Try.prog 67 #[.pointer (some ⟨g, 0, none⟩)] w fun e w' => e = .returned (.tuple #[.agg #[.int .u8 (rq0.s : Nat), .int .u8 (rq0.u : Nat), .int .u16 (rq0.c : Nat), .int .u32 (rq0.t : Nat), .slice rq0.a rq0.n rq0.cp], .bool false]) ∧ Below w.heap.size w w' := by
  obtain ⟨f, sl, h1, h2⟩ := h
  exact iPop_none h1
theorem rPop_some {y : Rq} (h : Ring w g b n (y :: L) d) : Calls Try.prog 67 #[.pointer (some ⟨g, 0, none⟩)] w fun e w' => e = .returned (.tuple #[.agg #[.int .u8 (y.s : Nat), .int .u8 (y.u : Nat), .int .u16 (y.c : Nat), .int .u32 (y.t : Nat), .slice y.a y.n y.cp], .bool true]) ∧ Ring w' g b n L d ∧ Kept g b w w' := by
  obtain ⟨f, sl, h1, h2⟩ := h
  have hc := h1.hc
  simp only [List.length_cons] at h1 hc
  obtain ⟨e1, e2⟩ := ring_pop (by omega) h1.hf h2
  refine (iPop_some h1).mono ?_
  rintro e w' ⟨rfl, h3, hk⟩
  exact ⟨by rw [e1], ⟨_, _, h3, e2⟩, hk⟩
set_option maxRecDepth 100000 in
set_option maxHeartbeats 1000000 in
theorem rOffer_full (x : Rq) (h : Ring w g b n L d) (hc : L.length = n) : Calls Try.prog 69 #[.pointer (some ⟨g, 0, none⟩), .agg #[.int .u8 (x.s : Nat), .int .u8 (x.u : Nat), .int .u16 (x.c : Nat), .int .u32 (x.t : Nat), .slice x.a x.n x.cp]] w fun e w' => e = .returned (.bool false) ∧ Ring w' g b n L (min (d + 1) 65535) ∧ Kept g b w w' := by
  have hle := h.le
  have h0 : n - L.length = 0 := by omega
  have HZ := Lib.hid h0
  have hal : Below w.heap.size w (w.alloc (.cells #[.int .u8 (x.s : Nat), .int .u8 (x.u : Nat), .int .u16 (x.c : Nat), .int .u32 (x.t : Nat), .slice x.a x.n x.cp] 123)) := (Below.refl _ _).alloc (Nat.le_refl _) _
  have hbox : (w.alloc (.cells #[.int .u8 (x.s : Nat), .int .u8 (x.u : Nat), .int .u16 (x.c : Nat), .int .u32 (x.t : Nat), .slice x.a x.n x.cp] 123)).heap[w.heap.size]? = some (.cells #[.int .u8 (x.s : Nat), .int .u8 (x.u : Nat), .int .u16 (x.c : Nat), .int .u32 (x.t : Nat), .slice x.a x.n x.cp] 123 (0, 0)) := heap_alloc_new _ _
  have H := Lib.hid (h.below hal (Nat.le_refl _))
  have K0 := Lib.hid (Kept.of_below (g := g) (b := b) hal)
  clear h h0 hc
  go_enter Try.func69, Try.ntmps69
  go_wp2_with fail
  obtain ⟨w0, hw0⟩ : ∃ w0, w0 = w.alloc (.cells #[.int .u8 (x.s : Nat), .int .u8 (x.u : Nat), .int .u16 (x.c : Nat), .int .u32 (x.t : Nat), .slice x.a x.n x.cp] 123) := ⟨_, rfl⟩
  obtain ⟨x0, hx0⟩ : ∃ x0, x0 = w.heap.size := ⟨_, rfl⟩
  rw [← hw0] at hal hbox H K0
  rw [← hx0] at hbox
  rw [← hw0, ← hx0]
  clear hw0 hx0 hal
  go_at_call 88
  refine (rRoom H.out).mono ?_
  rintro e w' ⟨rfl, q, rfl⟩
  rw [HZ.out]
  have h1 : Ring (w0.drewN q) g b n L d := H.out.below (below_drewsI _ _ q) (Nat.le_refl _)
  have K1 := Lib.hid (K0.out.drewN q)
  obtain ⟨w1, hw1⟩ : ∃ w1, w1 = w0.drewN q := ⟨_, rfl⟩
  rw [← hw1] at h1 K1
  rw [← hw1]
  obtain ⟨f, sl, e1, e2⟩ := h1
  have c4 := e1.c4
  have f4 := e1.fz 4
  have hd := e1.hd
  have E1 := Lib.hid e1
  have E2 := Lib.hid e2
  clear hw1 e1 e2 hbox
  go_wp2_with (go_at_call 89; refine (more_any d 1 _ hd (by omega)).mono ?_; rintro e w' ⟨rfl, rfl⟩)
  go_ret
  refine ⟨rfl, ⟨f, sl, E1.out.setDropped _ (by omega), E2.out⟩, K1.out.set (a := ⟨g, 4, none⟩) (.inl rfl) _⟩
set_option maxRecDepth 100000 in
set_option maxHeartbeats 1000000 in
theorem rOffer_room (x : Rq) (h : Ring w g b n L d) (hc : L.length < n) : Calls Try.prog 69 #[.pointer (some ⟨g, 0, none⟩), .agg #[.int .u8 (x.s : Nat), .int .u8 (x.u : Nat), .int .u16 (x.c : Nat), .int .u32 (x.t : Nat), .slice x.a x.n x.cp]] w fun e w' => e = .returned (.bool true) ∧ Ring w' g b n (L ++ [x]) d ∧ Kept g b w w' := by
  have hle := h.le
  have hz : (((n - L.length : Nat) : Int) == 0) = false := by rw [beq_eq_false_iff_ne]; omega
  obtain ⟨rr, hrr⟩ : ∃ rr, rr = n - L.length := ⟨_, rfl⟩
  rw [← hrr] at hz
  have HZ := Lib.hid hrr
  have hal : Below w.heap.size w (w.alloc (.cells #[.int .u8 (x.s : Nat), .int .u8 (x.u : Nat), .int .u16 (x.c : Nat), .int .u32 (x.t : Nat), .slice x.a x.n x.cp] 123)) := (Below.refl _ _).alloc (Nat.le_refl _) _
  have hbox : (w.alloc (.cells #[.int .u8 (x.s : Nat), .int .u8 (x.u : Nat), .int .u16 (x.c : Nat), .int .u32 (x.t : Nat), .slice x.a x.n x.cp] 123)).heap[w.heap.size]? = some (.cells #[.int .u8 (x.s : Nat), .int .u8 (x.u : Nat), .int .u16 (x.c : Nat), .int .u32 (x.t : Nat), .slice x.a x.n x.cp] 123 (0, 0)) := heap_alloc_new _ _
  have H := Lib.hid (h.below hal (Nat.le_refl _))
  have K0 := Lib.hid (Kept.of_below (g := g) (b := b) hal)
  have HC := Lib.hid hc
  clear h hc hrr
  go_enter Try.func69, Try.ntmps69
  go_wp2_with fail
  obtain ⟨w0, hw0⟩ : ∃ w0, w0 = w.alloc (.cells #[.int .u8 (x.s : Nat), .int .u8 (x.u : Nat), .int .u16 (x.c : Nat), .int .u32 (x.t : Nat), .slice x.a x.n x.cp] 123) := ⟨_, rfl⟩
  obtain ⟨x0, hx0⟩ : ∃ x0, x0 = w.heap.size := ⟨_, rfl⟩
  rw [← hw0] at hal hbox H K0
  rw [← hx0] at hbox
  rw [← hw0, ← hx0]
  clear hw0 hx0 hal
  go_at_call 88
  refine (rRoom H.out).mono ?_
  rintro e w' ⟨rfl, q, rfl⟩
  rw [← HZ.out]
  have h1 : Ring (w0.drewN q) g b n L d := H.out.below (below_drewsI _ _ q) (Nat.le_refl _)
  have K1 := Lib.hid (K0.out.drewN q)
  have hbox1 : (w0.drewN q).heap[x0]? = _ := hbox
  obtain ⟨w1, hw1⟩ : ∃ w1, w1 = w0.drewN q := ⟨_, rfl⟩
  rw [← hw1] at h1 K1 hbox1
  rw [← hw1]
  have H1 := Lib.hid h1
  have k0 := cell_of_row _ _ 0 _ _ _ hbox1
  have k1 := cell_of_row _ _ 1 _ _ _ hbox1
  have k2 := cell_of_row _ _ 2 _ _ _ hbox1
  have k3 := cell_of_row _ _ 3 _ _ _ hbox1
  have k4 := cell_of_row _ _ 4 _ _ _ hbox1
  clear hw1 h1 hbox hbox1
  go_wp2_with fail
  go_at_call 90
  refine (rPut x H1.out HC.out).mono ?_
  rintro e w2 ⟨⟨v, rfl⟩, h2, hk2⟩
  have H2 := Lib.hid h2
  have K2 := Lib.hid (K1.out.trans hk2)
  clear h2 hk2 k0 k1 k2 k3 k4
  go_wp2
  go_ret
  exact ⟨rfl, H2.out, K2.out⟩
end
end Go.Proofs.Ytioclbkgfbjpdaa
