/- Layer 17: journals: what one is; asked. -/
import Derived.Test.YtkgeeohgfbacaaaEqS
namespace Go.Proofs.Ytkgeeohgfbacaaa.Je
open Go.RowKit Go.Own Go.Shelf
set_option linter.unusedVariables false
set_option linter.unusedSimpArgs false
/-- The newest. -/
def last (L : List En) : En := L.getD (L.length - 1) en0
/-- What a journal can be asked. -/
structure Jr (w : World) (pj pr : Option Addr) (L : List En) (lo : Nat) : Prop where
  kept : ∀ w1, Below w.heap.size w w1 → Calls Try.prog 113 #[.pointer pj] w1 fun e w2 => e = .returned (.pointer pr) ∧ w1 = w2
  len : ∀ w1, Below w.heap.size w w1 → Calls Try.prog 117 #[.pointer pr] w1 fun e w2 => e = .returned (.int .i64 (L.length : Nat)) ∧ w1 = w2
  lost : ∀ w1, Below w.heap.size w w1 → Calls Try.prog 118 #[.pointer pr] w1 fun e w2 => e = .returned (.int .i64 (lo : Nat)) ∧ w1 = w2
  at' : ∀ w1, Below w.heap.size w w1 → Calls Try.prog 114 #[.pointer pr, .int .i64 ((L.length : Int) - 1)] w1 fun e w2 => e = .returned (.tuple #[.agg #[.int .u32 ((last L).q : Nat), .int .u32 ((last L).t : Nat), .int .u8 ((last L).e : Nat), .int .u8 ((last L).g : Nat), .int .u32 ((last L).d : Nat)], .bool (decide (0 < L.length))]) ∧ Below w1.heap.size w1 w2
  list : ∀ w1, Below w.heap.size w w1 → Calls Try.prog 165 #[.pointer pr] w1 fun e w2 => ∃ v, e = .returned v ∧ w2.ownsRow w1.heap.size 143 5 v L.length (ql L) ∧ Below w1.heap.size w1 w2
  le : L.length ≤ 4096
/-- A journal: its block gj, its ring. -/
structure JS (w : World) (gj g b n : Nat) (L : List En) (lo : Nat) : Prop where
  box : w.heap[gj]? = some (.cells #[.pointer (some ⟨g, 0, none⟩)] 217 (0, 0))
  ring : Ring w g b n L lo
  ng : gj ≠ g
  nb : gj ≠ b
theorem JS.below {w w' : World} {gj g b n lo : Nat} {L : List En} (h : JS w gj g b n L lo) {k : Nat} (hb : Below k w w') (hk : w.heap.size ≤ k) : JS w' gj g b n L lo :=
  ⟨box_below h.box hb (Nat.lt_of_lt_of_le (box_lt h.box) hk), h.ring.below hb hk, h.ng, h.nb⟩
theorem kept_nil (w : World) : Calls Try.prog 113 #[.pointer none] w fun e w2 => e = .returned (.pointer none) ∧ w = w2 := by
  go_enter Try.func113, Try.ntmps113
  go_wp2
  go_ret
  exact ⟨rfl, rfl⟩
theorem kept_at {w : World} {gj : Nat} {pr : Value} (h : w.heap[gj]? = some (.cells #[pr] 217 (0, 0))) : Calls Try.prog 113 #[.pointer (some ⟨gj, 0, none⟩)] w fun e w2 => e = .returned pr ∧ w = w2 := by
  have c0 := box_cell h
  go_enter Try.func113, Try.ntmps113
  go_wp2
  go_ret
  exact ⟨rfl, rfl⟩
theorem JS.jr {w : World} {gj g b n lo : Nat} {L : List En} (h : JS w gj g b n L lo) : Jr w (some ⟨gj, 0, none⟩) (some ⟨g, 0, none⟩) L lo where
  kept := fun w1 hb => kept_at (h.below hb (Nat.le_refl _)).box
  len := fun w1 hb => rLen (h.below hb (Nat.le_refl _)).ring
  lost := fun w1 hb => rLost (h.below hb (Nat.le_refl _)).ring
  at' := fun w1 hb => by
    have hr := (h.below hb (Nat.le_refl _)).ring
    cases L with
    | nil => exact rAt_none hr _ (.inl (by simp))
    | cons y T =>
      have e : (((y :: T).length : Nat) : Int) - 1 = ((((y :: T).length - 1 : Nat)) : Int) := by simp
      rw [e]
      exact rAt_some hr ((y :: T).length - 1) (by simp)
  list := fun w1 hb => rList (h.below hb (Nat.le_refl _)).ring
  le := by have := h.ring.le; omega
theorem nil_jr (w : World) : Jr w none none [] 0 :=
  ⟨fun w1 _ => kept_nil w1, fun w1 _ => nLen w1, fun w1 _ => nLost w1, fun w1 _ => nAt _ w1, fun w1 _ => nList w1, by simp⟩
section
variable {w : World} {pj pr : Option Addr} {L : List En} {lo : Nat}
theorem jLen (h : Jr w pj pr L lo) : Calls Try.prog 65 #[.pointer pj] w fun e w' => e = .returned (.int .i64 (L.length : Nat)) ∧ w = w' := by
  have H := Lib.hid h
  clear h
  go_enter Try.func65, Try.ntmps65
  go_wp2_with fail
  go_at_call 113
  refine (H.out.kept _ (Below.refl _ _)).mono ?_
  rintro e w' ⟨rfl, rfl⟩
  go_wp2_with fail
  go_at_call 117
  refine (H.out.len _ (Below.refl _ _)).mono ?_
  rintro e w' ⟨rfl, rfl⟩
  go_wp2
  go_ret
  exact ⟨rfl, rfl⟩
theorem jLost (h : Jr w pj pr L lo) : Calls Try.prog 66 #[.pointer pj] w fun e w' => e = .returned (.int .i64 (lo : Nat)) ∧ w = w' := by
  have H := Lib.hid h
  clear h
  go_enter Try.func66, Try.ntmps66
  go_wp2_with fail
  go_at_call 113
  refine (H.out.kept _ (Below.refl _ _)).mono ?_
  rintro e w' ⟨rfl, rfl⟩
  go_wp2_with fail
  go_at_call 118
  refine (H.out.lost _ (Below.refl _ _)).mono ?_
  rintro e w' ⟨rfl, rfl⟩
  go_wp2
  go_ret
  exact ⟨rfl, rfl⟩
set_option maxRecDepth 100000 in
set_option maxHeartbeats 2000000 in
theorem jLast (h : Jr w pj pr L lo) : Calls Try.prog 61 #[.pointer pj] w fun e w' => e = .returned (.tuple #[.agg #[.int .u32 ((last L).q : Nat), .int .u32 ((last L).t : Nat), .int .u8 ((last L).e : Nat), .int .u8 ((last L).g : Nat), .int .u32 ((last L).d : Nat)], .bool (decide (0 < L.length))]) ∧ Below w.heap.size w w' := by
  have hle := h.le
  obtain ⟨c, hc⟩ : ∃ c, c = L.length := ⟨_, rfl⟩
  have hc4 : c ≤ 4096 := by omega
  obtain ⟨y, hy⟩ : ∃ y, y = last L := ⟨_, rfl⟩
  obtain ⟨t, ht⟩ : ∃ t, t = decide (0 < L.length) := ⟨_, rfl⟩
  have H := Lib.hid h
  have HC := Lib.hid hc
  have HY := Lib.hid hy
  have HT := Lib.hid ht
  rw [← hy, ← ht]
  have hz := zero_en
  have hal : Below w.heap.size w (w.alloc (.cells #[.int .u32 (en0.q : Nat), .int .u32 (en0.t : Nat), .int .u8 (en0.e : Nat), .int .u8 (en0.g : Nat), .int .u32 (en0.d : Nat)] 143)) := (Below.refl _ _).alloc (Nat.le_refl _) _
  have hbox := heap_alloc_new w (.cells #[.int .u32 (en0.q : Nat), .int .u32 (en0.t : Nat), .int .u8 (en0.e : Nat), .int .u8 (en0.g : Nat), .int .u32 (en0.d : Nat)] 143)
  clear h hc hy ht hle
  go_enter Try.func61, Try.ntmps61
  go_wp2_with fail
  go_at_call 113
  refine (H.out.kept _ hal).mono ?_
  rintro e w' ⟨rfl, rfl⟩
  go_wp2_with fail
  go_at_call 65
  have hj : Jr (w.alloc (.cells #[.int .u32 (en0.q : Nat), .int .u32 (en0.t : Nat), .int .u8 (en0.e : Nat), .int .u8 (en0.g : Nat), .int .u32 (en0.d : Nat)] 143)) pj pr L lo := ⟨fun w1 hb => H.out.kept w1 (hal.trans (hb.mono hal.size)), fun w1 hb => H.out.len w1 (hal.trans (hb.mono hal.size)), fun w1 hb => H.out.lost w1 (hal.trans (hb.mono hal.size)), fun w1 hb => H.out.at' w1 (hal.trans (hb.mono hal.size)), fun w1 hb => H.out.list w1 (hal.trans (hb.mono hal.size)), H.out.le⟩
  refine (jLen hj).mono ?_
  rintro e w' ⟨rfl, rfl⟩
  rw [← HC.out]
  go_wp2_with fail
  go_at_call 114
  have hat := H.out.at' _ hal
  rw [← HC.out, ← HY.out, HC.out, ← HT.out, ← HC.out] at hat
  refine hat.mono ?_
  rintro e w3 ⟨rfl, hb3⟩
  have hbox3 := box_below hbox hb3 (box_lt hbox)
  have HB := Lib.hid (hal.trans (hb3.mono hal.size))
  clear hat hj hbox hal hb3
  go_wp2_with ((refine wpList_store_row rfl 143 _ _ rfl _ _ rfl rfl _ _ hbox3 (by exact size_en) (by rfl) (by simp [Value.oneCell']) ?_; (try go_simp)))
  have hfin := setRow_heap _ w.heap.size _ #[.int .u32 (y.q : Nat), .int .u32 (y.t : Nat), .int .u8 (y.e : Nat), .int .u8 (y.g : Nat), .int .u32 (y.d : Nat)] _ _ hbox3
  refine bodyPost_ret (res_ct rfl _ _ _ _ _ _ rfl hfin Try.underlying143 rfl size_en) rfl ?_
  exact ⟨rfl, bel_row HB.out (Nat.le_refl _) _⟩
end
end Go.Proofs.Ytkgeeohgfbacaaa.Je
