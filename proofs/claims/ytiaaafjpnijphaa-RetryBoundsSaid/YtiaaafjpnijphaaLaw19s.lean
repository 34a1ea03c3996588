/- RetrySpends: some roles are switched over once more, each as often as it stands there, just if none is above its limit then. -/
import Derived.Test.YtiaaafjpnijphaaLaw19t
namespace Go.Proofs.Ytiaaafjpnijphaa
open Go.RowKit Go.Own
set_option linter.unusedVariables false
set_option linter.unusedSimpArgs false
@[go_sem] theorem ixna (w : World) (a b c d e f : Int) : (Instr.index 133 (.agg #[.int .i64 a, .int .i64 b, .int .i64 c, .int .i64 d, .int .i64 e, .int .i64 f]) (.int .i64 0)).run Try.prog w = .ok (.int .i64 a) w := by kernel_rfl
@[go_sem] theorem ixnb (w : World) (a b c d e f : Int) : (Instr.index 133 (.agg #[.int .i64 a, .int .i64 b, .int .i64 c, .int .i64 d, .int .i64 e, .int .i64 f]) (.int .i64 1)).run Try.prog w = .ok (.int .i64 b) w := by kernel_rfl
@[go_sem] theorem ixnc (w : World) (a b c d e f : Int) : (Instr.index 133 (.agg #[.int .i64 a, .int .i64 b, .int .i64 c, .int .i64 d, .int .i64 e, .int .i64 f]) (.int .i64 2)).run Try.prog w = .ok (.int .i64 c) w := by kernel_rfl
@[go_sem] theorem ixnd (w : World) (a b c d e f : Int) : (Instr.index 133 (.agg #[.int .i64 a, .int .i64 b, .int .i64 c, .int .i64 d, .int .i64 e, .int .i64 f]) (.int .i64 3)).run Try.prog w = .ok (.int .i64 d) w := by kernel_rfl
@[go_sem] theorem ixne (w : World) (a b c d e f : Int) : (Instr.index 133 (.agg #[.int .i64 a, .int .i64 b, .int .i64 c, .int .i64 d, .int .i64 e, .int .i64 f]) (.int .i64 4)).run Try.prog w = .ok (.int .i64 e) w := by kernel_rfl
@[go_sem] theorem ixnf (w : World) (a b c d e f : Int) : (Instr.index 133 (.agg #[.int .i64 a, .int .i64 b, .int .i64 c, .int .i64 d, .int .i64 e, .int .i64 f]) (.int .i64 5)).run Try.prog w = .ok (.int .i64 f) w := by kernel_rfl
theorem ncs_cell (n : Nat → Int) {k : Nat} (h : k < 6) : (#[.int .i64 (n 0), .int .i64 (n 1), .int .i64 (n 2), .int .i64 (n 3), .int .i64 (n 4), .int .i64 (n 5)] : Array Value)[k]? = some (.int .i64 (n k)) := by
  have hsix : k = 0 ∨ k = 1 ∨ k = 2 ∨ k = 3 ∨ k = 4 ∨ k = 5 := by omega
  rcases hsix with rfl | rfl | rfl | rfl | rfl | rfl <;> rfl
theorem ncs_put (n n' : Nat → Int) {k : Nat} (h : k < 6) (hn : ∀ j, j < 6 → n' j = if j = k then n k + 1 else n j) : (#[.int .i64 (n 0), .int .i64 (n 1), .int .i64 (n 2), .int .i64 (n 3), .int .i64 (n 4), .int .i64 (n 5)] : Array Value).setIfInBounds k (.int .i64 (n k + 1)) = #[.int .i64 (n' 0), .int .i64 (n' 1), .int .i64 (n' 2), .int .i64 (n' 3), .int .i64 (n' 4), .int .i64 (n' 5)] := by
  have h0 := hn 0 (by omega)
  have h1 := hn 1 (by omega)
  have h2 := hn 2 (by omega)
  have h3 := hn 3 (by omega)
  have h4 := hn 4 (by omega)
  have h5 := hn 5 (by omega)
  rw [h0, h1, h2, h3, h4, h5]
  have hsix : k = 0 ∨ k = 1 ∨ k = 2 ∨ k = 3 ∨ k = 4 ∨ k = 5 := by omega
  rcases hsix with rfl | rfl | rfl | rfl | rfl | rfl <;> rfl
theorem ncs_index (n : Nat → Int) {k : Nat} (h : k < 6) (w : World) : (Instr.index 133 (.agg #[.int .i64 (n 0), .int .i64 (n 1), .int .i64 (n 2), .int .i64 (n 3), .int .i64 (n 4), .int .i64 (n 5)]) (.int .i64 (k : Nat))).run Try.prog w = .ok (.int .i64 (n k)) w := by
  have hsix : k = 0 ∨ k = 1 ∨ k = 2 ∨ k = 3 ∨ k = 4 ∨ k = 5 := by omega
  rcases hsix with rfl | rfl | rfl | rfl | rfl | rfl
  · exact ixna _ _ _ _ _ _ _
  · exact ixnb _ _ _ _ _ _ _
  · exact ixnc _ _ _ _ _ _ _
  · exact ixnd _ _ _ _ _ _ _
  · exact ixne _ _ _ _ _ _ _
  · exact ixnf _ _ _ _ _ _ _
theorem size_n6 : (Try.prog.info? 133).map (·.size) = some 6 := by kernel_rfl
/-- All of them roles? -/
def inR (l : List Int) : Bool := l.all fun k => decide (0 ≤ k ∧ k < 6)
theorem inR_snoc (l : List Int) (x : Int) : inR (l ++ [x]) = (inR l && decide (0 ≤ x ∧ x < 6)) := by simp [inR]
def cntN (l : List Int) (k : Nat) : Int := (l.count (k : Int) : Nat)
theorem cntN_le (l : List Int) (k : Nat) : 0 ≤ cntN l k ∧ cntN l k ≤ l.length := by
  have := List.count_le_length (a := (k : Int)) (l := l)
  unfold cntN
  omega
theorem cntN_snoc (l : List Int) (x : Int) (k : Nat) : cntN (l ++ [x]) k = if (k : Int) = x then cntN l k + 1 else cntN l k := by
  unfold cntN
  rw [List.count_append, List.count_singleton]
  by_cases e : (k : Int) = x
  · rw [if_pos e]
    simp [e]
  · have e' : ¬ x = (k : Int) := fun h => e h.symm
    simp [e, e']
/-- None of the first k above its limit? -/
def okK (m : Lm) (c : Cx) (l : List Int) : Nat → Bool
  | 0 => inR l
  | k + 1 => okK m c l k && decide (cntN l k = 0 ∨ c.r (k : Int) + cntN l k ≤ m.l (k : Int))
theorem okK_may (m : Lm) (c : Cx) (l : List Int) : okK m c l 6 = true ↔ May m c l := by
  simp only [okK, Bool.and_eq_true, decide_eq_true_eq]
  constructor
  · rintro ⟨⟨⟨⟨⟨⟨h, a0⟩, a1⟩, a2⟩, a3⟩, a4⟩, a5⟩
    refine ⟨fun k hk => by simpa using List.all_eq_true.1 h k hk, fun k k0 k6 hp => ?_⟩
    unfold cntN at a0 a1 a2 a3 a4 a5
    have hk : k = 0 ∨ k = 1 ∨ k = 2 ∨ k = 3 ∨ k = 4 ∨ k = 5 := by omega
    rcases hk with rfl | rfl | rfl | rfl | rfl | rfl
    · rcases a0 with a0 | a0
      · exfalso; simp at a0; omega
      · exact a0
    · rcases a1 with a0 | a0
      · exfalso; simp at a0; omega
      · exact a0
    · rcases a2 with a0 | a0
      · exfalso; simp at a0; omega
      · exact a0
    · rcases a3 with a0 | a0
      · exfalso; simp at a0; omega
      · exact a0
    · rcases a4 with a0 | a0
      · exfalso; simp at a0; omega
      · exact a0
    · rcases a5 with a0 | a0
      · exfalso; simp at a0; omega
      · exact a0
  · intro h
    have hk : ∀ k : Nat, k < 6 → cntN l k = 0 ∨ c.r (k : Int) + cntN l k ≤ m.l (k : Int) := fun k hk => by
      by_cases hz : 0 < l.count (k : Int)
      · exact .inr (h.le _ (by omega) (by omega) hz)
      · left; unfold cntN; omega
    exact ⟨⟨⟨⟨⟨⟨List.all_eq_true.2 fun k hk => by simpa using h.role k hk, hk 0 (by omega)⟩, hk 1 (by omega)⟩, hk 2 (by omega)⟩, hk 3 (by omega)⟩, hk 4 (by omega)⟩, hk 5 (by omega)⟩
/-- The first k counts as they were ahead of it. -/
def undoR (c : Cx) (l : List Int) (k : Nat) : Cx := c.withR fun j => if j < (k : Int) then c.r j else c.r j + (l.count j : Nat)
theorem undo_zero (c : Cx) (l : List Int) : (c.bump fun j => l.count j) = undoR c l 0 := by
  show c.withR (fun j => c.r j + (l.count j : Nat)) = _
  refine c.withR_congr fun j h0 h6 => ?_
  rw [if_neg (show ¬ j < ((0 : Nat) : Int) by omega)]
theorem undo_six (c : Cx) (l : List Int) : undoR c l 6 = c := by
  unfold undoR
  rw [c.withR_congr (n' := c.r) (fun j h0 h6 => if_pos (by omega)), Cx.withR_self]
theorem undo_r (c : Cx) (l : List Int) {k : Nat} (hk : k < 6) : (undoR c l k).r (k : Int) = c.r (k : Int) + cntN l k := by
  unfold undoR
  rw [c.withR_r _ _ (by omega) (by omega), if_neg (by omega)]
  rfl
theorem undo_next (c : Cx) (l : List Int) {k : Nat} (hk : k < 6) : (undoR c l k).setR (k : Int) (c.r (k : Int)) = undoR c l (k + 1) := by
  unfold undoR
  rw [c.withR_set _ _ _ (by omega) (by omega)]
  refine c.withR_congr fun j h0 h6 => ?_
  by_cases e : j = (k : Int)
  · have h' : j < ((k + 1 : Nat) : Int) := by omega
    rw [if_pos e, if_pos h', e]
  · rw [if_neg e]
    by_cases h : j < (k : Int)
    · have h' : j < ((k + 1 : Nat) : Int) := by omega
      rw [if_pos h, if_pos h']
    · have h' : ¬ j < ((k + 1 : Nat) : Int) := by omega
      rw [if_neg h, if_neg h']
theorem lm_cell (m : Lm) {k : Nat} (h : k < 6) : (#[.int .u8 m.l0, .int .u8 m.l1, .int .u8 m.l2, .int .u8 m.l3, .int .u8 m.l4, .int .u8 m.l5] : Array Value)[k]? = some (.int .u8 (m.l (k : Int))) := by
  have hsix : k = 0 ∨ k = 1 ∨ k = 2 ∨ k = 3 ∨ k = 4 ∨ k = 5 := by omega
  rcases hsix with rfl | rfl | rfl | rfl | rfl | rfl <;> rfl
set_option maxRecDepth 100000 in
set_option maxHeartbeats 8000000 in
theorem walk_RetrySpends (z0 : List Int) (c : Cx) (a2 : Option Addr) (len2 cap2 : Nat) (z2 : List Int) (w : World) (l0 : z0.length = 6) (w0 : ∀ x ∈ z0, (Lit.int .u8 x).wf = true) (wc : c.Ok) (w2 : IsRow .i64 w a2 len2 cap2 z2) :
    Calls Try.prog 11 #[.agg (z0.map (Value.int .u8)).toArray, .agg #[.int .u16 c.f, .int .u16 c.i, .int .u8 c.r0, .int .u8 c.r1, .int .u8 c.r2, .int .u8 c.r3, .int .u8 c.r4, .int .u8 c.r5, .int .i8 c.c0, .int .i8 c.c1, .int .i8 c.c2, .int .i8 c.c3, .int .i8 c.c4, .int .i8 c.c5, .int .u8 c.m, .int .u16 c.n, .bool c.x, .int .u8 c.h], .slice a2 len2 cap2] w fun e w' => e = .returned (.bool true) ∧ Below w.heap.size w w' := by
  obtain ⟨m, hm, e0⟩ := lm_of l0 w0
  rw [e0]
  clear e0 l0 w0
  obtain ⟨l, hl, hrd⟩ := isRow_i w2
  clear w2
  have hzc := zero_cx
  have h0 := heap_alloc2_old w (.cells #[.int .u8 m.l0, .int .u8 m.l1, .int .u8 m.l2, .int .u8 m.l3, .int .u8 m.l4, .int .u8 m.l5] 129) (.cells #[.int .u16 c.f, .int .u16 c.i, .int .u8 c.r0, .int .u8 c.r1, .int .u8 c.r2, .int .u8 c.r3, .int .u8 c.r4, .int .u8 c.r5, .int .i8 c.c0, .int .i8 c.c1, .int .i8 c.c2, .int .i8 c.c3, .int .i8 c.c4, .int .i8 c.c5, .int .u8 c.m, .int .u16 c.n, .bool c.x, .int .u8 c.h] 131)
  have h1 := heap_alloc2_new w (.cells #[.int .u8 m.l0, .int .u8 m.l1, .int .u8 m.l2, .int .u8 m.l3, .int .u8 m.l4, .int .u8 m.l5] 129) (.cells #[.int .u16 c.f, .int .u16 c.i, .int .u8 c.r0, .int .u8 c.r1, .int .u8 c.r2, .int .u8 c.r3, .int .u8 c.r4, .int .u8 c.r5, .int .i8 c.c0, .int .i8 c.c1, .int .i8 c.c2, .int .i8 c.c3, .int .i8 c.c4, .int .i8 c.c5, .int .u8 c.m, .int .u16 c.n, .bool c.x, .int .u8 c.h] 131)
  have hb0 : Below w.heap.size w ((w.alloc (.cells #[.int .u8 m.l0, .int .u8 m.l1, .int .u8 m.l2, .int .u8 m.l3, .int .u8 m.l4, .int .u8 m.l5] 129)).alloc (.cells #[.int .u16 c.f, .int .u16 c.i, .int .u8 c.r0, .int .u8 c.r1, .int .u8 c.r2, .int .u8 c.r3, .int .u8 c.r4, .int .u8 c.r5, .int .i8 c.c0, .int .i8 c.c1, .int .i8 c.c2, .int .i8 c.c3, .int .i8 c.c4, .int .i8 c.c5, .int .u8 c.m, .int .u16 c.n, .bool c.x, .int .u8 c.h] 131)) := by repeat' (first | (with_reducible exact Below.refl _ _) | (with_reducible assumption) | (with_reducible refine Below.setCell ?_ ?_ _) | (with_reducible refine Below.alloc ?_ ?_ _) | (with_reducible refine Below.drew ?_) | (with_reducible refine Below.drawsN ?_ _) | go_size)
  have hsz : ((w.alloc (.cells #[.int .u8 m.l0, .int .u8 m.l1, .int .u8 m.l2, .int .u8 m.l3, .int .u8 m.l4, .int .u8 m.l5] 129)).alloc (.cells #[.int .u16 c.f, .int .u16 c.i, .int .u8 c.r0, .int .u8 c.r1, .int .u8 c.r2, .int .u8 c.r3, .int .u8 c.r4, .int .u8 c.r5, .int .i8 c.c0, .int .i8 c.c1, .int .i8 c.c2, .int .i8 c.c3, .int .i8 c.c4, .int .i8 c.c5, .int .u8 c.m, .int .u16 c.n, .bool c.x, .int .u8 c.h] 131)).heap.size = w.heap.size + 2 := by simp
  go_enter Try.func11, Try.ntmps11
  go_upto_region 1 with fail
  obtain ⟨w1, hw1⟩ : ∃ w1, w1 = (w.alloc (.cells #[.int .u8 m.l0, .int .u8 m.l1, .int .u8 m.l2, .int .u8 m.l3, .int .u8 m.l4, .int .u8 m.l5] 129)).alloc (.cells #[.int .u16 c.f, .int .u16 c.i, .int .u8 c.r0, .int .u8 c.r1, .int .u8 c.r2, .int .u8 c.r3, .int .u8 c.r4, .int .u8 c.r5, .int .i8 c.c0, .int .i8 c.c1, .int .i8 c.c2, .int .i8 c.c3, .int .i8 c.c4, .int .i8 c.c5, .int .u8 c.m, .int .u16 c.n, .bool c.x, .int .u8 c.h] 131) := ⟨_, rfl⟩
  rw [← hw1] at h0 h1 hb0 hsz ⊢
  have hS : LcSt w w1 w.heap.size (w.heap.size + 1) w1.heap.size m c a2 len2 cap2 l := ⟨hb0, by omega, by omega, Nat.le_refl _, by omega, h0, h1, (hrd.below hb0).mono (by omega)⟩
  clear hw1 h0 h1 hb0 hsz hrd
  obtain ⟨g1, hg1⟩ : ∃ g, g = w.heap.size + 1 := ⟨_, rfl⟩
  rw [← hg1] at hS ⊢
  obtain ⟨g0, hg0⟩ : ∃ g, g = w.heap.size := ⟨_, rfl⟩
  rw [show (Value.pointer (some ⟨w.heap.size, 0, none⟩)) = .pointer (some ⟨g0, 0, none⟩) by rw [hg0]]
  have hS : LcSt w w1 g0 g1 w1.heap.size m c a2 len2 cap2 l := by rw [hg0]; exact hS
  have HS := Lib.hid hS
  clear hS hg1 hg0
  go_wp2_with fail
  go_at_call 62
  refine (awake19 _).mono ?_
  rintro e w2 ⟨rfl, hb⟩
  have HS2 := Lib.hid (HS.out.step hb (Nat.le_refl _))
  clear hb HS
  go_wp2_with fail
  go_at_call 63
  refine (Few_any a2 len2 cap2 _ l 20 _ (by decide) hl HS2.out.ln HS2.out.ro).mono ?_
  rintro e w3 ⟨v, rfl, hown, hb⟩
  obtain ⟨a, cap, rfl⟩ := own_form hown
  obtain ⟨l9, hl9⟩ : ∃ l9, l9 = l.take 20 := ⟨_, rfl⟩
  rw [← hl9] at hown ⊢
  have hlen : l9.length ≤ 20 := by rw [hl9, List.length_take]; omega
  obtain ⟨len, hle⟩ : ∃ len, len = l9.length := ⟨_, rfl⟩
  rw [← hle] at hown hlen ⊢
  have hro := rd_of_own (f := Bs.iv l9) hown (fun i hi => ziv_at l9 i (by omega))
  have hS3 : LcSt w w3 g0 g1 w3.heap.size m c a len cap l9 := by
    have h := HS2.out.step hb HS2.out.ln
    exact ⟨h.be, Nat.lt_of_lt_of_le h.l0 h.ln, Nat.lt_of_lt_of_le h.l1 h.ln, Nat.le_refl _, h.be.size, h.bm, h.bc, hro⟩
  have HS3 := Lib.hid hS3
  have HL := Lib.hid hle.symm
  clear hl9 hle hown hro hb hS3 HS2 hl
  have hb4 : Below w3.heap.size w3 (w3.alloc (.cells #[.int .i64 ((cntN []) 0), .int .i64 ((cntN []) 1), .int .i64 ((cntN []) 2), .int .i64 ((cntN []) 3), .int .i64 ((cntN []) 4), .int .i64 ((cntN []) 5)] 133)) := (Below.refl _ _).alloc (Nat.le_refl _) _
  have h4 := HS3.out.step hb4 (Nat.le_refl _)
  have n4 := heap_alloc_new w3 (.cells #[.int .i64 ((cntN []) 0), .int .i64 ((cntN []) 1), .int .i64 ((cntN []) 2), .int .i64 ((cntN []) 3), .int .i64 ((cntN []) 4), .int .i64 ((cntN []) 5)] 133)
  go_upto_region 5 with fail
  obtain ⟨w4, hw4⟩ : ∃ w4, w4 = w3.alloc (.cells #[.int .i64 ((cntN []) 0), .int .i64 ((cntN []) 1), .int .i64 ((cntN []) 2), .int .i64 ((cntN []) 3), .int .i64 ((cntN []) 4), .int .i64 ((cntN []) 5)] 133) := ⟨_, rfl⟩
  rw [show w3.alloc (.cells #[.int .i64 0, .int .i64 0, .int .i64 0, .int .i64 0, .int .i64 0, .int .i64 0] 133) = w4 from hw4.symm]
  rw [← hw4] at h4 n4
  obtain ⟨gn, hgn⟩ : ∃ g, g = w3.heap.size := ⟨_, rfl⟩
  rw [← hgn] at n4 h4 ⊢
  have HS4 := Lib.hid h4
  have HN4 := Lib.hid n4
  clear hw4 hgn h4 n4 hb4 HS3
  have hlen2 := HL.out
  go_wp2_with fail
  go_loopw [8, 23] (fun v i wr => ∃ (k : Nat), k ≤ len ∧ i = .int .i64 k ∧ v = .bool (inR (l9.take k)) ∧ LcSt w wr g0 g1 gn m c a len cap l9 ∧ wr.heap[gn]? = some (.cells #[.int .i64 ((cntN (l9.take k)) 0), .int .i64 ((cntN (l9.take k)) 1), .int .i64 ((cntN (l9.take k)) 2), .int .i64 ((cntN (l9.take k)) 3), .int .i64 ((cntN (l9.take k)) 4), .int .i64 ((cntN (l9.take k)) 5)] 133 (0, 0))) (fun _ i _ => len - (intOf i).toNat)
  case atStart => exact ⟨0, Nat.zero_le _, rfl, rfl, HS4.out, HN4.out⟩
  case round =>
    obtain ⟨k, hk, rfl, rfl, hS, hN⟩ := hrel
    clear HS4 HN4
    by_cases hlt : k < len
    · obtain ⟨bb, off, rfl, hbb, hcx⟩ := hS.ro.at hlt
      unfold Bs.iv at hcx
      obtain ⟨x, hx⟩ : ∃ x, x = l9.getD k 0 := ⟨_, rfl⟩
      have ht : l9.take (k + 1) = l9.take k ++ [x] := by rw [hx]; exact Bs.takeI_succ l9 (by omega)
      rw [← hx] at hcx
      obtain ⟨p, hp⟩ : ∃ p, p = l9.take k := ⟨_, rfl⟩
      have hpl : p.length ≤ 20 := by rw [hp, List.length_take]; omega
      rw [← hp] at ht hN ⊢
      have hR := inR_snoc p x
      obtain ⟨b, hb⟩ : ∃ b, b = inR p := ⟨_, rfl⟩
      rw [← hb] at hR ⊢
      have HT := Lib.hid ht
      have HS := Lib.hid hS
      have HR := Lib.hid hR
      clear ht hS hx hp hR hb
      by_cases hin : 0 ≤ x ∧ x < 6
      · obtain ⟨r, rfl⟩ := Int.eq_ofNat_of_zero_le hin.1
        have hr6 : r < 6 := by omega
        have hR2 : inR (p ++ [(r : Int)]) = b := by rw [HR.out, decide_eq_true hin, Bool.and_true]
        have hkc : wr.cell? ⟨gn, r, none⟩ = some (.int .i64 (cntN p r)) := by rw [cell_of_row _ gn r _ _ _ hN, ncs_cell (cntN p) hr6]
        have hkz : wr.frozen? ⟨gn, r, none⟩ = false := frozen_of_row _ gn r _ _ hN
        have hput := heap_setCell_same wr gn r _ _ (.int .i64 (cntN p r + 1)) hN
        rw [ncs_put (cntN p) (cntN (p ++ [(r : Int)])) hr6 (fun j hj => by
          rw [cntN_snoc]
          by_cases e : j = r
          · subst e; simp
          · rw [if_neg (by omega), if_neg e])] at hput
        have hS2 := HS.out.step ((Below.refl gn wr).setCell (p := ⟨gn, r, none⟩) (Nat.le_refl _) (.int .i64 (cntN p r + 1))) (Nat.le_refl _)
        have hq := cntN_le p r
        obtain ⟨q, hq'⟩ : ∃ q, q = cntN p r := ⟨_, rfl⟩
        rw [← hq'] at hkc hput hS2 hq
        obtain ⟨q0, q1⟩ := hq
        have hd1 : decide ((r : Int) < 0) = false := decide_eq_false (by omega)
        have hd2 : decide ((r : Int) > 5) = false := decide_eq_false (by omega)
        have hd3 : decide (5 < (r : Int)) = false := decide_eq_false (by omega)
        have HR2 := Lib.hid hR2
        have HP := Lib.hid hput
        have HS2 := Lib.hid hS2
        clear hR2 hput hS2 hq' hN hin HR HS
        go_wp2_with fail
        go_roundw
        case rel => exact ⟨k + 1, by omega, by go_num, by rw [HT.out, HR2.out], HS2.out, by rw [HT.out]; exact HP.out⟩
        case measure => simp [intOf]; omega
      · have hR2 : inR (p ++ [x]) = false := by rw [HR.out, decide_eq_false hin, Bool.and_false]
        have hcn : cntN (p ++ [x]) 0 = cntN p 0 ∧ cntN (p ++ [x]) 1 = cntN p 1 ∧ cntN (p ++ [x]) 2 = cntN p 2 ∧ cntN (p ++ [x]) 3 = cntN p 3 ∧ cntN (p ++ [x]) 4 = cntN p 4 ∧ cntN (p ++ [x]) 5 = cntN p 5 := by
          refine ⟨?_, ?_, ?_, ?_, ?_, ?_⟩ <;> (rw [cntN_snoc, if_neg (by omega)])
        have hN2 : wr.heap[gn]? = some (.cells #[.int .i64 ((cntN (p ++ [x])) 0), .int .i64 ((cntN (p ++ [x])) 1), .int .i64 ((cntN (p ++ [x])) 2), .int .i64 ((cntN (p ++ [x])) 3), .int .i64 ((cntN (p ++ [x])) 4), .int .i64 ((cntN (p ++ [x])) 5)] 133 (0, 0)) := by
          obtain ⟨e0, e1, e2, e3, e4, e5⟩ := hcn
          rw [e0, e1, e2, e3, e4, e5]
          exact hN
        have HR2 := Lib.hid hR2
        have HN2 := Lib.hid hN2
        clear hR2 hN2 hN hcn HR
        by_cases hx0 : x < 0
        · have hd1 : decide (x < 0) = true := decide_eq_true hx0
          clear hin
          go_wp2_with fail
          go_roundw
          case rel => exact ⟨k + 1, by omega, by go_num, by rw [HT.out, HR2.out], HS.out, by rw [HT.out]; exact HN2.out⟩
          case measure => simp [intOf]; omega
        · have hd1 : decide (x < 0) = false := decide_eq_false hx0
          have hd2 : decide (x > 5) = true := decide_eq_true (by omega)
          have hd3 : decide (5 < x) = true := decide_eq_true (by omega)
          clear hin
          go_wp2_with fail
          go_roundw
          case rel => exact ⟨k + 1, by omega, by go_num, by rw [HT.out, HR2.out], HS.out, by rw [HT.out]; exact HN2.out⟩
          case measure => simp [intOf]; omega
    · obtain rfl : len = k := by omega
      rw [List.take_of_length_le (show l9.length ≤ len by omega)] at hN ⊢
      have e0 : inR l9 = okK m c l9 0 := rfl
      rw [e0]
      have HS := Lib.hid hS
      have HN := Lib.hid hN
      have bn := hN
      clear hS hN e0
      go_wp2_with (((with_reducible show wpList _ _ _ (_ :: _) _ _); refine wpList_load_row rfl 133 _ rfl _ rfl _ _ _ _ bn Try.underlying133 rfl (by exact size_n6) ?_; (try go_simp)))
      clear bn
      go_loopw [8, 40] (fun v i wr => ∃ (k : Nat), k ≤ 6 ∧ i = .int .i64 k ∧ v = .bool (okK m c l9 k) ∧ LcSt w wr g0 g1 gn m c a len cap l9 ∧ wr.heap[gn]? = some (.cells #[.int .i64 ((cntN l9) 0), .int .i64 ((cntN l9) 1), .int .i64 ((cntN l9) 2), .int .i64 ((cntN l9) 3), .int .i64 ((cntN l9) 4), .int .i64 ((cntN l9) 5)] 133 (0, 0))) (fun _ i _ => 6 - (intOf i).toNat)
      case atStart => exact ⟨0, Nat.zero_le _, rfl, rfl, HS.out, HN.out⟩
      case round =>
        obtain ⟨k, hk, rfl, rfl, hS, hN⟩ := hrel
        clear HS HN
        have HN := Lib.hid hN
        clear hN
        by_cases hlt : k < 6
        · have hix := fun w => ncs_index (cntN l9) hlt w
          have hk1 : wr.cell? ⟨g1, 2 + k, none⟩ = some (.int .u8 (c.r (k : Int))) := by rw [cell_of_row _ g1 (2 + k) _ _ _ hS.bc, cx_cell c k hlt]
          have hk0 : wr.cell? ⟨g0, k, none⟩ = some (.int .u8 (m.l (k : Int))) := by rw [cell_of_row _ g0 k _ _ _ hS.bm, lm_cell m hlt]
          have hx := Lm.l_ok hm (k : Nat)
          have hy := c.r_good wc (k : Nat)
          have hq := cntN_le l9 k
          have hll := HL.out
          have eO : okK m c l9 (k + 1) = (okK m c l9 k && decide (cntN l9 k = 0 ∨ c.r (k : Int) + cntN l9 k ≤ m.l (k : Int))) := rfl
          obtain ⟨x, hx'⟩ : ∃ x, x = m.l (k : Nat) := ⟨_, rfl⟩
          obtain ⟨y, hy'⟩ : ∃ y, y = c.r (k : Nat) := ⟨_, rfl⟩
          obtain ⟨q, hq'⟩ : ∃ q, q = cntN l9 k := ⟨_, rfl⟩
          obtain ⟨b, hb'⟩ : ∃ b, b = okK m c l9 k := ⟨_, rfl⟩
          rw [← hx'] at hk0 hx eO
          rw [← hy'] at hk1 hy eO
          rw [← hq'] at hix hq eO
          rw [← hb'] at eO ⊢
          obtain ⟨x0, x1⟩ := hx
          obtain ⟨y0, y1⟩ := hy
          obtain ⟨q0, q1⟩ := hq
          have q2 : q ≤ 20 := by omega
          have HS := Lib.hid hS
          have EO := Lib.hid eO
          clear hS eO hx' hy' hq' hb' hll q1
          by_cases hq0 : q = 0
          · have e2 : okK m c l9 (k + 1) = b := by rw [EO.out, decide_eq_true (.inl hq0), Bool.and_true]
            have hd : decide (0 < q) = false := decide_eq_false (by omega)
            have E2 := Lib.hid e2
            clear e2 EO
            go_wp2_with fail
            go_quiet (fail)
            go_wp2_with fail
            go_roundw
            case rel => exact ⟨k + 1, by omega, by go_num, by rw [E2.out], HS.out.step (Bs.below_drewsB gn _ _) (Nat.le_refl _), box_below HN.out (Bs.below_drewsB _ _ _) (box_lt HN.out)⟩
            case measure => simp [intOf]; omega
          · have hd : decide (0 < q) = true := decide_eq_true (by omega)
            have hq1 : 0 < q := by omega
            have hsm : wrap64 (y + q) = y + q := by unfold wrap64; omega
            by_cases hle : y + q ≤ x
            · have e2 : okK m c l9 (k + 1) = b := by rw [EO.out, decide_eq_true (.inr hle), Bool.and_true]
              have hd2 : decide (x < y + q) = false := decide_eq_false (by omega)
              have E2 := Lib.hid e2
              clear e2 EO
              go_wp2_with fail
              go_quiet (fail)
              go_wp2_with fail
              go_roundw
              case rel => exact ⟨k + 1, by omega, by go_num, by rw [E2.out], HS.out.step (Bs.below_drewsB gn _ _) (Nat.le_refl _), box_below HN.out (Bs.below_drewsB _ _ _) (box_lt HN.out)⟩
              case measure => simp [intOf]; omega
            · have e2 : okK m c l9 (k + 1) = false := by rw [EO.out, decide_eq_false (by omega), Bool.and_false]
              have hd2 : decide (x < y + q) = true := decide_eq_true (by omega)
              have E2 := Lib.hid e2
              clear e2 EO
              go_wp2_with fail
              go_quiet (fail)
              go_wp2_with fail
              go_roundw
              case rel => exact ⟨k + 1, by omega, by go_num, by rw [E2.out], HS.out.step (Bs.below_drewsB gn _ _) (Nat.le_refl _), box_below HN.out (Bs.below_drewsB _ _ _) (box_lt HN.out)⟩
              case measure => simp [intOf]; omega
        · obtain rfl : k = 6 := by omega
          have hll := HL.out
          have b0 := hS.bm
          have b1 := hS.bc
          have HS := Lib.hid hS
          have heq : ∀ (x : Cx) (w : World), (binOp .neq 131 (.agg #[.int .u16 x.f, .int .u16 x.i, .int .u8 x.r0, .int .u8 x.r1, .int .u8 x.r2, .int .u8 x.r3, .int .u8 x.r4, .int .u8 x.r5, .int .i8 x.c0, .int .i8 x.c1, .int .i8 x.c2, .int .i8 x.c3, .int .i8 x.c4, .int .i8 x.c5, .int .u8 x.m, .int .u16 x.n, .bool x.x, .int .u8 x.h]) (.agg #[.int .u16 x.f, .int .u16 x.i, .int .u8 x.r0, .int .u8 x.r1, .int .u8 x.r2, .int .u8 x.r3, .int .u8 x.r4, .int .u8 x.r5, .int .i8 x.c0, .int .i8 x.c1, .int .i8 x.c2, .int .i8 x.c3, .int .i8 x.c4, .int .i8 x.c5, .int .u8 x.m, .int .u16 x.n, .bool x.x, .int .u8 x.h])).run Try.prog w = .ok (.bool false) w := fun x w => by rw [neqCx]; simp
          have heq2 : ∀ (x : Cx) (w : World), (binOp .eql 131 (.agg #[.int .u16 x.f, .int .u16 x.i, .int .u8 x.r0, .int .u8 x.r1, .int .u8 x.r2, .int .u8 x.r3, .int .u8 x.r4, .int .u8 x.r5, .int .i8 x.c0, .int .i8 x.c1, .int .i8 x.c2, .int .i8 x.c3, .int .i8 x.c4, .int .i8 x.c5, .int .u8 x.m, .int .u16 x.n, .bool x.x, .int .u8 x.h]) (.agg #[.int .u16 x.f, .int .u16 x.i, .int .u8 x.r0, .int .u8 x.r1, .int .u8 x.r2, .int .u8 x.r3, .int .u8 x.r4, .int .u8 x.r5, .int .i8 x.c0, .int .i8 x.c1, .int .i8 x.c2, .int .i8 x.c3, .int .i8 x.c4, .int .i8 x.c5, .int .u8 x.m, .int .u16 x.n, .bool x.x, .int .u8 x.h])).run Try.prog w = .ok (.bool true) w := fun x w => by rw [eqlCx]; simp
          have HEQ := Lib.hid heq
          have HEQ2 := Lib.hid heq2
          clear hS heq heq2
          by_cases hM : May m c l9
          · have hok6 : okK m c l9 6 = true := (okK_may m c l9).2 hM
            have hsp : spendR m c l9 = (undoR c l9 0, true) := by unfold spendR; rw [spend_yes l9 hM, undo_zero]
            have HSP := Lib.hid hsp
            have hgood := spend_good hm wc (spend_yes l9 hM)
            rw [undo_zero] at hgood
            rw [hok6]
            have hroom := fun k (h : k < 6) => hM.le (k : Nat)
            clear hok6 hsp hM hroom
            skip
            go_wp2_with (first | ((with_reducible show wpList _ _ _ (_ :: _) _ _); refine wpList_load_row rfl 129 _ rfl _ rfl _ _ _ _ b0 Try.underlying129 rfl (by exact size_lm) ?_; (try go_simp)) | ((with_reducible show wpList _ _ _ (_ :: _) _ _); refine wpList_load_row rfl 131 _ rfl _ rfl _ _ _ _ b1 Try.underlying131 rfl (by exact size_cx) ?_; (try go_simp)))
            go_at_call 64
            refine (Spend_det a len cap _ l9 _ hm wc HL.out HS.out.ln HS.out.ro HSP.out).mono ?_
            rintro e w5 ⟨rfl, hb⟩
            have h5 := HS.out.step (hb.mono HS.out.ln) (Nat.le_refl _)
            have n5 := box_below HN.out hb (box_lt HN.out)
            have hb6 : Below w5.heap.size w5 (w5.alloc (.cells #[.int .u16 (undoR c l9 0).f, .int .u16 (undoR c l9 0).i, .int .u8 (undoR c l9 0).r0, .int .u8 (undoR c l9 0).r1, .int .u8 (undoR c l9 0).r2, .int .u8 (undoR c l9 0).r3, .int .u8 (undoR c l9 0).r4, .int .u8 (undoR c l9 0).r5, .int .i8 (undoR c l9 0).c0, .int .i8 (undoR c l9 0).c1, .int .i8 (undoR c l9 0).c2, .int .i8 (undoR c l9 0).c3, .int .i8 (undoR c l9 0).c4, .int .i8 (undoR c l9 0).c5, .int .u8 (undoR c l9 0).m, .int .u16 (undoR c l9 0).n, .bool (undoR c l9 0).x, .int .u8 (undoR c l9 0).h] 131)) := (Below.refl _ _).alloc (Nat.le_refl _) _
            have h6 := h5.step (hb6.mono h5.ln) (Nat.le_refl _)
            have n6 := box_below n5 hb6 (box_lt n5)
            have d6 := heap_alloc_new w5 (.cells #[.int .u16 (undoR c l9 0).f, .int .u16 (undoR c l9 0).i, .int .u8 (undoR c l9 0).r0, .int .u8 (undoR c l9 0).r1, .int .u8 (undoR c l9 0).r2, .int .u8 (undoR c l9 0).r3, .int .u8 (undoR c l9 0).r4, .int .u8 (undoR c l9 0).r5, .int .i8 (undoR c l9 0).c0, .int .i8 (undoR c l9 0).c1, .int .i8 (undoR c l9 0).c2, .int .i8 (undoR c l9 0).c3, .int .i8 (undoR c l9 0).c4, .int .i8 (undoR c l9 0).c5, .int .u8 (undoR c l9 0).m, .int .u16 (undoR c l9 0).n, .bool (undoR c l9 0).x, .int .u8 (undoR c l9 0).h] 131)
            have hg5 := h5.ln
            have hng := box_lt n5
            clear hb b0 b1 h5 n5 hb6 HS HN
            go_upto_region 20 with ((with_reducible show wpList _ _ _ (_ :: _) _ _); refine wpList_store_row rfl 131 _ _ rfl _ _ rfl rfl _ _ (heap_alloc_new _ _) (by exact size_cx) (by rfl) (by simp [Value.oneCell']) ?_; rw [World.setRow_alloc_new])
            obtain ⟨w6, hw6⟩ : ∃ w6, w6 = w5.alloc (.cells #[.int .u16 (undoR c l9 0).f, .int .u16 (undoR c l9 0).i, .int .u8 (undoR c l9 0).r0, .int .u8 (undoR c l9 0).r1, .int .u8 (undoR c l9 0).r2, .int .u8 (undoR c l9 0).r3, .int .u8 (undoR c l9 0).r4, .int .u8 (undoR c l9 0).r5, .int .i8 (undoR c l9 0).c0, .int .i8 (undoR c l9 0).c1, .int .i8 (undoR c l9 0).c2, .int .i8 (undoR c l9 0).c3, .int .i8 (undoR c l9 0).c4, .int .i8 (undoR c l9 0).c5, .int .u8 (undoR c l9 0).m, .int .u16 (undoR c l9 0).n, .bool (undoR c l9 0).x, .int .u8 (undoR c l9 0).h] 131) := ⟨_, rfl⟩
            rw [← hw6] at h6 n6 d6 ⊢
            obtain ⟨gd, hgd⟩ : ∃ g, g = w5.heap.size := ⟨_, rfl⟩
            rw [← hgd] at d6 hg5 hng ⊢
            have b0 := h6.bm
            have b1 := h6.bc
            have HS := Lib.hid h6
            have HN := Lib.hid n6
            have HD := Lib.hid d6
            clear hw6 hgd h6 n6 d6
            go_wp2_with (first | (refine wpLoadG (by (first | exact Go.Mix.wanted_none rfl | exact Go.Mix.wanted_tt rfl rfl rfl | exact Go.Mix.wanted_ff rfl rfl rfl)) 129 _ rfl _ rfl _ _ _ _ b0 Try.underlying129 rfl (by exact size_lm) ?_; (try go_simp)) | (refine wpLoadG (by (first | exact Go.Mix.wanted_none rfl | exact Go.Mix.wanted_tt rfl rfl rfl | exact Go.Mix.wanted_ff rfl rfl rfl)) 131 _ rfl _ rfl _ _ _ _ b1 Try.underlying131 rfl (by exact size_cx) ?_; (try go_simp)))
            go_at_call 65
            refine (May_det a len cap _ l9 _ hm wc HL.out HS.out.ln HS.out.ro HSP.out).mono ?_
            rintro e w7 ⟨rfl, hb⟩
            have HS7 := Lib.hid (HS.out.step (hb.mono HS.out.ln) (Nat.le_refl _))
            have bn := box_below HN.out hb (box_lt HN.out)
            have bd := box_below HD.out hb (box_lt HD.out)
            have HD7 := Lib.hid bd
            have b1 := HS7.out.bc
            have heq := HEQ.out
            clear hb b0 HS HN HD
            go_wp2_with (first | (refine wpLoadG (by (first | exact Go.Mix.wanted_none rfl | exact Go.Mix.wanted_tt rfl rfl rfl | exact Go.Mix.wanted_ff rfl rfl rfl)) 131 _ rfl _ rfl _ _ _ _ bd Try.underlying131 rfl (by exact size_cx) ?_; (try go_simp)) | (refine wpLoadG (by (first | exact Go.Mix.wanted_none rfl | exact Go.Mix.wanted_tt rfl rfl rfl | exact Go.Mix.wanted_ff rfl rfl rfl)) 131 _ rfl _ rfl _ _ _ _ b1 Try.underlying131 rfl (by exact size_cx) ?_; (try go_simp)) | ((with_reducible show wpList _ _ _ (_ :: _) _ _); refine wpList_load_row rfl 133 _ rfl _ rfl _ _ _ _ bn Try.underlying133 rfl (by exact size_n6) ?_; (try go_simp)))
            clear bn b1 bd heq
            go_loopw [89] (fun i wr => ∃ (k : Nat), k ≤ 6 ∧ i = .int .i64 k ∧ LcSt w wr g0 g1 gn m c a len cap l9 ∧ wr.heap[gd]? = some (.cells #[.int .u16 (undoR c l9 k).f, .int .u16 (undoR c l9 k).i, .int .u8 (undoR c l9 k).r0, .int .u8 (undoR c l9 k).r1, .int .u8 (undoR c l9 k).r2, .int .u8 (undoR c l9 k).r3, .int .u8 (undoR c l9 k).r4, .int .u8 (undoR c l9 k).r5, .int .i8 (undoR c l9 k).c0, .int .i8 (undoR c l9 k).c1, .int .i8 (undoR c l9 k).c2, .int .i8 (undoR c l9 k).c3, .int .i8 (undoR c l9 k).c4, .int .i8 (undoR c l9 k).c5, .int .u8 (undoR c l9 k).m, .int .u16 (undoR c l9 k).n, .bool (undoR c l9 k).x, .int .u8 (undoR c l9 k).h] 131 (0, 0))) (fun i _ => 6 - (intOf i).toNat)
            case atStart => exact ⟨0, Nat.zero_le _, rfl, HS7.out, HD7.out⟩
            case round =>
              obtain ⟨k, hk, rfl, hS, hD⟩ := hrel
              clear HS7 HD7
              by_cases hlt : k < 6
              · have hix := fun w => ncs_index (cntN l9) hlt w
                have hk1 : wr.cell? ⟨g1, 2 + k, none⟩ = some (.int .u8 (c.r (k : Int))) := by rw [cell_of_row _ g1 (2 + k) _ _ _ hS.bc, cx_cell c k hlt]
                have hkd : wr.cell? ⟨gd, 2 + k, none⟩ = some (.int .u8 ((undoR c l9 k).r (k : Nat))) := by rw [cell_of_row _ gd (2 + k) _ _ _ hD, cx_cell _ k hlt]
                rw [undo_r c l9 hlt] at hkd
                have hput := fun (w2 : World) (h : w2.heap[gd]? = some (.cells #[.int .u16 (undoR c l9 k).f, .int .u16 (undoR c l9 k).i, .int .u8 (undoR c l9 k).r0, .int .u8 (undoR c l9 k).r1, .int .u8 (undoR c l9 k).r2, .int .u8 (undoR c l9 k).r3, .int .u8 (undoR c l9 k).r4, .int .u8 (undoR c l9 k).r5, .int .i8 (undoR c l9 k).c0, .int .i8 (undoR c l9 k).c1, .int .i8 (undoR c l9 k).c2, .int .i8 (undoR c l9 k).c3, .int .i8 (undoR c l9 k).c4, .int .i8 (undoR c l9 k).c5, .int .u8 (undoR c l9 k).m, .int .u16 (undoR c l9 k).n, .bool (undoR c l9 k).x, .int .u8 (undoR c l9 k).h] 131 (0, 0))) => heap_setCell_same w2 gd (2 + k) _ _ (.int .u8 (c.r (k : Nat))) h
                rw [cx_put _ k _ hlt, undo_next c l9 hlt] at hput
                have hy := c.r_good wc (k : Nat)
                have hq := cntN_le l9 k
                obtain ⟨y, hy'⟩ : ∃ y, y = c.r (k : Nat) := ⟨_, rfl⟩
                obtain ⟨q, hq'⟩ : ∃ q, q = cntN l9 k := ⟨_, rfl⟩
                rw [← hy'] at hk1 hkd hput hy
                rw [← hq'] at hix hkd hq
                obtain ⟨y0, y1⟩ := hy
                obtain ⟨q0, q1⟩ := hq
                have q2 : q ≤ 20 := by omega
                have hsm : wrap64 (y + q) = y + q := by unfold wrap64; omega
                have hself : (y + q != y + q) = false := by simp
                have HS := Lib.hid hS
                have HD := Lib.hid hD
                have HP := Lib.hid hput
                clear hS hD hput hy' hq' q1
                go_wp2_with fail
                go_quiet (fail)
                obtain ⟨w8, hw8⟩ : ∃ w8, w8 = wr.drewN nq := ⟨_, rfl⟩
                have hb8 : Below wr.heap.size wr w8 := by rw [hw8]; exact Bs.below_drewsB _ _ _
                rw [← hw8]
                have hk1 := (hb8.cell (p := ⟨g1, 2 + k, none⟩) (box_lt HS.out.bc)).trans hk1
                have hkd2 := box_below HD.out hb8 (box_lt HD.out)
                have hzd : w8.frozen? ⟨gd, 2 + k, none⟩ = false := frozen_of_row _ gd (2 + k) _ _ hkd2
                have hkd := (hb8.cell (p := ⟨gd, 2 + k, none⟩) (box_lt HD.out)).trans hkd
                have hS9 := (HS.out.step (hb8.mono HS.out.ln) (Nat.le_refl _)).step ((Below.refl gn w8).setCell (p := ⟨gd, 2 + k, none⟩) hg5 (.int .u8 y)) (Nat.le_refl _)
                have HS9 := Lib.hid hS9
                have HP9 := Lib.hid (HP.out _ hkd2)
                clear hw8 hb8 hkd2 hS9 HS HD HP
                go_wp2_with fail
                go_roundw
                case rel => exact ⟨k + 1, by omega, by go_num, HS9.out, HP9.out⟩
                case measure => simp [intOf]; omega
              · obtain rfl : k = 6 := by omega
                rw [undo_six] at hD
                have b1 := hS.bc
                have HS := Lib.hid hS
                have heq := HEQ2.out
                clear hS
                go_wp2_with (first | ((with_reducible show wpList _ _ _ (_ :: _) _ _); refine wpList_load_row rfl 131 _ rfl _ rfl _ _ _ _ hD Try.underlying131 rfl (by exact size_cx) ?_; (try go_simp)) | ((with_reducible show wpList _ _ _ (_ :: _) _ _); refine wpList_load_row rfl 131 _ rfl _ rfl _ _ _ _ b1 Try.underlying131 rfl (by exact size_cx) ?_; (try go_simp)))
                go_ret
                exact ⟨rfl, HS.out.be⟩
          · have hok6 : okK m c l9 6 = false := by
              cases h : okK m c l9 6
              · rfl
              · exact absurd ((okK_may m c l9).1 h) hM
            have hsp : spendR m c l9 = (c, false) := by unfold spendR; rw [spend_no hM]
            have HSP := Lib.hid hsp
            rw [hok6]
            clear hok6 hM hsp
            skip
            go_wp2_with (first | ((with_reducible show wpList _ _ _ (_ :: _) _ _); refine wpList_load_row rfl 129 _ rfl _ rfl _ _ _ _ b0 Try.underlying129 rfl (by exact size_lm) ?_; (try go_simp)) | ((with_reducible show wpList _ _ _ (_ :: _) _ _); refine wpList_load_row rfl 131 _ rfl _ rfl _ _ _ _ b1 Try.underlying131 rfl (by exact size_cx) ?_; (try go_simp)))
            go_at_call 64
            refine (Spend_det a len cap _ l9 _ hm wc HL.out HS.out.ln HS.out.ro HSP.out).mono ?_
            rintro e w5 ⟨rfl, hb⟩
            have h5 := HS.out.step (hb.mono HS.out.ln) (Nat.le_refl _)
            have n5 := box_below HN.out hb (box_lt HN.out)
            have hb6 : Below w5.heap.size w5 (w5.alloc (.cells #[.int .u16 c.f, .int .u16 c.i, .int .u8 c.r0, .int .u8 c.r1, .int .u8 c.r2, .int .u8 c.r3, .int .u8 c.r4, .int .u8 c.r5, .int .i8 c.c0, .int .i8 c.c1, .int .i8 c.c2, .int .i8 c.c3, .int .i8 c.c4, .int .i8 c.c5, .int .u8 c.m, .int .u16 c.n, .bool c.x, .int .u8 c.h] 131)) := (Below.refl _ _).alloc (Nat.le_refl _) _
            have h6 := h5.step (hb6.mono h5.ln) (Nat.le_refl _)
            have n6 := box_below n5 hb6 (box_lt n5)
            have d6 := heap_alloc_new w5 (.cells #[.int .u16 c.f, .int .u16 c.i, .int .u8 c.r0, .int .u8 c.r1, .int .u8 c.r2, .int .u8 c.r3, .int .u8 c.r4, .int .u8 c.r5, .int .i8 c.c0, .int .i8 c.c1, .int .i8 c.c2, .int .i8 c.c3, .int .i8 c.c4, .int .i8 c.c5, .int .u8 c.m, .int .u16 c.n, .bool c.x, .int .u8 c.h] 131)
            have hg5 := h5.ln
            have hng := box_lt n5
            clear hb b0 b1 h5 n5 hb6 HS HN
            go_upto_region 20 with ((with_reducible show wpList _ _ _ (_ :: _) _ _); refine wpList_store_row rfl 131 _ _ rfl _ _ rfl rfl _ _ (heap_alloc_new _ _) (by exact size_cx) (by rfl) (by simp [Value.oneCell']) ?_; rw [World.setRow_alloc_new])
            obtain ⟨w6, hw6⟩ : ∃ w6, w6 = w5.alloc (.cells #[.int .u16 c.f, .int .u16 c.i, .int .u8 c.r0, .int .u8 c.r1, .int .u8 c.r2, .int .u8 c.r3, .int .u8 c.r4, .int .u8 c.r5, .int .i8 c.c0, .int .i8 c.c1, .int .i8 c.c2, .int .i8 c.c3, .int .i8 c.c4, .int .i8 c.c5, .int .u8 c.m, .int .u16 c.n, .bool c.x, .int .u8 c.h] 131) := ⟨_, rfl⟩
            rw [← hw6] at h6 n6 d6 ⊢
            obtain ⟨gd, hgd⟩ : ∃ g, g = w5.heap.size := ⟨_, rfl⟩
            rw [← hgd] at d6 hg5 hng ⊢
            have b0 := h6.bm
            have b1 := h6.bc
            have HS := Lib.hid h6
            have HN := Lib.hid n6
            have HD := Lib.hid d6
            clear hw6 hgd h6 n6 d6
            go_wp2_with (first | (refine wpLoadG (by (first | exact Go.Mix.wanted_none rfl | exact Go.Mix.wanted_tt rfl rfl rfl | exact Go.Mix.wanted_ff rfl rfl rfl)) 129 _ rfl _ rfl _ _ _ _ b0 Try.underlying129 rfl (by exact size_lm) ?_; (try go_simp)) | (refine wpLoadG (by (first | exact Go.Mix.wanted_none rfl | exact Go.Mix.wanted_tt rfl rfl rfl | exact Go.Mix.wanted_ff rfl rfl rfl)) 131 _ rfl _ rfl _ _ _ _ b1 Try.underlying131 rfl (by exact size_cx) ?_; (try go_simp)))
            go_at_call 65
            refine (May_det a len cap _ l9 _ hm wc HL.out HS.out.ln HS.out.ro HSP.out).mono ?_
            rintro e w7 ⟨rfl, hb⟩
            have HS7 := Lib.hid (HS.out.step (hb.mono HS.out.ln) (Nat.le_refl _))
            have bn := box_below HN.out hb (box_lt HN.out)
            have bd := box_below HD.out hb (box_lt HD.out)
            have HD7 := Lib.hid bd
            have b1 := HS7.out.bc
            have heq := HEQ.out
            clear hb b0 HS HN HD
            go_wp2_with (first | (refine wpLoadG (by (first | exact Go.Mix.wanted_none rfl | exact Go.Mix.wanted_tt rfl rfl rfl | exact Go.Mix.wanted_ff rfl rfl rfl)) 131 _ rfl _ rfl _ _ _ _ bd Try.underlying131 rfl (by exact size_cx) ?_; (try go_simp)) | (refine wpLoadG (by (first | exact Go.Mix.wanted_none rfl | exact Go.Mix.wanted_tt rfl rfl rfl | exact Go.Mix.wanted_ff rfl rfl rfl)) 131 _ rfl _ rfl _ _ _ _ b1 Try.underlying131 rfl (by exact size_cx) ?_; (try go_simp)) | ((with_reducible show wpList _ _ _ (_ :: _) _ _); refine wpList_load_row rfl 133 _ rfl _ rfl _ _ _ _ bn Try.underlying133 rfl (by exact size_n6) ?_; (try go_simp)))
            clear bn b1 bd heq
            go_loopw [89] (fun i wr => ∃ (k : Nat), k ≤ 6 ∧ i = .int .i64 k ∧ wr = w7) (fun i _ => 6 - (intOf i).toNat)
            case atStart => exact ⟨0, Nat.zero_le _, rfl, rfl⟩
            case round =>
              obtain ⟨k, hk, rfl, rfl⟩ := hrel
              by_cases hlt : k < 6
              · have hix := fun w => ncs_index (cntN l9) hlt w
                go_wp2_with fail
                go_roundw
                case rel => exact ⟨k + 1, by omega, by go_num, trivial⟩
                case measure => simp [intOf]; omega
              · obtain rfl : k = 6 := by omega
                have b1 := HS7.out.bc
                have bd := HD7.out
                have heq := HEQ2.out
                go_wp2_with (first | ((with_reducible show wpList _ _ _ (_ :: _) _ _); refine wpList_load_row rfl 131 _ rfl _ rfl _ _ _ _ bd Try.underlying131 rfl (by exact size_cx) ?_; (try go_simp)) | ((with_reducible show wpList _ _ _ (_ :: _) _ _); refine wpList_load_row rfl 131 _ rfl _ rfl _ _ _ _ b1 Try.underlying131 rfl (by exact size_cx) ?_; (try go_simp)))
                go_ret
                exact ⟨rfl, HS7.out.be⟩
end Go.Proofs.Ytiaaafjpnijphaa
