/- CellShows: one bit turned. -/
import Derived.Test.YtifjnpmkcgbniaaLaw06
import Derived.Test.YtifjnpmkcgbniaaKeep
import Derived.RegionTactic
import Derived.ChangeAlike
namespace Go.Proofs.Ytifjnpmkcgbniaa
open Go.RowKit Go.Own
set_option linter.unusedVariables false
set_option linter.unusedSimpArgs false

theorem rightB_sum {l : List Nat} (h : bytes l) (h2 : 2 ≤ l.length) : rightB l = true ↔ Cr.sum l = 0 := by
  have hx := h.at (l.length - 2)
  have hy := h.at (l.length - 1)
  have e : l = l.take (l.length - 2) ++ [l.getD (l.length - 2) 0, l.getD (l.length - 1) 0] := by
    have := seg_two l (l.length - 2) (by omega)
    rw [show l.length - 2 + 1 = l.length - 1 by omega] at this
    rw [← this]
    have h3 : (l.drop (l.length - 2)).take 2 = l.drop (l.length - 2) := List.take_of_length_le (by rw [List.length_drop]; omega)
    rw [h3, List.take_append_drop]
  have := Cr.right_iff (l.take (l.length - 2)) _ _ (h.take _) hx hy
  rw [← e] at this
  rw [this]
  unfold rightB
  simp [h2]
/-- One byte of a right cell, turned, is no cell any more. -/
theorem turned_err {l : List Nat} (h : bytes l) (he : perr l = 0) {i t : Nat} (hi : i < l.length) (h0 : t ≠ 0) (ht : t < 256) : perr (l.set i (l.getD i 0 ^^^ t)) ≠ 0 := by
  intro he'
  have len8 : 8 ≤ l.length := by
    unfold perr at he
    split at he
    · omega
    · rename_i h; omega
  have right : ∀ l : List Nat, perr l = 0 → rightB l = true := by
    intro l he
    unfold perr at he
    split at he
    · omega
    · split at he
      · assumption
      · omega
  have h1 := (rightB_sum h (by omega)).1 (right _ he)
  have hb : bytes (l.set i (l.getD i 0 ^^^ t)) := set_bytes h i (Nat.xor_lt_two_pow (n := 8) (h.at i) ht)
  have h2 := (rightB_sum hb (by rw [List.length_set]; omega)).1 (right _ he')
  have := (one_turn l i t h hi ht).1 (by rw [h1, h2])
  exact h0 this
def flipL (l : List Nat) (q : Nat) : List Nat := l.set (q / 8) (l.getD (q / 8) 0 ^^^ 2 ^ (q % 8))
theorem flipL_len (l : List Nat) (q : Nat) : (flipL l q).length = l.length := List.length_set
theorem pow8_lt (q : Nat) : 2 ^ (q % 8) < 256 := Nat.pow_lt_pow_right (by decide) (show q % 8 < 8 by omega)
theorem flipL_bytes {l : List Nat} (h : bytes l) (q : Nat) : bytes (flipL l q) := set_bytes h _ (Nat.xor_lt_two_pow (n := 8) (h.at _) (pow8_lt q))
theorem flipL_err {l : List Nat} (h : bytes l) (he : perr l = 0) {q : Nat} (hq : q < 8 * l.length) : perr (flipL l q) ≠ 0 :=
  turned_err h he (by omega) (by have := Nat.pow_pos (n := q % 8) (show 0 < 2 by decide); omega) (pow8_lt q)

/-- Three cells in a slice that is captured. -/
def CellsL (B m : Nat) (ls : Nat → List Nat) (w : World) : Prop :=
  ∃ (G cap : Nat) (g c : Nat → Nat), w.heap[B]? = some (.cells #[.slice (some ⟨G, 0, none⟩) 3 cap] 31 (0, 0)) ∧
    w.ownsRow (B + 1) 23 1 (.slice (some ⟨G, 0, none⟩) 3 cap) 3 ((List.range 3).map fun i => .slice (some ⟨g i, 0, none⟩) m (c i)) ∧
    (∀ i, i < 3 → w.ownsRow (B + 1) 5 1 (.slice (some ⟨g i, 0, none⟩) m (c i)) m (bl (ls i))) ∧ ∀ i j, i < 3 → j < 3 → i ≠ j → g i ≠ g j

theorem pow_u8 {r t : Nat} (h : 2 ^ r < 256) (ht : t = 2 ^ r) : IntKind.u8.wrap ((2 : Int) ^ r) = (t : Int) := by
  have e : ((2 : Int) ^ r) = ((2 ^ r : Nat) : Int) := by push_cast; rfl
  rw [e, ← ht, IntKind.wrap_u8]
  rw [← ht] at h
  omega
theorem xor8w (x t : Nat) (hx : x < 256) (ht : t < 256) : bits .xor .u8 (x : Int) (t : Int) = ((x ^^^ t : Nat) : Int) := xor8 x t hx ht
set_option maxHeartbeats 1000000 in
theorem turn_any (B m k bit : Nat) (ls : Nat → List Nat) (w : World) (hm : 8 ≤ m) (hm2 : m ≤ 1000) (hk : k < 3) (hb : bit < 65536) (hl : ∀ i, i < 3 → (ls i).length = m ∧ bytes (ls i)) (h : CellsL B m ls w) :
    Calls Try.prog 27 #[.int .i64 k, .int .i64 bit, .pointer (some ⟨B, 0, none⟩)] w fun e w' => (∃ v, e = .returned v) ∧ CellsL B m (fun i => if i = k then flipL (ls i) (bit % (8 * m)) else ls i) w' ∧ Below (B + 1) w w' := by
  obtain ⟨G, cap, g, c, hbox, hout, hin, hd⟩ := h
  obtain ⟨hlen, hby⟩ := hl k hk
  have c0 := box_cell hbox
  have c1 := hout.cellAt k (by omega)
  have hck : ((List.range 3).map fun i => Value.slice (some ⟨g i, 0, none⟩) m (c i))[k]? = some (.slice (some ⟨g k, 0, none⟩) m (c k)) := by simp [hk]
  rw [hck] at c1
  clear hck
  obtain ⟨q, hq⟩ : ∃ q, q = bit % (8 * m) := ⟨_, rfl⟩
  have hqm : q < 8 * m := by rw [hq]; exact Nat.mod_lt _ (by omega)
  have hqI : (bit : Int) % (8 * (m : Int)) = (q : Int) := by rw [hq]; simp
  have hnz : ((8 * (m : Int)) == 0) = false := by rw [beq_eq_false_iff_ne]; omega
  obtain ⟨d, hd'⟩ : ∃ d, d = q / 8 := ⟨_, rfl⟩
  obtain ⟨r, hr'⟩ : ∃ r, r = q % 8 := ⟨_, rfl⟩
  have hk1 := (hin k hk).cellAt d (by omega)
  have hf1 := (hin k hk).frozenAt d
  rw [bl_at _ (by rw [hlen]; omega)] at hk1
  unfold bv at hk1
  have hx := hby.at d
  obtain ⟨x, hx'⟩ : ∃ x, x = (ls k).getD d 0 := ⟨_, rfl⟩
  rw [← hx'] at hk1 hx
  have htl : 2 ^ r < 256 := by rw [hr']; exact pow8_lt q
  obtain ⟨t, ht⟩ : ∃ t, t = 2 ^ r := ⟨_, rfl⟩
  have hsh : IntKind.u8.wrap ((2 : Int) ^ r) = (t : Int) := pow_u8 htl ht
  rw [← ht] at htl
  have hxor := xor8w x t hx htl
  have hdiv : (q : Int) / 8 = (d : Int) := by omega
  have hmod : (q : Int) % 8 = (r : Int) := by omega
  have hdm : d < m := by omega
  have HQ := Lib.hid hq
  have HX := Lib.hid hx'
  have HD := Lib.hid hd'
  have HT := Lib.hid ht
  have HR := Lib.hid hr'
  have HBOX := Lib.hid hbox
  have HOUT := Lib.hid hout
  have HIN := Lib.hid hin
  clear hq hx' hbox hout hin hd' hr' ht
  go_enter Try.func27, Try.ntmps27
  go_wp2
  rw [hqI]
  clear hqI
  go_region
  go_end0
  have hink := HIN.out k hk
  have hgk := (hink.lt (g k) rfl).1
  obtain ⟨h1, h2⟩ := hink.stored d (.int .u8 ((x ^^^ t : Nat) : Int))
  refine ⟨⟨_, rfl⟩, ⟨G, cap, g, c, box_kept HBOX.out (grown_drew h2) (box_apart HBOX.out hink (by decide)), HOUT.out.kept (grown_drew h2) (own_apart HOUT.out hink (by decide)), fun i hi => ?_, hd⟩, ((Below.refl (B + 1) w).setCell (p := ⟨g k, d, none⟩) hgk _).drew⟩
  by_cases hik : i = k
  · subst hik
    dsimp only
    rw [if_pos rfl]
    unfold flipL
    rw [← HQ.out, ← HD.out, ← HX.out, ← HR.out, ← HT.out, ← set_bl]
    exact h1
  · dsimp only
    rw [if_neg hik]
    exact (HIN.out i hi).kept (grown_drew h2) (.inr (fun h => hd i k hi hk hik (by simpa [Value.ownBlock] using h)))

/-- The cells while they are made. -/
def CellsN (B m : Nat) (C : List Nat) (k : Nat) (w : World) : Prop :=
  ∃ (v : Value) (g c : Nat → Nat), w.heap[B]? = some (.cells #[v] 31 (0, 0)) ∧
    w.ownsRow (B + 1) 23 1 v k ((List.range k).map fun i => .slice (some ⟨g i, 0, none⟩) m (c i)) ∧
    (∀ i, i < k → w.ownsRow (B + 1) 5 1 (.slice (some ⟨g i, 0, none⟩) m (c i)) m (bl C)) ∧ ∀ i j, i < k → j < k → i ≠ j → g i ≠ g j
theorem info_row8 : (Try.prog.info? 23).map (fun i => (i.zero, i.size, i.bytes)) = some (some (.slice none 0 0), 1, 24) := by kernel_rfl
theorem cells_count2 (C D : List Nat) (a : Nat) (ha : a < 3) (hC : perr C = 0) (hD : perr D ≠ 0) : (vst (fun i => if i = a then D else C) 3).1 = 2 := by
  have : a = 0 ∨ a = 1 ∨ a = 2 := by omega
  rcases this with rfl | rfl | rfl <;> simp [vst_cnt, vst, hC, hD]
theorem cells_count1 (C D E : List Nat) (a b : Nat) (ha : a < 3) (hb : b < 3) (hab : a ≠ b) (hC : perr C = 0) (hD : perr D ≠ 0) (hE : perr E ≠ 0) : (vst (fun i => if i = b then E else if i = a then D else C) 3).1 = 1 := by
  have h1 : a = 0 ∨ a = 1 ∨ a = 2 := by omega
  have h2 : b = 0 ∨ b = 1 ∨ b = 2 := by omega
  rcases h1 with rfl | rfl | rfl <;> rcases h2 with rfl | rfl | rfl <;> first | (exact absurd rfl hab) | simp [vst_cnt, vst, hC, hD, hE]
theorem cells_best (C D : List Nat) (a : Nat) (ha : a < 3) (hC : perr C = 0) (hD : perr D ≠ 0) : (fun i => if i = a then D else C) (vst (fun i => if i = a then D else C) 3).2 = C := by
  have h := (vst_good (fun i => if i = a then D else C) 3 (by rw [cells_count2 C D a ha hC hD]; omega)).1
  obtain ⟨j, hj⟩ : ∃ j, j = (vst (fun i => if i = a then D else C) 3).2 := ⟨_, rfl⟩
  rw [← hj] at h ⊢
  by_cases hja : j = a
  · simp only [hja, if_true] at h; exact absurd h hD
  · simp [hja]
theorem CellsL.below {B m : Nat} {ls : Nat → List Nat} {w w' : World} (h : CellsL B m ls w) {k : Nat} (hb : Below k w w') (hk : w.heap.size ≤ k) : CellsL B m ls w' := by
  obtain ⟨G, cap, g, c, h1, h2, h3, h4⟩ := h
  exact ⟨G, cap, g, c, box_below h1 hb (Nat.lt_of_lt_of_le (box_lt h1) hk), own_below h2 hb hk, fun i hi => own_below (h3 i hi) hb hk, h4⟩
theorem CellsL.rds {B m : Nat} {ls : Nat → List Nat} {w : World} (h : CellsL B m ls w) (hl : ∀ i, i < 3 → (ls i).length = m) :
    ∃ (G cap : Nat) (pa : Nat → Option Addr) (pc : Nat → Nat), w.heap[B]? = some (.cells #[.slice (some ⟨G, 0, none⟩) 3 cap] 31 (0, 0)) ∧
      Rd w.heap.size w (some ⟨G, 0, none⟩) 3 cap (fun i => .slice (pa i) (ls i).length (pc i)) ∧ ∀ i, i < 3 → Rd w.heap.size w (pa i) (ls i).length (pc i) (bv (ls i)) := by
  obtain ⟨G, cap, g, c, h1, h2, h3, h4⟩ := h
  refine ⟨G, cap, fun i => some ⟨g i, 0, none⟩, c, h1, rd_of_own h2 (fun i hi => ?_), fun i hi => ?_⟩
  · simp [hi, hl i hi]
  · rw [hl i hi]
    exact rd_of_own (h3 i hi) (fun j hj => bl_at _ (by rw [hl i hi]; exact hj))
theorem CellsN.all {B m : Nat} {C : List Nat} {w : World} (h : CellsN B m C 3 w) : CellsL B m (fun _ => C) w := by
  obtain ⟨v, g, c, h1, h2, h3, h4⟩ := h
  obtain ⟨G, cap, rfl, _⟩ := own_some h2 (by decide)
  exact ⟨G, cap, g, c, h1, h2, h3, h4⟩
theorem CellsN.next {B m k gk ck : Nat} {C : List Nat} {w w3 w4 : World} {v v' : Value} {g c : Nat → Nat} {tmp : Obj}
    (h1 : w.heap[B]? = some (.cells #[v] 31 (0, 0))) (h2 : w.ownsRow (B + 1) 23 1 v k ((List.range k).map fun i => .slice (some ⟨g i, 0, none⟩) m (c i)))
    (h3 : ∀ i, i < k → w.ownsRow (B + 1) 5 1 (.slice (some ⟨g i, 0, none⟩) m (c i)) m (bl C)) (h4 : ∀ i j, i < k → j < k → i ≠ j → g i ≠ g j)
    (hb : Below w.heap.size w w3) (hgk : w.heap.size ≤ gk) (hk : w3.ownsRow w.heap.size 5 1 (.slice (some ⟨gk, 0, none⟩) m ck) m (bl C))
    (ho : w4.ownsRow (B + 1) 23 1 v' (k + 1) (((List.range k).map fun i => .slice (some ⟨g i, 0, none⟩) m (c i)) ++ [.slice (some ⟨gk, 0, none⟩) m ck])) (hg : (w3.alloc tmp).grownBy w4 v.ownBlock) :
    w4.heap[B]? = some (.cells #[v] 31 (0, 0)) ∧ CellsN B m C (k + 1) (w4.setCell ⟨B, 0, none⟩ v') := by
  have hlt := box_lt h1
  have e1 := box_below h1 hb hlt
  have e2 := own_below h2 hb (Nat.le_refl _)
  have e4 := box_kept (box_kept e1 (World.grownBy_alloc w3 tmp none) (by simp)) hg (box_apart e1 e2 (by decide))
  have hn : some B ≠ v'.ownBlock := box_apart e4 ho (by decide)
  have hs := grown_set w4 ⟨B, 0, none⟩ v'
  have keep : ∀ {x : Value} {l : List Value}, w3.ownsRow (B + 1) 5 1 x m l → (w4.setCell ⟨B, 0, none⟩ v').ownsRow (B + 1) 5 1 x m l := by
    intro x l hx
    have hx4 := (hx.alloc tmp).kept hg (own_apart hx e2 (by decide))
    exact hx4.kept hs (.inr (Ne.symm (box_apart e4 hx4 (by decide))))
  refine ⟨e4, v', fun i => if i = k then gk else g i, fun i => if i = k then ck else c i, box_set e4 v', ?_, fun i hi => ?_, fun i j hi hj hij => ?_⟩
  · have := ho.kept hs (.inr (Ne.symm hn))
    rw [List.range_succ, List.map_append]
    have e : (List.range k).map (fun i => Value.slice (some ⟨if i = k then gk else g i, 0, none⟩) m (if i = k then ck else c i)) = (List.range k).map fun i => .slice (some ⟨g i, 0, none⟩) m (c i) := by
      apply List.map_congr_left
      intro i hi
      have : i ≠ k := by have := List.mem_range.1 hi; omega
      simp [this]
    rw [e]
    simpa using this
  · by_cases hik : i = k
    · simp only [hik, if_true]
      exact keep (own_base hk (by omega))
    · simp only [hik, if_false]
      exact keep (own_below (h3 i (by omega)) hb (Nat.le_refl _))
  · have old : ∀ i, i < k → g i < w.heap.size := fun i hi => ((h3 i hi).lt (g i) rfl).2
    by_cases hik : i = k
    · have hjk : j ≠ k := by omega
      simp only [hik, if_true, hjk, if_false]
      have := old j (by omega)
      omega
    · by_cases hjk : j = k
      · simp only [hik, if_false, hjk, if_true]
        have := old i (by omega)
        omega
      · simp only [hik, if_false, hjk]
        exact h4 i j (by omega) (by omega) hij
set_option maxRecDepth 100000 in
set_option maxHeartbeats 4000000 in
theorem walk_CellShows (s : Int) (a0 : Option Addr) (len0 cap0 : Nat) (z : List Int) (i j at_ to : Int) (w : World) (ws : (Lit.int .u32 s).wf = true) (w0 : IsRow .u8 w a0 len0 cap0 z) (wi : (Lit.int .u8 i).wf = true) (wj : (Lit.int .u8 j).wf = true) (wa : (Lit.int .u16 at_).wf = true) (wt : (Lit.int .u16 to).wf = true) :
    Calls Try.prog 5 #[.int .u32 s, .slice a0 len0 cap0, .int .u8 i, .int .u8 j, .int .u16 at_, .int .u16 to] w fun e w' => e = .returned (.bool true) ∧ Below w.heap.size w w' := by
  obtain ⟨i0, hi, hz0, hz1, hz2⟩ := info_parts info_row8
  obtain ⟨l0, hl0, hb0, hr0⟩ := isRow_rd w0
  obtain ⟨s0, s1⟩ := bounds_u32 ws
  obtain ⟨ia, ib⟩ := bounds_u8 wi
  obtain ⟨ja, jb⟩ := bounds_u8 wj
  obtain ⟨aa, ab⟩ := bounds_u16 wa
  obtain ⟨ta, tb⟩ := bounds_u16 wt
  obtain ⟨s, rfl⟩ := Int.eq_ofNat_of_zero_le s0
  obtain ⟨i, rfl⟩ := Int.eq_ofNat_of_zero_le ia
  obtain ⟨j, rfl⟩ := Int.eq_ofNat_of_zero_le ja
  obtain ⟨at_, rfl⟩ := Int.eq_ofNat_of_zero_le aa
  obtain ⟨to, rfl⟩ := Int.eq_ofNat_of_zero_le ta
  have HR0 := Lib.hid hr0
  have HL0 := Lib.hid hl0
  have h1 := hr0.le
  have h2 := hr0.top
  unfold maxLen at h2
  clear ws wi wj wa wt w0 hr0 hl0
  go_enter Try.func5, Try.ntmps5
  go_wp2_with (go_at_call 14; refine (awake06 _).mono ?_; rintro e w1 ⟨rfl, hb1⟩)
  go_at_call 15
  refine (Cut_any a0 len0 cap0 l0 60 _ HL0.out ((HR0.out.below hb1).mono hb1.size) (by omega)).mono ?_
  rintro e w2 ⟨v, rfl, hown, hb2⟩
  obtain ⟨P, hP⟩ : ∃ P, P = l0.take 60 := ⟨_, rfl⟩
  have hPb : bytes P := by rw [hP]; exact hb0.take 60
  obtain ⟨m, hm⟩ : ∃ m, m = min 60 len0 := ⟨_, rfl⟩
  have hPm : P.length = m := by rw [hP, hm]; exact bytes_take HL0.out
  have hm2 : m ≤ 60 := by omega
  rw [← hP, ← hm] at hown
  obtain ⟨a, c, rfl⟩ := own_form hown
  have hr := rd_of_own hown (fun i hi => bl_at P (by omega))
  have HB2 := Lib.hid (hb1.trans (hb2.mono hb1.size))
  have HPM := Lib.hid hPm
  have HR2 := Lib.hid hr
  clear hP hm hown hr hPm hb1 hb2
  have hCl := mkCell_len s P
  have hCe := mkCell_err s P (by rw [HPM.out]; omega)
  have hCs := mkCell_seq s P (by omega)
  have hCb := mkCell_bytes (s := s) hPb
  have hCd := mkCell_dat s P
  rw [HPM.out] at hCl
  obtain ⟨C, hC⟩ : ∃ C, C = mkCell s P := ⟨_, rfl⟩
  rw [← hC] at hCl hCe hCs hCb hCd
  have HC := Lib.hid hC
  have HCL := Lib.hid hCl
  have HCE := Lib.hid hCe
  have HCS := Lib.hid hCs
  have HCD := Lib.hid hCd
  clear hC hCl hCe hCs hCd
  go_wp2
  have hbx := heap_alloc_new w2 (.cells #[.slice none 0 0] 31)
  have hBB : Below w2.heap.size w2 (w2.alloc (.cells #[.slice none 0 0] 31)) := (Below.refl _ _).alloc (Nat.le_refl _) _
  have hBs : w2.heap.size < (w2.alloc (.cells #[.slice none 0 0] 31)).heap.size := by simp
  obtain ⟨W0, hW0⟩ : ∃ W0, W0 = w2.alloc (.cells #[.slice none 0 0] 31) := ⟨_, rfl⟩
  obtain ⟨B, hB⟩ : ∃ B, B = w2.heap.size := ⟨_, rfl⟩
  rw [← hW0] at hbx hBB hBs
  rw [← hB] at hbx hBB hBs HR2
  rw [← hW0, ← hB]
  have HBE := Lib.hid hB
  clear hW0 hB
  go_loopw [29] (fun i wr => ∃ k : Nat, k ≤ 3 ∧ i = .int .i64 k ∧ CellsN B (m + 8) C k wr ∧ Below B w2 wr ∧ B < wr.heap.size) (fun i _ => 3 - (intOf i).toNat)
  case atStart => exact ⟨0, by omega, rfl, ⟨_, fun _ => 0, fun _ => 0, hbx, by simpa using World.ownsRow_nil _ _ _ _, fun i hi => absurd hi (by omega), fun i j hi => absurd hi (by omega)⟩, hBB, hBs⟩
  case round =>
    clear hbx hBB hBs
    obtain ⟨k, hk, rfl, hN, hBB, hBs⟩ := hrel
    by_cases hlt : k < 3
    · obtain ⟨v, g, cc, hbox, hout, hin, hd⟩ := hN
      go_wp2_with fail
      go_at_call 16
      refine (cMake_any s a m c B P _ (by omega) HPM.out (by omega) (HR2.out.below' hBB (Nat.le_refl _)) hPb).mono ?_
      rintro e w3 ⟨hb3, ⟨h, _⟩ | ⟨_, vk, rfl, hown⟩⟩
      · omega
      rw [← HC.out] at hown
      obtain ⟨gk, ck, rfl, hgk, hgl⟩ := own_some hown (by omega)
      have hc0 := box_cell (box_below hbox hb3 (box_lt hbox))
      have hout3 := own_below hout hb3 (Nat.le_refl _)
      have H1 := Lib.hid hbox
      have H2 := Lib.hid hout
      have H3 := Lib.hid hin
      have H4 := Lib.hid hd
      have H5 := Lib.hid hown
      have hBk : B ≤ gk := by omega
      have hs3 : wr.heap.size ≤ w3.heap.size := hb3.size
      have HB3 := Lib.hid (hBB.trans (hb3.mono (by omega)))
      clear hbox hout hin hd hown hBB
      go_wp2_with (at_builtin; refine wpList_append_own _ rfl _ _ 31 rfl (B + 1) 23 i0 (.slice none 0 0) 1 24 Try.underlying31 hi hz0 hz1 hz2 rfl (by decide) _ _ _ rfl (hout3.alloc _) ⟨w3.heap.size, 0, none⟩ 1 1 [.slice (some ⟨gk, 0, none⟩) (m + 8) ck] rfl rfl ?c1 ?c2 ?c3 ?c4 ?c5 ?_)
      case c1 => exact cell_one_new _ _ _
      case c2 => simp [Value.oneCell']
      case c3 => unfold maxLen; omega
      case c4 => omega
      case c5 => simp; omega
      intro v' w4 hown4 hgrow4 _
      obtain ⟨hbx4, hN4⟩ := CellsN.next H1.out H2.out H3.out H4.out hb3 hgk H5.out hown4 hgrow4
      have hc4 := box_cell hbx4
      have hf4 := box_frozen hbx4
      have hb4 : Below B w2 (w4.setCell ⟨B, 0, none⟩ v') := ((HB3.out.alloc (by omega) (.cells #[.slice (some ⟨gk, 0, none⟩) (m + 8) ck] 23)).grown hgrow4 (by simp; omega) (fun j hj => by have := (hout3.lt j hj).1; omega)).setCell (p := ⟨B, 0, none⟩) (Nat.le_refl _) _
      have HN4 := Lib.hid hN4
      have hs4 := box_lt hbx4
      have HB4 := Lib.hid hb4
      obtain ⟨a4, c4, rfl⟩ := own_form hown4
      clear hgrow4 hown4 hout3 hc0 hN4 hb4 hbx4
      go_wp2
      go_roundw
      case rel => exact ⟨k + 1, by omega, by go_num, HN4.out, HB4.out, by simpa using hs4⟩
      case measure => simp [intOf]; omega
    · obtain rfl : k = 3 := by omega
      have hL := hN.all
      clear hN
      obtain ⟨x, hx⟩ : ∃ x, x = i % 3 := ⟨_, rfl⟩
      obtain ⟨y, hy⟩ : ∃ y, y = j % 3 := ⟨_, rfl⟩
      have hxI : (i : Int) % 3 = (x : Int) := by omega
      have hyI : (j : Int) % 3 = (y : Int) := by omega
      have hx3 : x < 3 := by omega
      have hy3 : y < 3 := by omega
      clear hx hy ia ib ja jb
      obtain ⟨q, hq⟩ : ∃ q, q = at_ % (8 * (m + 8)) := ⟨_, rfl⟩
      obtain ⟨p, hp⟩ : ∃ p, p = to % (8 * (m + 8)) := ⟨_, rfl⟩
      have hq8 : q < 8 * (m + 8) := by rw [hq]; exact Nat.mod_lt _ (by omega)
      have hp8 : p < 8 * (m + 8) := by rw [hp]; exact Nat.mod_lt _ (by omega)
      have hDl := flipL_len C q
      rw [HCL.out] at hDl
      have hDb := flipL_bytes hCb q
      have hDe := flipL_err hCb HCE.out (q := q) (by rw [HCL.out]; exact hq8)
      obtain ⟨D, hD⟩ : ∃ D, D = flipL C q := ⟨_, rfl⟩
      rw [← hD] at hDl hDb hDe
      have hls : (fun i => if i = x then flipL ((fun _ => C) i) (at_ % (8 * (m + 8))) else (fun _ => C) i) = fun i => if i = x then D else C := by
        funext i; dsimp only; rw [← hq, ← hD]
      have hlens : ∀ i, i < 3 → ((fun i => if i = x then D else C) i).length = m + 8 ∧ bytes ((fun i => if i = x then D else C) i) := fun i _ => by
        dsimp only
        split
        · exact ⟨hDl, hDb⟩
        · exact ⟨HCL.out, hCb⟩
      have HQ := Lib.hid hq
      have HP := Lib.hid hp
      have HDE := Lib.hid hDe
      have HLS := Lib.hid hls
      have HLENS := Lib.hid hlens
      have HL := Lib.hid hL
      clear hq hp hDe hls hlens hL hDl hD
      go_wp2_with fail
      go_at_call 27
      refine (turn_any B (m + 8) x at_ (fun _ => C) wr (by omega) (by omega) hx3 (by omega) (fun _ _ => ⟨HCL.out, hCb⟩) HL.out).mono ?_
      rintro e w5 ⟨⟨v5, rfl⟩, hL5, hb5⟩
      rw [HLS.out] at hL5
      have hB5 := hBB.trans (hb5.mono (by omega))
      obtain ⟨G, cap, pa, pc, hbox5, hr5, hrr5⟩ := hL5.rds (fun i hi => (HLENS.out i hi).1)
      have hc5 := box_cell hbox5
      have hBs5 := box_lt hbox5
      have HL5 := Lib.hid hL5
      have HR5 := Lib.hid hr5
      have HRR5 := Lib.hid hrr5
      have HB5 := Lib.hid hB5
      clear hL5 hr5 hrr5 hB5 hb5 hBB hbox5
      go_wp2_with fail
      go_at_call 22
      refine (cVote_any _ 3 cap w5.heap.size pa pc (fun i => if i = x then D else C) w5 (Nat.le_refl _) HR5.out HRR5.out (fun i hi => (HLENS.out i hi).2) (fun i hi => by rw [(HLENS.out i hi).1]; omega)).mono ?_
      rintro e w6 ⟨hb6, hpo⟩
      rw [cells_count2 C D x hx3 HCE.out HDE.out] at hpo
      have hbest := cells_best C D x hx3 HCE.out HDE.out
      rcases hpo with ⟨h, _⟩ | ⟨_, x6, c6, rfl, hr6⟩
      · omega
      rw [hbest, HCD.out, HPM.out] at hr6
      rw [hbest, HCD.out, HPM.out, HCS.out]
      have HR6 := Lib.hid hr6
      have HL6 := Lib.hid (HL5.out.below hb6 (Nat.le_refl _))
      have HB6 := Lib.hid (HB5.out.trans (hb6.mono (by omega)))
      have HRP := Lib.hid (HR2.out.below' HB6.out (Nat.le_refl _))
      clear hbest hr6 hb6 HR5 HRR5 hc5
      go_wp2_with fail
      go_at_call 20
      refine (Same_any x6 a m m c6 c w6.heap.size B P P w6 HPM.out HPM.out HR6.out HRP.out hPb hPb).mono ?_
      rintro e w7 ⟨rfl, j7, rfl⟩
      simp only [decide_true]
      have hb7 : Below w6.heap.size w6 (w6.drewN j7) := below_drews _ _ _
      have hL7 := HL6.out.below hb7 (Nat.le_refl _)
      obtain ⟨G7, cap7, pa7, pc7, hbox7, hr7, hrr7⟩ := hL7.rds (fun i hi => (HLENS.out i hi).1)
      have hc7 : (w6.drewN j7).cell? ⟨B, 0, none⟩ = _ := box_cell hbox7
      have hBs7 := box_lt hbox7
      have HL7 := Lib.hid hL7
      have HR7 := Lib.hid hr7
      have HRR7 := Lib.hid hrr7
      have HB7 := Lib.hid (HB6.out.trans (below_drews B w6 j7))
      obtain ⟨W7, hW7⟩ : ∃ W7, W7 = w6.drewN j7 := ⟨_, rfl⟩
      rw [← hW7] at hc7 hBs7 HL7 HR7 HRR7 HB7 ⊢
      clear hW7 hb7 hL7 hr7 hrr7 hbox7 HL6 HB6 HR6 HRP HL5 HB5
      go_wp2_with fail
      go_at_call 24
      refine (Good_any _ 3 cap7 W7.heap.size pa7 pc7 (fun i => if i = x then D else C) W7 (Nat.le_refl _) (by omega) HR7.out HRR7.out (fun i hi => (HLENS.out i hi).2)).mono ?_
      rintro e w8 ⟨rfl, hb8⟩
      have HL8 := Lib.hid (HL7.out.below hb8 (Nat.le_refl _))
      have HB8 := Lib.hid (HB7.out.trans (hb8.mono (by omega)))
      have hgl := gset_lt (fun i => if i = x then D else C) 3
      have hgh := gset_has (fun i => if i = x then D else C) (i := x) (k := 3) (by omega) (by omega)
      have hgf : decide (x < 3 ∧ perr ((fun i => if i = x then D else C) x) = 0) = false := by
        have := HDE.out
        simp [this]
      rw [hgf] at hgh
      obtain ⟨S, hS⟩ : ∃ S, S = gset (fun i => if i = x then D else C) 3 := ⟨_, rfl⟩
      rw [← hS] at hgl hgh
      rw [← hS]
      have HGH := Lib.hid hgh
      clear hS hgf hgh hb8 hc7
      go_wp2_with fail
      go_at_call 25
      refine (Has_any S x w8 hgl).mono ?_
      rintro e w9 ⟨rfl, hb9⟩
      rw [HGH.out]
      have hL9 := HL8.out.below hb9 (Nat.le_refl _)
      have HB9 := Lib.hid (HB8.out.trans (hb9.mono (by have := (HL8.out.rds (fun i hi => (HLENS.out i hi).1)); obtain ⟨_, _, _, _, hq, _⟩ := this; exact Nat.le_of_lt (box_lt hq))))
      have HL9 := Lib.hid hL9
      clear hL9 hb9
      have hBw : w.heap.size ≤ B := by rw [HBE.out]; exact HB2.out.size
      by_cases hxy : x = y
      · subst hxy
        go_wp2
        go_ret
        exact ⟨rfl, HB2.out.trans (HB9.out.mono hBw)⟩
      · have hne : ((x : Int) == (y : Int)) = false := by rw [beq_eq_false_iff_ne]; omega
        have hEl := flipL_len C p
        rw [HCL.out] at hEl
        have hEb := flipL_bytes hCb p
        have hEe := flipL_err hCb HCE.out (q := p) (by rw [HCL.out]; exact hp8)
        have hEP : flipL C (to % (8 * (m + 8))) = flipL C p := by rw [← HP.out]
        obtain ⟨E, hE⟩ : ∃ E, E = flipL C p := ⟨_, rfl⟩
        rw [← hE] at hEl hEb hEe hEP
        have hls : (fun i => if i = y then flipL ((fun i => if i = x then D else C) i) (to % (8 * (m + 8))) else (fun i => if i = x then D else C) i) = fun i => if i = y then E else if i = x then D else C := by
          funext i
          dsimp only
          by_cases hiy : i = y
          · have hix : i ≠ x := by omega
            rw [if_pos hiy, if_pos hiy, if_neg hix, hEP]
          · rw [if_neg hiy, if_neg hiy]
        have hlens : ∀ i, i < 3 → ((fun i => if i = y then E else if i = x then D else C) i).length = m + 8 ∧ bytes ((fun i => if i = y then E else if i = x then D else C) i) := fun i hi => by
          dsimp only
          split
          · exact ⟨hEl, hEb⟩
          · exact HLENS.out i hi
        have HLS2 := Lib.hid hls
        have HLENS2 := Lib.hid hlens
        have HEE := Lib.hid hEe
        clear hls hlens hEe hEl hE hEP
        go_wp2_with fail
        go_at_call 27
        refine (turn_any B (m + 8) y to (fun i => if i = x then D else C) w9 (by omega) (by omega) hy3 (by omega) HLENS.out HL9.out).mono ?_
        rintro e wa ⟨⟨va, rfl⟩, hLa, hba⟩
        rw [HLS2.out] at hLa
        have HBa := Lib.hid (HB9.out.trans (hba.mono (by omega)))
        obtain ⟨Ga, capa, paa, pca, hboxa, hra, hrra⟩ := hLa.rds (fun i hi => (HLENS2.out i hi).1)
        have hca := box_cell hboxa
        have HRa := Lib.hid hra
        have HRRa := Lib.hid hrra
        clear hLa hra hrra hba hboxa HLS HLS2 HL9 HL8
        go_wp2_with fail
        go_at_call 22
        refine (cVote_any _ 3 capa wa.heap.size paa pca (fun i => if i = y then E else if i = x then D else C) wa (Nat.le_refl _) HRa.out HRRa.out (fun i hi => (HLENS2.out i hi).2) (fun i hi => by rw [(HLENS2.out i hi).1]; omega)).mono ?_
        rintro e wb ⟨hbb, hpo⟩
        rw [cells_count1 C D E x y hx3 hy3 hxy HCE.out HDE.out HEE.out] at hpo
        rcases hpo with ⟨_, rfl⟩ | ⟨h, _⟩
        · have HBb := Lib.hid (HBa.out.trans (hbb.mono (by have := HBa.out.size; have := HBE.out; omega)))
          clear hbb
          go_wp2
          go_ret
          exact ⟨rfl, HB2.out.trans (HBb.out.mono hBw)⟩
        · omega
end Go.Proofs.Ytifjnpmkcgbniaa
