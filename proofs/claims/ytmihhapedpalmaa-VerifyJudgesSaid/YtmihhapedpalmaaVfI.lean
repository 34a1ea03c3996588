/- Verification: a packet's first four bytes. -/
import Derived.Test.YtmihhapedpalmaaVf
import Derived.Laws.CopyOwn
namespace Go.Proofs.Ytmihhapedpalmaa
open Go.RowKit Go.Own
set_option linter.unusedVariables false
set_option linter.unusedSimpArgs false
def idL (l : List Nat) : List Nat := [l.getD 0 0, l.getD 1 0, l.getD 2 0, l.getD 3 0]
/-- A packet's first four bytes as a number. -/
def idN (l : List Nat) : Nat := ((l.getD 0 0 * 256 + l.getD 1 0) * 256 + l.getD 2 0) * 256 + l.getD 3 0
theorem idN_lt {l : List Nat} (h : bytes l) : idN l < 4294967296 := by
  have h0 := h.at 0
  have h1 := h.at 1
  have h2 := h.at 2
  have h3 := h.at 3
  unfold idN
  omega
theorem splice_id (l : List Nat) : splice (bl [0, 0, 0, 0]) 0 (bl (l.take 4)) = bl (idL l) := by
  match l with
  | [] => rfl
  | [a] => rfl
  | [a, b] => rfl
  | [a, b, c] => rfl
  | a :: b :: c :: d :: r => simp [splice, idL, bl]
set_option maxRecDepth 100000 in
set_option maxHeartbeats 4000000 in
theorem vId (a : Option Addr) (len cap n : Nat) (l : List Nat) (w : World) (hl : l.length = len) (hn : n ≤ w.heap.size) (hr : Rd n w a len cap (bv l)) (hb : bytes l) :
    Calls Try.prog 67 #[.slice a len cap] w fun e w' => e = .returned (.int .u32 (idN l : Nat)) ∧ Below w.heap.size w w' := by
  have h1 := hr.le
  have h2 := hr.top
  unfold maxLen at h2
  have hx0 := hb.at 0
  have hx1 := hb.at 1
  have hx2 := hb.at 2
  have hx3 := hb.at 3
  have HR := Lib.hid hr
  have HL := Lib.hid hl
  have hm : (bl (l.take 4)).length = Nat.min len 4 := by rw [bl_len, List.length_take, hl, Nat.min_comm]
  have hone : ∀ v ∈ bl (l.take 4), v.oneCell' = true := fun v hv => by
    obtain ⟨x, _, rfl⟩ := List.mem_map.1 hv
    rfl
  have hpos : ∀ w' : World, Below w.heap.size w w' → 0 < (bl (l.take 4)).length → ∃ ad, a = some ad ∧ ∀ j v, (bl (l.take 4))[j]? = some v → w'.cell? (ad.add j) = some v := fun w' hb' h0 => by
    rw [hm, show Nat.min len 4 = min len 4 from rfl, Nat.min_def] at h0
    obtain ⟨b, off, rfl, hbn, hc⟩ := HR.out.row (by split at h0 <;> omega)
    refine ⟨_, rfl, fun j v hj => ?_⟩
    have hjl := (List.getElem?_eq_some_iff.1 hj).1
    rw [bl_len, List.length_take] at hjl
    have := ((hb'.cell (p := ⟨b, off + j, none⟩) (Nat.lt_of_lt_of_le hbn hn)).trans (hc j (by omega)))
    rw [show (Addr.add ⟨b, off, none⟩ j) = ⟨b, off + j, none⟩ by simp [Addr.add], this, ← hj]
    simp [bl, bv, List.getElem?_map, List.getElem?_take_of_lt (show j < 4 by omega), List.getD_eq_getElem?_getD, List.getElem?_eq_getElem (show j < l.length by omega)]
  obtain ⟨cs, hcs⟩ : ∃ cs, cs = bl (l.take 4) := ⟨_, rfl⟩
  rw [← hcs] at hm hone hpos
  have HM := Lib.hid hm
  have HONE := Lib.hid hone
  have HPOS := Lib.hid hpos
  have HCS := Lib.hid hcs
  clear hm hone hpos hcs hl hr
  go_enter Try.func67, Try.ntmps67
  go_wp2_with (refine wpList_copy_splice rfl (.tmp 7) (.tmp 8) 54 54 rfl 5 Try.underlying54 (by kernel_rfl) (some ⟨w.heap.size, 0, none⟩) a 4 4 len cap rfl rfl w.heap.size 0 (bl [0, 0, 0, 0]) 145 (heap_alloc_new w _) cs HM.out (fun h0 => ⟨rfl, HPOS.out _ (by repeat' (first | (with_reducible exact Below.refl _ _) | (with_reducible assumption) | (with_reducible refine Below.setCell ?_ ?_ _) | (with_reducible refine Below.alloc ?_ ?_ _) | (with_reducible refine Below.drew ?_) | (with_reducible refine Below.drawsN ?_ _) | go_size)) h0⟩) (by rw [HM.out]; exact Nat.le_trans (Nat.le_of_eq (Nat.zero_add _)) (Nat.min_le_right _ _)) HONE.out w.heap.size w (by repeat' (first | (with_reducible exact Below.refl _ _) | (with_reducible assumption) | (with_reducible refine Below.setCell ?_ ?_ _) | (with_reducible refine Below.alloc ?_ ?_ _) | (with_reducible refine Below.drew ?_) | (with_reducible refine Below.drawsN ?_ _) | go_size)) (Nat.le_refl _) ?_)
  intro w2 hg2 hB2
  rw [HCS.out, splice_id] at hg2
  have hv : idN l = ((l.getD 0 0 * 256 + l.getD 1 0) * 256 + l.getD 2 0) * 256 + l.getD 3 0 := rfl
  have hgx : w2.heap[w.heap.size]? = some (.cells #[.int .u8 (l.getD 0 0 : Nat), .int .u8 (l.getD 1 0 : Nat), .int .u8 (l.getD 2 0 : Nat), .int .u8 (l.getD 3 0 : Nat)] 145 (0, 0)) := hg2
  obtain ⟨d0, hd0⟩ : ∃ d, d = l.getD 0 0 := ⟨_, rfl⟩
  obtain ⟨d1, hd1⟩ : ∃ d, d = l.getD 1 0 := ⟨_, rfl⟩
  obtain ⟨d2, hd2⟩ : ∃ d, d = l.getD 2 0 := ⟨_, rfl⟩
  obtain ⟨d3, hd3⟩ : ∃ d, d = l.getD 3 0 := ⟨_, rfl⟩
  rw [← hd0, ← hd1, ← hd2, ← hd3] at hgx hv
  rw [← hd0] at hx0
  rw [← hd1] at hx1
  rw [← hd2] at hx2
  rw [← hd3] at hx3
  have c0 := cell_of_row w2 _ 0 _ _ _ hgx
  have c1 := cell_of_row w2 _ 1 _ _ _ hgx
  have c2 := cell_of_row w2 _ 2 _ _ _ hgx
  have c3 := cell_of_row w2 _ 3 _ _ _ hgx
  simp at c0 c1 c2 c3
  obtain ⟨v1, hv1⟩ : ∃ v, v = d0 * 256 + d1 := ⟨_, rfl⟩
  obtain ⟨v2, hv2⟩ : ∃ v, v = v1 * 256 + d2 := ⟨_, rfl⟩
  obtain ⟨v3, hv3⟩ : ∃ v, v = v2 * 256 + d3 := ⟨_, rfl⟩
  have o0 : bits .or .u32 0 (d0 : Int) = ((d0 : Nat) : Int) := by
    have := or32 8 0 (d0 : Int) (by omega) (by omega) (by omega) (by omega) (by omega) (by omega)
    simpa using this
  have o1 : bits .or .u32 ((d0 : Int) * 256) (d1 : Int) = ((v1 : Nat) : Int) := by
    rw [or32 8 _ _ (by omega) (by omega) (by omega) (by omega) (by omega) (by omega)]; omega
  have o2 : bits .or .u32 ((v1 : Int) * 256) (d2 : Int) = ((v2 : Nat) : Int) := by
    rw [or32 8 _ _ (by omega) (by omega) (by omega) (by omega) (by omega) (by omega)]; omega
  have o3 : bits .or .u32 ((v2 : Int) * 256) (d3 : Int) = ((v3 : Nat) : Int) := by
    rw [or32 8 _ _ (by omega) (by omega) (by omega) (by omega) (by omega) (by omega)]; omega
  have b1 : v1 < 65536 := by omega
  have b2 : v2 < 16777216 := by omega
  have HV := Lib.hid (show idN l = v3 by rw [hv, hv3, hv2, hv1])
  have HB := Lib.hid hB2
  clear hv hv1 hv2 hv3 hd0 hd1 hd2 hd3 hg2 hgx HM HONE HPOS HCS HR HL hb hB2
  have i0 : ∀ w : World, (Instr.index 145 (.agg #[.int .u8 (d0 : Nat), .int .u8 (d1 : Nat), .int .u8 (d2 : Nat), .int .u8 (d3 : Nat)]) (.int .i64 0)).run Try.prog w = .ok (.int .u8 (d0 : Nat)) w := fun _ => by kernel_rfl
  have i1 : ∀ w : World, (Instr.index 145 (.agg #[.int .u8 (d0 : Nat), .int .u8 (d1 : Nat), .int .u8 (d2 : Nat), .int .u8 (d3 : Nat)]) (.int .i64 1)).run Try.prog w = .ok (.int .u8 (d1 : Nat)) w := fun _ => by kernel_rfl
  have i2 : ∀ w : World, (Instr.index 145 (.agg #[.int .u8 (d0 : Nat), .int .u8 (d1 : Nat), .int .u8 (d2 : Nat), .int .u8 (d3 : Nat)]) (.int .i64 2)).run Try.prog w = .ok (.int .u8 (d2 : Nat)) w := fun _ => by kernel_rfl
  have i3 : ∀ w : World, (Instr.index 145 (.agg #[.int .u8 (d0 : Nat), .int .u8 (d1 : Nat), .int .u8 (d2 : Nat), .int .u8 (d3 : Nat)]) (.int .i64 3)).run Try.prog w = .ok (.int .u8 (d3 : Nat)) w := fun _ => by kernel_rfl
  go_wp2
  refine wp_loop_rounds 5 ?_
  repeat any_goals (rw [rounds_succ]; go_wp2)
  go_ret
  exact ⟨by rw [HV.out]; rfl, HB.out⟩
end Go.Proofs.Ytmihhapedpalmaa
