/- Rows of ints that were cut from their front, and are appended to. -/
import Derived.Test.YtnjkpamjjdkmoaaRingN
import Derived.Deep.AppendSrc
import Derived.Deep.Upon
import Derived.Deep.MidRow
namespace Go.Proofs.Ytnjkpamjjdkmoaa
open Go.RowKit Go.Own
set_option linter.unusedVariables false
set_option linter.unusedSimpArgs false
/-- A row in memory of one's own (block base and above), wherever it begins there. -/
structure CutI (base : Nat) (w : World) (a : Option Addr) (len cap : Nat) (L : List Int) : Prop where
  ln : L.length = len
  rd : Rd w.heap.size w a len cap (iv L)
  sp : 0 < cap → ∃ b off, a = some ⟨b, off, none⟩ ∧ base ≤ b ∧ b < w.heap.size ∧ ∀ j, j < cap → (w.cell? ⟨b, off + j, none⟩).isSome = true ∧ w.frozen? ⟨b, off + j, none⟩ = false
theorem cut_nil (base : Nat) (w : World) : CutI base w none 0 0 [] := ⟨rfl, Rd.none_ _ _ _, fun h => absurd h (by omega)⟩
theorem CutI.step {base : Nat} {w w' : World} {a : Option Addr} {len cap : Nat} {L : List Int} (h : CutI base w a len cap L) (hb : ∀ k, base ≤ k → k < w.heap.size → w'.heap[k]? = w.heap[k]?) (hs : w.heap.size ≤ w'.heap.size) : CutI base w' a len cap L := by
  refine ⟨h.ln, ⟨h.rd.le, h.rd.top, h.rd.nil_, fun hl => ?_⟩, fun hc => ?_⟩
  · obtain ⟨b, off, e, h1, h2, h3⟩ := h.sp (Nat.lt_of_lt_of_le hl h.rd.le)
    obtain ⟨b', off', e', h1', h2'⟩ := h.rd.row hl
    rw [e] at e'
    cases e'
    exact ⟨b, off, e, Nat.lt_of_lt_of_le h2 hs, fun i hi => (World.cell?_of_block (a := ⟨b, off + i, none⟩) (hb b h1 h2)).trans (h2' i hi)⟩
  · obtain ⟨b, off, e, h1, h2, h3⟩ := h.sp hc
    exact ⟨b, off, e, h1, Nat.lt_of_lt_of_le h2 hs, fun j hj => by
      rw [World.cell?_of_block (a := ⟨b, off + j, none⟩) (hb b h1 h2), World.frozen?_of_block (a := ⟨b, off + j, none⟩) (hb b h1 h2)]
      exact h3 j hj⟩
theorem CutI.below {base : Nat} {w w' : World} {a : Option Addr} {len cap : Nat} {L : List Int} (h : CutI base w a len cap L) (hb : Below w.heap.size w w') : CutI base w' a len cap L := h.step (fun k _ hk => hb.block k hk) hb.size
theorem CutI.kept {base g b : Nat} {w w' : World} {a : Option Addr} {len cap : Nat} {L : List Int} (h : CutI base w a len cap L) (hk : Kept g b w w') (hg : g < base) (hb : b < base) : CutI base w' a len cap L := h.step (fun k h1 h2 => hk.block k h2 (by omega) (by omega)) hk.size
theorem cut_own {base n : Nat} {w : World} {v : Value} {L : List Int} (h : w.ownsRow base 3 1 v n (il L)) : ∃ a cap, v = .slice a n cap ∧ CutI base w a n cap L := by
  obtain ⟨hl, h2⟩ := id h
  have hln : L.length = n := by simpa [il] using hl
  rcases h2 with ⟨rfl, rfl⟩ | ⟨g, cap, cur, rfl, hb, hg, hnc, hcm, hcs, htake⟩
  · have : L = [] := List.eq_nil_of_length_eq_zero hln
    subst this
    exact ⟨none, 0, rfl, cut_nil base w⟩
  · refine ⟨some ⟨g, 0, none⟩, cap, rfl, hln, ⟨hnc, hcm, (fun e => by cases e), fun hl => ⟨g, 0, rfl, box_lt hg, fun i hi => ?_⟩⟩, fun _ => ⟨g, 0, rfl, hb, box_lt hg, fun j hj => ?_⟩⟩
    · have := h.cells (g := g) rfl i (.int .i64 (L.getD i 0)) (il_at L (by omega))
      rw [Addr.add_mid] at this
      exact this
    · rw [Nat.zero_add]
      refine ⟨?_, frozen_of_row w g j _ _ hg⟩
      rw [cell_of_row w g j _ _ _ hg]
      have : j < cur.size := by rw [hcs]; omega
      simp [this]
theorem cut_tail {base : Nat} {w : World} {a : Option Addr} {len cap : Nat} {x : Int} {L : List Int} (h : CutI base w a len cap (x :: L)) : CutI base w (if cap = 1 then a else a.map (·.add 1)) (len - 1) (cap - 1) L := by
  have hln : L.length + 1 = len := h.ln
  have hle := h.rd.le
  refine ⟨by omega, ?_, fun hc => ?_⟩
  · exact (h.rd.rest (k := 1) (by omega)).same fun i hi => by
      unfold iv
      rw [show (1 + i) = i + 1 by omega]
      simp
  · obtain ⟨b, off, rfl, h1, h2, h3⟩ := h.sp (by omega)
    rw [if_neg (by omega)]
    refine ⟨b, off + 1, by simp [Addr.add], h1, h2, fun j hj => ?_⟩
    have := h3 (j + 1) (by omega)
    rw [show off + 1 + j = off + (j + 1) by omega]
    exact this
theorem heap_setCell_otherI (w : World) (p : Addr) (g : Nat) (v : Value) (h : g ≠ p.block) : (w.setCell p v).heap[g]? = w.heap[g]? := heap_setCell_other w p g v h
/-- What an append to a row leaves as it is. -/
def KeI (a : Option Addr) (cap : Nat) (w w' : World) : Prop := ∀ j, j < w.heap.size → (0 < cap → ∀ p, a = some p → p.block ≠ j) → w'.heap[j]? = w.heap[j]?
/-- One more. -/
theorem run_append_cut {base : Nat} {w : World} {a : Option Addr} {len cap : Nat} {L : List Int} {i0 : TypeInfo} (ty : TypeId) (hi : Try.prog.info? 3 = some i0) (hz0 : i0.zero = some (.int .i64 0)) (hz1 : i0.size = 1) (hz2 : i0.bytes = 8)
    (h : CutI base w a len cap L) (hbase : base ≤ w.heap.size) (x : Int) (ge : Nat) (hx : w.cell? ⟨ge, 0, none⟩ = some (.int .i64 x)) (hlen : len ≤ 1000000) :
    ∃ a' cap' w', (Builtin.append_ #[38, 38] ty #[.slice a len cap, .slice (some ⟨ge, 0, none⟩) 1 1]).run Try.prog w = .ok (.slice a' (len + 1) cap') w' ∧ CutI base w' a' (len + 1) cap' (L ++ [x]) ∧ Below base w w' ∧ KeI a cap w w' := by
  have hsrc : Src Try.prog i0.size 38 (.slice (some ⟨ge, 0, none⟩) 1 1) 1 [.int .i64 x] w := Src.ofSlice w Try.underlying38 _ _ _ _ (by rw [hz1]; rfl) (fun j u hj => by
    have : j = 0 := by
      have := (List.getElem?_eq_some_iff.1 hj).1
      simpa using this
    subst this
    simp at hj
    subst hj
    simpa [Addr.add] using hx) (by simp [Value.oneCell'])
  have hle := h.rd.le
  have htop := h.rd.top
  have hln := h.ln
  by_cases hroom : len + 1 ≤ cap
  · obtain ⟨b, off, rfl, h1, h2, h3⟩ := h.sp (by omega)
    have hr := run_append_room_src (P := Try.prog) w 38 38 ty 3 i0 Try.underlying38 hi b off len cap (.slice (some ⟨ge, 0, none⟩) 1 1) 1 [.int .i64 x] hsrc hroom
      (fun j hj => by rw [hz1, Nat.mul_one, Nat.add_assoc]; exact (h3 (len + j) (by simp at hj; omega)).1) (fun j hj => by rw [hz1, Nat.mul_one, Nat.add_assoc]; exact (h3 (len + j) (by simp at hj; omega)).2)
    rw [hz1, Nat.mul_one] at hr
    have hw : w.setCells b (off + len) [.int .i64 x] = w.setCell ⟨b, off + len, none⟩ (.int .i64 x) := by simp [World.setCells]
    rw [hw] at hr
    refine ⟨_, _, _, hr, ⟨by simp [hln], ⟨hroom, htop, (fun e => by cases e), fun _ => ⟨b, off, rfl, by simpa using h2, fun i hi => ?_⟩⟩, fun _ => ⟨b, off, rfl, h1, by simpa using h2, fun j hj => ?_⟩⟩, Below.setCell (Below.refl _ _) h1 _, fun j hj hp => heap_setCell_other w _ j _ (fun e => hp (by omega) _ rfl e.symm)⟩
    · by_cases e : i = len
      · subst e
        have := World.cell?_setCell_same' w ⟨b, off + i, none⟩ (.int .i64 x) (h3 i (by omega)).1
        rw [this]
        simp [iv, List.getD, hln]
      · have hb2 : (w.setCell ⟨b, off + len, none⟩ (.int .i64 x)).cell? ⟨b, off + i, none⟩ = w.cell? ⟨b, off + i, none⟩ := World.cell?_setCell_other w _ _ _ (by simp <;> omega)
        rw [hb2]
        obtain ⟨b', off', e', _, h5⟩ := h.rd.row (by omega)
        cases e'
        rw [h5 i (by omega)]
        have : i < L.length := by omega
        simp [iv, List.getD, List.getElem?_append_left this]
    · rw [World.frozen?_setCell]
      refine ⟨?_, (h3 j hj).2⟩
      by_cases e : j = len
      · subst e
        rw [World.cell?_setCell_same' w ⟨b, off + j, none⟩ (.int .i64 x) (h3 j (by omega)).1]; rfl
      · rw [World.cell?_setCell_other w _ _ _ (by simp <;> omega)]
        exact (h3 j hj).1
  · have hold : (Builtin.firstCells i0.size len (.slice a len cap)).run Try.prog w.drew = .ok (il L).toArray w.drew := by
      rw [hz1]
      rcases Nat.eq_zero_or_pos len with h0 | h0
      · have hL : L = [] := List.eq_nil_of_length_eq_zero (by omega)
        subst hL
        subst h0
        cases a with
        | none => exact run_firstCells_none _ _ _ _ _
        | some b => exact run_firstCells_some _ 1 0 b _ _ [] rfl (by simp)
      · obtain ⟨b, off, rfl, _, hc⟩ := h.rd.row h0
        exact run_firstCells_some _ 1 len ⟨b, off, none⟩ _ _ (il L) (by simp [il, hln]) (fun j v hj => by
          have hjl : j < L.length := by
            have := (List.getElem?_eq_some_iff.1 hj).1
            simpa [il] using this
          rw [il_at L hjl] at hj
          cases hj
          rw [Addr.add_mid]
          exact hc j (by omega))
    have hr := run_append_grow_src (P := Try.prog) w 38 38 ty 3 i0 (.int .i64 0) Try.underlying38 hi hz0 a len cap (il L) hold (.slice (some ⟨ge, 0, none⟩) 1 1) 1 [.int .i64 x] hsrc (by omega) (by omega) (growslice_fits (by omega) (by rw [hz2]; omega))
    have hge := grownCap_ge w (len + 1) cap 3
    have hcm : grownCap w (len + 1) cap 3 ≤ maxLen := grownCap_le_maxLen w (len + 1) cap 3 (by unfold maxLen; omega)
    obtain ⟨C, hC⟩ : ∃ C, C = grownCap w (len + 1) cap 3 := ⟨_, rfl⟩
    rw [← hC] at hr hge hcm
    have hrow := heap_alloc_new w.drew (.cells ((il L ++ [Value.int .i64 x]).toArray ++ Builtin.zeroCells (Value.int .i64 0).cells (C - (len + 1))) 3)
    have hdr : w.drew.heap.size = w.heap.size := rfl
    rw [hdr] at hrow
    refine ⟨_, _, _, hr, ⟨by simp [hln], ⟨hge, hcm, (fun e => by cases e), fun _ => ⟨w.heap.size, 0, rfl, by simp, fun i hi => ?_⟩⟩, fun _ => ⟨w.heap.size, 0, rfl, hbase, by simp, fun j hj => ?_⟩⟩, ?_⟩
    · rw [Nat.zero_add, cell_of_row _ _ i _ _ _ hrow]
      have h1 : i < (il L ++ [Value.int .i64 x]).length := by simp [il, hln]; omega
      rw [Array.getElem?_append_left (by simpa using h1), List.getElem?_toArray]
      have e1 : il L ++ [Value.int .i64 x] = il (L ++ [x]) := by simp [il]
      rw [e1, il_at _ (by simp [hln]; omega)]
      rfl
    · rw [Nat.zero_add]
      refine ⟨?_, frozen_of_row _ _ j _ _ hrow⟩
      rw [cell_of_row _ _ j _ _ _ hrow]
      have : j < ((il L ++ [Value.int .i64 x]).toArray ++ Builtin.zeroCells (Value.int .i64 0).cells (C - (len + 1))).size := by
        simp [il, hln, Builtin.zeroCells, Value.cells]
        omega
      simp [Array.getElem?_eq_getElem this]
    · exact ⟨(Below.refl base w).drew.alloc (by simpa using hbase) _, fun j hj _ => ((Below.refl w.heap.size w).drew.alloc (Nat.le_refl _) _).block j hj⟩
theorem wp_append_cut {o : Oper} {ac : Act} {K : Act → World → Prop} {Q : Exit → Act → World → Prop} {base : Nat} {w : World} {a : Option Addr} {len cap : Nat} {L : List Int} {i0 : TypeInfo} (s y : Operand)
    (ho : o.op = .call { callee := .builtin .append, args := #[s, y], argTypes := #[38, 38] }) (hi : Try.prog.info? 3 = some i0) (hz0 : i0.zero = some (.int .i64 0)) (hz1 : i0.size = 1) (hz2 : i0.bytes = 8)
    (hs : ac.eval s = .slice a len cap) (h : CutI base w a len cap L) (hbase : base ≤ w.heap.size) (x : Int) (ge : Nat) (hy : ac.eval y = .slice (some ⟨ge, 0, none⟩) 1 1) (hx : w.cell? ⟨ge, 0, none⟩ = some (.int .i64 x)) (hlen : len ≤ 1000000)
    (hK : ∀ a' cap' w', CutI base w' a' (len + 1) cap' (L ++ [x]) → Below base w w' → KeI a cap w w' → K (ac.put o.dst (.slice a' (len + 1) cap')) w') : o.wp Try.prog ac w K Q := by
  obtain ⟨a', cap', w', hr, h2, h3, h4⟩ := run_append_cut o.type hi hz0 hz1 hz2 h hbase x ge hx hlen
  unfold Oper.wp execOp
  simp only [ho, resolve, invoke, builtin, Sem.run_bind, Sem.run_pure, Result.andThen_ok, List.map_toArray, List.map_cons, List.map_nil, hs, hy, hr]
  exact hK a' cap' w' h2 h3 h4
end Go.Proofs.Ytnjkpamjjdkmoaa
