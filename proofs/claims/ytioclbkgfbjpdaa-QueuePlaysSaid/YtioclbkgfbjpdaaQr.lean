/- Layer 11: the document's queue: told a report when it is full. -/
import Derived.Test.YtioclbkgfbjpdaaQu3
import Derived.Test.YtioclbkgfbjpdaaFlo3
import Derived.Test.YtioclbkgfbjpdaaBx
import Derived.Deep.CutBlock
import Derived.Deep.AppendSrc
import Derived.Deep.Upon
import Derived.Deep.MidRow
import Derived.Deep.DeepCutAuto
namespace Go.Proofs.Ytioclbkgfbjpdaa
open Go.RowKit Go.Own
set_option linter.unusedVariables false
set_option linter.unusedSimpArgs false
/-- The document's queue: its block, its row in memory of its own. -/
structure XQ (w : World) (gx base n cnt d : Nat) (v : Value) (L : List Rq) : Prop where
  head : w.heap[gx]? = some (.cells #[v, .int .i64 ((n : Nat) : Int), .int .i64 ((d : Nat) : Int), .int .u16 ((cnt : Nat) : Int)] 41 (0, 0))
  own : w.ownsRow base 57 5 v L.length (ql L)
  lt : gx < base
  data : ∀ r ∈ L, RqOk w base r
theorem size_qa : (Try.prog.info? 45).map (·.size) = some 6 := by kernel_rfl
theorem bel_drewQ (w : World) (n : Nat) : Below w.heap.size w (w.drewN n) := ⟨rfl, rfl, rfl, Nat.le_refl _, fun _ _ => rfl⟩
theorem run_minQ {P : Program} (ats : Array TypeId) (ty : TypeId) (k : IntKind) (a b : Int) (w : World) : (Builtin.min_ ats ty #[.int k a, .int k b]).run P w = .ok (.int k (min a b)) w := by
  have e2 : (Builtin.min2 (.int k a) (.int k b)).run P w = .ok (.int k (min a b)) w := by
    unfold Builtin.min2
    by_cases h : b < a
    · have e : min a b = b := by omega
      simp [e, h]
    · have e : min a b = a := by omega
      simp [e, h]
  simp [Builtin.min_, e2]
set_option maxRecDepth 100000 in
set_option maxHeartbeats 2000000 in
theorem Q_full {w : World} {gx base n cnt d c : Nat} {a : Option Addr} {L : List Rq} (k s u t : Nat) (da : Option Addr) (dn dc : Nat) (M : Int) (h : XQ w gx base n cnt d (.slice a L.length c) L) (hk : k % 4 ≠ 3) (hr : L.length = n) (hn : n ≤ 16) (hd : d ≤ 65535) (hk2 : k < 256) :
    Calls Try.prog 20 #[.pointer (some ⟨gx, 0, none⟩), .agg #[.int .u8 ((k : Nat) : Int), .int .u8 ((s : Nat) : Int), .int .u8 ((u : Nat) : Int), .int .u32 ((t : Nat) : Int), .slice da dn dc, .int .i64 M]] w fun e w' => e = .returned (.tuple #[.bool false, .slice none 0 0]) ∧ w'.heap[gx]? = some (.cells #[(.slice a L.length c), .int .i64 ((n : Nat) : Int), .int .i64 (((min (d + 1) 65535) : Nat) : Int), .int .u16 ((cnt : Nat) : Int)] 41 (0, 0)) ∧ Kept gx gx w w' := by
  obtain ⟨r, hr4⟩ : ∃ r, (k : Int) % 4 = r := ⟨_, rfl⟩
  have hr3 : (r == 3) = false := by rw [beq_eq_false_iff_ne]; omega
  clear hk
  skip
  have h0 := heap_alloc_new w (.cells #[.int .u8 ((k : Nat) : Int), .int .u8 ((s : Nat) : Int), .int .u8 ((u : Nat) : Int), .int .u32 ((t : Nat) : Int), .slice da dn dc, .int .i64 M] 45)
  have hb0 : Below w.heap.size w (w.alloc (.cells #[.int .u8 ((k : Nat) : Int), .int .u8 ((s : Nat) : Int), .int .u8 ((u : Nat) : Int), .int .u32 ((t : Nat) : Int), .slice da dn dc, .int .i64 M] 45)) := (Below.refl _ _).alloc (Nat.le_refl _) _
  have hgw := box_lt h.head
  go_enter Try.func20, Try.ntmps20
  go_upto_region 1 with fail
  obtain ⟨w1, hw1⟩ : ∃ w1, w1 = w.alloc (.cells #[.int .u8 ((k : Nat) : Int), .int .u8 ((s : Nat) : Int), .int .u8 ((u : Nat) : Int), .int .u32 ((t : Nat) : Int), .slice da dn dc, .int .i64 M] 45) := ⟨_, rfl⟩
  rw [← hw1] at h0 hb0 ⊢
  obtain ⟨g3, hg3⟩ : ∃ g, g = w.heap.size := ⟨_, rfl⟩
  rw [← hg3] at h0
  rw [show (Value.pointer (some ⟨w.heap.size, 0, none⟩)) = .pointer (some ⟨g3, 0, none⟩) by rw [hg3]]
  have HH := Lib.hid (box_below h.head hb0 hgw)
  have HK := Lib.hid (Kept.of_below (g := gx) (b := gx) hb0)
  have HA := Lib.hid h0
  have hgg : gx < g3 := by rw [hg3]; exact hgw
  clear hw1 hg3 hb0 h0 hgw
  have k0 : w1.cell? ⟨g3, 0, none⟩ = some (.int .u8 ((k : Nat) : Int)) := cell_of_row _ _ 0 _ _ _ HA.out
  have c0 : w1.cell? ⟨gx, 0, none⟩ = some (.slice a L.length c) := cell_of_row _ _ 0 _ _ _ HH.out
  have c1 : w1.cell? ⟨gx, 1, none⟩ = some (.int .i64 ((n : Nat) : Int)) := cell_of_row _ _ 1 _ _ _ HH.out
  have c2 : w1.cell? ⟨gx, 2, none⟩ = some (.int .i64 ((d : Nat) : Int)) := cell_of_row _ _ 2 _ _ _ HH.out
  have f2 : w1.frozen? ⟨gx, 2, none⟩ = false := frozen_of_row _ _ 2 _ _ HH.out
  have hmn := fun (w : World) => run_minQ (P := Try.prog) #[3, 3] 3 .i64 ((d : Int) + 1) 65535 w
  rw [show min ((d : Int) + 1) 65535 = ((min (d + 1) 65535 : Nat) : Int) by omega] at hmn
  have hln : ((L.length : Int) == (n : Int)) = true := by rw [beq_iff_eq]; omega
  have HR := Lib.hid hr
  clear hr
  go_upto_region 10 with fail
  go_quiet (fail)
  clear c0 c1 c2 f2 k0 hr4 hr3
  have hd5 := bel_drewQ w1 nq
  have HH2 := Lib.hid (box_below HH.out hd5 (box_lt HH.out))
  have HK2 := Lib.hid (HK.out.trans (Kept.of_below (g := gx) (b := gx) hd5))
  obtain ⟨w2, hw2⟩ : ∃ w2, w2 = w1.drewN nq := ⟨_, rfl⟩
  rw [← hw2] at HH2 HK2 ⊢
  clear hw2 hd5 HH HK HA h
  have c2 : w2.cell? ⟨gx, 2, none⟩ = some (.int .i64 ((d : Nat) : Int)) := cell_of_row _ _ 2 _ _ _ HH2.out
  have f2 : w2.frozen? ⟨gx, 2, none⟩ = false := frozen_of_row _ _ 2 _ _ HH2.out
  have HP := Lib.hid (heap_setCell_same _ gx 2 _ _ (.int .i64 ((min (d + 1) 65535 : Nat) : Int)) HH2.out)
  have HK3 := Lib.hid (HK2.out.set (a := ⟨gx, 2, none⟩) (.inl rfl) (.int .i64 ((min (d + 1) 65535 : Nat) : Int)))
  go_upto_region 14 with fail
  exact bodyPost_ret (v := .tuple #[.bool false, .slice none 0 0]) (by simp [results, Try.results20, go_sem]) rfl ⟨rfl, HP.out, HK3.out⟩
theorem rq_one (L : List Rq) : ∀ u ∈ ql L, u.oneCell' = true := fun u hu => by
  obtain ⟨r, _, hr⟩ := List.mem_flatMap.1 hu
  simp only [Rq.cs, List.mem_cons, List.not_mem_nil, or_false] at hr
  rcases hr with rfl | rfl | rfl | rfl | rfl <;> rfl
/-- A copy of a row of reports, by append to an empty one. -/
theorem run_copyQ {base : Nat} {w : World} {a : Option Addr} {len cap ge : Nat} {L : List Rq} {i0 : TypeInfo} (ty : TypeId) (hi : Try.prog.info? 57 = some i0) (hz0 : i0.zero = some (.agg #[.int .u8 (rq0.s : Nat), .int .u8 (rq0.u : Nat), .int .u16 (rq0.c : Nat), .int .u32 (rq0.t : Nat), .slice rq0.a rq0.n rq0.cp])) (hz1 : i0.size = 5) (hz2 : i0.bytes = 32)
    (hl : L.length = len) (hc : 0 < len → ∃ b off, a = some ⟨b, off, none⟩ ∧ ∀ j u, (ql L)[j]? = some u → w.cell? ⟨b, off + j, none⟩ = some u) (hrow : w.heap[ge]? = some (.cells #[] 57 (0, 0))) (hge : base ≤ ge) (hlen : len ≤ 100000) :
    ∃ v' w', (Builtin.append_ #[38, 38] ty #[.slice (some ⟨ge, 0, none⟩) 0 0, .slice a len cap]).run Try.prog w = .ok v' w' ∧ w'.ownsRow base 57 5 v' len (ql L) ∧ Below w.heap.size w w' := by
  rcases Nat.eq_zero_or_pos len with h0 | h0
  · have hL : L = [] := List.eq_nil_of_length_eq_zero (by omega)
    subst hL
    subst h0
    have hsrc : Src Try.prog i0.size 38 (.slice a 0 cap) 0 [] w := by
      cases a with
      | none => exact Src.ofNil w Try.underlying38 cap
      | some b => exact Src.ofSlice w Try.underlying38 b 0 cap [] (by simp) (by simp) (by simp)
    have hr := run_append_nothing (P := Try.prog) w 38 38 ty 57 i0 Try.underlying38 hi (some ⟨ge, 0, none⟩) 0 0 (Nat.le_refl _) (.slice a 0 cap) hsrc
    exact ⟨_, _, hr, ⟨rfl, .inr ⟨ge, 0, #[], rfl, hge, hrow, Nat.le_refl _, Nat.zero_le _, rfl, rfl⟩⟩, Below.refl _ _⟩
  · obtain ⟨b, off, rfl, hcs⟩ := hc h0
    have hsrc : Src Try.prog i0.size 38 (.slice (some ⟨b, off, none⟩) len cap) len (ql L) w := Src.ofSlice w Try.underlying38 _ _ _ _ (by rw [hz1, ql_len, hl]) (fun j u hj => by
      rw [Addr.add_mid]
      exact hcs j u hj) (rq_one L)
    have hold : (Builtin.firstCells i0.size 0 (.slice (some ⟨ge, 0, none⟩) 0 0)).run Try.prog w.drew = .ok ([] : List Value).toArray w.drew := run_firstCells_some _ _ 0 _ _ _ [] (by simp) (by simp)
    have hr := run_append_grow_src (P := Try.prog) w 38 38 ty 57 i0 (.agg #[.int .u8 (rq0.s : Nat), .int .u8 (rq0.u : Nat), .int .u16 (rq0.c : Nat), .int .u32 (rq0.t : Nat), .slice rq0.a rq0.n rq0.cp]) Try.underlying38 hi hz0 (some ⟨ge, 0, none⟩) 0 0 [] hold (.slice (some ⟨b, off, none⟩) len cap) len (ql L) hsrc (by omega) (by omega) (growslice_fits (by omega) (by rw [hz2]; omega))
    simp only [Nat.zero_add, List.nil_append] at hr
    have hgc := grownCap_ge w len 0 57
    have hcm : grownCap w len 0 57 ≤ maxLen := grownCap_le_maxLen w len 0 57 (by unfold maxLen; omega)
    obtain ⟨C, hC⟩ : ∃ C, C = grownCap w len 0 57 := ⟨_, rfl⟩
    rw [← hC] at hr hgc hcm
    refine ⟨_, _, hr, ⟨by rw [ql_len, hl], .inr ⟨w.heap.size, C, _, rfl, Nat.le_of_lt (Nat.lt_of_le_of_lt hge (box_lt hrow)), heap_alloc_new w.drew _, hgc, hcm, ?_, ?_⟩⟩, (Below.refl w.heap.size w).drew.alloc (by simp) _⟩
    · have e : (ql L).length = len * 5 := by rw [ql_len, hl]
      simp [e, Builtin.zeroCells, Value.cells]
      omega
    · have e : (ql L).length = len * 5 := by rw [ql_len, hl]
      simp [e]
set_option maxRecDepth 100000 in
theorem wpList_copyQ {ops : Array Oper} {rest : List Oper} {o : Oper} {ac : Act} {w : World} {Q : Exit → Act → World → Prop} (hgd : o.guard = none) (base : Nat) {a : Option Addr} {len cap ge : Nat} {L : List Rq} {i0 : TypeInfo} (s y : Operand)
    (ho : o.op = .call { callee := .builtin .append, args := #[s, y], argTypes := #[38, 38] }) (hi : Try.prog.info? 57 = some i0) (hz0 : i0.zero = some (.agg #[.int .u8 (rq0.s : Nat), .int .u8 (rq0.u : Nat), .int .u16 (rq0.c : Nat), .int .u32 (rq0.t : Nat), .slice rq0.a rq0.n rq0.cp])) (hz1 : i0.size = 5) (hz2 : i0.bytes = 32)
    (hs : ac.eval s = .slice (some ⟨ge, 0, none⟩) 0 0) (hy : ac.eval y = .slice a len cap) (hl : L.length = len) (hc : 0 < len → ∃ b off, a = some ⟨b, off, none⟩ ∧ ∀ j u, (ql L)[j]? = some u → w.cell? ⟨b, off + j, none⟩ = some u) (hrow : w.heap[ge]? = some (.cells #[] 57 (0, 0))) (hge : base ≤ ge) (hlen : len ≤ 100000)
    (hK : ∀ a' c' w', w'.ownsRow base 57 5 (.slice a' len c') len (ql L) → Below w.heap.size w w' → wpList Try.prog ops Q rest (ac.put o.dst (.slice a' len c')) w') : wpList Try.prog ops Q (o :: rest) ac w := by
  obtain ⟨v', w', hr, h2, h3⟩ := run_copyQ o.type hi hz0 hz1 hz2 hl hc hrow hge hlen
  obtain ⟨a', c', rfl⟩ : ∃ a c, v' = .slice a len c := by
    rcases h2.2 with ⟨hv, hx⟩ | ⟨g, cap, cur, hv, _⟩
    · exact ⟨none, 0, by rw [hv, hx]⟩
    · exact ⟨_, _, hv⟩
  refine wpList_plain hgd fun K hK' => ?_
  unfold Oper.wp execOp
  simp only [ho, resolve, invoke, builtin, Sem.run_bind, Sem.run_pure, Result.andThen_ok, List.map_toArray, List.map_cons, List.map_nil, hs, hy]
  rw [hr]
  exact hK' _ _ (hK a' c' w' h2 h3)
theorem ql_drop (L : List Rq) (m : Nat) (h : m ≤ L.length) : ql (L.drop m) = (ql L).drop (m * 5) := by
  have e : ql L = ql (L.take m) ++ ql (L.drop m) := by rw [← ql_append, List.take_append_drop]
  have hl : (ql (L.take m)).length = m * 5 := by rw [ql_len, List.length_take, Nat.min_eq_left h]
  rw [e, ← hl, List.drop_left]
theorem run_slice_upQ (a : Option Addr) (len cap k : Nat) (hk : k ≤ cap) (hc : cap ≤ maxLen) (w : World) : (Instr.slice 38 (.slice a len cap) none (some (.int .i64 (k : Nat))) none).run Try.prog w = .ok (.slice a k cap) w := by
  rw [run_slice_h w 38 a len cap (by kernel_rfl) .i64 _ (by omega) (by omega)]
  have hz : (sizeOf (Try.prog.elem 38)).run Try.prog w = .ok 5 w := by kernel_rfl
  rw [hz]
  simp [sliced, Result.andThen]
  cases a <;> simp [Addr.add]
theorem run_slice_fromQ (a : Option Addr) (len cap k : Nat) (hk : k ≤ len) (w : World) : (Instr.slice 38 (.slice a len cap) (some (.int .i64 (k : Nat))) none none).run Try.prog w = .ok (.slice (if cap = k then a else a.map (·.add (k * 5))) (len - k) (cap - k)) w := by
  rw [run_slice_l w 38 a len cap (by kernel_rfl) .i64 _ (by omega) (by omega)]
  have hz : (sizeOf (Try.prog.elem 38)).run Try.prog w = .ok 5 w := by kernel_rfl
  rw [hz]
  simp [sliced, Result.andThen]
theorem drop_cells {w : World} {base m c : Nat} {a : Option Addr} {L : List Rq} (h : w.ownsRow base 57 5 (.slice a L.length c) L.length (ql L)) (hm : m ≤ L.length) : 0 < L.length - m → ∃ b off, (if c = m then a else a.map (·.add (m * 5))) = some ⟨b, off, none⟩ ∧ ∀ j u, (ql (L.drop m))[j]? = some u → w.cell? ⟨b, off + j, none⟩ = some u := fun hp => by
  rcases h.2 with ⟨hv, hx⟩ | ⟨g, cap, cur, hv, hb, hr, hn, _⟩
  · omega
  · injection hv with h1 h2 h3
    subst h1 h3
    rw [if_neg (by omega)]
    refine ⟨g, 0 + m * 5, by rw [Option.map_some, Addr.add_mid], fun j u hj => ?_⟩
    rw [ql_drop L m hm, List.getElem?_drop] at hj
    have := h.cells (g := g) rfl (m * 5 + j) u hj
    rw [Addr.add_mid] at this
    rw [Nat.add_assoc]
    exact this
end Go.Proofs.Ytioclbkgfbjpdaa
