/- Layer 16: arguments. -/
import Derived.Test.YtbomkneajmgckaaLaw16g
import Derived.Test.YtbomkneajmgckaaFlatEq
import Derived.Test.YtbomkneajmgckaaFlo3
namespace Go.Flo
/-- A struct out of the middle of a row. -/
theorem quiet_load_midC {P : Program} {C : World → Prop} {o : Oper} {a : Act} {K : Act → Prop} (ty : TypeId) (x : Operand) (ho : o.op = .load ty x) (b off : Nat) (hx : a.eval x = .pointer (some ⟨b, off, none⟩)) (cs : List Value) {d : TypeDesc}
    (hg : ∀ w, C w → w.rangeAt b off cs) (hu : P.underlying ty = some d) (hd : d.isRow = true) (hi : (P.info? ty).map (·.size) = some cs.length)
    (h : K (a.put o.dst (.agg cs.toArray))) : o.quiet P a C K := by
  refine ⟨.agg cs.toArray, fun w hw => ?_, h⟩
  unfold Oper.quietAt execOp
  simp only [ho, hx, Instr.loadAt, Instr.sureAddr, Sem.run_bind, Sem.run_pure, Result.andThen_ok, run_loadVar_mid w b off ty cs d (hg w hw) hu hd hi]
  exact ⟨rfl, rfl⟩
end Go.Flo
namespace Go.Proofs.Ytbomkneajmgckaa
open Go.RowKit Go.Own
set_option linter.unusedVariables false
set_option linter.unusedSimpArgs false
theorem choose_natC {α : Type} [Inhabited α] {n : Nat} {p : Nat → α → Prop} (h : ∀ i, i < n → ∃ x, p i x) : ∃ f : Nat → α, ∀ i, i < n → p i (f i) := by
  classical
  exact ⟨fun i => if hi : i < n then Classical.choose (h i hi) else default, fun i hi => by
    simp only [hi, dif_pos]
    exact Classical.choose_spec (h i hi)⟩
instance : Inhabited Rl := ⟨Rl.z⟩
theorem rus_flat {w : World} {a : Option Addr} {len cap m : Nat} (h : IsFlat [.int .u8, .int .i64, .int .i32, .int .i32, .int .u32, .int .u32, .int .u8, .int .u8, .int .u8, .int .i64, .bool] w a len cap) (hm : m ≤ len) : ∃ r : Nat → Rl, RuS w a m cap r ∧ ∀ i, i < m → (r i).ok := by
  obtain ⟨h1, h2, _, h4⟩ := h
  by_cases h0 : 0 < len
  · obtain ⟨b, off, e, hb, hx⟩ := h4 h0
    have each : ∀ i, i < len → ∃ r : Rl, w.rangeAt b (off + i * 11) r.cs.toList ∧ r.ok := by
      intro i hi
      obtain ⟨cs, hf, hc⟩ := hx i hi
      obtain ⟨r, hr, hok⟩ := rl_fit hf
      refine ⟨r, fun j v hv => hc j v ?_, hok⟩
      rw [← hr] at hv
      simpa using hv
    obtain ⟨f, hf⟩ := choose_natC each
    exact ⟨f, ⟨by omega, h2, fun _ => ⟨b, off, e, hb, fun i hi => (hf i (by omega)).1⟩⟩, fun i hi => (hf i (by omega)).2⟩
  · exact ⟨fun _ => Rl.z, ⟨by omega, h2, fun h => absurd h (by omega)⟩, fun i hi => absurd hi (by omega)⟩
theorem sliceR_upto (a : Option Addr) (len cap k : Nat) (hk : k ≤ cap) (w : World) : (Instr.slice 133 (.slice a len cap) none (some (.int .i64 (k : Nat))) none).run Try.prog w = .ok (.slice a k cap) w := by
  rw [run_slice_h w 133 a len cap (by kernel_rfl) .i64 _ (by omega) (by omega)]
  have hz : (sizeOf (Try.prog.elem 133)).run Try.prog w = .ok 11 w := by kernel_rfl
  rw [hz]
  simp [sliced, Result.andThen]
  cases a <;> simp [Addr.add]
/-- Are the first k right, and not too many? -/
def okTo (n : Nat) (r : Nat → Rl) : Nat → Bool
  | 0 => decide (n ≤ 16)
  | k + 1 => okTo n r k && (r k).right
theorem okTo_iff (n : Nat) (r : Nat → Rl) : ∀ k, okTo n r k = true ↔ n ≤ 16 ∧ ∀ i, i < k → (r i).right = true
  | 0 => by simp [okTo]
  | k + 1 => by
    rw [okTo, Bool.and_eq_true, okTo_iff n r k]
    constructor
    · rintro ⟨⟨h1, h2⟩, h3⟩
      refine ⟨h1, fun i hi => ?_⟩
      by_cases e : i = k
      · subst e; exact h3
      · exact h2 i (by omega)
    · rintro ⟨h1, h2⟩
      exact ⟨⟨h1, fun i hi => h2 i (by omega)⟩, h2 k (by omega)⟩
theorem okTo_new (n : Nat) (r : Nat → Rl) : okTo n r n = true ↔ newOk n r := okTo_iff n r n
def rlSh : List Leaf := [.int .u8, .int .i64, .int .i32, .int .i32, .int .u32, .int .u32, .int .u8, .int .u8, .int .u8, .int .i64, .bool]
theorem rl_plain (x : Rl) (h : x.ok) : Plain rlSh x.cs.toList := by
  have b0 := h.d.k0
  have b1 := h.d.k1
  have b2 := h.d.p0
  have b3 := h.d.p1
  have b4 := h.d.l0
  have b5 := h.d.l1
  have b6 := h.d.h0
  have b7 := h.d.h1
  have b8 := h.d.m1
  have b9 := h.d.n1
  have c0 := h.rep0
  have c1 := h.rep1
  have c2 := h.ev0
  have c3 := h.ev1
  have c4 := h.lev0
  have c5 := h.lev1
  have c6 := h.un0
  have c7 := h.un1
  exact ⟨⟨_, rfl, WalkArith.wf_u8 (by omega)⟩, ⟨_, rfl, WalkArith.wf_i64 (by omega)⟩, ⟨_, rfl, WalkArith.wf_i32 (by omega)⟩, ⟨_, rfl, WalkArith.wf_i32 (by omega)⟩, ⟨_, rfl, WalkArith.wf_u32 (by omega)⟩, ⟨_, rfl, WalkArith.wf_u32 (by omega)⟩, ⟨_, rfl, WalkArith.wf_u8 (by omega)⟩, ⟨_, rfl, WalkArith.wf_u8 (by omega)⟩, ⟨_, rfl, WalkArith.wf_u8 (by omega)⟩, ⟨_, rfl, WalkArith.wf_i64 (by omega)⟩, ⟨_, rfl⟩, trivial⟩
theorem rl_same (x : Rl) (h : x.ok) (w : World) : (binOp .eql 114 (.agg x.cs) (.agg x.cs)).run Try.prog w = .ok (.bool true) w := by
  obtain ⟨r, h, hi⟩ := eql_plain (P := Try.prog) (t := 114) (sh := rlSh) (m := 9) (by omega) (by kernel_rfl) (by kernel_rfl) (by kernel_rfl) (by kernel_rfl) (rl_plain x h) (rl_plain x h) w
  rw [h, hi.2 rfl]
theorem wanted_un {ops : Array Oper} {o : Oper} {g d : Nat} {b : Bool} {tmps : Array Value} (h : o.guard = some (g, b)) (h2 : (ops[g]?).bind (·.dst) = some d) (h3 : tmps[d]? = some undef) : Region.wanted o (yielded ops tmps) = false := by
  have hy : yielded ops tmps g = none := by
    unfold yielded
    rw [h2]
    simp only [Option.bind_some, h3]
    rfl
  unfold Region.wanted
  rw [h]
  simp only [hy]
  cases b <;> rfl
/- region 9: #1 the world, #2 the box's fact, #3 Below -/
/- the monitor is stored: P; w3, hb -/
/- all steps on: #1 the new world, hb -/
/- region 17, no such place: #1 the world, #2 the box's fact -/
/- the end of region 17 -/
/- behind the monitor: there is no such place: #1 the world -/
set_option maxRecDepth 100000 in
set_option maxHeartbeats 8000000 in
theorem walk_MonitorArgs (a0 : Option Addr) (len0 cap0 : Nat) (cs1 : List Value) (a2 : Int) (w : World) (w0 : IsFlat [.int .u8, .int .i64, .int .i32, .int .i32, .int .u32, .int .u32, .int .u8, .int .u8, .int .u8, .int .i64, .bool] w a0 len0 cap0) (w1 : Fit w [.int .u8, .int .i64, .int .i32, .int .i32, .int .u32, .int .u32, .int .u8, .int .u8, .int .u8, .int .i64, .bool] cs1) (w2 : (Lit.int .i64 a2).wf = true) :
    Calls Try.prog 13 #[.slice a0 len0 cap0, .agg cs1.toArray, .int .i64 a2] w fun e w' => e = .returned (.bool true) ∧ Below w.heap.size w w' := by
  obtain ⟨rq, hrq, hrqok⟩ := rl_fit w1
  rw [hrq]
  obtain ⟨m, hm⟩ : ∃ m, m = min len0 20 := ⟨_, rfl⟩
  obtain ⟨rr, hru, hrok⟩ := rus_flat w0 (show m ≤ len0 by omega)
  have h1 := w0.1
  have h2 := w0.2.1
  unfold maxLen at h2
  have hm20 : m ≤ 20 := by omega
  have hmc : m ≤ cap0 := by omega
  have hmn := fun (w : World) => run_minC (P := Try.prog) #[3, 3] 3 .i64 (len0 : Int) 20 w
  rw [show min (len0 : Int) 20 = (m : Int) by omega] at hmn
  have hup := fun w => sliceR_upto a0 len0 cap0 m hmc w
  have HRU := Lib.hid hru
  have HROK := Lib.hid hrok
  have HRQ := Lib.hid hrqok
  clear w0 w1 w2 hrq hru hrok hrqok hm
  have g0 := heap_alloc_new w (.cells rq.cs 114)
  have hb0 := (Below.refl w.heap.size w).alloc (Nat.le_refl _) (.cells rq.cs 114)
  go_enter Try.func13, Try.ntmps13
  go_wp2_with fail
  obtain ⟨gq, hg⟩ : ∃ g, g = w.heap.size := ⟨_, rfl⟩
  obtain ⟨wa, hwa⟩ : ∃ wa, wa = w.alloc (.cells rq.cs 114) := ⟨_, rfl⟩
  rw [← hwa] at hb0 g0 ⊢
  rw [← hg] at g0 ⊢
  clear hwa hg
  go_at_call 55
  refine (awake16 _).mono ?_
  rintro e wb ⟨rfl, hb1⟩
  have g1 := box_below g0 hb1 (box_lt g0)
  have hb2 := hb0.trans (hb1.mono hb0.size)
  have HRU1 := Lib.hid (HRU.out.below hb2 (Nat.le_refl _))
  have HB1 := Lib.hid hb2
  have G1 := Lib.hid g1
  have hgl := box_lt g1
  clear g0 hb0 hb1 hb2 HRU g1
  go_wp2_with fail
  clear hmn hup
  go_loopw [7, 27] (fun b i wr => ∃ k : Nat, k ≤ m ∧ i = .int .i64 (k : Nat) ∧ b = .bool (okTo m rr k) ∧ Below wb.heap.size wb wr) (fun _ i _ => m - (intOf i).toNat)
  case atStart => exact ⟨0, by omega, rfl, by simp [okTo]; omega, Below.refl _ _⟩
  case round =>
    obtain ⟨k, hk, rfl, rfl, hB⟩ := hrel
    by_cases hlt : k < m
    · obtain ⟨bb, off, rfl, hbb, hc⟩ := HRU1.out.at_ (by omega)
      have hrg := rangeAt_below (hc k hlt) hB hbb
      have hxok := HROK.out k hlt
      have hnext : okTo m rr (k + 1) = (okTo m rr k && (rr k).right) := rfl
      obtain ⟨x, hx⟩ : ∃ x, x = rr k := ⟨_, rfl⟩
      obtain ⟨b, hbo⟩ : ∃ b, b = okTo m rr k := ⟨_, rfl⟩
      obtain ⟨t, ht⟩ : ∃ t, x.right = t := ⟨_, rfl⟩
      rw [← hx] at hrg hxok
      rw [← hx, ht, ← hbo] at hnext
      rw [← hbo]
      have HN := Lib.hid hnext
      have HX := Lib.hid (And.intro hxok ht)
      have HB := Lib.hid hB
      clear hc hx hB hxok hnext hbo ht
      go_upto_region 8 with (first | (refine wpList_load_mid rfl 114 _ rfl bb (off + k * 11) rfl x.cs.toList _ hrg Try.underlying114 rfl (size_rl x) ?_; rw [Array.toArray_toList]; go_simp) | (refine wpList_store_row rfl 114 _ _ rfl _ (Rl.cs _) rfl rfl 114 _ (heap_alloc_new wr (.cells (#[.int .u8 0, .int .i64 0, .int .i32 0, .int .i32 0, .int .u32 0, .int .u32 0, .int .u8 0, .int .u8 0, .int .u8 0, .int .i64 0, .bool false] : Array Value) 114)) (size_rl _) rfl (Rl.one _) ?_; rw [World.setRow_alloc_new]; (try go_simp)))
      have hal : Below wr.heap.size wr (wr.alloc (.cells x.cs 114)) := (Below.refl _ _).alloc (Nat.le_refl _) _
      have g6 := heap_alloc_new wr (.cells x.cs 114)
      have HB2 := Lib.hid (HB.out.trans (hal.mono HB.out.size))
      obtain ⟨f, hf⟩ : ∃ f, f = wr.heap.size := ⟨_, rfl⟩
      obtain ⟨w2, hw2⟩ : ∃ w2, w2 = wr.alloc (.cells x.cs 114) := ⟨_, rfl⟩
      rw [← hw2] at g6 HB2
      rw [← hf] at g6
      rw [← hw2, ← hf]
      clear hw2 hf hal HB hrg
      cases b
      · rw [Bool.false_and] at HN
        go_upto_region 9 with fail
        skip
        have hfl := box_lt g6
        have hgf := g6
        obtain ⟨I, W, hne, hWI, hIW⟩ := Go.Mix.family (fun v => Below w2.heap.size w2 v) (Below.refl _ _)
        have HJ := Lib.hid hIW
        have HW := Lib.hid hWI
        clear hWI hIW
        refine Go.Flo.wp_region (fun w' => ∃ i, w' = W i) 5 [Go.Flo.Spec.is (.bool t), Go.Flo.Spec.is (.bool t)] (by kernel_rfl) (by kernel_rfl) (by decide) (by rintro _ w' ⟨i, rfl⟩ hb; exact HJ.out _ ((HW.out i).trans (hb.mono (HW.out i).size))) (HJ.out _ (Below.refl _ _).drew) ?_
        simp only [Go.Flo.pair, Go.Mix.calm, List.take, List.drop, if_true, Bool.false_eq_true, if_false, Nat.reduceAdd, Nat.reduceSub]
        (refine Go.Flo.fw_calm rfl ?_ (fun K hK => ?_); (first | exact Go.Mix.wanted_none rfl | exact Go.Mix.wanted_tt rfl rfl rfl | exact Go.Mix.wanted_ff rfl rfl rfl); refine Go.Flo.quiet_load_row 114 _ rfl f rfl _ x.cs _ (by rintro _ ⟨i, rfl⟩; exact ((HW.out i).block f hfl).trans hgf) Try.underlying114 rfl (size_rl x) ?_; go_simp; refine hK _ ?_; clear hK K)
        (repeat (first | (refine Go.Flo.fw_calm rfl ?_ (fun K hK => ?_); (first | exact Go.Mix.wanted_none rfl | exact Go.Mix.wanted_tt rfl rfl rfl | exact Go.Mix.wanted_ff rfl rfl rfl); go_big_quiet_op; refine hK _ ?_; clear hK K) | (refine Go.Flo.fw_skip ?_ (fun K hK => ?_); (first | exact Go.Mix.wanted_tf rfl rfl rfl | exact Go.Mix.wanted_ft rfl rfl rfl); go_simp; refine hK _ ?_; clear hK K) | (refine Go.Flo.fw_any rfl ?_ (fun K hK => ?_); (first | exact Go.Mix.wanted_none rfl | exact Go.Mix.wanted_tt rfl rfl rfl | exact Go.Mix.wanted_ff rfl rfl rfl); go_simp; (try (go_ints; try go_simp)); refine hK _ ?_; clear hK K)))
        refine Go.Flo.fw_loud rfl ?_ rfl (by simp) (fun wv hwv hav K hK => ?_) (fun v hv K hK => ?_)
        · (first | exact Go.Mix.wanted_none rfl | exact Go.Mix.wanted_tt rfl rfl rfl | exact Go.Mix.wanted_ff rfl rfl rfl)
        · obtain ⟨iv, rfl⟩ := hwv
          have hbv := HW.out iv
          (first | go_big_op | go_simp)
          go_at_call 61
          refine (rRight x t _ HX.out.1 HX.out.2).mono ?_
          rintro e w' ⟨rfl, hb⟩
          exact hK _ _ (Go.Flo.owes_is _ rfl hb)
        obtain rfl := hv.is
        go_simp
        refine hK _ ?_
        clear hK K hv
        (repeat (first | (refine Go.Flo.fw_calm rfl ?_ (fun K hK => ?_); (first | exact Go.Mix.wanted_none rfl | exact Go.Mix.wanted_tt rfl rfl rfl | exact Go.Mix.wanted_ff rfl rfl rfl); go_big_quiet_op; refine hK _ ?_; clear hK K) | (refine Go.Flo.fw_skip ?_ (fun K hK => ?_); (first | exact Go.Mix.wanted_tf rfl rfl rfl | exact Go.Mix.wanted_ft rfl rfl rfl); go_simp; refine hK _ ?_; clear hK K) | (refine Go.Flo.fw_any rfl ?_ (fun K hK => ?_); (first | exact Go.Mix.wanted_none rfl | exact Go.Mix.wanted_tt rfl rfl rfl | exact Go.Mix.wanted_ff rfl rfl rfl); go_simp; (try (go_ints; try go_simp)); refine hK _ ?_; clear hK K)))
        (refine Go.Flo.fw_calm rfl ?_ (fun K hK => ?_); (first | exact Go.Mix.wanted_none rfl | exact Go.Mix.wanted_tt rfl rfl rfl | exact Go.Mix.wanted_ff rfl rfl rfl); refine Go.Flo.quiet_load_row 114 _ rfl f rfl _ x.cs _ (by rintro _ ⟨i, rfl⟩; exact ((HW.out i).block f hfl).trans hgf) Try.underlying114 rfl (size_rl x) ?_; go_simp; refine hK _ ?_; clear hK K)
        (repeat (first | (refine Go.Flo.fw_calm rfl ?_ (fun K hK => ?_); (first | exact Go.Mix.wanted_none rfl | exact Go.Mix.wanted_tt rfl rfl rfl | exact Go.Mix.wanted_ff rfl rfl rfl); go_big_quiet_op; refine hK _ ?_; clear hK K) | (refine Go.Flo.fw_skip ?_ (fun K hK => ?_); (first | exact Go.Mix.wanted_tf rfl rfl rfl | exact Go.Mix.wanted_ft rfl rfl rfl); go_simp; refine hK _ ?_; clear hK K) | (refine Go.Flo.fw_any rfl ?_ (fun K hK => ?_); (first | exact Go.Mix.wanted_none rfl | exact Go.Mix.wanted_tt rfl rfl rfl | exact Go.Mix.wanted_ff rfl rfl rfl); go_simp; (try (go_ints; try go_simp)); refine hK _ ?_; clear hK K)))
        refine Go.Flo.fw_loud rfl ?_ rfl (by simp) (fun wv hwv hav K hK => ?_) (fun v hv K hK => ?_)
        · (first | exact Go.Mix.wanted_none rfl | exact Go.Mix.wanted_tt rfl rfl rfl | exact Go.Mix.wanted_ff rfl rfl rfl)
        · obtain ⟨iv, rfl⟩ := hwv
          have hbv := HW.out iv
          (first | go_big_op | go_simp)
          go_at_call 60
          refine (lRight x t _ HX.out.1 HX.out.2).mono ?_
          rintro e w' ⟨rfl, hb⟩
          exact hK _ _ (Go.Flo.owes_is _ rfl hb)
        obtain rfl := hv.is
        go_simp
        refine hK _ ?_
        clear hK K hv
        (repeat (first | (refine Go.Flo.fw_calm rfl ?_ (fun K hK => ?_); (first | exact Go.Mix.wanted_none rfl | exact Go.Mix.wanted_tt rfl rfl rfl | exact Go.Mix.wanted_ff rfl rfl rfl); go_big_quiet_op; refine hK _ ?_; clear hK K) | (refine Go.Flo.fw_skip ?_ (fun K hK => ?_); (first | exact Go.Mix.wanted_tf rfl rfl rfl | exact Go.Mix.wanted_ft rfl rfl rfl); go_simp; refine hK _ ?_; clear hK K) | (refine Go.Flo.fw_any rfl ?_ (fun K hK => ?_); (first | exact Go.Mix.wanted_none rfl | exact Go.Mix.wanted_tt rfl rfl rfl | exact Go.Mix.wanted_ff rfl rfl rfl); go_simp; (try (go_ints; try go_simp)); refine hK _ ?_; clear hK K)))
        refine Go.Flo.fw_nil ?_
        intro wz hwwz hfwz huwz
        refine Go.Flo.tw_nil ?_
        obtain ⟨iend, hiend⟩ := hwwz
        have hbwz := HW.out iend
        rw [← hiend] at hbwz
        clear hiend iend huwz
        have HBZ := Lib.hid (HB2.out.trans (hbwz.mono HB2.out.size))
        clear hfwz HJ HW hne hbwz hgf hfl g6 HB2
        clear W I
        go_wp2_with fail
        go_roundw
        case rel => exact ⟨k + 1, by omega, by go_num, by rw [HN.out], HBZ.out⟩
        case measure => simp [intOf]; omega
      · rw [Bool.true_and] at HN
        go_wp2_with (refine wpLoadWm (by (first | exact Go.Mix.wanted_none rfl | exact Go.Mix.wanted_tt rfl rfl rfl | exact Go.Mix.wanted_ff rfl rfl rfl)) 114 _ rfl _ rfl _ _ _ _ g6 Try.underlying114 rfl (size_rl _) ?_; (try go_simp))
        go_at_call 60
        refine (lRight x t _ HX.out.1 HX.out.2).mono ?_
        rintro e w3 ⟨rfl, hb⟩
        have g7 := box_below g6 hb (box_lt g6)
        have HB3 := Lib.hid (HB2.out.trans (hb.mono HB2.out.size))
        clear g6 hb HB2
        go_upto_region 9 with fail
        skip
        have hfl := box_lt g7
        have hgf := g7
        obtain ⟨I, W, hne, hWI, hIW⟩ := Go.Mix.family (fun v => Below w3.heap.size w3 v) (Below.refl _ _)
        have HJ := Lib.hid hIW
        have HW := Lib.hid hWI
        clear hWI hIW
        refine Go.Flo.wp_region (fun w' => ∃ i, w' = W i) 5 [Go.Flo.Spec.is (.bool t), Go.Flo.Spec.is (.bool t)] (by kernel_rfl) (by kernel_rfl) (by decide) (by rintro _ w' ⟨i, rfl⟩ hb; exact HJ.out _ ((HW.out i).trans (hb.mono (HW.out i).size))) (HJ.out _ (Below.refl _ _).drew) ?_
        simp only [Go.Flo.pair, Go.Mix.calm, List.take, List.drop, if_true, Bool.false_eq_true, if_false, Nat.reduceAdd, Nat.reduceSub]
        (refine Go.Flo.fw_calm rfl ?_ (fun K hK => ?_); (first | exact Go.Mix.wanted_none rfl | exact Go.Mix.wanted_tt rfl rfl rfl | exact Go.Mix.wanted_ff rfl rfl rfl); refine Go.Flo.quiet_load_row 114 _ rfl f rfl _ x.cs _ (by rintro _ ⟨i, rfl⟩; exact ((HW.out i).block f hfl).trans hgf) Try.underlying114 rfl (size_rl x) ?_; go_simp; refine hK _ ?_; clear hK K)
        (repeat (first | (refine Go.Flo.fw_calm rfl ?_ (fun K hK => ?_); (first | exact Go.Mix.wanted_none rfl | exact Go.Mix.wanted_tt rfl rfl rfl | exact Go.Mix.wanted_ff rfl rfl rfl); go_big_quiet_op; refine hK _ ?_; clear hK K) | (refine Go.Flo.fw_skip ?_ (fun K hK => ?_); (first | exact Go.Mix.wanted_tf rfl rfl rfl | exact Go.Mix.wanted_ft rfl rfl rfl); go_simp; refine hK _ ?_; clear hK K) | (refine Go.Flo.fw_any rfl ?_ (fun K hK => ?_); (first | exact Go.Mix.wanted_none rfl | exact Go.Mix.wanted_tt rfl rfl rfl | exact Go.Mix.wanted_ff rfl rfl rfl); go_simp; (try (go_ints; try go_simp)); refine hK _ ?_; clear hK K)))
        refine Go.Flo.fw_loud rfl ?_ rfl (by simp) (fun wv hwv hav K hK => ?_) (fun v hv K hK => ?_)
        · (first | exact Go.Mix.wanted_none rfl | exact Go.Mix.wanted_tt rfl rfl rfl | exact Go.Mix.wanted_ff rfl rfl rfl)
        · obtain ⟨iv, rfl⟩ := hwv
          have hbv := HW.out iv
          (first | go_big_op | go_simp)
          go_at_call 61
          refine (rRight x t _ HX.out.1 HX.out.2).mono ?_
          rintro e w' ⟨rfl, hb⟩
          exact hK _ _ (Go.Flo.owes_is _ rfl hb)
        obtain rfl := hv.is
        go_simp
        refine hK _ ?_
        clear hK K hv
        (repeat (first | (refine Go.Flo.fw_calm rfl ?_ (fun K hK => ?_); (first | exact Go.Mix.wanted_none rfl | exact Go.Mix.wanted_tt rfl rfl rfl | exact Go.Mix.wanted_ff rfl rfl rfl); go_big_quiet_op; refine hK _ ?_; clear hK K) | (refine Go.Flo.fw_skip ?_ (fun K hK => ?_); (first | exact Go.Mix.wanted_tf rfl rfl rfl | exact Go.Mix.wanted_ft rfl rfl rfl); go_simp; refine hK _ ?_; clear hK K) | (refine Go.Flo.fw_any rfl ?_ (fun K hK => ?_); (first | exact Go.Mix.wanted_none rfl | exact Go.Mix.wanted_tt rfl rfl rfl | exact Go.Mix.wanted_ff rfl rfl rfl); go_simp; (try (go_ints; try go_simp)); refine hK _ ?_; clear hK K)))
        (refine Go.Flo.fw_calm rfl ?_ (fun K hK => ?_); (first | exact Go.Mix.wanted_none rfl | exact Go.Mix.wanted_tt rfl rfl rfl | exact Go.Mix.wanted_ff rfl rfl rfl); refine Go.Flo.quiet_load_row 114 _ rfl f rfl _ x.cs _ (by rintro _ ⟨i, rfl⟩; exact ((HW.out i).block f hfl).trans hgf) Try.underlying114 rfl (size_rl x) ?_; go_simp; refine hK _ ?_; clear hK K)
        (repeat (first | (refine Go.Flo.fw_calm rfl ?_ (fun K hK => ?_); (first | exact Go.Mix.wanted_none rfl | exact Go.Mix.wanted_tt rfl rfl rfl | exact Go.Mix.wanted_ff rfl rfl rfl); go_big_quiet_op; refine hK _ ?_; clear hK K) | (refine Go.Flo.fw_skip ?_ (fun K hK => ?_); (first | exact Go.Mix.wanted_tf rfl rfl rfl | exact Go.Mix.wanted_ft rfl rfl rfl); go_simp; refine hK _ ?_; clear hK K) | (refine Go.Flo.fw_any rfl ?_ (fun K hK => ?_); (first | exact Go.Mix.wanted_none rfl | exact Go.Mix.wanted_tt rfl rfl rfl | exact Go.Mix.wanted_ff rfl rfl rfl); go_simp; (try (go_ints; try go_simp)); refine hK _ ?_; clear hK K)))
        refine Go.Flo.fw_loud rfl ?_ rfl (by simp) (fun wv hwv hav K hK => ?_) (fun v hv K hK => ?_)
        · (first | exact Go.Mix.wanted_none rfl | exact Go.Mix.wanted_tt rfl rfl rfl | exact Go.Mix.wanted_ff rfl rfl rfl)
        · obtain ⟨iv, rfl⟩ := hwv
          have hbv := HW.out iv
          (first | go_big_op | go_simp)
          go_at_call 60
          refine (lRight x t _ HX.out.1 HX.out.2).mono ?_
          rintro e w' ⟨rfl, hb⟩
          exact hK _ _ (Go.Flo.owes_is _ rfl hb)
        obtain rfl := hv.is
        go_simp
        refine hK _ ?_
        clear hK K hv
        (repeat (first | (refine Go.Flo.fw_calm rfl ?_ (fun K hK => ?_); (first | exact Go.Mix.wanted_none rfl | exact Go.Mix.wanted_tt rfl rfl rfl | exact Go.Mix.wanted_ff rfl rfl rfl); go_big_quiet_op; refine hK _ ?_; clear hK K) | (refine Go.Flo.fw_skip ?_ (fun K hK => ?_); (first | exact Go.Mix.wanted_tf rfl rfl rfl | exact Go.Mix.wanted_ft rfl rfl rfl); go_simp; refine hK _ ?_; clear hK K) | (refine Go.Flo.fw_any rfl ?_ (fun K hK => ?_); (first | exact Go.Mix.wanted_none rfl | exact Go.Mix.wanted_tt rfl rfl rfl | exact Go.Mix.wanted_ff rfl rfl rfl); go_simp; (try (go_ints; try go_simp)); refine hK _ ?_; clear hK K)))
        refine Go.Flo.fw_nil ?_
        intro wz hwwz hfwz huwz
        refine Go.Flo.tw_nil ?_
        obtain ⟨iend, hiend⟩ := hwwz
        have hbwz := HW.out iend
        rw [← hiend] at hbwz
        clear hiend iend huwz
        have HBZ := Lib.hid (HB3.out.trans (hbwz.mono HB3.out.size))
        clear hfwz HJ HW hne hbwz hgf hfl g7 HB3
        clear W I
        go_wp2_with fail
        go_roundw
        case rel => exact ⟨k + 1, by omega, by go_num, by rw [HN.out], HBZ.out⟩
        case measure => simp [intOf]; omega
    · obtain rfl : k = m := by omega
      have HB := Lib.hid hB
      clear hB
      have HRU2 := Lib.hid (HRU1.out.below HB.out (Nat.le_refl _))
      have G2 := Lib.hid (box_below G1.out HB.out hgl)
      have HB2 := Lib.hid (HB1.out.trans (HB.out.mono HB1.out.size))
      clear HRU1 G1 HB HB1 hgl
      cases hok : okTo k rr k
      · have HNO := Lib.hid (show ¬ newOk k rr from fun h => by rw [(okTo_new k rr).2 h] at hok; cases hok)
        clear hok
        go_wp2_with fail
        go_at_call 56
        refine (mNew a0 k cap0 rr _ HRU2.out HROK.out).mono ?_
        rintro e w3 ⟨hb, ⟨hn, rfl⟩ | ⟨hn, rfl⟩⟩
        case inl => exact absurd hn HNO.out
        obtain ⟨P, hP⟩ : ∃ P, P = Mn.empty 0 := ⟨_, rfl⟩
        rw [← hP]
        have HPN := Lib.hid (show P.n = 0 by rw [hP]; rfl)
        clear hP
        skip
        have HB3 := Lib.hid (HB2.out.trans (hb.mono HB2.out.size))
        have HRU3 := Lib.hid (HRU2.out.below hb (Nat.le_refl _))
        have G3 := Lib.hid (box_below G2.out hb (box_lt G2.out))
        clear hb HB2 HRU2 G2
        go_upto_region 13 with (refine wpList_store_row rfl 121 _ _ rfl _ (Mn.cs _) rfl rfl 121 _ (heap_alloc_new w3 (.cells (Mn.empty 0).cs 121)) (size_mn _) (by simp only [Mn.size]) (Mn.one _) ?_; rw [World.setRow_alloc_new]; (try go_simp))
        have hal : Below w3.heap.size w3 (w3.alloc (.cells P.cs 121)) := (Below.refl _ _).alloc (Nat.le_refl _) _
        have HP := Lib.hid (MnB.new w3 P)
        have HB4 := Lib.hid (HB3.out.trans (hal.mono HB3.out.size))
        have HRU4 := Lib.hid (HRU3.out.below hal (Nat.le_refl _))
        have G4 := Lib.hid (box_below G3.out hal (box_lt G3.out))
        obtain ⟨gm, hgm⟩ : ∃ g, g = w3.heap.size := ⟨_, rfl⟩
        obtain ⟨w4, hw4⟩ : ∃ w4, w4 = w3.alloc (.cells P.cs 121) := ⟨_, rfl⟩
        rw [← hw4, ← hgm] at HP
        rw [← hw4] at HB4 HRU4 G4
        rw [← hw4, ← hgm]
        clear hw4 hgm hal HB3 HRU3 G3
        have hp := HP.out
        go_wp2_with (refine wpLoadWm (by (first | exact Go.Mix.wanted_none rfl | exact Go.Mix.wanted_tt rfl rfl rfl | exact Go.Mix.wanted_ff rfl rfl rfl)) 121 _ rfl _ rfl _ _ _ _ hp Try.underlying121 rfl (size_mn _) ?_; (try go_simp))
        go_at_call 62
        refine (mLen P _).mono ?_
        rintro e w5 ⟨rfl, hb⟩
        rw [HPN.out]
        skip
        have HP' := Lib.hid (HP.out.below hb (Nat.le_refl _))
        have HB' := Lib.hid (HB4.out.trans (hb.mono HB4.out.size))
        have HRU' := Lib.hid (HRU4.out.below hb (Nat.le_refl _))
        have G' := Lib.hid (box_below G4.out hb (box_lt G4.out))
        clear hb HB4 HRU4 G4 HP hp
        have HP := HP'
        have HB4 := HB'
        have HRU4 := HRU'
        have G4 := G'
        clear HP' HB' HRU' G'
        have hp := HP.out
        have HH := Lib.hid (show P.has a2 = false by unfold Mn.has; rw [HPN.out]; simp)
        have hle : P.n ≤ 16 := by rw [HPN.out]; omega
        clear hn HNO HPN
        skip
        go_wp2_with (refine wpList_load_row rfl 121 _ rfl _ rfl _ _ _ _ hp Try.underlying121 rfl (by exact size_mn _) ?_; (try go_simp))
        go_at_call 63
        refine (mRule P a2 Rl.z _ hle (by unfold Mn.rule; rw [HH.out]; rfl)).mono ?_
        rintro e w6 ⟨rfl, hb⟩
        rw [HH.out]
        skip
        have HP' := Lib.hid (HP.out.below hb (Nat.le_refl _))
        have HB' := Lib.hid (HB4.out.trans (hb.mono HB4.out.size))
        have HRU' := Lib.hid (HRU4.out.below hb (Nat.le_refl _))
        have G' := Lib.hid (box_below G4.out hb (box_lt G4.out))
        clear hb HB4 HRU4 G4 HP hp
        have HP := HP'
        have HB4 := HB'
        have HRU4 := HRU'
        have G4 := G'
        clear HP' HB' HRU' G'
        have hp := HP.out
        go_upto_region 16 with (refine wpList_store_row rfl 114 _ _ rfl _ (Rl.cs _) rfl rfl 114 _ (heap_alloc_new w6 (.cells (#[.int .u8 0, .int .i64 0, .int .i32 0, .int .i32 0, .int .u32 0, .int .u32 0, .int .u8 0, .int .u8 0, .int .u8 0, .int .i64 0, .bool false] : Array Value) 114)) (size_rl _) rfl (Rl.one _) ?_; rw [World.setRow_alloc_new]; (try go_simp))
        have hb : Below w6.heap.size w6 (w6.alloc (.cells Rl.z.cs 114)) := (Below.refl _ _).alloc (Nat.le_refl _) _
        have hx := heap_alloc_new w6 (.cells Rl.z.cs 114)
        rw [show Rl.z.cs = (#[.int .u8 0, .int .i64 0, .int .i32 0, .int .i32 0, .int .u32 0, .int .u32 0, .int .u8 0, .int .u8 0, .int .u8 0, .int .i64 0, .bool false] : Array Value) from rfl] at hb hx ⊢
        obtain ⟨f, hf⟩ : ∃ f, f = w6.heap.size := ⟨_, rfl⟩
        obtain ⟨w7, hw7⟩ : ∃ w7, w7 = w6.alloc (.cells (#[.int .u8 0, .int .i64 0, .int .i32 0, .int .i32 0, .int .u32 0, .int .u32 0, .int .u8 0, .int .u8 0, .int .u8 0, .int .i64 0, .bool false] : Array Value) 114) := ⟨_, rfl⟩
        rw [← hw7] at hb hx ⊢
        rw [← hf] at hx ⊢
        skip
        have HP' := Lib.hid (HP.out.below hb (Nat.le_refl _))
        have HB' := Lib.hid (HB4.out.trans (hb.mono HB4.out.size))
        have HRU' := Lib.hid (HRU4.out.below hb (Nat.le_refl _))
        have G' := Lib.hid (box_below G4.out hb (box_lt G4.out))
        clear hb HB4 HRU4 G4 HP hp
        have HP := HP'
        have HB4 := HB'
        have HRU4 := HRU'
        have G4 := G'
        clear HP' HB' HRU' G'
        have hp := HP.out
        clear hw7 hf
        obtain ⟨tq, htq⟩ : ∃ t, rq.right = t := ⟨_, rfl⟩
        by_cases h0 : 0 ≤ a2
        · have hlt : (P.n : Int) ≤ a2 := by
            have := HH.out
            simp [Mn.has, h0] at this
            omega
          have hlt2 : decide (a2 < (P.n : Int)) = false := decide_eq_false (by omega)
          go_wp2_with (refine wpLoadWm (by (first | exact Go.Mix.wanted_none rfl | exact Go.Mix.wanted_tt rfl rfl rfl | exact Go.Mix.wanted_ff rfl rfl rfl)) 121 _ rfl _ rfl _ _ _ _ hp Try.underlying121 rfl (size_mn _) ?_; (try go_simp))
          go_at_call 62
          refine (mLen P _).mono ?_
          rintro e w8 ⟨rfl, hb⟩
          have hx8 := box_below hx hb (box_lt hx)
          skip
          have HP' := Lib.hid (HP.out.below hb (Nat.le_refl _))
          have HB' := Lib.hid (HB4.out.trans (hb.mono HB4.out.size))
          have HRU' := Lib.hid (HRU4.out.below hb (Nat.le_refl _))
          have G' := Lib.hid (box_below G4.out hb (box_lt G4.out))
          clear hb HB4 HRU4 G4 HP hp
          have HP := HP'
          have HB4 := HB'
          have HRU4 := HRU'
          have G4 := G'
          clear HP' HB' HRU' G'
          have hp := HP.out
          clear hx
          go_upto_region 17 with fail
          skip
          have hfl := box_lt hx8
          have hql := box_lt G4.out
          have hml := box_lt hp
          have hgf := hx8
          have hgq := G4.out
          have hgm := hp
          unfold MnB at hgm
          obtain ⟨I, W, hne, hWI, hIW⟩ := Go.Mix.family (fun v => Below w8.heap.size w8 v) (Below.refl _ _)
          have HJ := Lib.hid hIW
          have HW := Lib.hid hWI
          clear hWI hIW
          refine Go.Flo.wp_region (fun w' => ∃ i, w' = W i) 37 [Go.Flo.Spec.is (.int .u8 0), Go.Flo.Spec.is (.bool tq), Go.Flo.Spec.is (.bool tq)] (by kernel_rfl) (by kernel_rfl) (by decide) (by rintro _ w' ⟨i, rfl⟩ hb; exact HJ.out _ ((HW.out i).trans (hb.mono (HW.out i).size))) (HJ.out _ (Below.refl _ _).drew) ?_
          simp only [Go.Flo.pair, Go.Mix.calm, List.take, List.drop, if_true, Bool.false_eq_true, if_false, Nat.reduceAdd, Nat.reduceSub]
          (repeat (first | (refine Go.Flo.fw_calm rfl ?_ (fun K hK => ?_); (first | exact Go.Mix.wanted_none rfl | exact Go.Mix.wanted_tt rfl rfl rfl | exact Go.Mix.wanted_ff rfl rfl rfl); go_big_quiet_op; refine hK _ ?_; clear hK K) | (refine Go.Flo.fw_skip ?_ (fun K hK => ?_); (first | exact Go.Mix.wanted_tf rfl rfl rfl | exact Go.Mix.wanted_ft rfl rfl rfl); go_simp; refine hK _ ?_; clear hK K) | (refine Go.Flo.fw_any rfl ?_ (fun K hK => ?_); (first | exact Go.Mix.wanted_none rfl | exact Go.Mix.wanted_tt rfl rfl rfl | exact Go.Mix.wanted_ff rfl rfl rfl); go_simp; (try (go_ints; try go_simp)); refine hK _ ?_; clear hK K)))
          (refine Go.Flo.fw_calm rfl ?_ (fun K hK => ?_); (first | exact Go.Mix.wanted_none rfl | exact Go.Mix.wanted_tt rfl rfl rfl | exact Go.Mix.wanted_ff rfl rfl rfl); refine Go.Flo.quiet_load_row 114 _ rfl f rfl _ (#[.int .u8 0, .int .i64 0, .int .i32 0, .int .i32 0, .int .u32 0, .int .u32 0, .int .u8 0, .int .u8 0, .int .u8 0, .int .i64 0, .bool false] : Array Value) _ (by rintro _ ⟨i, rfl⟩; exact ((HW.out i).block f hfl).trans hgf) Try.underlying114 rfl (size_rl Rl.z) ?_; go_simp; refine hK _ ?_; clear hK K)
          (repeat (first | (refine Go.Flo.fw_calm rfl ?_ (fun K hK => ?_); (first | exact Go.Mix.wanted_none rfl | exact Go.Mix.wanted_tt rfl rfl rfl | exact Go.Mix.wanted_ff rfl rfl rfl); go_big_quiet_op; refine hK _ ?_; clear hK K) | (refine Go.Flo.fw_skip ?_ (fun K hK => ?_); (first | exact Go.Mix.wanted_tf rfl rfl rfl | exact Go.Mix.wanted_ft rfl rfl rfl); go_simp; refine hK _ ?_; clear hK K) | (refine Go.Flo.fw_any rfl ?_ (fun K hK => ?_); (first | exact Go.Mix.wanted_none rfl | exact Go.Mix.wanted_tt rfl rfl rfl | exact Go.Mix.wanted_ff rfl rfl rfl); go_simp; (try (go_ints; try go_simp)); refine hK _ ?_; clear hK K)))
          (refine Go.Flo.fw_calm rfl ?_ (fun K hK => ?_); (first | exact Go.Mix.wanted_none rfl | exact Go.Mix.wanted_tt rfl rfl rfl | exact Go.Mix.wanted_ff rfl rfl rfl); refine Go.Flo.quiet_load_row 121 _ rfl gm rfl _ P.cs _ (by rintro _ ⟨i, rfl⟩; exact ((HW.out i).block gm hml).trans hgm) Try.underlying121 rfl (size_mn P) ?_; go_simp; refine hK _ ?_; clear hK K)
          (repeat (first | (refine Go.Flo.fw_calm rfl ?_ (fun K hK => ?_); (first | exact Go.Mix.wanted_none rfl | exact Go.Mix.wanted_tt rfl rfl rfl | exact Go.Mix.wanted_ff rfl rfl rfl); go_big_quiet_op; refine hK _ ?_; clear hK K) | (refine Go.Flo.fw_skip ?_ (fun K hK => ?_); (first | exact Go.Mix.wanted_tf rfl rfl rfl | exact Go.Mix.wanted_ft rfl rfl rfl); go_simp; refine hK _ ?_; clear hK K) | (refine Go.Flo.fw_any rfl ?_ (fun K hK => ?_); (first | exact Go.Mix.wanted_none rfl | exact Go.Mix.wanted_tt rfl rfl rfl | exact Go.Mix.wanted_ff rfl rfl rfl); go_simp; (try (go_ints; try go_simp)); refine hK _ ?_; clear hK K)))
          refine Go.Flo.fw_loud rfl ?_ rfl (by simp) (fun wv hwv hav K hK => ?_) (fun v hv K hK => ?_)
          · (first | exact Go.Mix.wanted_none rfl | exact Go.Mix.wanted_tt rfl rfl rfl | exact Go.Mix.wanted_ff rfl rfl rfl)
          · obtain ⟨iv, rfl⟩ := hwv
            have hbv := HW.out iv
            (first | go_big_op | go_simp)
            go_at_call 58
            refine (mStatus P a2 0 _ hle (by unfold Mn.stat; rw [HH.out]; rfl)).mono ?_
            rintro e w' ⟨rfl, hb⟩
            exact hK _ _ (Go.Flo.owes_is _ rfl hb)
          obtain rfl := hv.is
          go_simp
          refine hK _ ?_
          clear hK K hv
          skip
          (repeat (first | (refine Go.Flo.fw_calm rfl ?_ (fun K hK => ?_); (first | exact Go.Mix.wanted_none rfl | exact Go.Mix.wanted_tt rfl rfl rfl | exact Go.Mix.wanted_ff rfl rfl rfl); go_big_quiet_op; refine hK _ ?_; clear hK K) | (refine Go.Flo.fw_skip ?_ (fun K hK => ?_); (first | exact Go.Mix.wanted_tf rfl rfl rfl | exact Go.Mix.wanted_ft rfl rfl rfl); go_simp; refine hK _ ?_; clear hK K) | (refine Go.Flo.fw_any rfl ?_ (fun K hK => ?_); (first | exact Go.Mix.wanted_none rfl | exact Go.Mix.wanted_tt rfl rfl rfl | exact Go.Mix.wanted_ff rfl rfl rfl); go_simp; (try (go_ints; try go_simp)); refine hK _ ?_; clear hK K)))
          (refine Go.Flo.fw_calm rfl ?_ (fun K hK => ?_); (first | exact Go.Mix.wanted_none rfl | exact Go.Mix.wanted_tt rfl rfl rfl | exact Go.Mix.wanted_ff rfl rfl rfl); refine Go.Flo.quiet_load_row 114 _ rfl gq rfl _ rq.cs _ (by rintro _ ⟨i, rfl⟩; exact ((HW.out i).block gq hql).trans hgq) Try.underlying114 rfl (size_rl rq) ?_; go_simp; refine hK _ ?_; clear hK K)
          (repeat (first | (refine Go.Flo.fw_calm rfl ?_ (fun K hK => ?_); (first | exact Go.Mix.wanted_none rfl | exact Go.Mix.wanted_tt rfl rfl rfl | exact Go.Mix.wanted_ff rfl rfl rfl); go_big_quiet_op; refine hK _ ?_; clear hK K) | (refine Go.Flo.fw_skip ?_ (fun K hK => ?_); (first | exact Go.Mix.wanted_tf rfl rfl rfl | exact Go.Mix.wanted_ft rfl rfl rfl); go_simp; refine hK _ ?_; clear hK K) | (refine Go.Flo.fw_any rfl ?_ (fun K hK => ?_); (first | exact Go.Mix.wanted_none rfl | exact Go.Mix.wanted_tt rfl rfl rfl | exact Go.Mix.wanted_ff rfl rfl rfl); go_simp; (try (go_ints; try go_simp)); refine hK _ ?_; clear hK K)))
          refine Go.Flo.fw_loud rfl ?_ rfl (by simp) (fun wv hwv hav K hK => ?_) (fun v hv K hK => ?_)
          · (first | exact Go.Mix.wanted_none rfl | exact Go.Mix.wanted_tt rfl rfl rfl | exact Go.Mix.wanted_ff rfl rfl rfl)
          · obtain ⟨iv, rfl⟩ := hwv
            have hbv := HW.out iv
            (first | go_big_op | go_simp)
            go_at_call 61
            refine (rRight rq tq _ HRQ.out htq).mono ?_
            rintro e w' ⟨rfl, hb⟩
            exact hK _ _ (Go.Flo.owes_is _ rfl hb)
          obtain rfl := hv.is
          go_simp
          refine hK _ ?_
          clear hK K hv
          (repeat (first | (refine Go.Flo.fw_calm rfl ?_ (fun K hK => ?_); (first | exact Go.Mix.wanted_none rfl | exact Go.Mix.wanted_tt rfl rfl rfl | exact Go.Mix.wanted_ff rfl rfl rfl); go_big_quiet_op; refine hK _ ?_; clear hK K) | (refine Go.Flo.fw_skip ?_ (fun K hK => ?_); (first | exact Go.Mix.wanted_tf rfl rfl rfl | exact Go.Mix.wanted_ft rfl rfl rfl); go_simp; refine hK _ ?_; clear hK K) | (refine Go.Flo.fw_any rfl ?_ (fun K hK => ?_); (first | exact Go.Mix.wanted_none rfl | exact Go.Mix.wanted_tt rfl rfl rfl | exact Go.Mix.wanted_ff rfl rfl rfl); go_simp; (try (go_ints; try go_simp)); refine hK _ ?_; clear hK K)))
          (refine Go.Flo.fw_calm rfl ?_ (fun K hK => ?_); (first | exact Go.Mix.wanted_none rfl | exact Go.Mix.wanted_tt rfl rfl rfl | exact Go.Mix.wanted_ff rfl rfl rfl); refine Go.Flo.quiet_load_row 114 _ rfl gq rfl _ rq.cs _ (by rintro _ ⟨i, rfl⟩; exact ((HW.out i).block gq hql).trans hgq) Try.underlying114 rfl (size_rl rq) ?_; go_simp; refine hK _ ?_; clear hK K)
          (repeat (first | (refine Go.Flo.fw_calm rfl ?_ (fun K hK => ?_); (first | exact Go.Mix.wanted_none rfl | exact Go.Mix.wanted_tt rfl rfl rfl | exact Go.Mix.wanted_ff rfl rfl rfl); go_big_quiet_op; refine hK _ ?_; clear hK K) | (refine Go.Flo.fw_skip ?_ (fun K hK => ?_); (first | exact Go.Mix.wanted_tf rfl rfl rfl | exact Go.Mix.wanted_ft rfl rfl rfl); go_simp; refine hK _ ?_; clear hK K) | (refine Go.Flo.fw_any rfl ?_ (fun K hK => ?_); (first | exact Go.Mix.wanted_none rfl | exact Go.Mix.wanted_tt rfl rfl rfl | exact Go.Mix.wanted_ff rfl rfl rfl); go_simp; (try (go_ints; try go_simp)); refine hK _ ?_; clear hK K)))
          refine Go.Flo.fw_loud rfl ?_ rfl (by simp) (fun wv hwv hav K hK => ?_) (fun v hv K hK => ?_)
          · (first | exact Go.Mix.wanted_none rfl | exact Go.Mix.wanted_tt rfl rfl rfl | exact Go.Mix.wanted_ff rfl rfl rfl)
          · obtain ⟨iv, rfl⟩ := hwv
            have hbv := HW.out iv
            (first | go_big_op | go_simp)
            go_at_call 60
            refine (lRight rq tq _ HRQ.out htq).mono ?_
            rintro e w' ⟨rfl, hb⟩
            exact hK _ _ (Go.Flo.owes_is _ rfl hb)
          obtain rfl := hv.is
          go_simp
          refine hK _ ?_
          clear hK K hv
          (repeat (first | (refine Go.Flo.fw_calm rfl ?_ (fun K hK => ?_); (first | exact Go.Mix.wanted_none rfl | exact Go.Mix.wanted_tt rfl rfl rfl | exact Go.Mix.wanted_ff rfl rfl rfl); go_big_quiet_op; refine hK _ ?_; clear hK K) | (refine Go.Flo.fw_skip ?_ (fun K hK => ?_); (first | exact Go.Mix.wanted_tf rfl rfl rfl | exact Go.Mix.wanted_ft rfl rfl rfl); go_simp; refine hK _ ?_; clear hK K) | (refine Go.Flo.fw_any rfl ?_ (fun K hK => ?_); (first | exact Go.Mix.wanted_none rfl | exact Go.Mix.wanted_tt rfl rfl rfl | exact Go.Mix.wanted_ff rfl rfl rfl); go_simp; (try (go_ints; try go_simp)); refine hK _ ?_; clear hK K)))
          refine Go.Flo.fw_nil ?_
          intro wz hwwz hfwz huwz
          refine Go.Flo.tw_nil ?_
          obtain ⟨iend, hiend⟩ := hwwz
          have hbwz := HW.out iend
          rw [← hiend] at hbwz
          clear hiend iend huwz
          have HBZ := Lib.hid (HB4.out.trans (hbwz.mono HB4.out.size))
          clear hfwz HJ HW hne hbwz hgf hfl
          clear W I
          go_wp2
          go_ret
          exact ⟨rfl, HBZ.out⟩
        · have hlt : a2 < 0 := by omega
          clear h0
          go_upto_region 17 with fail
          skip
          have hfl := box_lt hx
          have hql := box_lt G4.out
          have hml := box_lt hp
          have hgf := hx
          have hgq := G4.out
          have hgm := hp
          unfold MnB at hgm
          obtain ⟨I, W, hne, hWI, hIW⟩ := Go.Mix.family (fun v => Below w7.heap.size w7 v) (Below.refl _ _)
          have HJ := Lib.hid hIW
          have HW := Lib.hid hWI
          clear hWI hIW
          refine Go.Flo.wp_region (fun w' => ∃ i, w' = W i) 37 [Go.Flo.Spec.is (.int .u8 0), Go.Flo.Spec.is (.bool tq), Go.Flo.Spec.is (.bool tq)] (by kernel_rfl) (by kernel_rfl) (by decide) (by rintro _ w' ⟨i, rfl⟩ hb; exact HJ.out _ ((HW.out i).trans (hb.mono (HW.out i).size))) (HJ.out _ (Below.refl _ _).drew) ?_
          simp only [Go.Flo.pair, Go.Mix.calm, List.take, List.drop, if_true, Bool.false_eq_true, if_false, Nat.reduceAdd, Nat.reduceSub]
          (repeat (first | (refine Go.Flo.fw_calm rfl ?_ (fun K hK => ?_); (first | exact Go.Mix.wanted_none rfl | exact Go.Mix.wanted_tt rfl rfl rfl | exact Go.Mix.wanted_ff rfl rfl rfl); go_big_quiet_op; refine hK _ ?_; clear hK K) | (refine Go.Flo.fw_skip ?_ (fun K hK => ?_); (first | exact Go.Mix.wanted_tf rfl rfl rfl | exact Go.Mix.wanted_ft rfl rfl rfl); go_simp; refine hK _ ?_; clear hK K) | (refine Go.Flo.fw_any rfl ?_ (fun K hK => ?_); (first | exact Go.Mix.wanted_none rfl | exact Go.Mix.wanted_tt rfl rfl rfl | exact Go.Mix.wanted_ff rfl rfl rfl); go_simp; (try (go_ints; try go_simp)); refine hK _ ?_; clear hK K)))
          (refine Go.Flo.fw_calm rfl ?_ (fun K hK => ?_); (first | exact Go.Mix.wanted_none rfl | exact Go.Mix.wanted_tt rfl rfl rfl | exact Go.Mix.wanted_ff rfl rfl rfl); refine Go.Flo.quiet_load_row 114 _ rfl f rfl _ (#[.int .u8 0, .int .i64 0, .int .i32 0, .int .i32 0, .int .u32 0, .int .u32 0, .int .u8 0, .int .u8 0, .int .u8 0, .int .i64 0, .bool false] : Array Value) _ (by rintro _ ⟨i, rfl⟩; exact ((HW.out i).block f hfl).trans hgf) Try.underlying114 rfl (size_rl Rl.z) ?_; go_simp; refine hK _ ?_; clear hK K)
          (repeat (first | (refine Go.Flo.fw_calm rfl ?_ (fun K hK => ?_); (first | exact Go.Mix.wanted_none rfl | exact Go.Mix.wanted_tt rfl rfl rfl | exact Go.Mix.wanted_ff rfl rfl rfl); go_big_quiet_op; refine hK _ ?_; clear hK K) | (refine Go.Flo.fw_skip ?_ (fun K hK => ?_); (first | exact Go.Mix.wanted_tf rfl rfl rfl | exact Go.Mix.wanted_ft rfl rfl rfl); go_simp; refine hK _ ?_; clear hK K) | (refine Go.Flo.fw_any rfl ?_ (fun K hK => ?_); (first | exact Go.Mix.wanted_none rfl | exact Go.Mix.wanted_tt rfl rfl rfl | exact Go.Mix.wanted_ff rfl rfl rfl); go_simp; (try (go_ints; try go_simp)); refine hK _ ?_; clear hK K)))
          (refine Go.Flo.fw_calm rfl ?_ (fun K hK => ?_); (first | exact Go.Mix.wanted_none rfl | exact Go.Mix.wanted_tt rfl rfl rfl | exact Go.Mix.wanted_ff rfl rfl rfl); refine Go.Flo.quiet_load_row 121 _ rfl gm rfl _ P.cs _ (by rintro _ ⟨i, rfl⟩; exact ((HW.out i).block gm hml).trans hgm) Try.underlying121 rfl (size_mn P) ?_; go_simp; refine hK _ ?_; clear hK K)
          (repeat (first | (refine Go.Flo.fw_calm rfl ?_ (fun K hK => ?_); (first | exact Go.Mix.wanted_none rfl | exact Go.Mix.wanted_tt rfl rfl rfl | exact Go.Mix.wanted_ff rfl rfl rfl); go_big_quiet_op; refine hK _ ?_; clear hK K) | (refine Go.Flo.fw_skip ?_ (fun K hK => ?_); (first | exact Go.Mix.wanted_tf rfl rfl rfl | exact Go.Mix.wanted_ft rfl rfl rfl); go_simp; refine hK _ ?_; clear hK K) | (refine Go.Flo.fw_any rfl ?_ (fun K hK => ?_); (first | exact Go.Mix.wanted_none rfl | exact Go.Mix.wanted_tt rfl rfl rfl | exact Go.Mix.wanted_ff rfl rfl rfl); go_simp; (try (go_ints; try go_simp)); refine hK _ ?_; clear hK K)))
          refine Go.Flo.fw_loud rfl ?_ rfl (by simp) (fun wv hwv hav K hK => ?_) (fun v hv K hK => ?_)
          · (first | exact Go.Mix.wanted_none rfl | exact Go.Mix.wanted_tt rfl rfl rfl | exact Go.Mix.wanted_ff rfl rfl rfl)
          · obtain ⟨iv, rfl⟩ := hwv
            have hbv := HW.out iv
            (first | go_big_op | go_simp)
            go_at_call 58
            refine (mStatus P a2 0 _ hle (by unfold Mn.stat; rw [HH.out]; rfl)).mono ?_
            rintro e w' ⟨rfl, hb⟩
            exact hK _ _ (Go.Flo.owes_is _ rfl hb)
          obtain rfl := hv.is
          go_simp
          refine hK _ ?_
          clear hK K hv
          skip
          (repeat (first | (refine Go.Flo.fw_calm rfl ?_ (fun K hK => ?_); (first | exact Go.Mix.wanted_none rfl | exact Go.Mix.wanted_tt rfl rfl rfl | exact Go.Mix.wanted_ff rfl rfl rfl); go_big_quiet_op; refine hK _ ?_; clear hK K) | (refine Go.Flo.fw_skip ?_ (fun K hK => ?_); (first | exact Go.Mix.wanted_tf rfl rfl rfl | exact Go.Mix.wanted_ft rfl rfl rfl); go_simp; refine hK _ ?_; clear hK K) | (refine Go.Flo.fw_any rfl ?_ (fun K hK => ?_); (first | exact Go.Mix.wanted_none rfl | exact Go.Mix.wanted_tt rfl rfl rfl | exact Go.Mix.wanted_ff rfl rfl rfl); go_simp; (try (go_ints; try go_simp)); refine hK _ ?_; clear hK K)))
          (refine Go.Flo.fw_calm rfl ?_ (fun K hK => ?_); (first | exact Go.Mix.wanted_none rfl | exact Go.Mix.wanted_tt rfl rfl rfl | exact Go.Mix.wanted_ff rfl rfl rfl); refine Go.Flo.quiet_load_row 114 _ rfl gq rfl _ rq.cs _ (by rintro _ ⟨i, rfl⟩; exact ((HW.out i).block gq hql).trans hgq) Try.underlying114 rfl (size_rl rq) ?_; go_simp; refine hK _ ?_; clear hK K)
          (repeat (first | (refine Go.Flo.fw_calm rfl ?_ (fun K hK => ?_); (first | exact Go.Mix.wanted_none rfl | exact Go.Mix.wanted_tt rfl rfl rfl | exact Go.Mix.wanted_ff rfl rfl rfl); go_big_quiet_op; refine hK _ ?_; clear hK K) | (refine Go.Flo.fw_skip ?_ (fun K hK => ?_); (first | exact Go.Mix.wanted_tf rfl rfl rfl | exact Go.Mix.wanted_ft rfl rfl rfl); go_simp; refine hK _ ?_; clear hK K) | (refine Go.Flo.fw_any rfl ?_ (fun K hK => ?_); (first | exact Go.Mix.wanted_none rfl | exact Go.Mix.wanted_tt rfl rfl rfl | exact Go.Mix.wanted_ff rfl rfl rfl); go_simp; (try (go_ints; try go_simp)); refine hK _ ?_; clear hK K)))
          refine Go.Flo.fw_loud rfl ?_ rfl (by simp) (fun wv hwv hav K hK => ?_) (fun v hv K hK => ?_)
          · (first | exact Go.Mix.wanted_none rfl | exact Go.Mix.wanted_tt rfl rfl rfl | exact Go.Mix.wanted_ff rfl rfl rfl)
          · obtain ⟨iv, rfl⟩ := hwv
            have hbv := HW.out iv
            (first | go_big_op | go_simp)
            go_at_call 61
            refine (rRight rq tq _ HRQ.out htq).mono ?_
            rintro e w' ⟨rfl, hb⟩
            exact hK _ _ (Go.Flo.owes_is _ rfl hb)
          obtain rfl := hv.is
          go_simp
          refine hK _ ?_
          clear hK K hv
          (repeat (first | (refine Go.Flo.fw_calm rfl ?_ (fun K hK => ?_); (first | exact Go.Mix.wanted_none rfl | exact Go.Mix.wanted_tt rfl rfl rfl | exact Go.Mix.wanted_ff rfl rfl rfl); go_big_quiet_op; refine hK _ ?_; clear hK K) | (refine Go.Flo.fw_skip ?_ (fun K hK => ?_); (first | exact Go.Mix.wanted_tf rfl rfl rfl | exact Go.Mix.wanted_ft rfl rfl rfl); go_simp; refine hK _ ?_; clear hK K) | (refine Go.Flo.fw_any rfl ?_ (fun K hK => ?_); (first | exact Go.Mix.wanted_none rfl | exact Go.Mix.wanted_tt rfl rfl rfl | exact Go.Mix.wanted_ff rfl rfl rfl); go_simp; (try (go_ints; try go_simp)); refine hK _ ?_; clear hK K)))
          (refine Go.Flo.fw_calm rfl ?_ (fun K hK => ?_); (first | exact Go.Mix.wanted_none rfl | exact Go.Mix.wanted_tt rfl rfl rfl | exact Go.Mix.wanted_ff rfl rfl rfl); refine Go.Flo.quiet_load_row 114 _ rfl gq rfl _ rq.cs _ (by rintro _ ⟨i, rfl⟩; exact ((HW.out i).block gq hql).trans hgq) Try.underlying114 rfl (size_rl rq) ?_; go_simp; refine hK _ ?_; clear hK K)
          (repeat (first | (refine Go.Flo.fw_calm rfl ?_ (fun K hK => ?_); (first | exact Go.Mix.wanted_none rfl | exact Go.Mix.wanted_tt rfl rfl rfl | exact Go.Mix.wanted_ff rfl rfl rfl); go_big_quiet_op; refine hK _ ?_; clear hK K) | (refine Go.Flo.fw_skip ?_ (fun K hK => ?_); (first | exact Go.Mix.wanted_tf rfl rfl rfl | exact Go.Mix.wanted_ft rfl rfl rfl); go_simp; refine hK _ ?_; clear hK K) | (refine Go.Flo.fw_any rfl ?_ (fun K hK => ?_); (first | exact Go.Mix.wanted_none rfl | exact Go.Mix.wanted_tt rfl rfl rfl | exact Go.Mix.wanted_ff rfl rfl rfl); go_simp; (try (go_ints; try go_simp)); refine hK _ ?_; clear hK K)))
          refine Go.Flo.fw_loud rfl ?_ rfl (by simp) (fun wv hwv hav K hK => ?_) (fun v hv K hK => ?_)
          · (first | exact Go.Mix.wanted_none rfl | exact Go.Mix.wanted_tt rfl rfl rfl | exact Go.Mix.wanted_ff rfl rfl rfl)
          · obtain ⟨iv, rfl⟩ := hwv
            have hbv := HW.out iv
            (first | go_big_op | go_simp)
            go_at_call 60
            refine (lRight rq tq _ HRQ.out htq).mono ?_
            rintro e w' ⟨rfl, hb⟩
            exact hK _ _ (Go.Flo.owes_is _ rfl hb)
          obtain rfl := hv.is
          go_simp
          refine hK _ ?_
          clear hK K hv
          (repeat (first | (refine Go.Flo.fw_calm rfl ?_ (fun K hK => ?_); (first | exact Go.Mix.wanted_none rfl | exact Go.Mix.wanted_tt rfl rfl rfl | exact Go.Mix.wanted_ff rfl rfl rfl); go_big_quiet_op; refine hK _ ?_; clear hK K) | (refine Go.Flo.fw_skip ?_ (fun K hK => ?_); (first | exact Go.Mix.wanted_tf rfl rfl rfl | exact Go.Mix.wanted_ft rfl rfl rfl); go_simp; refine hK _ ?_; clear hK K) | (refine Go.Flo.fw_any rfl ?_ (fun K hK => ?_); (first | exact Go.Mix.wanted_none rfl | exact Go.Mix.wanted_tt rfl rfl rfl | exact Go.Mix.wanted_ff rfl rfl rfl); go_simp; (try (go_ints; try go_simp)); refine hK _ ?_; clear hK K)))
          refine Go.Flo.fw_nil ?_
          intro wz hwwz hfwz huwz
          refine Go.Flo.tw_nil ?_
          obtain ⟨iend, hiend⟩ := hwwz
          have hbwz := HW.out iend
          rw [← hiend] at hbwz
          clear hiend iend huwz
          have HBZ := Lib.hid (HB4.out.trans (hbwz.mono HB4.out.size))
          clear hfwz HJ HW hne hbwz hgf hfl
          clear W I
          go_wp2
          go_ret
          exact ⟨rfl, HBZ.out⟩
      · have hn1 := (okTo_new k rr).1 hok
        have HN1 := Lib.hid hn1
        clear hok hn1
        go_wp2_with fail
        go_at_call 56
        refine (mNew a0 k cap0 rr _ HRU2.out HROK.out).mono ?_
        rintro e w3 ⟨hb, ⟨hn, rfl⟩ | ⟨hn, rfl⟩⟩
        case inr => exact absurd HN1.out hn
        obtain ⟨P, hP⟩ : ∃ P, P = Mn.part k rr k := ⟨_, rfl⟩
        rw [← hP]
        have HPN := Lib.hid hP
        clear hP
        skip
        have HB3 := Lib.hid (HB2.out.trans (hb.mono HB2.out.size))
        have HRU3 := Lib.hid (HRU2.out.below hb (Nat.le_refl _))
        have G3 := Lib.hid (box_below G2.out hb (box_lt G2.out))
        clear hb HB2 HRU2 G2
        go_upto_region 13 with (refine wpList_store_row rfl 121 _ _ rfl _ (Mn.cs _) rfl rfl 121 _ (heap_alloc_new w3 (.cells (Mn.empty 0).cs 121)) (size_mn _) (by simp only [Mn.size]) (Mn.one _) ?_; rw [World.setRow_alloc_new]; (try go_simp))
        have hal : Below w3.heap.size w3 (w3.alloc (.cells P.cs 121)) := (Below.refl _ _).alloc (Nat.le_refl _) _
        have HP := Lib.hid (MnB.new w3 P)
        have HB4 := Lib.hid (HB3.out.trans (hal.mono HB3.out.size))
        have HRU4 := Lib.hid (HRU3.out.below hal (Nat.le_refl _))
        have G4 := Lib.hid (box_below G3.out hal (box_lt G3.out))
        obtain ⟨gm, hgm⟩ : ∃ g, g = w3.heap.size := ⟨_, rfl⟩
        obtain ⟨w4, hw4⟩ : ∃ w4, w4 = w3.alloc (.cells P.cs 121) := ⟨_, rfl⟩
        rw [← hw4, ← hgm] at HP
        rw [← hw4] at HB4 HRU4 G4
        rw [← hw4, ← hgm]
        clear hw4 hgm hal HB3 HRU3 G3
        have hp := HP.out
        have hle : P.n ≤ 16 := by rw [HPN.out]; exact HN1.out.1
        clear hn
        cases hh : P.has a2
        · have HH := Lib.hid hh
          clear hh
          skip
          go_wp2_with (refine wpList_load_row rfl 121 _ rfl _ rfl _ _ _ _ hp Try.underlying121 rfl (by exact size_mn _) ?_; (try go_simp))
          go_at_call 63
          refine (mRule P a2 Rl.z _ hle (by unfold Mn.rule; rw [HH.out]; rfl)).mono ?_
          rintro e w6 ⟨rfl, hb⟩
          rw [HH.out]
          skip
          have HP' := Lib.hid (HP.out.below hb (Nat.le_refl _))
          have HB' := Lib.hid (HB4.out.trans (hb.mono HB4.out.size))
          have HRU' := Lib.hid (HRU4.out.below hb (Nat.le_refl _))
          have G' := Lib.hid (box_below G4.out hb (box_lt G4.out))
          clear hb HB4 HRU4 G4 HP hp
          have HP := HP'
          have HB4 := HB'
          have HRU4 := HRU'
          have G4 := G'
          clear HP' HB' HRU' G'
          have hp := HP.out
          go_upto_region 16 with (refine wpList_store_row rfl 114 _ _ rfl _ (Rl.cs _) rfl rfl 114 _ (heap_alloc_new w6 (.cells (#[.int .u8 0, .int .i64 0, .int .i32 0, .int .i32 0, .int .u32 0, .int .u32 0, .int .u8 0, .int .u8 0, .int .u8 0, .int .i64 0, .bool false] : Array Value) 114)) (size_rl _) rfl (Rl.one _) ?_; rw [World.setRow_alloc_new]; (try go_simp))
          have hb : Below w6.heap.size w6 (w6.alloc (.cells Rl.z.cs 114)) := (Below.refl _ _).alloc (Nat.le_refl _) _
          have hx := heap_alloc_new w6 (.cells Rl.z.cs 114)
          rw [show Rl.z.cs = (#[.int .u8 0, .int .i64 0, .int .i32 0, .int .i32 0, .int .u32 0, .int .u32 0, .int .u8 0, .int .u8 0, .int .u8 0, .int .i64 0, .bool false] : Array Value) from rfl] at hb hx ⊢
          obtain ⟨f, hf⟩ : ∃ f, f = w6.heap.size := ⟨_, rfl⟩
          obtain ⟨w7, hw7⟩ : ∃ w7, w7 = w6.alloc (.cells (#[.int .u8 0, .int .i64 0, .int .i32 0, .int .i32 0, .int .u32 0, .int .u32 0, .int .u8 0, .int .u8 0, .int .u8 0, .int .i64 0, .bool false] : Array Value) 114) := ⟨_, rfl⟩
          rw [← hw7] at hb hx ⊢
          rw [← hf] at hx ⊢
          skip
          have HP' := Lib.hid (HP.out.below hb (Nat.le_refl _))
          have HB' := Lib.hid (HB4.out.trans (hb.mono HB4.out.size))
          have HRU' := Lib.hid (HRU4.out.below hb (Nat.le_refl _))
          have G' := Lib.hid (box_below G4.out hb (box_lt G4.out))
          clear hb HB4 HRU4 G4 HP hp
          have HP := HP'
          have HB4 := HB'
          have HRU4 := HRU'
          have G4 := G'
          clear HP' HB' HRU' G'
          have hp := HP.out
          clear hw7 hf
          obtain ⟨tq, htq⟩ : ∃ t, rq.right = t := ⟨_, rfl⟩
          by_cases h0 : 0 ≤ a2
          · have hlt : (P.n : Int) ≤ a2 := by
              have := HH.out
              simp [Mn.has, h0] at this
              omega
            have hlt2 : decide (a2 < (P.n : Int)) = false := decide_eq_false (by omega)
            go_wp2_with (refine wpLoadWm (by (first | exact Go.Mix.wanted_none rfl | exact Go.Mix.wanted_tt rfl rfl rfl | exact Go.Mix.wanted_ff rfl rfl rfl)) 121 _ rfl _ rfl _ _ _ _ hp Try.underlying121 rfl (size_mn _) ?_; (try go_simp))
            go_at_call 62
            refine (mLen P _).mono ?_
            rintro e w8 ⟨rfl, hb⟩
            have hx8 := box_below hx hb (box_lt hx)
            skip
            have HP' := Lib.hid (HP.out.below hb (Nat.le_refl _))
            have HB' := Lib.hid (HB4.out.trans (hb.mono HB4.out.size))
            have HRU' := Lib.hid (HRU4.out.below hb (Nat.le_refl _))
            have G' := Lib.hid (box_below G4.out hb (box_lt G4.out))
            clear hb HB4 HRU4 G4 HP hp
            have HP := HP'
            have HB4 := HB'
            have HRU4 := HRU'
            have G4 := G'
            clear HP' HB' HRU' G'
            have hp := HP.out
            clear hx
            go_upto_region 17 with fail
            skip
            have hfl := box_lt hx8
            have hql := box_lt G4.out
            have hml := box_lt hp
            have hgf := hx8
            have hgq := G4.out
            have hgm := hp
            unfold MnB at hgm
            obtain ⟨I, W, hne, hWI, hIW⟩ := Go.Mix.family (fun v => Below w8.heap.size w8 v) (Below.refl _ _)
            have HJ := Lib.hid hIW
            have HW := Lib.hid hWI
            clear hWI hIW
            refine Go.Flo.wp_region (fun w' => ∃ i, w' = W i) 37 [Go.Flo.Spec.is (.int .u8 0), Go.Flo.Spec.is (.bool tq), Go.Flo.Spec.is (.bool tq)] (by kernel_rfl) (by kernel_rfl) (by decide) (by rintro _ w' ⟨i, rfl⟩ hb; exact HJ.out _ ((HW.out i).trans (hb.mono (HW.out i).size))) (HJ.out _ (Below.refl _ _).drew) ?_
            simp only [Go.Flo.pair, Go.Mix.calm, List.take, List.drop, if_true, Bool.false_eq_true, if_false, Nat.reduceAdd, Nat.reduceSub]
            (repeat (first | (refine Go.Flo.fw_calm rfl ?_ (fun K hK => ?_); (first | exact Go.Mix.wanted_none rfl | exact Go.Mix.wanted_tt rfl rfl rfl | exact Go.Mix.wanted_ff rfl rfl rfl); go_big_quiet_op; refine hK _ ?_; clear hK K) | (refine Go.Flo.fw_skip ?_ (fun K hK => ?_); (first | exact Go.Mix.wanted_tf rfl rfl rfl | exact Go.Mix.wanted_ft rfl rfl rfl); go_simp; refine hK _ ?_; clear hK K) | (refine Go.Flo.fw_any rfl ?_ (fun K hK => ?_); (first | exact Go.Mix.wanted_none rfl | exact Go.Mix.wanted_tt rfl rfl rfl | exact Go.Mix.wanted_ff rfl rfl rfl); go_simp; (try (go_ints; try go_simp)); refine hK _ ?_; clear hK K)))
            (refine Go.Flo.fw_calm rfl ?_ (fun K hK => ?_); (first | exact Go.Mix.wanted_none rfl | exact Go.Mix.wanted_tt rfl rfl rfl | exact Go.Mix.wanted_ff rfl rfl rfl); refine Go.Flo.quiet_load_row 114 _ rfl f rfl _ (#[.int .u8 0, .int .i64 0, .int .i32 0, .int .i32 0, .int .u32 0, .int .u32 0, .int .u8 0, .int .u8 0, .int .u8 0, .int .i64 0, .bool false] : Array Value) _ (by rintro _ ⟨i, rfl⟩; exact ((HW.out i).block f hfl).trans hgf) Try.underlying114 rfl (size_rl Rl.z) ?_; go_simp; refine hK _ ?_; clear hK K)
            (repeat (first | (refine Go.Flo.fw_calm rfl ?_ (fun K hK => ?_); (first | exact Go.Mix.wanted_none rfl | exact Go.Mix.wanted_tt rfl rfl rfl | exact Go.Mix.wanted_ff rfl rfl rfl); go_big_quiet_op; refine hK _ ?_; clear hK K) | (refine Go.Flo.fw_skip ?_ (fun K hK => ?_); (first | exact Go.Mix.wanted_tf rfl rfl rfl | exact Go.Mix.wanted_ft rfl rfl rfl); go_simp; refine hK _ ?_; clear hK K) | (refine Go.Flo.fw_any rfl ?_ (fun K hK => ?_); (first | exact Go.Mix.wanted_none rfl | exact Go.Mix.wanted_tt rfl rfl rfl | exact Go.Mix.wanted_ff rfl rfl rfl); go_simp; (try (go_ints; try go_simp)); refine hK _ ?_; clear hK K)))
            (refine Go.Flo.fw_calm rfl ?_ (fun K hK => ?_); (first | exact Go.Mix.wanted_none rfl | exact Go.Mix.wanted_tt rfl rfl rfl | exact Go.Mix.wanted_ff rfl rfl rfl); refine Go.Flo.quiet_load_row 121 _ rfl gm rfl _ P.cs _ (by rintro _ ⟨i, rfl⟩; exact ((HW.out i).block gm hml).trans hgm) Try.underlying121 rfl (size_mn P) ?_; go_simp; refine hK _ ?_; clear hK K)
            (repeat (first | (refine Go.Flo.fw_calm rfl ?_ (fun K hK => ?_); (first | exact Go.Mix.wanted_none rfl | exact Go.Mix.wanted_tt rfl rfl rfl | exact Go.Mix.wanted_ff rfl rfl rfl); go_big_quiet_op; refine hK _ ?_; clear hK K) | (refine Go.Flo.fw_skip ?_ (fun K hK => ?_); (first | exact Go.Mix.wanted_tf rfl rfl rfl | exact Go.Mix.wanted_ft rfl rfl rfl); go_simp; refine hK _ ?_; clear hK K) | (refine Go.Flo.fw_any rfl ?_ (fun K hK => ?_); (first | exact Go.Mix.wanted_none rfl | exact Go.Mix.wanted_tt rfl rfl rfl | exact Go.Mix.wanted_ff rfl rfl rfl); go_simp; (try (go_ints; try go_simp)); refine hK _ ?_; clear hK K)))
            refine Go.Flo.fw_loud rfl ?_ rfl (by simp) (fun wv hwv hav K hK => ?_) (fun v hv K hK => ?_)
            · (first | exact Go.Mix.wanted_none rfl | exact Go.Mix.wanted_tt rfl rfl rfl | exact Go.Mix.wanted_ff rfl rfl rfl)
            · obtain ⟨iv, rfl⟩ := hwv
              have hbv := HW.out iv
              (first | go_big_op | go_simp)
              go_at_call 58
              refine (mStatus P a2 0 _ hle (by unfold Mn.stat; rw [HH.out]; rfl)).mono ?_
              rintro e w' ⟨rfl, hb⟩
              exact hK _ _ (Go.Flo.owes_is _ rfl hb)
            obtain rfl := hv.is
            go_simp
            refine hK _ ?_
            clear hK K hv
            skip
            (repeat (first | (refine Go.Flo.fw_calm rfl ?_ (fun K hK => ?_); (first | exact Go.Mix.wanted_none rfl | exact Go.Mix.wanted_tt rfl rfl rfl | exact Go.Mix.wanted_ff rfl rfl rfl); go_big_quiet_op; refine hK _ ?_; clear hK K) | (refine Go.Flo.fw_skip ?_ (fun K hK => ?_); (first | exact Go.Mix.wanted_tf rfl rfl rfl | exact Go.Mix.wanted_ft rfl rfl rfl); go_simp; refine hK _ ?_; clear hK K) | (refine Go.Flo.fw_any rfl ?_ (fun K hK => ?_); (first | exact Go.Mix.wanted_none rfl | exact Go.Mix.wanted_tt rfl rfl rfl | exact Go.Mix.wanted_ff rfl rfl rfl); go_simp; (try (go_ints; try go_simp)); refine hK _ ?_; clear hK K)))
            (refine Go.Flo.fw_calm rfl ?_ (fun K hK => ?_); (first | exact Go.Mix.wanted_none rfl | exact Go.Mix.wanted_tt rfl rfl rfl | exact Go.Mix.wanted_ff rfl rfl rfl); refine Go.Flo.quiet_load_row 114 _ rfl gq rfl _ rq.cs _ (by rintro _ ⟨i, rfl⟩; exact ((HW.out i).block gq hql).trans hgq) Try.underlying114 rfl (size_rl rq) ?_; go_simp; refine hK _ ?_; clear hK K)
            (repeat (first | (refine Go.Flo.fw_calm rfl ?_ (fun K hK => ?_); (first | exact Go.Mix.wanted_none rfl | exact Go.Mix.wanted_tt rfl rfl rfl | exact Go.Mix.wanted_ff rfl rfl rfl); go_big_quiet_op; refine hK _ ?_; clear hK K) | (refine Go.Flo.fw_skip ?_ (fun K hK => ?_); (first | exact Go.Mix.wanted_tf rfl rfl rfl | exact Go.Mix.wanted_ft rfl rfl rfl); go_simp; refine hK _ ?_; clear hK K) | (refine Go.Flo.fw_any rfl ?_ (fun K hK => ?_); (first | exact Go.Mix.wanted_none rfl | exact Go.Mix.wanted_tt rfl rfl rfl | exact Go.Mix.wanted_ff rfl rfl rfl); go_simp; (try (go_ints; try go_simp)); refine hK _ ?_; clear hK K)))
            refine Go.Flo.fw_loud rfl ?_ rfl (by simp) (fun wv hwv hav K hK => ?_) (fun v hv K hK => ?_)
            · (first | exact Go.Mix.wanted_none rfl | exact Go.Mix.wanted_tt rfl rfl rfl | exact Go.Mix.wanted_ff rfl rfl rfl)
            · obtain ⟨iv, rfl⟩ := hwv
              have hbv := HW.out iv
              (first | go_big_op | go_simp)
              go_at_call 61
              refine (rRight rq tq _ HRQ.out htq).mono ?_
              rintro e w' ⟨rfl, hb⟩
              exact hK _ _ (Go.Flo.owes_is _ rfl hb)
            obtain rfl := hv.is
            go_simp
            refine hK _ ?_
            clear hK K hv
            (repeat (first | (refine Go.Flo.fw_calm rfl ?_ (fun K hK => ?_); (first | exact Go.Mix.wanted_none rfl | exact Go.Mix.wanted_tt rfl rfl rfl | exact Go.Mix.wanted_ff rfl rfl rfl); go_big_quiet_op; refine hK _ ?_; clear hK K) | (refine Go.Flo.fw_skip ?_ (fun K hK => ?_); (first | exact Go.Mix.wanted_tf rfl rfl rfl | exact Go.Mix.wanted_ft rfl rfl rfl); go_simp; refine hK _ ?_; clear hK K) | (refine Go.Flo.fw_any rfl ?_ (fun K hK => ?_); (first | exact Go.Mix.wanted_none rfl | exact Go.Mix.wanted_tt rfl rfl rfl | exact Go.Mix.wanted_ff rfl rfl rfl); go_simp; (try (go_ints; try go_simp)); refine hK _ ?_; clear hK K)))
            (refine Go.Flo.fw_calm rfl ?_ (fun K hK => ?_); (first | exact Go.Mix.wanted_none rfl | exact Go.Mix.wanted_tt rfl rfl rfl | exact Go.Mix.wanted_ff rfl rfl rfl); refine Go.Flo.quiet_load_row 114 _ rfl gq rfl _ rq.cs _ (by rintro _ ⟨i, rfl⟩; exact ((HW.out i).block gq hql).trans hgq) Try.underlying114 rfl (size_rl rq) ?_; go_simp; refine hK _ ?_; clear hK K)
            (repeat (first | (refine Go.Flo.fw_calm rfl ?_ (fun K hK => ?_); (first | exact Go.Mix.wanted_none rfl | exact Go.Mix.wanted_tt rfl rfl rfl | exact Go.Mix.wanted_ff rfl rfl rfl); go_big_quiet_op; refine hK _ ?_; clear hK K) | (refine Go.Flo.fw_skip ?_ (fun K hK => ?_); (first | exact Go.Mix.wanted_tf rfl rfl rfl | exact Go.Mix.wanted_ft rfl rfl rfl); go_simp; refine hK _ ?_; clear hK K) | (refine Go.Flo.fw_any rfl ?_ (fun K hK => ?_); (first | exact Go.Mix.wanted_none rfl | exact Go.Mix.wanted_tt rfl rfl rfl | exact Go.Mix.wanted_ff rfl rfl rfl); go_simp; (try (go_ints; try go_simp)); refine hK _ ?_; clear hK K)))
            refine Go.Flo.fw_loud rfl ?_ rfl (by simp) (fun wv hwv hav K hK => ?_) (fun v hv K hK => ?_)
            · (first | exact Go.Mix.wanted_none rfl | exact Go.Mix.wanted_tt rfl rfl rfl | exact Go.Mix.wanted_ff rfl rfl rfl)
            · obtain ⟨iv, rfl⟩ := hwv
              have hbv := HW.out iv
              (first | go_big_op | go_simp)
              go_at_call 60
              refine (lRight rq tq _ HRQ.out htq).mono ?_
              rintro e w' ⟨rfl, hb⟩
              exact hK _ _ (Go.Flo.owes_is _ rfl hb)
            obtain rfl := hv.is
            go_simp
            refine hK _ ?_
            clear hK K hv
            (repeat (first | (refine Go.Flo.fw_calm rfl ?_ (fun K hK => ?_); (first | exact Go.Mix.wanted_none rfl | exact Go.Mix.wanted_tt rfl rfl rfl | exact Go.Mix.wanted_ff rfl rfl rfl); go_big_quiet_op; refine hK _ ?_; clear hK K) | (refine Go.Flo.fw_skip ?_ (fun K hK => ?_); (first | exact Go.Mix.wanted_tf rfl rfl rfl | exact Go.Mix.wanted_ft rfl rfl rfl); go_simp; refine hK _ ?_; clear hK K) | (refine Go.Flo.fw_any rfl ?_ (fun K hK => ?_); (first | exact Go.Mix.wanted_none rfl | exact Go.Mix.wanted_tt rfl rfl rfl | exact Go.Mix.wanted_ff rfl rfl rfl); go_simp; (try (go_ints; try go_simp)); refine hK _ ?_; clear hK K)))
            refine Go.Flo.fw_nil ?_
            intro wz hwwz hfwz huwz
            refine Go.Flo.tw_nil ?_
            obtain ⟨iend, hiend⟩ := hwwz
            have hbwz := HW.out iend
            rw [← hiend] at hbwz
            clear hiend iend huwz
            have HBZ := Lib.hid (HB4.out.trans (hbwz.mono HB4.out.size))
            clear hfwz HJ HW hne hbwz hgf hfl
            clear W I
            go_wp2
            go_ret
            exact ⟨rfl, HBZ.out⟩
          · have hlt : a2 < 0 := by omega
            clear h0
            go_upto_region 17 with fail
            skip
            have hfl := box_lt hx
            have hql := box_lt G4.out
            have hml := box_lt hp
            have hgf := hx
            have hgq := G4.out
            have hgm := hp
            unfold MnB at hgm
            obtain ⟨I, W, hne, hWI, hIW⟩ := Go.Mix.family (fun v => Below w7.heap.size w7 v) (Below.refl _ _)
            have HJ := Lib.hid hIW
            have HW := Lib.hid hWI
            clear hWI hIW
            refine Go.Flo.wp_region (fun w' => ∃ i, w' = W i) 37 [Go.Flo.Spec.is (.int .u8 0), Go.Flo.Spec.is (.bool tq), Go.Flo.Spec.is (.bool tq)] (by kernel_rfl) (by kernel_rfl) (by decide) (by rintro _ w' ⟨i, rfl⟩ hb; exact HJ.out _ ((HW.out i).trans (hb.mono (HW.out i).size))) (HJ.out _ (Below.refl _ _).drew) ?_
            simp only [Go.Flo.pair, Go.Mix.calm, List.take, List.drop, if_true, Bool.false_eq_true, if_false, Nat.reduceAdd, Nat.reduceSub]
            (repeat (first | (refine Go.Flo.fw_calm rfl ?_ (fun K hK => ?_); (first | exact Go.Mix.wanted_none rfl | exact Go.Mix.wanted_tt rfl rfl rfl | exact Go.Mix.wanted_ff rfl rfl rfl); go_big_quiet_op; refine hK _ ?_; clear hK K) | (refine Go.Flo.fw_skip ?_ (fun K hK => ?_); (first | exact Go.Mix.wanted_tf rfl rfl rfl | exact Go.Mix.wanted_ft rfl rfl rfl); go_simp; refine hK _ ?_; clear hK K) | (refine Go.Flo.fw_any rfl ?_ (fun K hK => ?_); (first | exact Go.Mix.wanted_none rfl | exact Go.Mix.wanted_tt rfl rfl rfl | exact Go.Mix.wanted_ff rfl rfl rfl); go_simp; (try (go_ints; try go_simp)); refine hK _ ?_; clear hK K)))
            (refine Go.Flo.fw_calm rfl ?_ (fun K hK => ?_); (first | exact Go.Mix.wanted_none rfl | exact Go.Mix.wanted_tt rfl rfl rfl | exact Go.Mix.wanted_ff rfl rfl rfl); refine Go.Flo.quiet_load_row 114 _ rfl f rfl _ (#[.int .u8 0, .int .i64 0, .int .i32 0, .int .i32 0, .int .u32 0, .int .u32 0, .int .u8 0, .int .u8 0, .int .u8 0, .int .i64 0, .bool false] : Array Value) _ (by rintro _ ⟨i, rfl⟩; exact ((HW.out i).block f hfl).trans hgf) Try.underlying114 rfl (size_rl Rl.z) ?_; go_simp; refine hK _ ?_; clear hK K)
            (repeat (first | (refine Go.Flo.fw_calm rfl ?_ (fun K hK => ?_); (first | exact Go.Mix.wanted_none rfl | exact Go.Mix.wanted_tt rfl rfl rfl | exact Go.Mix.wanted_ff rfl rfl rfl); go_big_quiet_op; refine hK _ ?_; clear hK K) | (refine Go.Flo.fw_skip ?_ (fun K hK => ?_); (first | exact Go.Mix.wanted_tf rfl rfl rfl | exact Go.Mix.wanted_ft rfl rfl rfl); go_simp; refine hK _ ?_; clear hK K) | (refine Go.Flo.fw_any rfl ?_ (fun K hK => ?_); (first | exact Go.Mix.wanted_none rfl | exact Go.Mix.wanted_tt rfl rfl rfl | exact Go.Mix.wanted_ff rfl rfl rfl); go_simp; (try (go_ints; try go_simp)); refine hK _ ?_; clear hK K)))
            (refine Go.Flo.fw_calm rfl ?_ (fun K hK => ?_); (first | exact Go.Mix.wanted_none rfl | exact Go.Mix.wanted_tt rfl rfl rfl | exact Go.Mix.wanted_ff rfl rfl rfl); refine Go.Flo.quiet_load_row 121 _ rfl gm rfl _ P.cs _ (by rintro _ ⟨i, rfl⟩; exact ((HW.out i).block gm hml).trans hgm) Try.underlying121 rfl (size_mn P) ?_; go_simp; refine hK _ ?_; clear hK K)
            (repeat (first | (refine Go.Flo.fw_calm rfl ?_ (fun K hK => ?_); (first | exact Go.Mix.wanted_none rfl | exact Go.Mix.wanted_tt rfl rfl rfl | exact Go.Mix.wanted_ff rfl rfl rfl); go_big_quiet_op; refine hK _ ?_; clear hK K) | (refine Go.Flo.fw_skip ?_ (fun K hK => ?_); (first | exact Go.Mix.wanted_tf rfl rfl rfl | exact Go.Mix.wanted_ft rfl rfl rfl); go_simp; refine hK _ ?_; clear hK K) | (refine Go.Flo.fw_any rfl ?_ (fun K hK => ?_); (first | exact Go.Mix.wanted_none rfl | exact Go.Mix.wanted_tt rfl rfl rfl | exact Go.Mix.wanted_ff rfl rfl rfl); go_simp; (try (go_ints; try go_simp)); refine hK _ ?_; clear hK K)))
            refine Go.Flo.fw_loud rfl ?_ rfl (by simp) (fun wv hwv hav K hK => ?_) (fun v hv K hK => ?_)
            · (first | exact Go.Mix.wanted_none rfl | exact Go.Mix.wanted_tt rfl rfl rfl | exact Go.Mix.wanted_ff rfl rfl rfl)
            · obtain ⟨iv, rfl⟩ := hwv
              have hbv := HW.out iv
              (first | go_big_op | go_simp)
              go_at_call 58
              refine (mStatus P a2 0 _ hle (by unfold Mn.stat; rw [HH.out]; rfl)).mono ?_
              rintro e w' ⟨rfl, hb⟩
              exact hK _ _ (Go.Flo.owes_is _ rfl hb)
            obtain rfl := hv.is
            go_simp
            refine hK _ ?_
            clear hK K hv
            skip
            (repeat (first | (refine Go.Flo.fw_calm rfl ?_ (fun K hK => ?_); (first | exact Go.Mix.wanted_none rfl | exact Go.Mix.wanted_tt rfl rfl rfl | exact Go.Mix.wanted_ff rfl rfl rfl); go_big_quiet_op; refine hK _ ?_; clear hK K) | (refine Go.Flo.fw_skip ?_ (fun K hK => ?_); (first | exact Go.Mix.wanted_tf rfl rfl rfl | exact Go.Mix.wanted_ft rfl rfl rfl); go_simp; refine hK _ ?_; clear hK K) | (refine Go.Flo.fw_any rfl ?_ (fun K hK => ?_); (first | exact Go.Mix.wanted_none rfl | exact Go.Mix.wanted_tt rfl rfl rfl | exact Go.Mix.wanted_ff rfl rfl rfl); go_simp; (try (go_ints; try go_simp)); refine hK _ ?_; clear hK K)))
            (refine Go.Flo.fw_calm rfl ?_ (fun K hK => ?_); (first | exact Go.Mix.wanted_none rfl | exact Go.Mix.wanted_tt rfl rfl rfl | exact Go.Mix.wanted_ff rfl rfl rfl); refine Go.Flo.quiet_load_row 114 _ rfl gq rfl _ rq.cs _ (by rintro _ ⟨i, rfl⟩; exact ((HW.out i).block gq hql).trans hgq) Try.underlying114 rfl (size_rl rq) ?_; go_simp; refine hK _ ?_; clear hK K)
            (repeat (first | (refine Go.Flo.fw_calm rfl ?_ (fun K hK => ?_); (first | exact Go.Mix.wanted_none rfl | exact Go.Mix.wanted_tt rfl rfl rfl | exact Go.Mix.wanted_ff rfl rfl rfl); go_big_quiet_op; refine hK _ ?_; clear hK K) | (refine Go.Flo.fw_skip ?_ (fun K hK => ?_); (first | exact Go.Mix.wanted_tf rfl rfl rfl | exact Go.Mix.wanted_ft rfl rfl rfl); go_simp; refine hK _ ?_; clear hK K) | (refine Go.Flo.fw_any rfl ?_ (fun K hK => ?_); (first | exact Go.Mix.wanted_none rfl | exact Go.Mix.wanted_tt rfl rfl rfl | exact Go.Mix.wanted_ff rfl rfl rfl); go_simp; (try (go_ints; try go_simp)); refine hK _ ?_; clear hK K)))
            refine Go.Flo.fw_loud rfl ?_ rfl (by simp) (fun wv hwv hav K hK => ?_) (fun v hv K hK => ?_)
            · (first | exact Go.Mix.wanted_none rfl | exact Go.Mix.wanted_tt rfl rfl rfl | exact Go.Mix.wanted_ff rfl rfl rfl)
            · obtain ⟨iv, rfl⟩ := hwv
              have hbv := HW.out iv
              (first | go_big_op | go_simp)
              go_at_call 61
              refine (rRight rq tq _ HRQ.out htq).mono ?_
              rintro e w' ⟨rfl, hb⟩
              exact hK _ _ (Go.Flo.owes_is _ rfl hb)
            obtain rfl := hv.is
            go_simp
            refine hK _ ?_
            clear hK K hv
            (repeat (first | (refine Go.Flo.fw_calm rfl ?_ (fun K hK => ?_); (first | exact Go.Mix.wanted_none rfl | exact Go.Mix.wanted_tt rfl rfl rfl | exact Go.Mix.wanted_ff rfl rfl rfl); go_big_quiet_op; refine hK _ ?_; clear hK K) | (refine Go.Flo.fw_skip ?_ (fun K hK => ?_); (first | exact Go.Mix.wanted_tf rfl rfl rfl | exact Go.Mix.wanted_ft rfl rfl rfl); go_simp; refine hK _ ?_; clear hK K) | (refine Go.Flo.fw_any rfl ?_ (fun K hK => ?_); (first | exact Go.Mix.wanted_none rfl | exact Go.Mix.wanted_tt rfl rfl rfl | exact Go.Mix.wanted_ff rfl rfl rfl); go_simp; (try (go_ints; try go_simp)); refine hK _ ?_; clear hK K)))
            (refine Go.Flo.fw_calm rfl ?_ (fun K hK => ?_); (first | exact Go.Mix.wanted_none rfl | exact Go.Mix.wanted_tt rfl rfl rfl | exact Go.Mix.wanted_ff rfl rfl rfl); refine Go.Flo.quiet_load_row 114 _ rfl gq rfl _ rq.cs _ (by rintro _ ⟨i, rfl⟩; exact ((HW.out i).block gq hql).trans hgq) Try.underlying114 rfl (size_rl rq) ?_; go_simp; refine hK _ ?_; clear hK K)
            (repeat (first | (refine Go.Flo.fw_calm rfl ?_ (fun K hK => ?_); (first | exact Go.Mix.wanted_none rfl | exact Go.Mix.wanted_tt rfl rfl rfl | exact Go.Mix.wanted_ff rfl rfl rfl); go_big_quiet_op; refine hK _ ?_; clear hK K) | (refine Go.Flo.fw_skip ?_ (fun K hK => ?_); (first | exact Go.Mix.wanted_tf rfl rfl rfl | exact Go.Mix.wanted_ft rfl rfl rfl); go_simp; refine hK _ ?_; clear hK K) | (refine Go.Flo.fw_any rfl ?_ (fun K hK => ?_); (first | exact Go.Mix.wanted_none rfl | exact Go.Mix.wanted_tt rfl rfl rfl | exact Go.Mix.wanted_ff rfl rfl rfl); go_simp; (try (go_ints; try go_simp)); refine hK _ ?_; clear hK K)))
            refine Go.Flo.fw_loud rfl ?_ rfl (by simp) (fun wv hwv hav K hK => ?_) (fun v hv K hK => ?_)
            · (first | exact Go.Mix.wanted_none rfl | exact Go.Mix.wanted_tt rfl rfl rfl | exact Go.Mix.wanted_ff rfl rfl rfl)
            · obtain ⟨iv, rfl⟩ := hwv
              have hbv := HW.out iv
              (first | go_big_op | go_simp)
              go_at_call 60
              refine (lRight rq tq _ HRQ.out htq).mono ?_
              rintro e w' ⟨rfl, hb⟩
              exact hK _ _ (Go.Flo.owes_is _ rfl hb)
            obtain rfl := hv.is
            go_simp
            refine hK _ ?_
            clear hK K hv
            (repeat (first | (refine Go.Flo.fw_calm rfl ?_ (fun K hK => ?_); (first | exact Go.Mix.wanted_none rfl | exact Go.Mix.wanted_tt rfl rfl rfl | exact Go.Mix.wanted_ff rfl rfl rfl); go_big_quiet_op; refine hK _ ?_; clear hK K) | (refine Go.Flo.fw_skip ?_ (fun K hK => ?_); (first | exact Go.Mix.wanted_tf rfl rfl rfl | exact Go.Mix.wanted_ft rfl rfl rfl); go_simp; refine hK _ ?_; clear hK K) | (refine Go.Flo.fw_any rfl ?_ (fun K hK => ?_); (first | exact Go.Mix.wanted_none rfl | exact Go.Mix.wanted_tt rfl rfl rfl | exact Go.Mix.wanted_ff rfl rfl rfl); go_simp; (try (go_ints; try go_simp)); refine hK _ ?_; clear hK K)))
            refine Go.Flo.fw_nil ?_
            intro wz hwwz hfwz huwz
            refine Go.Flo.tw_nil ?_
            obtain ⟨iend, hiend⟩ := hwwz
            have hbwz := HW.out iend
            rw [← hiend] at hbwz
            clear hiend iend huwz
            have HBZ := Lib.hid (HB4.out.trans (hbwz.mono HB4.out.size))
            clear hfwz HJ HW hne hbwz hgf hfl
            clear W I
            go_wp2
            go_ret
            exact ⟨rfl, HBZ.out⟩
        · obtain ⟨h0, h1x⟩ : 0 ≤ a2 ∧ a2 < (P.n : Int) := by simpa [Mn.has] using hh
          obtain ⟨ai, rfl⟩ := Int.eq_ofNat_of_zero_le h0
          have hai : ai < k := by rw [HPN.out] at h1x; exact Int.ofNat_lt.1 h1x
          have hlt2 : decide (ai < P.n) = true := decide_eq_true (Int.ofNat_lt.1 h1x)
          have HH := Lib.hid hh
          obtain ⟨x, hx⟩ : ∃ x, x = rr ai := ⟨_, rfl⟩
          have HX := Lib.hid hx
          have HRX := Lib.hid (show P.rule ai = x by
            unfold Mn.rule
            rw [HH.out, if_pos rfl, Int.toNat_natCast, HPN.out, hx]
            show (if ai < k then (⟨rr ai, false, 0, 0, 0, 0⟩ : Wt) else Wt.z).r = rr ai
            rw [if_pos hai])
          clear hh hx h0 h1x HPN
          go_wp2_with (refine wpList_load_row rfl 121 _ rfl _ rfl _ _ _ _ hp Try.underlying121 rfl (by exact size_mn _) ?_; (try go_simp))
          go_at_call 63
          refine (mRule P ai x _ hle HRX.out).mono ?_
          rintro e w6 ⟨rfl, hb⟩
          rw [HH.out]
          skip
          have HP' := Lib.hid (HP.out.below hb (Nat.le_refl _))
          have HB' := Lib.hid (HB4.out.trans (hb.mono HB4.out.size))
          have HRU' := Lib.hid (HRU4.out.below hb (Nat.le_refl _))
          have G' := Lib.hid (box_below G4.out hb (box_lt G4.out))
          clear hb HB4 HRU4 G4 HP hp
          have HP := HP'
          have HB4 := HB'
          have HRU4 := HRU'
          have G4 := G'
          clear HP' HB' HRU' G'
          have hp := HP.out
          go_upto_region 16 with (refine wpList_store_row rfl 114 _ _ rfl _ (Rl.cs _) rfl rfl 114 _ (heap_alloc_new w6 (.cells (#[.int .u8 0, .int .i64 0, .int .i32 0, .int .i32 0, .int .u32 0, .int .u32 0, .int .u8 0, .int .u8 0, .int .u8 0, .int .i64 0, .bool false] : Array Value) 114)) (size_rl _) rfl (Rl.one _) ?_; rw [World.setRow_alloc_new]; (try go_simp))
          have hb : Below w6.heap.size w6 (w6.alloc (.cells x.cs 114)) := (Below.refl _ _).alloc (Nat.le_refl _) _
          have hx := heap_alloc_new w6 (.cells x.cs 114)
          obtain ⟨f, hf⟩ : ∃ f, f = w6.heap.size := ⟨_, rfl⟩
          obtain ⟨w7, hw7⟩ : ∃ w7, w7 = w6.alloc (.cells x.cs 114) := ⟨_, rfl⟩
          rw [← hw7] at hb hx ⊢
          rw [← hf] at hx ⊢
          skip
          have HP' := Lib.hid (HP.out.below hb (Nat.le_refl _))
          have HB' := Lib.hid (HB4.out.trans (hb.mono HB4.out.size))
          have HRU' := Lib.hid (HRU4.out.below hb (Nat.le_refl _))
          have G' := Lib.hid (box_below G4.out hb (box_lt G4.out))
          clear hb HB4 HRU4 G4 HP hp
          have HP := HP'
          have HB4 := HB'
          have HRU4 := HRU'
          have G4 := G'
          clear HP' HB' HRU' G'
          have hp := HP.out
          clear hw7 hf
          obtain ⟨tq, htq⟩ : ∃ t, rq.right = t := ⟨_, rfl⟩
          go_wp2_with (refine wpLoadWm (by (first | exact Go.Mix.wanted_none rfl | exact Go.Mix.wanted_tt rfl rfl rfl | exact Go.Mix.wanted_ff rfl rfl rfl)) 121 _ rfl _ rfl _ _ _ _ hp Try.underlying121 rfl (size_mn _) ?_; (try go_simp))
          go_at_call 62
          refine (mLen P _).mono ?_
          rintro e w8 ⟨rfl, hb⟩
          have hx8 := box_below hx hb (box_lt hx)
          skip
          have HP' := Lib.hid (HP.out.below hb (Nat.le_refl _))
          have HB' := Lib.hid (HB4.out.trans (hb.mono HB4.out.size))
          have HRU' := Lib.hid (HRU4.out.below hb (Nat.le_refl _))
          have G' := Lib.hid (box_below G4.out hb (box_lt G4.out))
          clear hb HB4 HRU4 G4 HP hp
          have HP := HP'
          have HB4 := HB'
          have HRU4 := HRU'
          have G4 := G'
          clear HP' HB' HRU' G'
          have hp := HP.out
          clear hx
          go_upto_region 17 with fail
          have hfl := box_lt hx8
          have hql := box_lt G4.out
          have hgf := hx8
          have hgq := G4.out
          obtain ⟨bb, off, rfl, hbb, hc⟩ := HRU4.out.at_ (by omega)
          have hrg := hc ai hai
          rw [← HX.out] at hrg
          have HEQ := Lib.hid (fun w => rl_same x (by rw [HX.out]; exact HROK.out ai hai) w)
          clear hc
          obtain ⟨I, W, hne, hWI, hIW⟩ := Go.Mix.family (fun v => Below w8.heap.size w8 v) (Below.refl _ _)
          have HJ := Lib.hid hIW
          have HW := Lib.hid hWI
          clear hWI hIW
          refine Go.Flo.wp_region (fun w' => ∃ i, w' = W i) 37 [Go.Flo.Spec.is (.int .u8 0), Go.Flo.Spec.is (.bool tq), Go.Flo.Spec.is (.bool tq)] (by kernel_rfl) (by kernel_rfl) (by decide) (by rintro _ w' ⟨i, rfl⟩ hb; exact HJ.out _ ((HW.out i).trans (hb.mono (HW.out i).size))) (HJ.out _ (Below.refl _ _).drew) ?_
          simp only [Go.Flo.pair, Go.Mix.calm, List.take, List.drop, if_true, Bool.false_eq_true, if_false, Nat.reduceAdd, Nat.reduceSub]
          (repeat (first | (refine Go.Flo.fw_calm rfl ?_ (fun K hK => ?_); (first | exact Go.Mix.wanted_none rfl | exact Go.Mix.wanted_tt rfl rfl rfl | exact Go.Mix.wanted_ff rfl rfl rfl); go_big_quiet_op; refine hK _ ?_; clear hK K) | (refine Go.Flo.fw_skip ?_ (fun K hK => ?_); (first | exact Go.Mix.wanted_tf rfl rfl rfl | exact Go.Mix.wanted_ft rfl rfl rfl); go_simp; refine hK _ ?_; clear hK K) | (refine Go.Flo.fw_any rfl ?_ (fun K hK => ?_); (first | exact Go.Mix.wanted_none rfl | exact Go.Mix.wanted_tt rfl rfl rfl | exact Go.Mix.wanted_ff rfl rfl rfl); go_simp; (try (go_ints; try go_simp)); refine hK _ ?_; clear hK K)))
          (refine Go.Flo.fw_calm rfl ?_ (fun K hK => ?_); (first | exact Go.Mix.wanted_none rfl | exact Go.Mix.wanted_tt rfl rfl rfl | exact Go.Mix.wanted_ff rfl rfl rfl); refine Go.Flo.quiet_load_row 114 _ rfl f rfl _ x.cs _ (by rintro _ ⟨i, rfl⟩; exact ((HW.out i).block f hfl).trans hgf) Try.underlying114 rfl (size_rl x) ?_; go_simp; refine hK _ ?_; clear hK K)
          (repeat (first | (refine Go.Flo.fw_calm rfl ?_ (fun K hK => ?_); (first | exact Go.Mix.wanted_none rfl | exact Go.Mix.wanted_tt rfl rfl rfl | exact Go.Mix.wanted_ff rfl rfl rfl); go_big_quiet_op; refine hK _ ?_; clear hK K) | (refine Go.Flo.fw_skip ?_ (fun K hK => ?_); (first | exact Go.Mix.wanted_tf rfl rfl rfl | exact Go.Mix.wanted_ft rfl rfl rfl); go_simp; refine hK _ ?_; clear hK K) | (refine Go.Flo.fw_any rfl ?_ (fun K hK => ?_); (first | exact Go.Mix.wanted_none rfl | exact Go.Mix.wanted_tt rfl rfl rfl | exact Go.Mix.wanted_ff rfl rfl rfl); go_simp; (try (go_ints; try go_simp)); refine hK _ ?_; clear hK K)))
          (refine Go.Flo.fw_calm rfl ?_ (fun K hK => ?_); (first | exact Go.Mix.wanted_none rfl | exact Go.Mix.wanted_tt rfl rfl rfl | exact Go.Mix.wanted_ff rfl rfl rfl); refine Go.Flo.quiet_load_midC 114 _ rfl bb (off + ai * 11) rfl x.cs.toList (by rintro _ ⟨i, rfl⟩; exact rangeAt_below hrg (HW.out i) hbb) Try.underlying114 rfl (size_rl x) ?_; rw [Array.toArray_toList]; go_simp; refine hK _ ?_; clear hK K)
          have heq := HEQ.out
          (repeat (first | (refine Go.Flo.fw_calm rfl ?_ (fun K hK => ?_); (first | exact Go.Mix.wanted_none rfl | exact Go.Mix.wanted_tt rfl rfl rfl | exact Go.Mix.wanted_ff rfl rfl rfl); go_big_quiet_op; refine hK _ ?_; clear hK K) | (refine Go.Flo.fw_skip ?_ (fun K hK => ?_); (first | exact Go.Mix.wanted_tf rfl rfl rfl | exact Go.Mix.wanted_ft rfl rfl rfl); go_simp; refine hK _ ?_; clear hK K) | (refine Go.Flo.fw_any rfl ?_ (fun K hK => ?_); (first | exact Go.Mix.wanted_none rfl | exact Go.Mix.wanted_tt rfl rfl rfl | exact Go.Mix.wanted_ff rfl rfl rfl); go_simp; (try (go_ints; try go_simp)); refine hK _ ?_; clear hK K)))
          clear heq
          (repeat (refine Go.Flo.fw_skip ?_ (fun K hK => ?_); exact wanted_un rfl rfl rfl; go_simp; refine hK _ ?_; clear hK K))
          skip
          (repeat (first | (refine Go.Flo.fw_calm rfl ?_ (fun K hK => ?_); (first | exact Go.Mix.wanted_none rfl | exact Go.Mix.wanted_tt rfl rfl rfl | exact Go.Mix.wanted_ff rfl rfl rfl); go_big_quiet_op; refine hK _ ?_; clear hK K) | (refine Go.Flo.fw_skip ?_ (fun K hK => ?_); (first | exact Go.Mix.wanted_tf rfl rfl rfl | exact Go.Mix.wanted_ft rfl rfl rfl); go_simp; refine hK _ ?_; clear hK K) | (refine Go.Flo.fw_any rfl ?_ (fun K hK => ?_); (first | exact Go.Mix.wanted_none rfl | exact Go.Mix.wanted_tt rfl rfl rfl | exact Go.Mix.wanted_ff rfl rfl rfl); go_simp; (try (go_ints; try go_simp)); refine hK _ ?_; clear hK K)))
          (refine Go.Flo.fw_calm rfl ?_ (fun K hK => ?_); (first | exact Go.Mix.wanted_none rfl | exact Go.Mix.wanted_tt rfl rfl rfl | exact Go.Mix.wanted_ff rfl rfl rfl); refine Go.Flo.quiet_load_row 114 _ rfl gq rfl _ rq.cs _ (by rintro _ ⟨i, rfl⟩; exact ((HW.out i).block gq hql).trans hgq) Try.underlying114 rfl (size_rl rq) ?_; go_simp; refine hK _ ?_; clear hK K)
          (repeat (first | (refine Go.Flo.fw_calm rfl ?_ (fun K hK => ?_); (first | exact Go.Mix.wanted_none rfl | exact Go.Mix.wanted_tt rfl rfl rfl | exact Go.Mix.wanted_ff rfl rfl rfl); go_big_quiet_op; refine hK _ ?_; clear hK K) | (refine Go.Flo.fw_skip ?_ (fun K hK => ?_); (first | exact Go.Mix.wanted_tf rfl rfl rfl | exact Go.Mix.wanted_ft rfl rfl rfl); go_simp; refine hK _ ?_; clear hK K) | (refine Go.Flo.fw_any rfl ?_ (fun K hK => ?_); (first | exact Go.Mix.wanted_none rfl | exact Go.Mix.wanted_tt rfl rfl rfl | exact Go.Mix.wanted_ff rfl rfl rfl); go_simp; (try (go_ints; try go_simp)); refine hK _ ?_; clear hK K)))
          refine Go.Flo.fw_loud rfl ?_ rfl (by simp) (fun wv hwv hav K hK => ?_) (fun v hv K hK => ?_)
          · (first | exact Go.Mix.wanted_none rfl | exact Go.Mix.wanted_tt rfl rfl rfl | exact Go.Mix.wanted_ff rfl rfl rfl)
          · obtain ⟨iv, rfl⟩ := hwv
            have hbv := HW.out iv
            (first | go_big_op | go_simp)
            go_at_call 61
            refine (rRight rq tq _ HRQ.out htq).mono ?_
            rintro e w' ⟨rfl, hb⟩
            exact hK _ _ (Go.Flo.owes_is _ rfl hb)
          obtain rfl := hv.is
          go_simp
          refine hK _ ?_
          clear hK K hv
          (repeat (first | (refine Go.Flo.fw_calm rfl ?_ (fun K hK => ?_); (first | exact Go.Mix.wanted_none rfl | exact Go.Mix.wanted_tt rfl rfl rfl | exact Go.Mix.wanted_ff rfl rfl rfl); go_big_quiet_op; refine hK _ ?_; clear hK K) | (refine Go.Flo.fw_skip ?_ (fun K hK => ?_); (first | exact Go.Mix.wanted_tf rfl rfl rfl | exact Go.Mix.wanted_ft rfl rfl rfl); go_simp; refine hK _ ?_; clear hK K) | (refine Go.Flo.fw_any rfl ?_ (fun K hK => ?_); (first | exact Go.Mix.wanted_none rfl | exact Go.Mix.wanted_tt rfl rfl rfl | exact Go.Mix.wanted_ff rfl rfl rfl); go_simp; (try (go_ints; try go_simp)); refine hK _ ?_; clear hK K)))
          (refine Go.Flo.fw_calm rfl ?_ (fun K hK => ?_); (first | exact Go.Mix.wanted_none rfl | exact Go.Mix.wanted_tt rfl rfl rfl | exact Go.Mix.wanted_ff rfl rfl rfl); refine Go.Flo.quiet_load_row 114 _ rfl gq rfl _ rq.cs _ (by rintro _ ⟨i, rfl⟩; exact ((HW.out i).block gq hql).trans hgq) Try.underlying114 rfl (size_rl rq) ?_; go_simp; refine hK _ ?_; clear hK K)
          (repeat (first | (refine Go.Flo.fw_calm rfl ?_ (fun K hK => ?_); (first | exact Go.Mix.wanted_none rfl | exact Go.Mix.wanted_tt rfl rfl rfl | exact Go.Mix.wanted_ff rfl rfl rfl); go_big_quiet_op; refine hK _ ?_; clear hK K) | (refine Go.Flo.fw_skip ?_ (fun K hK => ?_); (first | exact Go.Mix.wanted_tf rfl rfl rfl | exact Go.Mix.wanted_ft rfl rfl rfl); go_simp; refine hK _ ?_; clear hK K) | (refine Go.Flo.fw_any rfl ?_ (fun K hK => ?_); (first | exact Go.Mix.wanted_none rfl | exact Go.Mix.wanted_tt rfl rfl rfl | exact Go.Mix.wanted_ff rfl rfl rfl); go_simp; (try (go_ints; try go_simp)); refine hK _ ?_; clear hK K)))
          refine Go.Flo.fw_loud rfl ?_ rfl (by simp) (fun wv hwv hav K hK => ?_) (fun v hv K hK => ?_)
          · (first | exact Go.Mix.wanted_none rfl | exact Go.Mix.wanted_tt rfl rfl rfl | exact Go.Mix.wanted_ff rfl rfl rfl)
          · obtain ⟨iv, rfl⟩ := hwv
            have hbv := HW.out iv
            (first | go_big_op | go_simp)
            go_at_call 60
            refine (lRight rq tq _ HRQ.out htq).mono ?_
            rintro e w' ⟨rfl, hb⟩
            exact hK _ _ (Go.Flo.owes_is _ rfl hb)
          obtain rfl := hv.is
          go_simp
          refine hK _ ?_
          clear hK K hv
          (repeat (first | (refine Go.Flo.fw_calm rfl ?_ (fun K hK => ?_); (first | exact Go.Mix.wanted_none rfl | exact Go.Mix.wanted_tt rfl rfl rfl | exact Go.Mix.wanted_ff rfl rfl rfl); go_big_quiet_op; refine hK _ ?_; clear hK K) | (refine Go.Flo.fw_skip ?_ (fun K hK => ?_); (first | exact Go.Mix.wanted_tf rfl rfl rfl | exact Go.Mix.wanted_ft rfl rfl rfl); go_simp; refine hK _ ?_; clear hK K) | (refine Go.Flo.fw_any rfl ?_ (fun K hK => ?_); (first | exact Go.Mix.wanted_none rfl | exact Go.Mix.wanted_tt rfl rfl rfl | exact Go.Mix.wanted_ff rfl rfl rfl); go_simp; (try (go_ints; try go_simp)); refine hK _ ?_; clear hK K)))
          refine Go.Flo.fw_nil ?_
          intro wz hwwz hfwz huwz
          refine Go.Flo.tw_nil ?_
          obtain ⟨iend, hiend⟩ := hwwz
          have hbwz := HW.out iend
          rw [← hiend] at hbwz
          clear hiend iend huwz
          have HBZ := Lib.hid (HB4.out.trans (hbwz.mono HB4.out.size))
          clear hfwz HJ HW hne hbwz hgf hfl
          clear W I
          go_wp2
          go_ret
          exact ⟨rfl, HBZ.out⟩
end Go.Proofs.Ytbomkneajmgckaa
