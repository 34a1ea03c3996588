/- ContextCounts: reset behind reset, each is counted. -/
import Derived.Test.YtpgophkegjeheaaCxM
import Derived.Test.YtpgophkegjeheaaCxP
namespace Go.Proofs.Ytpgophkegjeheaa
open Go.RowKit Go.Own
set_option linter.unusedVariables false
set_option linter.unusedSimpArgs false
theorem wpList_load_row_w {P : Program} {ops : Array Oper} {rest : List Oper} {o : Oper} {a : Act} {w : World} {Q : Exit → Act → World → Prop} (hwt : Region.wanted o (yielded ops a.tmps) = true) (ty : TypeId) (x : Operand) (ho : o.op = .load ty x)
    (g : Nat) (hx : a.eval x = .pointer (some ⟨g, 0, none⟩)) (t : TypeId) (cs : Array Value) (fr : Nat × Nat) (d : TypeDesc) (hg : w.heap[g]? = some (.cells cs t fr))
    (hu : P.underlying ty = some d) (hd : (match d with | .struct _ | .array _ _ => true | _ => false) = true) (hi : (P.info? ty).map (·.size) = some cs.size)
    (h : wpList P ops Q rest (a.put o.dst (.agg cs)) w) : wpList P ops Q (o :: rest) a w := by
  unfold wpList
  rw [if_pos hwt]
  exact .inl (wp_load_row ty x ho g hx t cs fr d hg hu hd hi h)
theorem mk_fine (s : Nat) (c : Cx) (hs : s < 4294967296) : perr (mkCell s (bytesOf c)) = 0 ∧ pdat (mkCell s (bytesOf c)) = bytesOf c ∧ pseq (mkCell s (bytesOf c)) = s :=
  ⟨mkCell_err _ _ (by rw [bytesOf_len]; omega), mkCell_dat _ _, mkCell_seq _ _ hs⟩
theorem vst_all {C d : List Nat} (h : perr C = 0) : vst (sel4 C C C d) 3 = (3, 0) := by simp [vst, sel4, h]
theorem gtop_all {C d : List Nat} (h : perr C = 0) : gtop (sel4 C C C d) 3 = pseq C := by simp [gtop, sel4, h]
/-- Three copies that are alike tell their context. -/
theorem told_all {s : Nat} {c : Cx} {d : List Nat} (hs : s < 4294967296) (hok : c.Ok) (hr : c.right = true) :
    toldOk (sel4 (mkCell s (bytesOf c)) (mkCell s (bytesOf c)) (mkCell s (bytesOf c)) d) = true ∧ toldCx (sel4 (mkCell s (bytesOf c)) (mkCell s (bytesOf c)) (mkCell s (bytesOf c)) d) = c ∧ gtop (sel4 (mkCell s (bytesOf c)) (mkCell s (bytesOf c)) (mkCell s (bytesOf c)) d) 3 = s := by
  obtain ⟨h1, h2, h3⟩ := mk_fine s c hs
  have hL : toldL (sel4 (mkCell s (bytesOf c)) (mkCell s (bytesOf c)) (mkCell s (bytesOf c)) d) = bytesOf c := by
    unfold toldL
    rw [vst_all h1]
    exact h2
  have hO : toldOk (sel4 (mkCell s (bytesOf c)) (mkCell s (bytesOf c)) (mkCell s (bytesOf c)) d) = true := by
    unfold toldOk
    rw [hL, vst_all h1]
    simp [good_bytes hok hr]
  refine ⟨hO, ?_, by rw [gtop_all h1, h3]⟩
  unfold toldCx
  rw [hO, hL]
  exact (cxOf_bytes hok hr).1
/-- The context behind k resets. -/
def cxAt (c : Cx) : Nat → Cx
  | 0 => c
  | k + 1 => (cxAt c k).reset
theorem cxAt_ok {c : Cx} (h : c.Ok) : ∀ k, (cxAt c k).Ok
  | 0 => h
  | k + 1 => Cx.reset_ok (cxAt_ok h k)
theorem cxAt_right {c : Cx} (h : c.right = true) : ∀ k, (cxAt c k).right = true
  | 0 => h
  | k + 1 => Cx.reset_right (cxAt_right h k)
theorem cxAt_eq {c : Cx} (h : c.Ok) : ∀ k, cxAt c (k + 1) = ⟨c.f, c.i, c.r0, c.r1, c.r2, c.r3, c.r4, c.r5, c.c0, c.c1, c.c2, c.c3, c.c4, c.c5, 0, min (c.n + ((k + 1 : Nat) : Int)) 65535, c.x, c.h⟩
  | 0 => by
    have := h.n
    show c.reset = _
    unfold Cx.reset
    congr 1
    split <;> omega
  | k + 1 => by
    have := h.n
    show (cxAt c (k + 1)).reset = _
    rw [cxAt_eq h k]
    unfold Cx.reset
    dsimp only
    congr 1
    split <;> omega
set_option maxRecDepth 100000 in
set_option maxHeartbeats 8000000 in
theorem walk_ContextCounts (c : Cx) (a1 : Int) (w : World) (hok : c.Ok) (w1 : (Lit.int .u8 a1).wf = true) :
    Calls Try.prog 6 #[.agg #[.int .u16 c.f, .int .u16 c.i, .int .u8 c.r0, .int .u8 c.r1, .int .u8 c.r2, .int .u8 c.r3, .int .u8 c.r4, .int .u8 c.r5, .int .i8 c.c0, .int .i8 c.c1, .int .i8 c.c2, .int .i8 c.c3, .int .i8 c.c4, .int .i8 c.c5, .int .u8 c.m, .int .u16 c.n, .bool c.x, .int .u8 c.h], .int .u8 a1] w fun e w' => e = .returned (.bool true) ∧ Below w.heap.size w w' := by
  obtain ⟨q0, q1⟩ := bounds_u8 w1
  obtain ⟨a1, rfl⟩ := Int.eq_ofNat_of_zero_le q0
  obtain ⟨N, hN⟩ : ∃ N, N = a1 % 20 := ⟨_, rfl⟩
  have hNI : (a1 : Int) % 20 = (N : Int) := by omega
  have hN20 : N < 20 := by omega
  have HOK := Lib.hid hok
  clear w1 hok hN
  have hal : Below w.heap.size w (w.alloc (.cells #[.int .u16 c.f, .int .u16 c.i, .int .u8 c.r0, .int .u8 c.r1, .int .u8 c.r2, .int .u8 c.r3, .int .u8 c.r4, .int .u8 c.r5, .int .i8 c.c0, .int .i8 c.c1, .int .i8 c.c2, .int .i8 c.c3, .int .i8 c.c4, .int .i8 c.c5, .int .u8 c.m, .int .u16 c.n, .bool c.x, .int .u8 c.h] 28)) := (Below.refl _ _).alloc (Nat.le_refl _) _
  have hx := heap_alloc_new w (.cells #[.int .u16 c.f, .int .u16 c.i, .int .u8 c.r0, .int .u8 c.r1, .int .u8 c.r2, .int .u8 c.r3, .int .u8 c.r4, .int .u8 c.r5, .int .i8 c.c0, .int .i8 c.c1, .int .i8 c.c2, .int .i8 c.c3, .int .i8 c.c4, .int .i8 c.c5, .int .u8 c.m, .int .u16 c.n, .bool c.x, .int .u8 c.h] 28)
  go_enter Try.func6, Try.ntmps6
  go_wp2_with fail
  obtain ⟨w0, hw0⟩ : ∃ w0, w0 = w.alloc (.cells #[.int .u16 c.f, .int .u16 c.i, .int .u8 c.r0, .int .u8 c.r1, .int .u8 c.r2, .int .u8 c.r3, .int .u8 c.r4, .int .u8 c.r5, .int .i8 c.c0, .int .i8 c.c1, .int .i8 c.c2, .int .i8 c.c3, .int .i8 c.c4, .int .i8 c.c5, .int .u8 c.m, .int .u16 c.n, .bool c.x, .int .u8 c.h] 28) := ⟨_, rfl⟩
  obtain ⟨x0, hx0⟩ : ∃ x0, x0 = w.heap.size := ⟨_, rfl⟩
  have hx0n : w.heap.size ≤ x0 := by omega
  rw [← hw0] at hal hx
  rw [← hx0] at hx
  rw [← hw0, ← hx0]
  clear hw0 hx0
  go_at_call 15
  refine (awake08 _).mono ?_
  rintro e wa ⟨rfl, hba⟩
  have hxa := box_below hx hba (box_lt hx)
  have HBA := Lib.hid (hal.trans (hba.mono hal.size))
  clear hal hx hba
  go_wp2_with (first | (refine wpList_load_row rfl 28 _ rfl _ rfl _ _ _ _ hxa Try.underlying28 rfl (by exact size_cx) ?_; (try go_simp)))
  go_at_call 19
  refine (own08 c _).mono ?_
  rintro e wb ⟨rfl, hbb⟩
  have hxb := box_below hxa hbb (box_lt hxa)
  have HBB := Lib.hid (HBA.out.trans (hbb.mono HBA.out.size))
  clear hxa hbb HBA
  go_wp2_with fail
  go_at_call 18
  refine (xRight_any c _).mono ?_
  rintro e wc ⟨rfl, hbc⟩
  have hxc := box_below hxb hbc (box_lt hxb)
  have HBC := Lib.hid (HBB.out.trans (hbc.mono HBB.out.size))
  clear hxb hbc HBB
  cases hr : c.right with
  | false =>
    go_wp2_with (first | (refine wpList_load_row rfl 28 _ rfl _ rfl _ _ _ _ hxc Try.underlying28 rfl (by exact size_cx) ?_; (try go_simp)))
    go_at_call 17
    refine (Bytes_no c _ hr).mono ?_
    rintro e wd ⟨rfl, hbd⟩
    have HBD := Lib.hid (HBC.out.trans (hbd.mono HBC.out.size))
    clear hbd HBC
    go_wp2
    go_ret
    exact ⟨rfl, HBD.out⟩
  | true =>
    have HR := Lib.hid hr
    clear hr
    go_wp2_with fail
    go_at_call 27
    refine (mNew _).mono ?_
    rintro e wd ⟨rfl, hmd, hbd⟩
    have hsc := HBC.out.size
    obtain ⟨g, hg⟩ : ∃ g, g = wc.heap.size := ⟨_, rfl⟩
    have hgn : w.heap.size ≤ g := by omega
    rw [← hg] at hmd ⊢
    have hxd := box_below hxc hbd (box_lt hxc)
    have hxg : x0 < g := by rw [hg]; exact box_lt hxc
    have HBD := Lib.hid (HBC.out.trans (hbd.mono hsc))
    have HMD := Lib.hid hmd
    clear hxc hbd HBC hmd hg
    go_wp2_with (first | (refine wpList_load_row rfl 28 _ rfl _ rfl _ _ _ _ hxd Try.underlying28 rfl (by exact size_cx) ?_; (try go_simp)))
    go_at_call 17
    refine (Bytes_of c _ HOK.out HR.out).mono ?_
    rintro e we ⟨vb, rfl, hown, hbe⟩
    obtain ⟨va, vc, rfl⟩ := own_form hown
    have hxe := box_below hxd hbe (box_lt hxd)
    have HBE := Lib.hid (HBD.out.trans (hbe.mono HBD.out.size))
    have hrd := rd_of_own (f := bv (bytesOf c)) hown (fun i hi => bl_at _ (by rw [bytesOf_len]; exact hi))
    have hF := mFill va vc we.heap.size (bytesOf c) (HMD.out.below hbe) (Nat.le_refl _) hrd (bytesOf_bytes HOK.out HR.out)
    rw [show gtop noL 3 = 0 by decide +kernel, bytesOf_len] at hF
    have HF := Lib.hid hF
    have HME := Lib.hid (HMD.out.below hbe)
    clear hown hbe hrd hF hxd HBD HMD
    go_wp2_with fail
    go_at_call 29
    refine HF.out.mono ?_
    rintro e wf (⟨h1, _⟩ | ⟨_, h1, _⟩ | ⟨_, _, rfl, vf, hmf, hsf⟩)
    · omega
    · omega
    have hxf := (hsf.block x0 (box_lt hxe) (by omega) (fun i hi e => by simp [noV, Value.ownBlock] at e)).trans hxe
    have HMF := Lib.hid hmf
    have hse : w.heap.size ≤ we.heap.size := HBE.out.size
    have HBF := Lib.hid (HBE.out.trans ((hsf.below HME.out).mono hgn))
    have HXF := Lib.hid hxf
    clear hmf hsf hxe hxf HBE HF HME
    go_wp2
    go_loopw [6] (fun i wr => ∃ (k : Nat) (v : Nat → Value), k ≤ N ∧ i = .int .i64 ((k + 1 : Nat) : Int) ∧ MemS wr g g v (sel4 (mkCell (k + 1) (bytesOf (cxAt c k))) (mkCell (k + 1) (bytesOf (cxAt c k))) (mkCell (k + 1) (bytesOf (cxAt c k))) []) ∧ wr.heap[x0]? = some (.cells #[.int .u16 c.f, .int .u16 c.i, .int .u8 c.r0, .int .u8 c.r1, .int .u8 c.r2, .int .u8 c.r3, .int .u8 c.r4, .int .u8 c.r5, .int .i8 c.c0, .int .i8 c.c1, .int .i8 c.c2, .int .i8 c.c3, .int .i8 c.c4, .int .i8 c.c5, .int .u8 c.m, .int .u16 c.n, .bool c.x, .int .u8 c.h] 28 (0, 0)) ∧ Below w.heap.size w wr) (fun i _ => N + 1 - (intOf i).toNat)
    case atStart => exact ⟨0, vf, Nat.zero_le _, rfl, HMF.out, HXF.out, HBF.out⟩
    case round =>
      clear HMF HXF HBF
      obtain ⟨k, v, hk, rfl, hm, hx, hB⟩ := hrel
      have hsr : w.heap.size ≤ wr.heap.size := hB.size
      obtain ⟨k1, hk1⟩ : ∃ k1, k1 = k + 1 := ⟨_, rfl⟩
      rw [← hk1] at hm ⊢
      by_cases hlt : k < N
      · have hle : (k1 : Int) ≤ (N : Int) := by omega
        obtain ⟨t1, t2, t3⟩ := told_all (s := k1) (d := []) (by omega) (cxAt_ok HOK.out k) (cxAt_right HR.out k)
        have hBt := cxBoot hm (by rw [t3]; omega)
        have hcell : bootCell (sel4 (mkCell k1 (bytesOf (cxAt c k))) (mkCell k1 (bytesOf (cxAt c k))) (mkCell k1 (bytesOf (cxAt c k))) []) = mkCell (k1 + 1) (bytesOf (cxAt c k1)) := by
          unfold bootCell
          rw [t2, t3, hk1]
          rfl
        rw [hcell, t1, t2] at hBt
        obtain ⟨nn, hnn⟩ : ∃ nn, nn = min (c.n + (k1 : Int)) 65535 := ⟨_, rfl⟩
        have hat : (cxAt c k).reset = ⟨c.f, c.i, c.r0, c.r1, c.r2, c.r3, c.r4, c.r5, c.c0, c.c1, c.c2, c.c3, c.c4, c.c5, 0, nn, c.x, c.h⟩ := by
          have := cxAt_eq HOK.out k
          rw [hnn, hk1]
          exact this
        rw [hat] at hBt
        dsimp only at hBt
        have hcn := HOK.out.n
        have hmn := fun (w : World) => run_minI (P := Try.prog) #[3, 3] 3 .i64 (c.n + (k1 : Int)) 65535 w
        rw [← hnn] at hmn
        have hnn0 : 0 ≤ nn := by omega
        have hnn1 : nn ≤ 65535 := by omega
        have hW : IntKind.u16.wrap nn = nn := by rw [IntKind.wrap_u16]; omega
        have hxno : ∀ i, i < 4 → (v i).ownBlock ≠ some x0 := fun i hi e => by
          have := ((hm.own i hi).lt x0 e).1; omega
        have hkk : k1 ≤ 20 := by omega
        have HBT := Lib.hid hBt
        have HXN := Lib.hid hxno
        have HM := Lib.hid hm
        have HX := Lib.hid hx
        have HB := Lib.hid hB
        have HK1 := Lib.hid hk1
        have HMN := Lib.hid hmn
        have HW := Lib.hid hW
        clear t1 t2 t3 hcell hnn hat hBt hxno hm hx hB hk1 hmn hW
        go_wp2_with fail
        go_at_call 33
        refine HBT.out.mono ?_
        rintro e w1 ⟨rfl, v1, hm1, hs1⟩
        have hx1 := (hs1.block x0 (box_lt HX.out) (by omega) HXN.out).trans HX.out
        have hb1 := (hs1.below HM.out).mono hgn
        obtain ⟨w2, hw2, hy2, hal1⟩ : ∃ w2, w2 = w1.alloc (.cells #[.int .u16 c.f, .int .u16 c.i, .int .u8 c.r0, .int .u8 c.r1, .int .u8 c.r2, .int .u8 c.r3, .int .u8 c.r4, .int .u8 c.r5, .int .i8 c.c0, .int .i8 c.c1, .int .i8 c.c2, .int .i8 c.c3, .int .i8 c.c4, .int .i8 c.c5, .int .u8 0, .int .u16 nn, .bool c.x, .int .u8 c.h] 28) ∧ w2.heap[w1.heap.size]? = some (.cells #[.int .u16 c.f, .int .u16 c.i, .int .u8 c.r0, .int .u8 c.r1, .int .u8 c.r2, .int .u8 c.r3, .int .u8 c.r4, .int .u8 c.r5, .int .i8 c.c0, .int .i8 c.c1, .int .i8 c.c2, .int .i8 c.c3, .int .i8 c.c4, .int .i8 c.c5, .int .u8 0, .int .u16 nn, .bool c.x, .int .u8 c.h] 28 (0, 0)) ∧ Below w1.heap.size w1 w2 := ⟨_, rfl, heap_alloc_new _ _, (Below.refl _ _).alloc (Nat.le_refl _) _⟩
        have hx2 := box_below hx1 hal1 (box_lt hx1)
        obtain ⟨w3, hw3, hz3, hal2⟩ : ∃ w3, w3 = w2.alloc (.cells #[.int .u16 c.f, .int .u16 c.i, .int .u8 c.r0, .int .u8 c.r1, .int .u8 c.r2, .int .u8 c.r3, .int .u8 c.r4, .int .u8 c.r5, .int .i8 c.c0, .int .i8 c.c1, .int .i8 c.c2, .int .i8 c.c3, .int .i8 c.c4, .int .i8 c.c5, .int .u8 c.m, .int .u16 c.n, .bool c.x, .int .u8 c.h] 28) ∧ w3.heap[w2.heap.size]? = some (.cells #[.int .u16 c.f, .int .u16 c.i, .int .u8 c.r0, .int .u8 c.r1, .int .u8 c.r2, .int .u8 c.r3, .int .u8 c.r4, .int .u8 c.r5, .int .i8 c.c0, .int .i8 c.c1, .int .i8 c.c2, .int .i8 c.c3, .int .i8 c.c4, .int .i8 c.c5, .int .u8 c.m, .int .u16 c.n, .bool c.x, .int .u8 c.h] 28 (0, 0)) ∧ Below w2.heap.size w2 w3 := ⟨_, rfl, heap_alloc_new _ _, (Below.refl _ _).alloc (Nat.le_refl _) _⟩
        have hx3 := box_below hx2 hal2 (box_lt hx2)
        have hy3 := box_below hy2 hal2 (box_lt hy2)
        have hs1w := hs1.size
        have hyl := box_lt hy2
        have hxl := box_lt hx2
        have hx0l := box_lt hx1
        have hal3 := hal1.trans (hal2.mono hal1.size)
        have q15 : w3.cell? ⟨x0, 15, none⟩ = some (.int .u16 c.n) := cell_of_row w3 x0 15 _ _ _ hx3
        have q14 := cell_of_row w3 w2.heap.size 14 _ _ _ hz3
        have q16 := cell_of_row w3 w2.heap.size 15 _ _ _ hz3
        have f14 := frozen_of_row w3 w2.heap.size 14 _ _ hz3
        have f15 := frozen_of_row w3 w2.heap.size 15 _ _ hz3
        have hz4 := heap_setCell_same w3 w2.heap.size 14 _ _ (.int .u8 0) hz3
        have hz5 : ((w3.setCell ⟨w2.heap.size, 14, none⟩ (.int .u8 0)).setCell ⟨w2.heap.size, 15, none⟩ (.int .u16 nn)).heap[w2.heap.size]? = some (.cells #[.int .u16 c.f, .int .u16 c.i, .int .u8 c.r0, .int .u8 c.r1, .int .u8 c.r2, .int .u8 c.r3, .int .u8 c.r4, .int .u8 c.r5, .int .i8 c.c0, .int .i8 c.c1, .int .i8 c.c2, .int .i8 c.c3, .int .i8 c.c4, .int .i8 c.c5, .int .u8 0, .int .u16 nn, .bool c.x, .int .u8 c.h] 28 (0, 0)) := heap_setCell_same _ w2.heap.size 15 _ _ (.int .u16 nn) hz4
        have hot : ∀ k, k < w2.heap.size → ((w3.setCell ⟨w2.heap.size, 14, none⟩ (.int .u8 0)).setCell ⟨w2.heap.size, 15, none⟩ (.int .u16 nn)).heap[k]? = w3.heap[k]? := fun k hk =>
          (heap_setCell_other _ ⟨w2.heap.size, 15, none⟩ k _ (by show k ≠ w2.heap.size; omega)).trans (heap_setCell_other _ ⟨w2.heap.size, 14, none⟩ k _ (by show k ≠ w2.heap.size; omega))
        have hy5 := (hot w1.heap.size hyl).trans hy3
        have hx5 := (hot x0 hxl).trans hx3
        have hb5 : Below w1.heap.size w1 ((w3.setCell ⟨w2.heap.size, 14, none⟩ (.int .u8 0)).setCell ⟨w2.heap.size, 15, none⟩ (.int .u16 nn)) :=
          (hal3.setCell (p := ⟨w2.heap.size, 14, none⟩) hal1.size (.int .u8 0)).setCell (p := ⟨w2.heap.size, 15, none⟩) hal1.size (.int .u16 nn)
        have HM5 := Lib.hid (hm1.below hb5)
        have HB5 := Lib.hid (HB.out.trans (hb1.trans (hb5.mono (Nat.le_trans hsr hs1w))))
        have HX5 := Lib.hid hx5
        have HW2 := Lib.hid hw2
        have HW3 := Lib.hid hw3
        have hx0n2 : x0 ≠ w2.heap.size := by omega
        have hmn := HMN.out
        have hW := HW.out
        clear hm1 hs1 hx1 hb1 hal1 hal2 hal3 hw2 hw3 hz3 hz4 hot hx3 hy3 hy2 hb5 hx5 HBT HXN HM HX HB hyl hxl
        go_wp2_with (first | (refine wpList_load_row rfl 28 _ rfl _ rfl _ _ _ _ hx2 Try.underlying28 rfl (by exact size_cx) ?_; (try go_simp)) | (refine wpList_load_row_w (by (first | exact Go.Mix.wanted_none rfl | exact Go.Mix.wanted_tt rfl rfl rfl | exact Go.Mix.wanted_ff rfl rfl rfl)) 28 _ rfl _ rfl _ _ _ _ hy5 Try.underlying28 rfl (by exact size_cx) ?_; (try go_simp)) | (refine wpList_load_row_w (by (first | exact Go.Mix.wanted_none rfl | exact Go.Mix.wanted_tt rfl rfl rfl | exact Go.Mix.wanted_ff rfl rfl rfl)) 28 _ rfl _ rfl _ _ _ _ hz5 Try.underlying28 rfl (by exact size_cx) ?_; (try go_simp)) | ((refine wpList_store_row rfl 28 _ _ rfl _ _ rfl rfl _ _ (by (first | exact heap_alloc2_new _ _ _ | exact heap_alloc2_old _ _ _ | exact heap_alloc_new _ _ | assumption)) (by exact size_cx) (by rfl) (by simp [Value.oneCell']) ?_; (first | rw [setRow_alloc2_new] | rw [setRow_alloc2_old] | rw [World.setRow_alloc_new] | skip); (try go_simp)); first | rw [← HW2.out] | rw [← HW3.out]))
        go_roundw
        case rel => exact ⟨k1, v1, by have := HK1.out; omega, by go_num, HM5.out, HX5.out, HB5.out⟩
        case measure => simp [intOf]; omega
      · obtain rfl : k = N := by omega
        have hle : ¬ (k1 : Int) ≤ (k : Int) := by omega
        have HB := Lib.hid hB
        clear hm hx hB hk1
        go_wp2
        go_ret
        exact ⟨rfl, HB.out⟩
end Go.Proofs.Ytpgophkegjeheaa
