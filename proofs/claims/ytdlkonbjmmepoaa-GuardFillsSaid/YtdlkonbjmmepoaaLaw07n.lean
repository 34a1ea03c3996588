/- GuardNumbers: each write has a number one above the last one's. -/
import Derived.Test.YtdlkonbjmmepoaaLaw07s
import Derived.Test.YtdlkonbjmmepoaaRws
import Derived.Test.YtdlkonbjmmepoaaCnt
namespace Go.Proofs.Ytdlkonbjmmepoaa
open Go.RowKit Go.Own
set_option linter.unusedVariables false
set_option linter.unusedSimpArgs false

theorem gtop3 (ls : Nat → List Nat) : gtop ls 3 = max (max (if perr (ls 0) = 0 then pseq (ls 0) else 0) (if perr (ls 1) = 0 then pseq (ls 1) else 0)) (if perr (ls 2) = 0 then pseq (ls 2) else 0) := by
  simp only [gtop]
  split <;> split <;> split <;> simp <;> omega
theorem gtop_begin {ls : Nat → List Nat} {c d : List Nat} (he : perr c = 0) (hs : pseq c = gtop ls 3 + 1) : gtop (sel4 c (ls 1) (ls 2) d) 3 = gtop ls 3 + 1 := by
  rw [gtop3] at hs ⊢
  have e0 : sel4 c (ls 1) (ls 2) d 0 = c := rfl
  have e1 : sel4 c (ls 1) (ls 2) d 1 = ls 1 := rfl
  have e2 : sel4 c (ls 1) (ls 2) d 2 = ls 2 := rfl
  rw [gtop3, e0, e1, e2, if_pos he, hs]
  omega
theorem gtop_same {c d : List Nat} (he : perr c = 0) : gtop (sel4 c c c d) 3 = pseq c := by
  rw [gtop3]
  have e0 : sel4 c c c d 0 = c := rfl
  have e1 : sel4 c c c d 1 = c := rfl
  have e2 : sel4 c c c d 2 = c := rfl
  rw [e0, e1, e2, if_pos he]
  omega
theorem gset_same {c d : List Nat} (he : perr c = 0) : gset (sel4 c c c d) 3 = 7 := by
  have e0 : sel4 c c c d 0 = c := rfl
  have e1 : sel4 c c c d 1 = c := rfl
  have e2 : sel4 c c c d 2 = c := rfl
  simp only [gset, e0, e1, e2, if_pos he]
  decide
/-- Rows that are none of the memory's. -/
def Off3 (g : Nat) (v : Nat → Value) (x : Option Addr) (c : Nat) (pa : Nat → Option Addr) (pc : Nat → Nat) (ls : Nat → List Nat) : Prop := Off g v (.slice x 3 c) ∧ ∀ i, i < 3 → Off g v (.slice (pa i) (ls i).length (pc i))
theorem Rows3.off {w w' : World} {B g c : Nat} {v : Nat → Value} {x : Option Addr} {pa : Nat → Option Addr} {pc : Nat → Nat} {ls ls' : Nat → List Nat} (h : Rows3 w' w.heap.size x c pa pc ls') (m : MemS w B g v ls) : Off3 g v x c pa pc ls' :=
  ⟨m.off h.out, fun i hi => m.off (h.inn i hi)⟩
theorem Rows3.step {w w' : World} {n0 g c : Nat} {v v' : Nat → Value} {x : Option Addr} {pa : Nat → Option Addr} {pc : Nat → Nat} {ls : Nat → List Nat} (h : Rows3 w n0 x c pa pc ls) (s : MStep g v v' w w') (o : Off3 g v x c pa pc ls) : Rows3 w' n0 x c pa pc ls ∧ Off3 g v' x c pa pc ls :=
  ⟨⟨(s.row h.out o.1).1, fun i hi => (s.row (h.inn i hi) (o.2 i hi)).1⟩, (s.row h.out o.1).2, fun i hi => (s.row (h.inn i hi) (o.2 i hi)).2⟩
set_option maxHeartbeats 1000000 in
theorem Count7 (w : World) : Calls Try.prog 28 #[.int .u16 7] w fun e w' => e = .returned (.int .i64 3) ∧ Below w.heap.size w w' := by
  go_enter Try.func28, Try.ntmps28
  go_wp2_with fail
  go_at_call 81
  refine (Ones7 w).mono ?_
  rintro e w' ⟨rfl, hb⟩
  go_wp2
  go_ret
  exact ⟨rfl, hb⟩
theorem u32_succ {n n1 : Nat} (h : n1 = n + 1) (hl : n ≤ 100) : IntKind.u32.wrap ((n : Int) + 1) = (n1 : Int) := by rw [IntKind.wrap_u32]; omega
set_option maxRecDepth 100000 in
set_option maxHeartbeats 8000000 in
theorem walk_GuardNumbers (a0 : Option Addr) (len0 cap0 : Nat) (a1 : Int) (w : World) (w0 : IsRows w a0 len0 cap0) (w1 : (Lit.int .u8 a1).wf = true) :
    Calls Try.prog 6 #[.slice a0 len0 cap0, .int .u8 a1] w fun e w' => e = .returned (.bool true) ∧ Below w.heap.size w w' := by
  obtain ⟨rp, rc, rl, hrow, hrows⟩ := w0
  obtain ⟨r10, r11⟩ := bounds_u8 w1
  obtain ⟨hf, rfl⟩ := Int.eq_ofNat_of_zero_le r10
  obtain ⟨h13, hh⟩ : ∃ h13, h13 = hf % 13 := ⟨_, rfl⟩
  have hhI : (hf : Int) % 13 = (h13 : Int) := by omega
  have HROW := Lib.hid hrow
  have HROWS := Lib.hid hrows
  have hle := hrow.le
  have htop := hrow.top
  unfold maxLen at htop
  clear hrow hrows w1 hh r10 r11
  go_enter Try.func6, Try.ntmps6
  go_wp2_with fail
  go_at_call 15
  refine (awake07 w).mono ?_
  rintro e w1 ⟨rfl, hb1⟩
  have B1 := Lib.hid hb1
  clear hb1
  go_wp2_with fail
  go_at_call 16
  refine (mNew w1).mono ?_
  rintro e w3 ⟨rfl, hm3, hb3⟩
  obtain ⟨g, hg⟩ : ∃ g, g = w1.heap.size := ⟨_, rfl⟩
  rw [← hg] at hm3 ⊢
  have HG : w.heap.size ≤ g := by rw [hg]; exact B1.out.size
  have B3 := Lib.hid (B1.out.trans (hb3.mono B1.out.size))
  have M3 := Lib.hid hm3
  clear hb3 hm3 hg B1
  go_wp2
  go_loopw [6, 19] (fun t i wr => ∃ (k n : Nat) (v : Nat → Value) (ls : Nat → List Nat), k ≤ len0 ∧ k ≤ 12 ∧ n ≤ k ∧ i = .int .i64 (k : Nat) ∧ t = .int .u32 (n : Nat) ∧ Below w.heap.size w wr ∧ MemS wr g g v ls ∧ ls 3 = [] ∧ gtop ls 3 = n) (fun _ i _ => len0 - (intOf i).toNat)
  case atStart => exact ⟨0, 0, noV, noL, Nat.zero_le _, Nat.zero_le _, Nat.le_refl _, rfl, rfl, B3.out, M3.out, rfl, gtop_no⟩
  case round =>
    clear B3 M3
    obtain ⟨k, n, v, ls, hk, hk12, hnk, rfl, rfl, hB, hM, hl3, hgt⟩ := hrel
    have B4 := Lib.hid hB
    have M4 := Lib.hid hM
    have L3 := Lib.hid hl3
    have GT := Lib.hid hgt
    clear hl3 hgt
    by_cases hlt : k < len0
    · by_cases h12 : k < 12
      · obtain ⟨b, off, rfl, hbk, hc⟩ := (HROW.out.below' hB (Nat.le_refl _)).at hlt
        obtain ⟨hbl, hrd⟩ := HROWS.out k hlt
        have h12' : ¬ ((12 : Int) ≤ (k : Int)) := by omega
        obtain ⟨p, hp⟩ : ∃ p, p = rp k := ⟨_, rfl⟩
        obtain ⟨pc, hpc⟩ : ∃ pc, pc = rc k := ⟨_, rfl⟩
        obtain ⟨l, hl⟩ : ∃ l, l = rl k := ⟨_, rfl⟩
        rw [← hp, ← hpc, ← hl] at hrd
        rw [← hp, ← hpc, ← hl] at hc
        rw [← hl] at hbl
        obtain ⟨len, hlen⟩ : ∃ len, len = l.length := ⟨_, rfl⟩
        rw [← hlen] at hrd hc
        obtain ⟨P, hP⟩ : ∃ P, P = l.take 60 := ⟨_, rfl⟩
        obtain ⟨m, hm⟩ : ∃ m, m = min 60 len := ⟨_, rfl⟩
        have hm60 : m ≤ 60 := by omega
        have hPm : P.length = m := by rw [hP, List.length_take, hm, hlen]
        have hPb : bytes P := by rw [hP]; exact hbl.take _
        have hcut := Cut_any p len pc l 60 wr hlen.symm ((hrd.below' hB (Nat.le_refl _)).mono hB.size) (by omega)
        rw [← hP, ← hm] at hcut
        have HCUT := Lib.hid hcut
        have HPM := Lib.hid hPm
        have HPB := Lib.hid hPb
        obtain ⟨n1, hn1⟩ : ∃ n1, n1 = n + 1 := ⟨_, rfl⟩
        have hn1I := u32_succ hn1 (by omega)
        obtain ⟨C, hC⟩ : ∃ C, C = mkCell n1 P := ⟨_, rfl⟩
        have hCl : C.length = m + 8 := by rw [hC, mkCell_len, hPm]
        have hCb : bytes C := by rw [hC]; exact mkCell_bytes hPb
        have hCe : perr C = 0 := by rw [hC]; exact mkCell_err _ _ (by omega)
        have hCd : pdat C = P := by rw [hC]; exact mkCell_dat _ _
        have hCs : pseq C = n1 := by rw [hC]; exact mkCell_seq _ _ (by omega)
        have HC := Lib.hid hC
        have HCl := Lib.hid hCl
        have HCb := Lib.hid hCb
        have HCe := Lib.hid hCe
        have HCd := Lib.hid hCd
        have HCs := Lib.hid hCs
        have HN1 := Lib.hid hn1
        have hn1b : n1 ≤ 13 := by omega
        clear hB hM hbl hrd hlen hP hm hPm hPb hcut hC hCl hCb hCe hCd hCs hp hpc hl hn1
        go_wp2_with fail
        go_at_call 17
        refine HCUT.out.mono ?_
        rintro e w5 ⟨xv, rfl, hown, hb5⟩
        obtain ⟨pa, pk, rfl⟩ := own_form hown
        have hoff := M4.out.off hown
        have B5 := Lib.hid (B4.out.trans (hb5.mono B4.out.size))
        have M5 := Lib.hid (M4.out.below hb5)
        have P5 := Lib.hid hown
        have O5 := Lib.hid hoff
        clear hown hoff hb5 HCUT B4 M4 hc
        go_wp2_with fail
        go_at_call 29
        refine (mCopies M5.out).mono ?_
        rintro e w6 ⟨xw, cw, pw, kw, rfl, hrw, hb6⟩
        have B6 := Lib.hid (B5.out.trans (hb6.mono B5.out.size))
        have M6 := Lib.hid (M5.out.below hb6)
        have P6 := Lib.hid (own_keep P5.out hb6)
        have W6 := Lib.hid hrw
        have WO6 := Lib.hid (hrw.off M5.out)
        clear hrw hb6 B5 M5 P5
        have hBG := mBegin pa pk w6.heap.size P M6.out (Nat.le_refl _) (by rw [HPM.out]; exact rd_of_own P6.out (fun i hi => bl_at P (by rw [HPM.out]; exact hi))) HPB.out
        rw [HPM.out, GT.out, ← HN1.out, ← HC.out] at hBG
        have HBG := Lib.hid hBG
        clear hBG
        go_wp2_with fail
        go_at_call 21
        refine HBG.out.mono ?_
        rintro e w7 (⟨h, _⟩ | ⟨_, h, _⟩ | ⟨_, _, h, _⟩ | ⟨_, _, _, rfl, v7, hm7, hs7⟩)
        · omega
        · exact absurd L3.out h
        · omega
        have B7 := Lib.hid (B6.out.trans ((hs7.below M6.out).mono HG))
        have M7 := Lib.hid hm7
        obtain ⟨hp7, ho7⟩ := hs7.row P6.out O5.out
        obtain ⟨hw7, hwo7⟩ := W6.out.step hs7 WO6.out
        have P7 := Lib.hid hp7
        have O7 := Lib.hid ho7
        have W7 := Lib.hid hw7
        clear hm7 hs7 hp7 ho7 hw7 hwo7 HBG B6 M6 P6 O5 W6 WO6
        obtain ⟨LS, hLS⟩ : ∃ LS, LS = sel4 C (ls 1) (ls 2) C := ⟨_, rfl⟩
        have hs0 : LS 0 = C := by rw [hLS]; rfl
        have hs1 : LS 1 = ls 1 := by rw [hLS]; rfl
        have hs2 : LS 2 = ls 2 := by rw [hLS]; rfl
        have hs3 : LS 3 = C := by rw [hLS]; rfl
        have hgl : gtop LS 3 = n1 := by rw [hLS, gtop_begin HCe.out (by rw [HCs.out, GT.out, HN1.out]), GT.out, HN1.out]
        have hC0 : C ≠ [] := fun e => by have := HCl.out; rw [e] at this; simp at this
        rw [← hLS] at M7
        have S0 := Lib.hid hs0
        have S1 := Lib.hid hs1
        have S2 := Lib.hid hs2
        have S3 := Lib.hid hs3
        have GL := Lib.hid hgl
        have CN := Lib.hid hC0
        have HLS := Lib.hid hLS
        have hPD := mPending M7.out
        rw [hs3, decide_eq_true (List.length_pos_iff.2 hC0)] at hPD
        have HPD := Lib.hid hPD
        clear hs0 hs1 hs2 hs3 hgl hC0 hLS hPD
        go_wp2_with fail
        go_at_call 30
        refine HPD.out.mono ?_
        rintro e w' ⟨rfl, rfl⟩
        have hBG := mBegin pa pk w7.heap.size P M7.out (Nat.le_refl _) (by rw [HPM.out]; exact rd_of_own P7.out (fun i hi => bl_at P (by rw [HPM.out]; exact hi))) HPB.out
        rw [HPM.out, S3.out] at hBG
        have HBG := Lib.hid hBG
        clear hBG HPD
        go_wp2_with fail
        go_at_call 21
        refine HBG.out.mono ?_
        rintro e w8 (⟨h, _⟩ | ⟨_, _, rfl, hb8⟩ | ⟨_, h, _⟩ | ⟨_, h, _⟩)
        rotate_left 2
        · exact absurd h CN.out
        · exact absurd h CN.out
        · omega
        have B8 := Lib.hid (B7.out.trans (hb8.mono B7.out.size))
        have M8 := Lib.hid (M7.out.below hb8)
        have P8 := Lib.hid (own_keep P7.out hb8)
        have W8 := Lib.hid (W7.out.below hb8)
        clear hb8 HBG B7 M7 P7 W7
        go_wp2_with fail
        go_at_call 29
        refine (mCopies M8.out).mono ?_
        rintro e w9 ⟨xl, cl, pl, kl, rfl, hrl, hb9⟩
        have B9 := Lib.hid (B8.out.trans (hb9.mono B8.out.size))
        have M9 := Lib.hid (M8.out.below hb9)
        have P9 := Lib.hid (own_keep P8.out hb9)
        have W9 := Lib.hid (W8.out.below hb9)
        have V9 := Lib.hid hrl
        clear hrl hb9 B8 M8 P8 W8
        go_wp2
        have hSA := fun (wz : World) (hz : Below w9.heap.size w9 wz) (a9 : Option Addr) (c9 : Nat) (ho : wz.ownsRow w9.heap.size 5 1 (.slice a9 C.length c9) C.length (bl C)) => Same_any (pl 0) a9 (LS 0).length C.length (kl 0) c9 w9.heap.size wz.heap.size (LS 0) C wz rfl rfl ((rd_of_own (V9.out.inn 0 (by omega)) (fun j hj => bl_at _ hj)).below hz) (rd_of_own ho (fun j hj => bl_at _ hj)) (M9.out.byt 0 (by omega)) HCb.out
        have hSB := fun (i : Nat) (hi : i < 3) (e : LS i = ls i) (wz : World) (hz : Below w9.heap.size w9 wz) => Same_any (pl i) (pw i) (LS i).length (ls i).length (kl i) (kw i) w9.heap.size w9.heap.size (LS i) (ls i) wz rfl rfl ((rd_of_own (V9.out.inn i hi) (fun j hj => bl_at _ hj)).below hz) ((rd_of_own (W9.out.inn i hi) (fun j hj => bl_at _ hj)).below hz) (M9.out.byt i (by omega)) (e ▸ M9.out.byt i (by omega))
        have hMK := fun (wz : World) (hz : Below w9.heap.size w9 wz) => rMake_any n1 pa m pk w9.heap.size P wz (by omega) HPM.out hz.size ((rd_of_own P9.out (fun i hi => bl_at P (by rw [HPM.out]; exact hi))).below hz) HPB.out (by omega)
        rw [decide_eq_true S0.out] at hSA
        obtain ⟨gx, cx, ex, x0, x1, x2⟩ := V9.out.cells
        obtain ⟨gy, cy, ey, y0, y1, y2⟩ := W9.out.cells
        injection ex with ex1 ex2 ex3
        injection ey with ey1 ey2 ey3
        subst ex1 ex3 ey1 ey3
        have hgx := box_lt_of x0
        have hgy := box_lt_of y0
        have HSA := Lib.hid hSA
        have HSB := Lib.hid hSB
        have HMK := Lib.hid hMK
        have HX0 := Lib.hid x0
        have HX1 := Lib.hid x1
        have HX2 := Lib.hid x2
        have HY1 := Lib.hid y1
        have HY2 := Lib.hid y2
        clear hSA hSB hMK ex2 ey2 x0 x1 x2 y0 y1 y2
        obtain ⟨I, W, hne, hWI, hIW⟩ := Go.Mix.family (fun v => Below w9.heap.size w9 v) (Below.refl _ _)
        have HJ := Lib.hid hIW
        have HW := Lib.hid hWI
        clear hWI hIW
        refine Go.Flo.wp_region (fun w' => ∃ i, w' = W i) 28 [SpO w9.heap.size C, Go.Flo.Spec.is (.bool true), Go.Flo.Spec.is (.bool true), Go.Flo.Spec.is (.bool true)] (by kernel_rfl) (by kernel_rfl) (by decide) (by rintro _ w' ⟨i, rfl⟩ hb; exact HJ.out _ ((HW.out i).trans (hb.mono (HW.out i).size))) (HJ.out _ (Below.refl _ _).drew) ?_
        simp only [Go.Flo.pair, Go.Mix.calm, List.take, List.drop, if_true, Bool.false_eq_true, if_false, Nat.reduceAdd, Nat.reduceSub]
        have x0 : ∀ i, (W i).cell? ⟨gx, 0, none⟩ = some (.slice (pl 0) (LS 0).length (kl 0)) := fun i => ((HW.out i).cell (p := ⟨gx, 0, none⟩) hgx).trans HX0.out
        have x1 : ∀ i, (W i).cell? ⟨gx, 1, none⟩ = some (.slice (pl 1) (LS 1).length (kl 1)) := fun i => ((HW.out i).cell (p := ⟨gx, 1, none⟩) hgx).trans HX1.out
        have x2 : ∀ i, (W i).cell? ⟨gx, 2, none⟩ = some (.slice (pl 2) (LS 2).length (kl 2)) := fun i => ((HW.out i).cell (p := ⟨gx, 2, none⟩) hgx).trans HX2.out
        have y1 : ∀ i, (W i).cell? ⟨gy, 1, none⟩ = some (.slice (pw 1) (ls 1).length (kw 1)) := fun i => ((HW.out i).cell (p := ⟨gy, 1, none⟩) hgy).trans HY1.out
        have y2 : ∀ i, (W i).cell? ⟨gy, 2, none⟩ = some (.slice (pw 2) (ls 2).length (kw 2)) := fun i => ((HW.out i).cell (p := ⟨gy, 2, none⟩) hgy).trans HY2.out
        (repeat (first | (refine Go.Flo.fw_calm rfl ?_ (fun K hK => ?_); (first | exact Go.Mix.wanted_none rfl | exact Go.Mix.wanted_tt rfl rfl rfl | exact Go.Mix.wanted_ff rfl rfl rfl); go_big_quiet_op; refine hK _ ?_; clear hK K) | (refine Go.Flo.fw_skip ?_ (fun K hK => ?_); (first | exact Go.Mix.wanted_tf rfl rfl rfl | exact Go.Mix.wanted_ft rfl rfl rfl); go_simp; refine hK _ ?_; clear hK K) | (refine Go.Flo.fw_any rfl ?_ (fun K hK => ?_); (first | exact Go.Mix.wanted_none rfl | exact Go.Mix.wanted_tt rfl rfl rfl | exact Go.Mix.wanted_ff rfl rfl rfl); go_simp; (try (go_ints; try go_simp)); refine hK _ ?_; clear hK K)))
        refine Go.Flo.fw_loud rfl ?_ rfl (by simp) (fun wv hwv hav K hK => ?_) (fun x hx K hK => ?_)
        · (first | exact Go.Mix.wanted_none rfl | exact Go.Mix.wanted_tt rfl rfl rfl | exact Go.Mix.wanted_ff rfl rfl rfl)
        · obtain ⟨iv, rfl⟩ := hwv
          have hbv := HW.out iv
          (first | go_big_op | go_simp)
          go_at_call 31
          refine (HMK.out _ hbv).mono ?_
          rintro e w' ⟨x, rfl, hown, hbb⟩
          rw [← HC.out] at hown
          exact hK _ _ (owes_O HCl.out rfl hbb hown hbv.size)
        obtain ⟨a9, c9, rfl⟩ := ex_O hx
        go_simp
        refine hK _ ?_
        clear hK K hx
        (repeat (first | (refine Go.Flo.fw_calm rfl ?_ (fun K hK => ?_); (first | exact Go.Mix.wanted_none rfl | exact Go.Mix.wanted_tt rfl rfl rfl | exact Go.Mix.wanted_ff rfl rfl rfl); go_big_quiet_op; refine hK _ ?_; clear hK K) | (refine Go.Flo.fw_skip ?_ (fun K hK => ?_); (first | exact Go.Mix.wanted_tf rfl rfl rfl | exact Go.Mix.wanted_ft rfl rfl rfl); go_simp; refine hK _ ?_; clear hK K) | (refine Go.Flo.fw_any rfl ?_ (fun K hK => ?_); (first | exact Go.Mix.wanted_none rfl | exact Go.Mix.wanted_tt rfl rfl rfl | exact Go.Mix.wanted_ff rfl rfl rfl); go_simp; (try (go_ints; try go_simp)); refine hK _ ?_; clear hK K)))
        refine Go.Flo.fw_loud rfl ?_ rfl (by simp) (fun wv hwv hav K hK => ?_) (fun v hv K hK => ?_)
        · (first | exact Go.Mix.wanted_none rfl | exact Go.Mix.wanted_tt rfl rfl rfl | exact Go.Mix.wanted_ff rfl rfl rfl)
        · obtain ⟨iv, rfl⟩ := hwv
          have hbv := HW.out iv
          (first | go_big_op | go_simp)
          have hs1 := ((hav 54 (by decide +kernel)).2 rfl).1
          go_at_call 25
          refine (HSA.out _ hbv _ _ hs1).mono ?_
          rintro e w' ⟨rfl, q, rfl⟩
          exact hK _ _ (Go.Flo.owes_is _ rfl (below_drews _ _ _))
        obtain rfl := hv.is
        go_simp
        refine hK _ ?_
        clear hK K hv
        (repeat (first | (refine Go.Flo.fw_calm rfl ?_ (fun K hK => ?_); (first | exact Go.Mix.wanted_none rfl | exact Go.Mix.wanted_tt rfl rfl rfl | exact Go.Mix.wanted_ff rfl rfl rfl); go_big_quiet_op; refine hK _ ?_; clear hK K) | (refine Go.Flo.fw_skip ?_ (fun K hK => ?_); (first | exact Go.Mix.wanted_tf rfl rfl rfl | exact Go.Mix.wanted_ft rfl rfl rfl); go_simp; refine hK _ ?_; clear hK K) | (refine Go.Flo.fw_any rfl ?_ (fun K hK => ?_); (first | exact Go.Mix.wanted_none rfl | exact Go.Mix.wanted_tt rfl rfl rfl | exact Go.Mix.wanted_ff rfl rfl rfl); go_simp; (try (go_ints; try go_simp)); refine hK _ ?_; clear hK K)))
        refine Go.Flo.fw_loud rfl ?_ rfl (by simp) (fun wv hwv hav K hK => ?_) (fun v hv K hK => ?_)
        · (first | exact Go.Mix.wanted_none rfl | exact Go.Mix.wanted_tt rfl rfl rfl | exact Go.Mix.wanted_ff rfl rfl rfl)
        · obtain ⟨iv, rfl⟩ := hwv
          have hbv := HW.out iv
          (first | go_big_op | go_simp)
          go_at_call 25
          refine (HSB.out 1 (by omega) S1.out _ hbv).mono ?_
          rw [decide_eq_true S1.out]
          rintro e w' ⟨rfl, q, rfl⟩
          exact hK _ _ (Go.Flo.owes_is _ rfl (below_drews _ _ _))
        obtain rfl := hv.is
        go_simp
        refine hK _ ?_
        clear hK K hv
        (repeat (first | (refine Go.Flo.fw_calm rfl ?_ (fun K hK => ?_); (first | exact Go.Mix.wanted_none rfl | exact Go.Mix.wanted_tt rfl rfl rfl | exact Go.Mix.wanted_ff rfl rfl rfl); go_big_quiet_op; refine hK _ ?_; clear hK K) | (refine Go.Flo.fw_skip ?_ (fun K hK => ?_); (first | exact Go.Mix.wanted_tf rfl rfl rfl | exact Go.Mix.wanted_ft rfl rfl rfl); go_simp; refine hK _ ?_; clear hK K) | (refine Go.Flo.fw_any rfl ?_ (fun K hK => ?_); (first | exact Go.Mix.wanted_none rfl | exact Go.Mix.wanted_tt rfl rfl rfl | exact Go.Mix.wanted_ff rfl rfl rfl); go_simp; (try (go_ints; try go_simp)); refine hK _ ?_; clear hK K)))
        refine Go.Flo.fw_loud rfl ?_ rfl (by simp) (fun wv hwv hav K hK => ?_) (fun v hv K hK => ?_)
        · (first | exact Go.Mix.wanted_none rfl | exact Go.Mix.wanted_tt rfl rfl rfl | exact Go.Mix.wanted_ff rfl rfl rfl)
        · obtain ⟨iv, rfl⟩ := hwv
          have hbv := HW.out iv
          (first | go_big_op | go_simp)
          go_at_call 25
          refine (HSB.out 2 (by omega) S2.out _ hbv).mono ?_
          rw [decide_eq_true S2.out]
          rintro e w' ⟨rfl, q, rfl⟩
          exact hK _ _ (Go.Flo.owes_is _ rfl (below_drews _ _ _))
        obtain rfl := hv.is
        go_simp
        refine hK _ ?_
        clear hK K hv
        (repeat (first | (refine Go.Flo.fw_calm rfl ?_ (fun K hK => ?_); (first | exact Go.Mix.wanted_none rfl | exact Go.Mix.wanted_tt rfl rfl rfl | exact Go.Mix.wanted_ff rfl rfl rfl); go_big_quiet_op; refine hK _ ?_; clear hK K) | (refine Go.Flo.fw_skip ?_ (fun K hK => ?_); (first | exact Go.Mix.wanted_tf rfl rfl rfl | exact Go.Mix.wanted_ft rfl rfl rfl); go_simp; refine hK _ ?_; clear hK K) | (refine Go.Flo.fw_any rfl ?_ (fun K hK => ?_); (first | exact Go.Mix.wanted_none rfl | exact Go.Mix.wanted_tt rfl rfl rfl | exact Go.Mix.wanted_ff rfl rfl rfl); go_simp; (try (go_ints; try go_simp)); refine hK _ ?_; clear hK K)))
        refine Go.Flo.fw_nil ?_
        intro wy hwwy hfwy huwy
        refine Go.Flo.tw_nil ?_
        obtain ⟨iend, hiend⟩ := hwwy
        have hbwy := HW.out iend
        rw [← hiend] at hbwy
        clear hiend iend huwy
        clear hfwy HJ HW hne x0 x1 x2 y1 y2 HX0 HX1 HX2 HY1 HY2 HSA HSB HMK
        clear W I
        have By := Lib.hid (B9.out.trans (hbwy.mono B9.out.size))
        have My := Lib.hid (M9.out.below hbwy)
        have Py := Lib.hid (own_keep P9.out hbwy)
        clear hbwy B9 M9 P9 W9 V9
        by_cases hhk : h13 = k
        · have hhk' : ((h13 : Int) == (k : Int)) = true := by rw [beq_iff_eq]; omega
          go_wp2_with fail
          go_at_call 23
          refine (mReset My.out).mono ?_
          rintro e wz ⟨⟨u, rfl⟩, hmz, hsz⟩
          have Bz := Lib.hid (By.out.trans ((hsz.below My.out).mono HG))
          have Mz := Lib.hid hmz
          clear hmz hsz By My Py
          go_wp2_with fail
          go_at_call 22
          refine (mFinish_no Mz.out (upd_same _ _ _)).mono ?_
          rintro e w' ⟨rfl, rfl⟩
          go_wp2
          go_roundw
          case rel =>
            refine ⟨k + 1, n1, _, _, by omega, by omega, by have := HN1.out; omega, by go_num, rfl, Bz.out, Mz.out, upd_same _ _ _, ?_⟩
            have := GL.out
            rw [gtop3] at this ⊢
            exact this
          case measure => simp [intOf]; omega
        · have hhk' : ((h13 : Int) == (k : Int)) = false := by rw [beq_eq_false_iff_ne]; omega
          go_wp2_with fail
          go_at_call 22
          refine (mFinish My.out (by rw [S3.out]; exact CN.out)).mono ?_
          rintro e wz ⟨rfl, vz, hmz, hsz⟩
          rw [S0.out, S3.out] at hmz
          have Bz := Lib.hid (By.out.trans ((hsz.below My.out).mono HG))
          have Mz := Lib.hid hmz
          obtain ⟨hpz, hoz⟩ := hsz.row Py.out (show Off g v7 (.slice pa m pk) from O7.out)
          have Pz := Lib.hid hpz
          clear hmz hsz hpz hoz By My Py
          obtain ⟨k1, k2, _⟩ := all_good HCe.out
          go_wp2_with fail
          go_at_call 24
          refine (mRead Mz.out).mono ?_
          rintro e wq ⟨hbq, ⟨h, _⟩ | ⟨_, q, qc, rfl, hown⟩⟩
          · omega
          have hbb : sel4 C C C [] (vst (sel4 C C C []) 3).2 = C := k2
          rw [hbb, HCd.out, HPM.out] at hown
          rw [hbb, HCd.out, HPM.out, HCs.out]
          have Bq := Lib.hid (Bz.out.trans (hbq.mono Bz.out.size))
          have Mq := Lib.hid (Mz.out.below hbq)
          have hPq := own_keep Pz.out hbq
          have hsame := Same_any q pa m m qc pk wq.heap.size wq.heap.size P P wq HPM.out HPM.out (rd_of_own hown (fun i hi => bl_at P (by rw [HPM.out]; exact hi))) (rd_of_own hPq (fun i hi => bl_at P (by rw [HPM.out]; exact hi))) HPB.out HPB.out
          rw [decide_eq_true (rfl : P = P)] at hsame
          have HSM := Lib.hid hsame
          clear hsame hown hbb k1 k2 hbq hPq Mz Bz Pz
          go_wp2_with fail
          go_at_call 25
          refine HSM.out.mono ?_
          rintro e w' ⟨rfl, nj, rfl⟩
          have hq9 := below_drews wq.heap.size wq nj
          obtain ⟨wr2, hwr2⟩ : ∃ wa, wa = wq.drewN nj := ⟨_, rfl⟩
          rw [← hwr2] at hq9 ⊢
          have Br := Lib.hid (Bq.out.trans (hq9.mono Bq.out.size))
          have Mr := Lib.hid (Mq.out.below hq9)
          have hPD := mPending Mr.out
          rw [show decide (0 < (sel4 C C C [] 3).length) = false from rfl] at hPD
          have HPD := Lib.hid hPD
          clear hq9 hwr2 Mq Bq HSM hPD
          go_wp2_with fail
          go_at_call 30
          refine HPD.out.mono ?_
          rintro e w' ⟨rfl, rfl⟩
          have hGD := mGood Mr.out
          rw [gset_same HCe.out] at hGD
          have HGD := Lib.hid hGD
          clear hGD HPD
          go_wp2_with fail
          go_at_call 27
          refine HGD.out.mono ?_
          rintro e ws ⟨rfl, hbs⟩
          have Bs := Lib.hid (Br.out.trans (hbs.mono Br.out.size))
          have Ms := Lib.hid (Mr.out.below hbs)
          clear hbs HGD Br Mr
          go_wp2_with fail
          go_at_call 28
          refine (Count7 ws).mono ?_
          rintro e wt ⟨rfl, hbt⟩
          have Bt := Lib.hid (Bs.out.trans (hbt.mono Bs.out.size))
          have Mt := Lib.hid (Ms.out.below hbt)
          clear hbt Bs Ms
          go_wp2
          go_roundw
          case rel => exact ⟨k + 1, n1, _, _, by omega, by omega, by have := HN1.out; omega, by go_num, rfl, Bt.out, Mt.out, rfl, by rw [gtop_same HCe.out, HCs.out]⟩
          case measure => simp [intOf]; omega
      · have h12' : (12 : Int) ≤ (k : Int) := by omega
        obtain ⟨b, off, rfl, hbk, hc⟩ := (HROW.out.below' hB (Nat.le_refl _)).at hlt
        clear hM hB
        go_wp2
        go_ret
        exact ⟨rfl, B4.out⟩
    · obtain rfl : k = len0 := by omega
      clear hM hB
      go_wp2
      go_ret
      exact ⟨rfl, B4.out⟩
end Go.Proofs.Ytdlkonbjmmepoaa
