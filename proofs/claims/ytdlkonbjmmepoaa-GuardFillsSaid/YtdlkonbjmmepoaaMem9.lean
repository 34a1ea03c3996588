/- Layer 7: Of. -/
import Derived.Test.YtdlkonbjmmepoaaLaw07s
import Derived.Test.YtdlkonbjmmepoaaRws
namespace Go.Proofs.Ytdlkonbjmmepoaa
open Go.RowKit Go.Own
set_option linter.unusedVariables false
set_option linter.unusedSimpArgs false

theorem MemS.c {w : World} {B g : Nat} {v : Nat → Value} {ls : Nat → List Nat} (h : MemS w B g v ls) {i : Nat} (hi : i < 4) : w.cell? ⟨g, i, none⟩ = some (v i) := by
  have : i = 0 ∨ i = 1 ∨ i = 2 ∨ i = 3 := by omega
  rcases this with rfl | rfl | rfl | rfl
  · exact h.c0
  · exact h.c1
  · exact h.c2
  · exact h.c3
/-- The first k. -/
def firstL (ls : Nat → List Nat) (k : Nat) : Nat → List Nat := fun i => if i < k then ls i else []
theorem firstL_succ (ls : Nat → List Nat) (k : Nat) : ∀ i, i < 4 → firstL ls (k + 1) i = upd (firstL ls k) k (ls k) i := by
  intro i _
  unfold firstL upd
  by_cases h : i = k
  · subst h; simp
  · by_cases h2 : i < k
    · simp [h, h2, show i < k + 1 by omega]
    · simp [h, h2, show ¬ i < k + 1 by omega]
theorem run_minN {P : Program} (ats : Array TypeId) (ty : TypeId) (k : IntKind) (a b : Nat) (w : World) : (Builtin.min_ ats ty #[.int k (a : Nat), .int k (b : Nat)]).run P w = .ok (.int k ((min a b : Nat) : Int)) w := by
  have e2 : (Builtin.min2 (.int k (a : Nat)) (.int k (b : Nat))).run P w = .ok (.int k ((min a b : Nat) : Int)) w := by
    unfold Builtin.min2
    by_cases h : b < a
    · have e : min a b = b := by omega
      simp [e, h]
    · have e : min a b = a := by omega
      simp [e, h]
  simp [Builtin.min_, e2]
set_option maxRecDepth 100000 in
set_option maxHeartbeats 4000000 in
theorem mOf (a : Option Addr) (len cap : Nat) (pa : Nat → Option Addr) (pc : Nat → Nat) (ls : Nat → List Nat) (w : World) (hl3 : len ≤ 3) (hr : Rd w.heap.size w a len cap (fun i => .slice (pa i) (ls i).length (pc i)))
    (hp : ∀ i, i < len → Rd w.heap.size w (pa i) (ls i).length (pc i) (bv (ls i))) (hb : ∀ i, i < len → bytes (ls i)) (hm : ∀ i, i < len → (ls i).length ≤ 1000) :
    Calls Try.prog 33 #[.slice a len cap] w fun e w' => ∃ v, e = .returned (.pointer (some ⟨w.heap.size, 0, none⟩)) ∧ MemS w' w.heap.size w.heap.size v (firstL ls len) ∧ Below w.heap.size w w' := by
  have hmn : ∀ w : World, (Builtin.min_ #[3, 3] 3 #[.int .i64 (len : Nat), .int .i64 3]).run Try.prog w = .ok (.int .i64 (len : Nat)) w := fun w => by
    rw [show (3 : Int) = ((3 : Nat) : Int) from rfl, run_minN, show min len 3 = len by omega]
  have HR := Lib.hid hr
  have HP := Lib.hid hp
  have HB := Lib.hid hb
  have HM := Lib.hid hm
  clear hr hp hb hm
  go_enter Try.func33, Try.ntmps33
  go_wp2_with fail
  go_at_call 16
  refine (mNew w).mono ?_
  rintro e w1 ⟨rfl, hm1, hb1⟩
  obtain ⟨g, hg⟩ : ∃ g, g = w.heap.size := ⟨_, rfl⟩
  rw [← hg] at hm1 ⊢
  have M1 := Lib.hid hm1
  have B1 := Lib.hid hb1
  have HG := Lib.hid hg
  clear hm1 hb1 hg
  go_wp2
  go_loopw [9] (fun i wr => ∃ (k : Nat) (v : Nat → Value), k ≤ len ∧ i = .int .i64 (k : Nat) ∧ Below w.heap.size w wr ∧ MemS wr g g v (firstL ls k)) (fun i _ => len - (intOf i).toNat)
  case atStart => exact ⟨0, noV, Nat.zero_le _, rfl, B1.out, M1.out.congr (fun i _ => by simp [firstL, noL])⟩
  case round =>
    obtain ⟨k, v, hk, rfl, hB, hM⟩ := hrel
    by_cases hlt : k < len
    · obtain ⟨b, off, rfl, hbk, hc⟩ := (HR.out.below' hB (Nat.le_refl _)).at hlt
      have hrd := (HP.out k hlt).below' hB (Nat.le_refl _)
      have hk3 : k < 3 := by omega
      obtain ⟨l, hl⟩ : ∃ l, l = ls k := ⟨_, rfl⟩
      obtain ⟨p, hpp⟩ : ∃ p, p = pa k := ⟨_, rfl⟩
      obtain ⟨q, hqq⟩ : ∃ q, q = pc k := ⟨_, rfl⟩
      have hlb := HB.out k hlt
      have hlm := HM.out k hlt
      rw [← hl, ← hpp, ← hqq] at hrd hc
      rw [← hl] at hlb hlm
      obtain ⟨m, hm⟩ : ∃ m, m = l.length := ⟨_, rfl⟩
      rw [← hm] at hrd hc hlm
      have HL := Lib.hid (show l.length = m from hm.symm)
      have HLL := Lib.hid hl
      have HLB := Lib.hid hlb
      have HRD := Lib.hid (hrd.mono hB.size)
      have H := Lib.hid hM
      have BB := Lib.hid hB
      have hbw : b < wr.heap.size := box_lt_of hc
      clear hrd hl hlb hM hB hm hpp hqq
      go_wp2
      obtain ⟨I, W, hne, hWI, hIW⟩ := Go.Mix.family (fun v => Below wr.heap.size wr v) (Below.refl _ _)
      have HJ := Lib.hid hIW
      have HW := Lib.hid hWI
      clear hWI hIW
      refine Go.Flo.wp_region (fun w' => ∃ i, w' = W i) 10 [SpO wr.heap.size l] (by kernel_rfl) (by kernel_rfl) (by decide) (by rintro _ w' ⟨i, rfl⟩ hb; exact HJ.out _ ((HW.out i).trans (hb.mono (HW.out i).size))) (HJ.out _ (Below.refl _ _).drew) ?_
      simp only [Go.Flo.pair, Go.Mix.calm, List.take, List.drop, if_true, Bool.false_eq_true, if_false, Nat.reduceAdd, Nat.reduceSub]
      have hc' : ∀ i, (W i).cell? ⟨b, off + k, none⟩ = some (.slice p m q) := fun i => ((HW.out i).cell (p := ⟨b, off + k, none⟩) hbw).trans hc
      (repeat (first | (refine Go.Flo.fw_calm rfl ?_ (fun K hK => ?_); (first | exact Go.Mix.wanted_none rfl | exact Go.Mix.wanted_tt rfl rfl rfl | exact Go.Mix.wanted_ff rfl rfl rfl); go_big_quiet_op; refine hK _ ?_; clear hK K) | (refine Go.Flo.fw_skip ?_ (fun K hK => ?_); (first | exact Go.Mix.wanted_tf rfl rfl rfl | exact Go.Mix.wanted_ft rfl rfl rfl); go_simp; refine hK _ ?_; clear hK K) | (refine Go.Flo.fw_any rfl ?_ (fun K hK => ?_); (first | exact Go.Mix.wanted_none rfl | exact Go.Mix.wanted_tt rfl rfl rfl | exact Go.Mix.wanted_ff rfl rfl rfl); go_simp; (try (go_ints; try go_simp)); refine hK _ ?_; clear hK K)))
      refine Go.Flo.fw_loud rfl ?_ rfl (by simp) (fun wv hwv hav K hK => ?_) (fun x hx K hK => ?_)
      · (first | exact Go.Mix.wanted_none rfl | exact Go.Mix.wanted_tt rfl rfl rfl | exact Go.Mix.wanted_ff rfl rfl rfl)
      · obtain ⟨iv, rfl⟩ := hwv
        have hbv := HW.out iv
        (first | go_big_op | go_simp)
        go_at_call 76
        refine (Clone_any p m q wr.heap.size l _ hbv.size HL.out (HRD.out.below hbv) (by omega)).mono ?_
        rintro e w' ⟨x, rfl, hown, hbb⟩
        exact hK _ _ (owes_O HL.out rfl hbb hown hbv.size)
      obtain ⟨a9, c9, rfl⟩ := ex_O hx
      go_simp
      refine hK _ ?_
      clear hK K hx
      (repeat (first | (refine Go.Flo.fw_calm rfl ?_ (fun K hK => ?_); (first | exact Go.Mix.wanted_none rfl | exact Go.Mix.wanted_tt rfl rfl rfl | exact Go.Mix.wanted_ff rfl rfl rfl); go_big_quiet_op; refine hK _ ?_; clear hK K) | (refine Go.Flo.fw_skip ?_ (fun K hK => ?_); (first | exact Go.Mix.wanted_tf rfl rfl rfl | exact Go.Mix.wanted_ft rfl rfl rfl); go_simp; refine hK _ ?_; clear hK K) | (refine Go.Flo.fw_any rfl ?_ (fun K hK => ?_); (first | exact Go.Mix.wanted_none rfl | exact Go.Mix.wanted_tt rfl rfl rfl | exact Go.Mix.wanted_ff rfl rfl rfl); go_simp; (try (go_ints; try go_simp)); refine hK _ ?_; clear hK K)))
      refine Go.Flo.fw_nil ?_
      intro w2 hww2 hfw2 huw2
      obtain ⟨iend, hiend⟩ := hww2
      have hbw2 := HW.out iend
      rw [← hiend] at hbw2
      clear hiend iend huw2
      have hown := ((hfw2 (some 18)).1.1.1.2 rfl).1
      have f2 := (H.out.below hbw2).f k
      have c2 := (H.out.below hbw2).c (i := k) (by omega)
      have P2 := put_fresh (i := k) H.out (MStep.refl g v wr) hbw2 (by omega) hown HLB.out (by rw [HL.out]; omega)
      have HP2 := Lib.hid P2
      clear hfw2 HJ HW hne hown hbw2 P2 hc'
      clear W I
      refine Go.Flo.tw_step ?_ (fun K hK => ?_)
      · (first | exact Go.Mix.wanted_none rfl | exact Go.Mix.wanted_tt rfl rfl rfl | exact Go.Mix.wanted_ff rfl rfl rfl)
      (first | go_big_op | go_simp)
      refine hK _ _ ?_
      clear hK K
      refine Go.Flo.tw_nil ?_
      go_wp2
      go_roundw
      case rel =>
        refine ⟨k + 1, _, by omega, by go_num, ?_, HP2.out.1.congr (fun i hi => by rw [firstL_succ ls k i hi, HLL.out])⟩
        have := HP2.out.2.below H.out
        exact BB.out.trans (this.mono (by rw [HG.out]; exact Nat.le_refl _))
      case measure => simp [intOf]; omega
    · obtain rfl : k = len := by omega
      have H := Lib.hid hM
      have BB := Lib.hid hB
      clear hM hB
      go_wp2
      go_ret
      exact ⟨v, by rw [← HG.out]; rfl, by rw [← HG.out]; exact H.out, BB.out⟩
end Go.Proofs.Ytdlkonbjmmepoaa
