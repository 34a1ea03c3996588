/- Space packets: the bytes of one. -/
import Derived.Test.YtmihhapedpalmaaPk2
import Derived.Test.YtmihhapedpalmaaCel5
import Derived.Test.YtmihhapedpalmaaKeep
namespace Go.Proofs.Ytmihhapedpalmaa
open Go.RowKit Go.Own
set_option linter.unusedVariables false
set_option linter.unusedSimpArgs false

theorem or_8 : ∀ y, y < 8 → 8 ||| y = 8 + y := by decide
theorem or_16 : ∀ y, y < 16 → 16 ||| y = 16 + y := by decide
theorem or_192 : ∀ y, y < 64 → 192 ||| y = 192 + y := by decide
theorem or8u (a b : Nat) (ha : a < 256) (hb : b < 256) : bits .or .u8 (a : Int) (b : Int) = ((a ||| b : Nat) : Int) := orNatJ .u8 8 (by decide) (fun n h0 h1 => by rw [IntKind.wrap_u8]; omega) a b ha hb
theorem wp_append_full {o : Oper} {ac : Act} {K : Act → World → Prop} {Q : Exit → Act → World → Prop} {w : World} {g n len cap k : Nat} {a : Option Addr} {l m : List Nat} (s x : Operand)
    (ho : o.op = .call { callee := .builtin .append, args := #[s, x], argTypes := #[54, 54] }) (hs : ac.eval s = .slice (some ⟨g, 0, none⟩) k k) (hx : ac.eval x = .slice a len cap)
    (hl : l.length = k) (hm : m.length = len) (h : w.heap[g]? = some (.cells (bl l).toArray 5 (0, 0))) (hr : Rd n w a len cap (bv m)) (hn : n ≤ w.heap.size) (hg : k + len ≤ 100000)
    (hh : ∀ b c' w', Rd w'.heap.size w' b (k + len) c' (bv (l ++ m)) → Below w.heap.size w w' → K (ac.put o.dst (.slice b (k + len) c')) w') : o.wp Try.prog ac w K Q := by
  obtain ⟨b, c', w', hrun, h1, h2⟩ := run_append_full hl hm h hr hn hg o.type
  unfold Oper.wp execOp
  simp only [ho, resolve, invoke, builtin, Sem.run_bind, Sem.run_pure, Result.andThen_ok, List.map_toArray, List.map_cons, List.map_nil, hs, hx, hrun]
  exact hh b c' w' h1 h2
theorem owes_Bf {o : Oper} {l : List Nat} {m c : Nat} {a : Option Addr} {w w' : World} (hl : l.length = m) (hm : Go.Flo.makes o = false) (hb : Below w.heap.size w w') (h : Rd w'.heap.size w' a m c (bv l)) : Go.Flo.owes o (SpB l) w (.slice a m c) w' := by
  subst hl
  exact ⟨⟨a, c, rfl, h⟩, hb, fun g hg => by simp [Go.Flo.ownOf, hm] at hg⟩
/-- A packet's value. -/
def PkBytes (w : World) (k : Bool) (a c len : Nat) (d : List Nat) (e : Ending) (w' : World) : Prop :=
  Below w.heap.size w w' ∧ ((pkRight a c len ≠ 0 ∧ e = .returned (.tuple #[.slice none 0 0, .int .i64 (pkRight a c len : Nat)])) ∨
    (pkRight a c len = 0 ∧ ∃ v, e = .returned (.tuple #[v, .int .i64 0]) ∧ w'.ownsRow w.heap.size 5 1 v (len + 8) (bl (mkPkt (if k then 1 else 0) a c d))))
set_option maxRecDepth 100000 in
set_option maxHeartbeats 2000000 in
theorem pBytes_any (k : Bool) (a c : Nat) (x : Option Addr) (len cap n : Nat) (d : List Nat) (w : World) (ha : a < 65536) (hc : c < 65536) (hl : d.length = len) (hn : n ≤ w.heap.size) (hr : Rd n w x len cap (bv d)) (hb : bytes d) :
    Calls Try.prog 65 #[.agg #[.bool k, .int .u16 a, .int .u16 c, .slice x len cap]] w (PkBytes w k a c len d) := by
  have h1 := hr.le
  have h2 := hr.top
  unfold maxLen at h2
  have HR := Lib.hid hr
  have HL := Lib.hid hl
  clear hr hl
  by_cases hA : 2047 < a
  · have HE := Lib.hid (show pkRight a c len = 1 by unfold pkRight; rw [if_pos (.inl hA)])
    go_enter Try.func65, Try.ntmps65
    go_wp2
    go_ret2
    exact ⟨by repeat' (first | (with_reducible exact Below.refl _ _) | (with_reducible assumption) | (with_reducible refine Below.setCell ?_ ?_ _) | (with_reducible refine Below.alloc ?_ ?_ _) | (with_reducible refine Below.drew ?_) | (with_reducible refine Below.drawsN ?_ _) | go_size), .inl ⟨by rw [HE.out]; decide, by rw [HE.out]; rfl⟩⟩
  by_cases hC : 16383 < c
  · have HE := Lib.hid (show pkRight a c len = 1 by unfold pkRight; rw [if_pos (.inr hC)])
    go_enter Try.func65, Try.ntmps65
    go_wp2
    go_ret2
    exact ⟨by repeat' (first | (with_reducible exact Below.refl _ _) | (with_reducible assumption) | (with_reducible refine Below.setCell ?_ ?_ _) | (with_reducible refine Below.alloc ?_ ?_ _) | (with_reducible refine Below.drew ?_) | (with_reducible refine Below.drawsN ?_ _) | go_size), .inl ⟨by rw [HE.out]; decide, by rw [HE.out]; rfl⟩⟩
  by_cases hL : 200 < len
  · have HE := Lib.hid (show pkRight a c len = 4 by unfold pkRight; rw [if_neg (by omega), if_pos hL])
    go_enter Try.func65, Try.ntmps65
    go_wp2
    go_ret2
    exact ⟨by repeat' (first | (with_reducible exact Below.refl _ _) | (with_reducible assumption) | (with_reducible refine Below.setCell ?_ ?_ _) | (with_reducible refine Below.alloc ?_ ?_ _) | (with_reducible refine Below.drew ?_) | (with_reducible refine Below.drawsN ?_ _) | go_size), .inl ⟨by rw [HE.out]; decide, by rw [HE.out]; rfl⟩⟩
  have HE := Lib.hid (show pkRight a c len = 0 by unfold pkRight; rw [if_neg (by omega), if_neg hL])
  have o1 : bits .or .u16 8 ((a : Int) / 256) = ((8 + a / 256 : Nat) : Int) := by
    have := or16 8 (a / 256) (by omega) (by omega)
    rw [or_8 _ (by omega)] at this
    rw [← this]; rfl
  have o3 : bits .or .u16 192 ((c : Int) / 256) = ((192 + c / 256 : Nat) : Int) := by
    have := or16 192 (c / 256) (by omega) (by omega)
    rw [or_192 _ (by omega)] at this
    rw [← this]; rfl
  obtain ⟨y, hy⟩ : ∃ y, y = 8 + a / 256 := ⟨_, rfl⟩
  obtain ⟨z, hz⟩ : ∃ z, z = 192 + c / 256 := ⟨_, rfl⟩
  have o2 : bits .or .u8 (y : Int) 16 = ((y + 16 : Nat) : Int) := by
    have := or8u y 16 (by omega) (by omega)
    rw [show y ||| 16 = 16 ||| y from Nat.or_comm _ _, or_16 _ (by omega), Nat.add_comm] at this
    exact this
  rw [← hy] at o1
  rw [← hz] at o3
  have hy16 : y < 16 := by omega
  have hz256 : z < 256 := by omega
  have HY := Lib.hid hy
  have HZ := Lib.hid hz
  clear hy hz
  cases k
  · go_enter Try.func65, Try.ntmps65
    go_wp2_with fail
    skip
    have hhead : (#[.int .u8 (y : Int), .int .u8 ((a : Int) % 256), .int .u8 (z : Int), .int .u8 ((c : Int) % 256), .int .u8 (((len : Int) + 2 - 1) / 256), .int .u8 ((len : Int) + 2 - 1)] : Array Value) = (bl (pkHead 0 a c len)).toArray := by
      have e0 : (y : Int) = ((0 * 16 + 8 + a / 256 : Nat) : Int) := by have := HY.out; omega
      have e1 : (a : Int) % 256 = ((a % 256 : Nat) : Int) := by omega
      have e2 : (z : Int) = ((192 + c / 256 : Nat) : Int) := by have := HZ.out; omega
      have e3 : (c : Int) % 256 = ((c % 256 : Nat) : Int) := by omega
      have e4 : ((len : Int) + 2 - 1) / 256 = (((len + 1) / 256 : Nat) : Int) := by omega
      have e5 : (len : Int) + 2 - 1 = (((len + 1) % 256 : Nat) : Int) := by omega
      rw [e4, e5, e0, e1, e2, e3]
      rfl
    rw [hhead]
    have hbH := pkHead_bytes (k := 0) (a := a) (c := c) (n := len) (by omega) (by omega) (by omega) (by omega)
    have hlH := pkHead_len 0 a c len
    have hmk : whole (pkHead 0 a c len ++ d) = mkPkt 0 a c d := by unfold mkPkt; rw [HL.out]
    obtain ⟨H, hH⟩ : ∃ H, H = pkHead 0 a c len := ⟨_, rfl⟩
    rw [← hH] at hbH hlH hmk ⊢
    have hc2 := heap_alloc2_new w (.cells #[.bool false, .int .u16 a, .int .u16 c, .slice x len cap] 121) (.cells (bl H).toArray 5)
    have hc1 := heap_alloc2_old w (.cells #[.bool false, .int .u16 a, .int .u16 c, .slice x len cap] 121) (.cells (bl H).toArray 5)
    have hb2 : Below w.heap.size w ((w.alloc (.cells #[.bool false, .int .u16 a, .int .u16 c, .slice x len cap] 121)).alloc (.cells (bl H).toArray 5)) := by repeat' (first | (with_reducible exact Below.refl _ _) | (with_reducible assumption) | (with_reducible refine Below.setCell ?_ ?_ _) | (with_reducible refine Below.alloc ?_ ?_ _) | (with_reducible refine Below.drew ?_) | (with_reducible refine Below.drawsN ?_ _) | go_size)
    have hz2 : ((w.alloc (.cells #[.bool false, .int .u16 a, .int .u16 c, .slice x len cap] 121)).alloc (.cells (bl H).toArray 5)).heap.size = w.heap.size + 2 := by simp
    obtain ⟨w1, hw1⟩ : ∃ w1, w1 = (w.alloc (.cells #[.bool false, .int .u16 a, .int .u16 c, .slice x len cap] 121)).alloc (.cells (bl H).toArray 5) := ⟨_, rfl⟩
    rw [← hw1] at hc1 hc2 hb2 hz2 ⊢
    have hR1 := Lib.hid (HR.out.below' hb2 hn)
    have hc13 := cell_of_row w1 w.heap.size 3 _ _ _ hc1
    have hBl : (H ++ d).length = 6 + len := by rw [List.length_append, hlH, HL.out]
    have hBb : bytes (H ++ d) := hbH.append hb
    obtain ⟨B, hB⟩ : ∃ B, B = H ++ d := ⟨_, rfl⟩
    obtain ⟨M, hM⟩ : ∃ M, M = 6 + len := ⟨_, rfl⟩
    rw [← hB, ← hM] at hBl
    rw [← hB] at hBb hmk
    have hM1 : M ≤ 206 := by omega
    have HB := Lib.hid hB
    have HM := Lib.hid hM
    have hwl := whole_len B
    rw [hBl] at hwl
    have HWL := Lib.hid hwl
    have HBL := Lib.hid hBl
    have HHL := Lib.hid hlH
    have HC2 := Lib.hid hc2
    have HB2 := Lib.hid hb2
    have HMK := Lib.hid hmk
    clear hB hM hwl hw1 hhead hH hBl hlH hc1 hc2 hb2 hmk o1 o2 o3
    obtain ⟨I, W, hne, hWI, hIW⟩ := Go.Mix.family (fun v => Below w1.heap.size w1 v) (Below.refl _ _)
    have HJ := Lib.hid hIW
    have HW := Lib.hid hWI
    clear hWI hIW
    refine Go.Flo.wp_region (fun w' => ∃ i, w' = W i) 8 [Go.Flo.Spec.is (.agg tabV), SpB B, SpO w.heap.size (whole B)] (by kernel_rfl) (by kernel_rfl) (by decide) (by rintro _ w' ⟨i, rfl⟩ hb; exact HJ.out _ ((HW.out i).trans (hb.mono (HW.out i).size))) (HJ.out _ (Below.refl _ _).drew) ?_
    simp only [Go.Flo.pair, Go.Mix.calm, List.take, List.drop, if_true, Bool.false_eq_true, if_false, Nat.reduceAdd, Nat.reduceSub]
    have k3 : ∀ i, (W i).cell? ⟨w.heap.size, 3, none⟩ = some (.slice x len cap) := fun i => ((HW.out i).cell (p := ⟨w.heap.size, 3, none⟩) (show w.heap.size < _ by omega)).trans hc13
    (repeat (first | (refine Go.Flo.fw_calm rfl ?_ (fun K hK => ?_); (first | exact Go.Mix.wanted_none rfl | exact Go.Mix.wanted_tt rfl rfl rfl | exact Go.Mix.wanted_ff rfl rfl rfl); go_big_quiet_op; refine hK _ ?_; clear hK K) | (refine Go.Flo.fw_skip ?_ (fun K hK => ?_); (first | exact Go.Mix.wanted_tf rfl rfl rfl | exact Go.Mix.wanted_ft rfl rfl rfl); go_simp; refine hK _ ?_; clear hK K) | (refine Go.Flo.fw_any rfl ?_ (fun K hK => ?_); (first | exact Go.Mix.wanted_none rfl | exact Go.Mix.wanted_tt rfl rfl rfl | exact Go.Mix.wanted_ff rfl rfl rfl); go_simp; (try (go_ints; try go_simp)); refine hK _ ?_; clear hK K)))
    refine Go.Flo.fw_loud rfl ?_ rfl (by simp) (fun wv hwv hav K hK => ?_) (fun v hv K hK => ?_)
    · (first | exact Go.Mix.wanted_none rfl | exact Go.Mix.wanted_tt rfl rfl rfl | exact Go.Mix.wanted_ff rfl rfl rfl)
    · obtain ⟨iv, rfl⟩ := hwv
      have hbv := HW.out iv
      (first | go_big_op | go_simp)
      go_at_call 84
      refine (Make_any _).mono ?_
      rintro e w' ⟨rfl, hbb⟩
      exact hK _ _ (Go.Flo.owes_is _ rfl hbb)
    obtain rfl := hv.is
    go_simp
    refine hK _ ?_
    clear hK K hv
    (repeat (first | (refine Go.Flo.fw_calm rfl ?_ (fun K hK => ?_); (first | exact Go.Mix.wanted_none rfl | exact Go.Mix.wanted_tt rfl rfl rfl | exact Go.Mix.wanted_ff rfl rfl rfl); go_big_quiet_op; refine hK _ ?_; clear hK K) | (refine Go.Flo.fw_skip ?_ (fun K hK => ?_); (first | exact Go.Mix.wanted_tf rfl rfl rfl | exact Go.Mix.wanted_ft rfl rfl rfl); go_simp; refine hK _ ?_; clear hK K) | (refine Go.Flo.fw_any rfl ?_ (fun K hK => ?_); (first | exact Go.Mix.wanted_none rfl | exact Go.Mix.wanted_tt rfl rfl rfl | exact Go.Mix.wanted_ff rfl rfl rfl); go_simp; (try (go_ints; try go_simp)); refine hK _ ?_; clear hK K)))
    refine Go.Flo.fw_loud rfl ?_ rfl (by simp) (fun wv hwv hav K hK => ?_) (fun v hv K hK => ?_)
    · (first | exact Go.Mix.wanted_none rfl | exact Go.Mix.wanted_tt rfl rfl rfl | exact Go.Mix.wanted_ff rfl rfl rfl)
    · obtain ⟨iv, rfl⟩ := hwv
      have hbv := HW.out iv
      refine wp_append_full (.tmp 54) (.tmp 56) rfl rfl rfl HHL.out HL.out (box_below HC2.out hbv (by omega)) (hR1.out.below' hbv (by omega)) (by have := hbv.size; omega) (by omega) ?_
      intro b9 c9 w9 hr9 hb9
      rw [← HB.out, ← HM.out] at hr9
      rw [← HM.out]
      exact hK _ _ (owes_Bf HBL.out rfl hb9 hr9)
    obtain ⟨a9, c9, rfl⟩ := ex_B hv
    rw [HBL.out]
    go_simp
    refine hK _ ?_
    clear hK K hv
    (repeat (first | (refine Go.Flo.fw_calm rfl ?_ (fun K hK => ?_); (first | exact Go.Mix.wanted_none rfl | exact Go.Mix.wanted_tt rfl rfl rfl | exact Go.Mix.wanted_ff rfl rfl rfl); go_big_quiet_op; refine hK _ ?_; clear hK K) | (refine Go.Flo.fw_skip ?_ (fun K hK => ?_); (first | exact Go.Mix.wanted_tf rfl rfl rfl | exact Go.Mix.wanted_ft rfl rfl rfl); go_simp; refine hK _ ?_; clear hK K) | (refine Go.Flo.fw_any rfl ?_ (fun K hK => ?_); (first | exact Go.Mix.wanted_none rfl | exact Go.Mix.wanted_tt rfl rfl rfl | exact Go.Mix.wanted_ff rfl rfl rfl); go_simp; (try (go_ints; try go_simp)); refine hK _ ?_; clear hK K)))
    refine Go.Flo.fw_loud rfl ?_ rfl (by simp) (fun wv hwv hav K hK => ?_) (fun v hv K hK => ?_)
    · (first | exact Go.Mix.wanted_none rfl | exact Go.Mix.wanted_tt rfl rfl rfl | exact Go.Mix.wanted_ff rfl rfl rfl)
    · obtain ⟨iv, rfl⟩ := hwv
      have hbv := HW.out iv
      (first | go_big_op | go_simp)
      have hs := says_B ((hav 57 (by decide +kernel)).2 rfl).1
      rw [HBL.out] at hs
      go_at_call 85
      refine (TAppend_any a9 M c9 _ B _ HBL.out (Nat.le_refl _) hs hBb (by omega)).mono ?_
      rintro e w' ⟨v, rfl, hown, hbb⟩
      exact hK _ _ (owes_O HWL.out rfl hbb hown (by have := hbv.size; omega))
    obtain ⟨a8, c8, rfl⟩ := ex_O hv
    go_simp
    refine hK _ ?_
    clear hK K hv
    (repeat (first | (refine Go.Flo.fw_calm rfl ?_ (fun K hK => ?_); (first | exact Go.Mix.wanted_none rfl | exact Go.Mix.wanted_tt rfl rfl rfl | exact Go.Mix.wanted_ff rfl rfl rfl); go_big_quiet_op; refine hK _ ?_; clear hK K) | (refine Go.Flo.fw_skip ?_ (fun K hK => ?_); (first | exact Go.Mix.wanted_tf rfl rfl rfl | exact Go.Mix.wanted_ft rfl rfl rfl); go_simp; refine hK _ ?_; clear hK K) | (refine Go.Flo.fw_any rfl ?_ (fun K hK => ?_); (first | exact Go.Mix.wanted_none rfl | exact Go.Mix.wanted_tt rfl rfl rfl | exact Go.Mix.wanted_ff rfl rfl rfl); go_simp; (try (go_ints; try go_simp)); refine hK _ ?_; clear hK K)))
    refine Go.Flo.fw_nil ?_
    intro w4 hww4 hfw4 huw4
    refine Go.Flo.tw_nil ?_
    obtain ⟨iend, hiend⟩ := hww4
    have hbw4 := HW.out iend
    rw [← hiend] at hbw4
    clear hiend iend huw4
    have hsays : w4.ownsRow w.heap.size 5 1 (.slice a8 (whole B).length c8) (whole B).length (bl (whole B)) := ((hfw4 (some 58)).1.1.2 rfl).1
    clear hfw4 HJ HW hne k3
    clear W I
    rw [HWL.out] at hsays
    rw [HWL.out]
    go_wp2
    go_ret2
    refine ⟨HB2.out.trans (hbw4.mono (by omega)), .inr ⟨HE.out, _, rfl, ?_⟩⟩
    rw [HMK.out] at hsays
    rw [show len + 8 = M + 2 by have := HM.out; omega]
    exact hsays
  · go_enter Try.func65, Try.ntmps65
    go_wp2_with fail
    skip
    have hhead : (#[.int .u8 ((y : Int) + 16), .int .u8 ((a : Int) % 256), .int .u8 (z : Int), .int .u8 ((c : Int) % 256), .int .u8 (((len : Int) + 2 - 1) / 256), .int .u8 ((len : Int) + 2 - 1)] : Array Value) = (bl (pkHead 1 a c len)).toArray := by
      have e0 : ((y : Int) + 16) = ((1 * 16 + 8 + a / 256 : Nat) : Int) := by have := HY.out; omega
      have e1 : (a : Int) % 256 = ((a % 256 : Nat) : Int) := by omega
      have e2 : (z : Int) = ((192 + c / 256 : Nat) : Int) := by have := HZ.out; omega
      have e3 : (c : Int) % 256 = ((c % 256 : Nat) : Int) := by omega
      have e4 : ((len : Int) + 2 - 1) / 256 = (((len + 1) / 256 : Nat) : Int) := by omega
      have e5 : (len : Int) + 2 - 1 = (((len + 1) % 256 : Nat) : Int) := by omega
      rw [e4, e5, e0, e1, e2, e3]
      rfl
    rw [hhead]
    have hbH := pkHead_bytes (k := 1) (a := a) (c := c) (n := len) (by omega) (by omega) (by omega) (by omega)
    have hlH := pkHead_len 1 a c len
    have hmk : whole (pkHead 1 a c len ++ d) = mkPkt 1 a c d := by unfold mkPkt; rw [HL.out]
    obtain ⟨H, hH⟩ : ∃ H, H = pkHead 1 a c len := ⟨_, rfl⟩
    rw [← hH] at hbH hlH hmk ⊢
    have hc2 := heap_alloc2_new w (.cells #[.bool true, .int .u16 a, .int .u16 c, .slice x len cap] 121) (.cells (bl H).toArray 5)
    have hc1 := heap_alloc2_old w (.cells #[.bool true, .int .u16 a, .int .u16 c, .slice x len cap] 121) (.cells (bl H).toArray 5)
    have hb2 : Below w.heap.size w ((w.alloc (.cells #[.bool true, .int .u16 a, .int .u16 c, .slice x len cap] 121)).alloc (.cells (bl H).toArray 5)) := by repeat' (first | (with_reducible exact Below.refl _ _) | (with_reducible assumption) | (with_reducible refine Below.setCell ?_ ?_ _) | (with_reducible refine Below.alloc ?_ ?_ _) | (with_reducible refine Below.drew ?_) | (with_reducible refine Below.drawsN ?_ _) | go_size)
    have hz2 : ((w.alloc (.cells #[.bool true, .int .u16 a, .int .u16 c, .slice x len cap] 121)).alloc (.cells (bl H).toArray 5)).heap.size = w.heap.size + 2 := by simp
    obtain ⟨w1, hw1⟩ : ∃ w1, w1 = (w.alloc (.cells #[.bool true, .int .u16 a, .int .u16 c, .slice x len cap] 121)).alloc (.cells (bl H).toArray 5) := ⟨_, rfl⟩
    rw [← hw1] at hc1 hc2 hb2 hz2 ⊢
    have hR1 := Lib.hid (HR.out.below' hb2 hn)
    have hc13 := cell_of_row w1 w.heap.size 3 _ _ _ hc1
    have hBl : (H ++ d).length = 6 + len := by rw [List.length_append, hlH, HL.out]
    have hBb : bytes (H ++ d) := hbH.append hb
    obtain ⟨B, hB⟩ : ∃ B, B = H ++ d := ⟨_, rfl⟩
    obtain ⟨M, hM⟩ : ∃ M, M = 6 + len := ⟨_, rfl⟩
    rw [← hB, ← hM] at hBl
    rw [← hB] at hBb hmk
    have hM1 : M ≤ 206 := by omega
    have HB := Lib.hid hB
    have HM := Lib.hid hM
    have hwl := whole_len B
    rw [hBl] at hwl
    have HWL := Lib.hid hwl
    have HBL := Lib.hid hBl
    have HHL := Lib.hid hlH
    have HC2 := Lib.hid hc2
    have HB2 := Lib.hid hb2
    have HMK := Lib.hid hmk
    clear hB hM hwl hw1 hhead hH hBl hlH hc1 hc2 hb2 hmk o1 o2 o3
    obtain ⟨I, W, hne, hWI, hIW⟩ := Go.Mix.family (fun v => Below w1.heap.size w1 v) (Below.refl _ _)
    have HJ := Lib.hid hIW
    have HW := Lib.hid hWI
    clear hWI hIW
    refine Go.Flo.wp_region (fun w' => ∃ i, w' = W i) 8 [Go.Flo.Spec.is (.agg tabV), SpB B, SpO w.heap.size (whole B)] (by kernel_rfl) (by kernel_rfl) (by decide) (by rintro _ w' ⟨i, rfl⟩ hb; exact HJ.out _ ((HW.out i).trans (hb.mono (HW.out i).size))) (HJ.out _ (Below.refl _ _).drew) ?_
    simp only [Go.Flo.pair, Go.Mix.calm, List.take, List.drop, if_true, Bool.false_eq_true, if_false, Nat.reduceAdd, Nat.reduceSub]
    have k3 : ∀ i, (W i).cell? ⟨w.heap.size, 3, none⟩ = some (.slice x len cap) := fun i => ((HW.out i).cell (p := ⟨w.heap.size, 3, none⟩) (show w.heap.size < _ by omega)).trans hc13
    (repeat (first | (refine Go.Flo.fw_calm rfl ?_ (fun K hK => ?_); (first | exact Go.Mix.wanted_none rfl | exact Go.Mix.wanted_tt rfl rfl rfl | exact Go.Mix.wanted_ff rfl rfl rfl); go_big_quiet_op; refine hK _ ?_; clear hK K) | (refine Go.Flo.fw_skip ?_ (fun K hK => ?_); (first | exact Go.Mix.wanted_tf rfl rfl rfl | exact Go.Mix.wanted_ft rfl rfl rfl); go_simp; refine hK _ ?_; clear hK K) | (refine Go.Flo.fw_any rfl ?_ (fun K hK => ?_); (first | exact Go.Mix.wanted_none rfl | exact Go.Mix.wanted_tt rfl rfl rfl | exact Go.Mix.wanted_ff rfl rfl rfl); go_simp; (try (go_ints; try go_simp)); refine hK _ ?_; clear hK K)))
    refine Go.Flo.fw_loud rfl ?_ rfl (by simp) (fun wv hwv hav K hK => ?_) (fun v hv K hK => ?_)
    · (first | exact Go.Mix.wanted_none rfl | exact Go.Mix.wanted_tt rfl rfl rfl | exact Go.Mix.wanted_ff rfl rfl rfl)
    · obtain ⟨iv, rfl⟩ := hwv
      have hbv := HW.out iv
      (first | go_big_op | go_simp)
      go_at_call 84
      refine (Make_any _).mono ?_
      rintro e w' ⟨rfl, hbb⟩
      exact hK _ _ (Go.Flo.owes_is _ rfl hbb)
    obtain rfl := hv.is
    go_simp
    refine hK _ ?_
    clear hK K hv
    (repeat (first | (refine Go.Flo.fw_calm rfl ?_ (fun K hK => ?_); (first | exact Go.Mix.wanted_none rfl | exact Go.Mix.wanted_tt rfl rfl rfl | exact Go.Mix.wanted_ff rfl rfl rfl); go_big_quiet_op; refine hK _ ?_; clear hK K) | (refine Go.Flo.fw_skip ?_ (fun K hK => ?_); (first | exact Go.Mix.wanted_tf rfl rfl rfl | exact Go.Mix.wanted_ft rfl rfl rfl); go_simp; refine hK _ ?_; clear hK K) | (refine Go.Flo.fw_any rfl ?_ (fun K hK => ?_); (first | exact Go.Mix.wanted_none rfl | exact Go.Mix.wanted_tt rfl rfl rfl | exact Go.Mix.wanted_ff rfl rfl rfl); go_simp; (try (go_ints; try go_simp)); refine hK _ ?_; clear hK K)))
    refine Go.Flo.fw_loud rfl ?_ rfl (by simp) (fun wv hwv hav K hK => ?_) (fun v hv K hK => ?_)
    · (first | exact Go.Mix.wanted_none rfl | exact Go.Mix.wanted_tt rfl rfl rfl | exact Go.Mix.wanted_ff rfl rfl rfl)
    · obtain ⟨iv, rfl⟩ := hwv
      have hbv := HW.out iv
      refine wp_append_full (.tmp 54) (.tmp 56) rfl rfl rfl HHL.out HL.out (box_below HC2.out hbv (by omega)) (hR1.out.below' hbv (by omega)) (by have := hbv.size; omega) (by omega) ?_
      intro b9 c9 w9 hr9 hb9
      rw [← HB.out, ← HM.out] at hr9
      rw [← HM.out]
      exact hK _ _ (owes_Bf HBL.out rfl hb9 hr9)
    obtain ⟨a9, c9, rfl⟩ := ex_B hv
    rw [HBL.out]
    go_simp
    refine hK _ ?_
    clear hK K hv
    (repeat (first | (refine Go.Flo.fw_calm rfl ?_ (fun K hK => ?_); (first | exact Go.Mix.wanted_none rfl | exact Go.Mix.wanted_tt rfl rfl rfl | exact Go.Mix.wanted_ff rfl rfl rfl); go_big_quiet_op; refine hK _ ?_; clear hK K) | (refine Go.Flo.fw_skip ?_ (fun K hK => ?_); (first | exact Go.Mix.wanted_tf rfl rfl rfl | exact Go.Mix.wanted_ft rfl rfl rfl); go_simp; refine hK _ ?_; clear hK K) | (refine Go.Flo.fw_any rfl ?_ (fun K hK => ?_); (first | exact Go.Mix.wanted_none rfl | exact Go.Mix.wanted_tt rfl rfl rfl | exact Go.Mix.wanted_ff rfl rfl rfl); go_simp; (try (go_ints; try go_simp)); refine hK _ ?_; clear hK K)))
    refine Go.Flo.fw_loud rfl ?_ rfl (by simp) (fun wv hwv hav K hK => ?_) (fun v hv K hK => ?_)
    · (first | exact Go.Mix.wanted_none rfl | exact Go.Mix.wanted_tt rfl rfl rfl | exact Go.Mix.wanted_ff rfl rfl rfl)
    · obtain ⟨iv, rfl⟩ := hwv
      have hbv := HW.out iv
      (first | go_big_op | go_simp)
      have hs := says_B ((hav 57 (by decide +kernel)).2 rfl).1
      rw [HBL.out] at hs
      go_at_call 85
      refine (TAppend_any a9 M c9 _ B _ HBL.out (Nat.le_refl _) hs hBb (by omega)).mono ?_
      rintro e w' ⟨v, rfl, hown, hbb⟩
      exact hK _ _ (owes_O HWL.out rfl hbb hown (by have := hbv.size; omega))
    obtain ⟨a8, c8, rfl⟩ := ex_O hv
    go_simp
    refine hK _ ?_
    clear hK K hv
    (repeat (first | (refine Go.Flo.fw_calm rfl ?_ (fun K hK => ?_); (first | exact Go.Mix.wanted_none rfl | exact Go.Mix.wanted_tt rfl rfl rfl | exact Go.Mix.wanted_ff rfl rfl rfl); go_big_quiet_op; refine hK _ ?_; clear hK K) | (refine Go.Flo.fw_skip ?_ (fun K hK => ?_); (first | exact Go.Mix.wanted_tf rfl rfl rfl | exact Go.Mix.wanted_ft rfl rfl rfl); go_simp; refine hK _ ?_; clear hK K) | (refine Go.Flo.fw_any rfl ?_ (fun K hK => ?_); (first | exact Go.Mix.wanted_none rfl | exact Go.Mix.wanted_tt rfl rfl rfl | exact Go.Mix.wanted_ff rfl rfl rfl); go_simp; (try (go_ints; try go_simp)); refine hK _ ?_; clear hK K)))
    refine Go.Flo.fw_nil ?_
    intro w4 hww4 hfw4 huw4
    refine Go.Flo.tw_nil ?_
    obtain ⟨iend, hiend⟩ := hww4
    have hbw4 := HW.out iend
    rw [← hiend] at hbw4
    clear hiend iend huw4
    have hsays : w4.ownsRow w.heap.size 5 1 (.slice a8 (whole B).length c8) (whole B).length (bl (whole B)) := ((hfw4 (some 58)).1.1.2 rfl).1
    clear hfw4 HJ HW hne k3
    clear W I
    rw [HWL.out] at hsays
    rw [HWL.out]
    go_wp2
    go_ret2
    refine ⟨HB2.out.trans (hbw4.mono (by omega)), .inr ⟨HE.out, _, rfl, ?_⟩⟩
    rw [HMK.out] at hsays
    rw [show len + 8 = M + 2 by have := HM.out; omega]
    exact hsays
end Go.Proofs.Ytmihhapedpalmaa
