/- Plants: Step. -/
import Derived.Test.YtkgeeohgfbacaaaPlO
import Derived.Test.YtkgeeohgfbacaaaPlS
namespace Go.Proofs.Ytkgeeohgfbacaaa
open Go.RowKit Go.Own
set_option linter.unusedVariables false
set_option linter.unusedSimpArgs false
theorem res_ctt {P : Program} {fn : Func} {p u v : Tmp} {ty : TypeId} (h : fn.results = #[.cell p ty, .tmp u, .tmp v]) (tmps : Array Value) (w : World) (g : Nat) (t : TypeId) (cs : Array Value) (fr : Nat × Nat) {d : TypeDesc}
    (hp : tmps.getD p undef = .pointer (some ⟨g, 0, none⟩)) (hg : w.heap[g]? = some (.cells cs t fr))
    (hu : P.underlying ty = some d) (hd : (match d with | .struct _ | .array _ _ => true | _ => false) = true) (hi : (P.info? ty).map (·.size) = some cs.size) :
    (results fn tmps).run P w = .ok (.tuple #[.agg cs, tmps.getD u undef, tmps.getD v undef]) w := by
  have hp' : tmps[p]?.getD undef = .pointer (some ⟨g, 0, none⟩) := by simpa using hp
  unfold results
  simp [h, hp', asAddr, run_loadVar_row w g t ty cs fr d hg hu hd hi]
/-- Is it in the set? -/
def hasB (s : Nat) (j : Nat) : Bool := decide (s &&& Bs.bit1 (j : Nat) ≠ 0)
/-- The first k stepped. -/
def Pl.stepped (p : Pl) (a b : Nat) (k : Nat) : Pl := ⟨fun j => if j < k then uStep (p.u j) (hasB a j) (hasB b j) (p.tol j) else p.u j, p.wt, p.tol, p.n⟩
def becB (p : Pl) (a b : Nat) (v : Int) (j : Nat) : Bool := decide (uBec (p.u j) (hasB a j) (hasB b j) (p.tol j) = v)
theorem uBec_012 (u : Un) (x y : Bool) (t : Int) : uBec u x y t = 0 ∨ uBec u x y t = 1 ∨ uBec u x y t = 2 := by
  unfold uBec
  split
  · split
    · exact .inr (.inl rfl)
    · split
      · exact .inr (.inr rfl)
      · exact .inl rfl
  · split
    · split
      · exact .inl rfl
      · split
        · exact .inr (.inr rfl)
        · exact .inl rfl
    · exact .inl rfl
theorem stepped_next (p : Pl) (a b k : Nat) : ((p.stepped a b k).set k (uStep (p.u k) (hasB a k) (hasB b k) (p.tol k))).cs = (p.stepped a b (k + 1)).cs := by
  refine Pl.ext_cs (fun i _ => ?_) (fun _ _ => rfl) (fun _ _ => rfl) rfl
  show (if i = k then uStep (p.u k) (hasB a k) (hasB b k) (p.tol k) else if i < k then uStep (p.u i) (hasB a i) (hasB b i) (p.tol i) else p.u i) = if i < k + 1 then uStep (p.u i) (hasB a i) (hasB b i) (p.tol i) else p.u i
  by_cases e : i = k
  · subst e; rw [if_pos rfl, if_pos (by omega)]
  · rw [if_neg e]
    by_cases e2 : i < k
    · rw [if_pos e2, if_pos (by omega)]
    · rw [if_neg e2, if_neg (by omega)]
theorem stepped0 (p : Pl) (a b : Nat) : p.cs = (p.stepped a b 0).cs := by
  refine Pl.ext_cs (fun i _ => ?_) (fun _ _ => rfl) (fun _ _ => rfl) rfl
  show p.u i = if i < 0 then uStep (p.u i) (hasB a i) (hasB b i) (p.tol i) else p.u i
  rw [if_neg (Nat.not_lt_zero i)]
theorem Step_det2 (s l b : Int) (ack well : Bool) (wt tol s' l' b' n' : Int) (w : World) (l0 : 0 ≤ l) (l1 : l ≤ 255) (b0 : 0 ≤ b) (b1 : b ≤ 255) (t1 : tol ≤ 255) (hu : Un.mk s' l' b' = uStep ⟨s, l, b⟩ ack well tol) (hn : n' = uBec ⟨s, l, b⟩ ack well tol) :
    Calls Try.prog 99 #[.agg #[.int .u8 s, .int .u8 l, .int .u8 b], .bool ack, .bool well, .agg #[.int .u8 wt, .int .u8 tol]] w fun e w' => e = .returned (.tuple #[.agg #[.int .u8 s', .int .u8 l', .int .u8 b'], .int .u8 n']) ∧ Below w.heap.size w w' := by
  refine (Step_any s l b ack well wt tol w l0 l1 b0 b1 t1).mono ?_
  rintro e w' ⟨s2, l2, b2, n2, rfl, h2, h3, hb⟩
  obtain ⟨rfl, rfl, rfl⟩ := Un.inj (h2.trans hu.symm)
  obtain rfl := h3.trans hn.symm
  exact ⟨rfl, hb⟩
/-- Where the loop stands. -/
structure StSt (w wr : World) (g3 g6 : Nat) (q : Pl) : Prop where
  be : Below w.heap.size w wr
  bp : PlB wr g3 q
  bz : PlB wr g6 (Pl.empty 0)
  h3 : w.heap.size ≤ g3
  h6 : w.heap.size ≤ g6
  n36 : g3 ≠ g6
theorem StSt.step {w wr w' : World} {g3 g6 : Nat} {q : Pl} (h : StSt w wr g3 g6 q) (hb : Below wr.heap.size wr w') : StSt w w' g3 g6 q :=
  ⟨h.be.trans (hb.mono h.be.size), h.bp.below hb (Nat.le_refl _), h.bz.below hb (Nat.le_refl _), h.h3, h.h6, h.n36⟩
theorem StSt.set {w wr : World} {g3 g6 i : Nat} {q : Pl} (h : StSt w wr g3 g6 q) (hi : i < 16) (s l b : Int) :
    StSt w (((wr.setCell ⟨g3, i * 5, none⟩ (.int .u8 s)).setCell ⟨g3, i * 5 + 1, none⟩ (.int .u8 l)).setCell ⟨g3, i * 5 + 2, none⟩ (.int .u8 b)) g3 g6 (q.set i ⟨s, l, b⟩) :=
  ⟨((h.be.setCell (p := ⟨g3, i * 5, none⟩) h.h3 _).setCell (p := ⟨g3, i * 5 + 1, none⟩) h.h3 _).setCell (p := ⟨g3, i * 5 + 2, none⟩) h.h3 _, h.bp.set hi s l b,
   (heap_setCell_other _ ⟨g3, i * 5 + 2, none⟩ g6 _ (Ne.symm h.n36)).trans ((heap_setCell_other _ ⟨g3, i * 5 + 1, none⟩ g6 _ (Ne.symm h.n36)).trans ((heap_setCell_other _ ⟨g3, i * 5, none⟩ g6 _ (Ne.symm h.n36)).trans h.bz)), h.h3, h.h6, h.n36⟩
theorem StSt.same {w wr : World} {g3 g6 : Nat} {q q' : Pl} (h : StSt w wr g3 g6 q) (e : q.cs = q'.cs) : StSt w wr g3 g6 q' := ⟨h.be, by have := h.bp; unfold PlB at this ⊢; rw [← e]; exact this, h.bz, h.h3, h.h6, h.n36⟩
/- a set gets one more: #1 the set's number, #2 the hidden state, #3 the equation of the new set -/
set_option maxRecDepth 100000 in
set_option maxHeartbeats 8000000 in
theorem pStep (p : Pl) (a b : Nat) (w : World) (hok : p.Ok) (ha : a < 65536) (hb : b < 65536) :
    Calls Try.prog 48 #[.agg p.cs, .int .u16 (a : Nat), .int .u16 (b : Nat)] w fun e w' => e = .returned (.tuple #[.agg (p.stepped a b p.n).cs, .int .u16 (setN (becB p a b 1) p.n : Nat), .int .u16 (setN (becB p a b 2) p.n : Nat)]) ∧ Below w.heap.size w w' := by
  have hS0 : StSt w ((w.alloc (.cells p.cs 95)).alloc (.cells (Pl.empty 0).cs 95)) w.heap.size (w.heap.size + 1) (p.stepped a b 0) :=
    StSt.same ⟨by repeat' (first | (with_reducible exact Below.refl _ _) | (with_reducible assumption) | (with_reducible refine Below.setCell ?_ ?_ _) | (with_reducible refine Below.alloc ?_ ?_ _) | (with_reducible refine Below.drew ?_) | (with_reducible refine Below.drawsN ?_ _) | go_size), (PlB.new w p).alloc _, heap_alloc2_new _ _ _, by omega, by omega, by omega⟩ (stepped0 p a b)
  have c0 := ((PlB.new w p).alloc (.cells (Pl.empty 0).cs 95)).cellC
  have HOK := Lib.hid hok
  have hn16 := hok.n
  have HS := Lib.hid hS0
  clear hS0 hok
  go_enter Try.func48, Try.ntmps48
  go_wp2_with fail
  obtain ⟨ws, hws⟩ : ∃ ws, ws = ((w.alloc (.cells p.cs 95)).alloc (.cells (Pl.empty 0).cs 95)) := ⟨_, rfl⟩
  obtain ⟨g3, e3⟩ : ∃ g, g = w.heap.size := ⟨_, rfl⟩
  obtain ⟨g6, e6⟩ : ∃ g, g = g3 + 1 := ⟨_, rfl⟩
  have hS1 : StSt w ws g3 g6 (p.stepped a b 0) := by rw [hws, e6, e3]; exact HS.out
  rw [← hws, ← e3, ← e6]
  clear HS c0 hws e6 e3
  have HS := Lib.hid hS1
  clear hS1
  go_loopw [9, 10, 17] (fun x y i wr => ∃ k : Nat, k ≤ p.n ∧ i = .int .i64 k ∧ x = .int .u16 (setN (becB p a b 1) k : Nat) ∧ y = .int .u16 (setN (becB p a b 2) k : Nat) ∧ StSt w wr g3 g6 (p.stepped a b k)) (fun _ _ i _ => p.n - (intOf i).toNat)
  case atStart => exact ⟨0, Nat.zero_le _, rfl, rfl, rfl, HS.out⟩
  case round =>
    obtain ⟨k, hk, rfl, rfl, rfl, hS⟩ := hrel
    clear HS
    obtain ⟨x, hx⟩ : ∃ x, x = setN (becB p a b 1) k := ⟨_, rfl⟩
    obtain ⟨y, hy⟩ : ∃ y, y = setN (becB p a b 2) k := ⟨_, rfl⟩
    have hxl : x < 65536 := by rw [hx]; exact setN_lt _ k
    have hyl : y < 65536 := by rw [hy]; exact setN_lt _ k
    rw [← hx, ← hy]
    have HXY := Lib.hid (And.intro hx hy)
    clear hx hy
    by_cases hlt : k < p.n
    · have hk16 : k < 16 := by omega
      obtain ⟨s, l, bd, hu⟩ : ∃ s l b, p.u k = Un.mk s l b := ⟨_, _, _, rfl⟩
      obtain ⟨wt, hw⟩ : ∃ t, p.wt k = t := ⟨_, rfl⟩
      obtain ⟨tol, ht⟩ : ∃ t, p.tol k = t := ⟨_, rfl⟩
      have hqu : (p.stepped a b k).u k = Un.mk s l bd := (if_neg (Nat.lt_irrefl k)).trans hu
      have c0 := hS.bp.cellS hk16
      have c1 := hS.bp.cellL hk16
      have c2 := hS.bp.cellB hk16
      have c3 := hS.bp.cellW hk16
      have c4 := hS.bp.cellT hk16
      rw [hqu] at c0 c1 c2
      rw [show (p.stepped a b k).wt k = wt from hw] at c3
      rw [show (p.stepped a b k).tol k = tol from ht] at c4
      have b1 := HOK.out.l k hk16
      have b2 := HOK.out.b k hk16
      have b3 := HOK.out.t k hk16
      rw [hu] at b1 b2
      rw [ht] at b3
      simp only at b1 b2
      obtain ⟨ha1, hha1⟩ : ∃ t, t = hasB a k := ⟨_, rfl⟩
      obtain ⟨hw1, hhw1⟩ : ∃ t, t = hasB b k := ⟨_, rfl⟩
      obtain ⟨s', l', b', n', hs', hn'⟩ : ∃ s' l' b' n' : Int, Un.mk s' l' b' = uStep ⟨s, l, bd⟩ ha1 hw1 tol ∧ n' = uBec ⟨s, l, bd⟩ ha1 hw1 tol := ⟨_, _, _, _, rfl, rfl⟩
      have h012 : n' = 0 ∨ n' = 1 ∨ n' = 2 := by rw [hn']; exact uBec_012 _ _ _ _
      have hnext : ((p.stepped a b k).set k ⟨s', l', b'⟩).cs = (p.stepped a b (k + 1)).cs := by
        rw [hs', ← stepped_next, hu, ht, ← hha1, ← hhw1]
      have hbec : ∀ v : Int, becB p a b v k = decide (n' = v) := by
        intro v
        unfold becB
        rw [hu, ht, ← hha1, ← hhw1, ← hn']
      have HU := Lib.hid (And.intro hs' hn')
      have HN := Lib.hid (And.intro hnext hbec)
      have HH := Lib.hid (And.intro hha1 hhw1)
      have hg3 := box_lt hS.bp
      have HS1 := Lib.hid hS
      clear hu hw ht hqu hs' hn' hnext hbec hha1 hhw1 hS
      go_wp2_with fail
      obtain ⟨I, W, hne, hWI, hIW⟩ := Go.Mix.family (fun v => Below wr.heap.size wr v) (Below.refl _ _)
      have HJ := Lib.hid hIW
      have HW := Lib.hid hWI
      clear hWI hIW
      refine Go.Flo3.wp_region (fun w' => ∃ i, w' = W i) 19 [Go.Flo.Spec.is (.bool ha1), Go.Flo.Spec.is (.bool hw1), Go.Flo.Spec.is (.tuple #[.agg #[.int .u8 s', .int .u8 l', .int .u8 b'], .int .u8 n']), Go.Flo.Spec.ptr wr.heap.size #[.int .u8 0, .int .u8 0, .int .u8 0] 88] (by kernel_rfl) (by kernel_rfl) (by decide) (by rintro _ w' ⟨i, rfl⟩ hb; exact HJ.out _ ((HW.out i).trans (hb.mono (HW.out i).size))) (HJ.out _ (Below.refl _ _).drew) ?_
      simp only [Go.Flo.pair, Go.Mix.calm, List.take, List.drop, if_true, Bool.false_eq_true, if_false, Nat.reduceAdd, Nat.reduceSub]
      have k0 : ∀ i, (W i).cell? ⟨g3, k * 5, none⟩ = some (.int .u8 s) := fun i => ((HW.out i).cell (p := ⟨g3, k * 5, none⟩) hg3).trans c0
      have k1 : ∀ i, (W i).cell? ⟨g3, k * 5 + 1, none⟩ = some (.int .u8 l) := fun i => ((HW.out i).cell (p := ⟨g3, k * 5 + 1, none⟩) hg3).trans c1
      have k2 : ∀ i, (W i).cell? ⟨g3, k * 5 + 2, none⟩ = some (.int .u8 bd) := fun i => ((HW.out i).cell (p := ⟨g3, k * 5 + 2, none⟩) hg3).trans c2
      have k3 : ∀ i, (W i).cell? ⟨g3, k * 5 + 3, none⟩ = some (.int .u8 wt) := fun i => ((HW.out i).cell (p := ⟨g3, k * 5 + 3, none⟩) hg3).trans c3
      have k4 : ∀ i, (W i).cell? ⟨g3, k * 5 + 4, none⟩ = some (.int .u8 tol) := fun i => ((HW.out i).cell (p := ⟨g3, k * 5 + 4, none⟩) hg3).trans c4
      (repeat (first | (refine Go.Flo.fw_calm rfl ?_ (fun K hK => ?_); (first | exact Go.Mix.wanted_none rfl | exact Go.Mix.wanted_tt rfl rfl rfl | exact Go.Mix.wanted_ff rfl rfl rfl); go_big_quiet_op; refine hK _ ?_; clear hK K) | (refine Go.Flo.fw_skip ?_ (fun K hK => ?_); (first | exact Go.Mix.wanted_tf rfl rfl rfl | exact Go.Mix.wanted_ft rfl rfl rfl); go_simp; refine hK _ ?_; clear hK K) | (refine Go.Flo.fw_any rfl ?_ (fun K hK => ?_); (first | exact Go.Mix.wanted_none rfl | exact Go.Mix.wanted_tt rfl rfl rfl | exact Go.Mix.wanted_ff rfl rfl rfl); go_simp; (try (go_ints; try go_simp)); refine hK _ ?_; clear hK K)))
      refine Go.Flo.fw_loud rfl ?_ rfl (by simp) (fun wv hwv hav K hK => ?_) (fun v hv K hK => ?_)
      · (first | exact Go.Mix.wanted_none rfl | exact Go.Mix.wanted_tt rfl rfl rfl | exact Go.Mix.wanted_ff rfl rfl rfl)
      · obtain ⟨iv, rfl⟩ := hwv
        have hbv := HW.out iv
        (first | go_big_op | go_simp)
        go_at_call 100
        refine (Bs.Has_any a k _ ha).mono ?_
        rintro e w' ⟨rfl, hb⟩
        rw [show decide (a &&& Bs.bit1 ((k : Nat) : Int) ≠ 0) = ha1 from HH.out.1.symm]
        exact hK _ _ (Go.Flo.owes_is _ rfl hb)
      obtain rfl := hv.is
      go_simp
      refine hK _ ?_
      clear hK K hv
      (repeat (first | (refine Go.Flo.fw_calm rfl ?_ (fun K hK => ?_); (first | exact Go.Mix.wanted_none rfl | exact Go.Mix.wanted_tt rfl rfl rfl | exact Go.Mix.wanted_ff rfl rfl rfl); go_big_quiet_op; refine hK _ ?_; clear hK K) | (refine Go.Flo.fw_skip ?_ (fun K hK => ?_); (first | exact Go.Mix.wanted_tf rfl rfl rfl | exact Go.Mix.wanted_ft rfl rfl rfl); go_simp; refine hK _ ?_; clear hK K) | (refine Go.Flo.fw_any rfl ?_ (fun K hK => ?_); (first | exact Go.Mix.wanted_none rfl | exact Go.Mix.wanted_tt rfl rfl rfl | exact Go.Mix.wanted_ff rfl rfl rfl); go_simp; (try (go_ints; try go_simp)); refine hK _ ?_; clear hK K)))
      refine Go.Flo.fw_loud rfl ?_ rfl (by simp) (fun wv hwv hav K hK => ?_) (fun v hv K hK => ?_)
      · (first | exact Go.Mix.wanted_none rfl | exact Go.Mix.wanted_tt rfl rfl rfl | exact Go.Mix.wanted_ff rfl rfl rfl)
      · obtain ⟨iv, rfl⟩ := hwv
        have hbv := HW.out iv
        (first | go_big_op | go_simp)
        go_at_call 100
        refine (Bs.Has_any b k _ hb).mono ?_
        rintro e w' ⟨rfl, hb⟩
        rw [show decide (b &&& Bs.bit1 ((k : Nat) : Int) ≠ 0) = hw1 from HH.out.2.symm]
        exact hK _ _ (Go.Flo.owes_is _ rfl hb)
      obtain rfl := hv.is
      go_simp
      refine hK _ ?_
      clear hK K hv
      (repeat (first | (refine Go.Flo.fw_calm rfl ?_ (fun K hK => ?_); (first | exact Go.Mix.wanted_none rfl | exact Go.Mix.wanted_tt rfl rfl rfl | exact Go.Mix.wanted_ff rfl rfl rfl); go_big_quiet_op; refine hK _ ?_; clear hK K) | (refine Go.Flo.fw_skip ?_ (fun K hK => ?_); (first | exact Go.Mix.wanted_tf rfl rfl rfl | exact Go.Mix.wanted_ft rfl rfl rfl); go_simp; refine hK _ ?_; clear hK K) | (refine Go.Flo.fw_any rfl ?_ (fun K hK => ?_); (first | exact Go.Mix.wanted_none rfl | exact Go.Mix.wanted_tt rfl rfl rfl | exact Go.Mix.wanted_ff rfl rfl rfl); go_simp; (try (go_ints; try go_simp)); refine hK _ ?_; clear hK K)))
      refine Go.Flo.fw_loud rfl ?_ rfl (by simp) (fun wv hwv hav K hK => ?_) (fun v hv K hK => ?_)
      · (first | exact Go.Mix.wanted_none rfl | exact Go.Mix.wanted_tt rfl rfl rfl | exact Go.Mix.wanted_ff rfl rfl rfl)
      · obtain ⟨iv, rfl⟩ := hwv
        have hbv := HW.out iv
        (first | go_big_op | go_simp)
        go_at_call 99
        refine (Step_det2 s l bd ha1 hw1 wt tol s' l' b' n' _ b1.1 b1.2 b2.1 b2.2 b3.2 HU.out.1 HU.out.2).mono ?_
        rintro e w' ⟨rfl, hb⟩
        exact hK _ _ (Go.Flo.owes_is _ rfl hb)
      obtain rfl := hv.is
      go_simp
      refine hK _ ?_
      clear hK K hv
      (repeat (first | (refine Go.Flo.fw_calm rfl ?_ (fun K hK => ?_); (first | exact Go.Mix.wanted_none rfl | exact Go.Mix.wanted_tt rfl rfl rfl | exact Go.Mix.wanted_ff rfl rfl rfl); go_big_quiet_op; refine hK _ ?_; clear hK K) | (refine Go.Flo.fw_skip ?_ (fun K hK => ?_); (first | exact Go.Mix.wanted_tf rfl rfl rfl | exact Go.Mix.wanted_ft rfl rfl rfl); go_simp; refine hK _ ?_; clear hK K) | (refine Go.Flo.fw_any rfl ?_ (fun K hK => ?_); (first | exact Go.Mix.wanted_none rfl | exact Go.Mix.wanted_tt rfl rfl rfl | exact Go.Mix.wanted_ff rfl rfl rfl); go_simp; (try (go_ints; try go_simp)); refine hK _ ?_; clear hK K)))
      refine Go.Flo.fw_loud rfl ?_ rfl (by simp) (fun wv hwv hav K hK => ?_) (fun v hv K hK => ?_)
      · (first | exact Go.Mix.wanted_none rfl | exact Go.Mix.wanted_tt rfl rfl rfl | exact Go.Mix.wanted_ff rfl rfl rfl)
      · obtain ⟨iv, rfl⟩ := hwv
        (first | go_big_op | go_simp)
        refine hK _ _ (Go.Flo.owes_ptr (HW.out iv).size)
      obtain ⟨x1, hx1, rfl, hnx1⟩ := hv.ptr rfl
      go_simp
      refine hK _ ?_
      clear hK K hv
      refine Go.Flo.fw_nil ?_
      intro w2 hww2 hfw2 huw2
      obtain ⟨iend, hiend⟩ := hww2
      have hbw2 := HW.out iend
      rw [← hiend] at hbw2
      clear hiend iend huw2
      have hC2 := Go.Flo.says_ptr ((hfw2 (some 13)).2 rfl).1
      have hC3 := setRow_heap _ _ _ #[.int .u8 s', .int .u8 l', .int .u8 b'] _ _ hC2
      have hS3 := HS1.out.step (bel_row hbw2 hx1 #[.int .u8 s', .int .u8 l', .int .u8 b'])
      clear hfw2 HJ HW hne k0 k1 k2 k3 k4 c0 c1 c2 c3 c4 hbw2 HS1 hg3
      clear W I
      refine ⟨fun _ => True, trivial, ?_⟩

      (refine Go.Mix.walk_loud rfl ?_ (fun K hK => ?_); (first | exact Go.Mix.wanted_none rfl | exact Go.Mix.wanted_tt rfl rfl rfl | exact Go.Mix.wanted_ff rfl rfl rfl); refine wp_store_row 88 _ _ rfl _ #[.int .u8 s', .int .u8 l', .int .u8 b'] rfl rfl 88 _ hC2 size_un rfl (by simp [Value.oneCell']) (hK _ _ trivial ?_); clear hK K)
      (repeat (first | (refine Go.Mix.walk_calm rfl ?_ (fun K hK => ?_); (first | exact Go.Mix.wanted_none rfl | exact Go.Mix.wanted_tt rfl rfl rfl | exact Go.Mix.wanted_ff rfl rfl rfl); go_big_quiet_op; refine hK _ ?_; clear hK K) | (refine Go.Mix.walk_skip ?_ (fun K hK => ?_); (first | exact Go.Mix.wanted_tf rfl rfl rfl | exact Go.Mix.wanted_ft rfl rfl rfl); go_simp; refine hK _ ?_; clear hK K) | (refine Go.Mix.walk_loud rfl ?_ (fun K hK => ?_); (first | exact Go.Mix.wanted_none rfl | exact Go.Mix.wanted_tt rfl rfl rfl | exact Go.Mix.wanted_ff rfl rfl rfl); (first | go_big_op | go_simp); (first | (refine hK _ _ trivial ?_; clear hK K) | (fail; (try dsimp only); refine hK _ _ trivial ?_; clear hK K))) | (refine Go.Mix.walk_step (fun K hK => ?_); go_simp; (try (go_ints; try go_simp)); refine hK _ _ ?_; clear hK K)))
      refine Go.Mix.walk_nil ?_
      obtain ⟨w3, hw3⟩ : ∃ w3, w3 = w2.setRow x1 #[.int .u8 s', .int .u8 l', .int .u8 b'] := ⟨_, rfl⟩
      rw [← hw3] at hC3 hS3 ⊢
      clear hC2 hw3 hnx1 hx1
      have c0 := hS3.bp.cellS hk16
      have c1 := hS3.bp.cellL hk16
      have c2 := hS3.bp.cellB hk16
      have f0 := frozen_of_row _ g3 (k * 5) _ _ hS3.bp
      have f1 := frozen_of_row _ g3 (k * 5 + 1) _ _ hS3.bp
      have f2 := frozen_of_row _ g3 (k * 5 + 2) _ _ hS3.bp
      have x0 := cell_of_row _ _ 0 _ _ _ hC3
      have x1' := cell_of_row _ _ 1 _ _ _ hC3
      have x2 := cell_of_row _ _ 2 _ _ _ hC3
      have hS4 := (hS3.set hk16 s' l' b').same HN.out.1
      have HS4 := Lib.hid hS4
      clear hC3 hS3 hS4
      go_upto_region 8 with fail
      obtain ⟨w4, hw4⟩ : ∃ w4, w4 = (((w3.setCell ⟨g3, k * 5, none⟩ (.int .u8 s')).setCell ⟨g3, k * 5 + 1, none⟩ (.int .u8 l')).setCell ⟨g3, k * 5 + 2, none⟩ (.int .u8 b')) := ⟨_, rfl⟩
      rw [← hw4] at HS4 ⊢
      clear hw4 c0 c1 c2 f0 f1 f2 x0 x1' x2
      rcases h012 with rfl | rfl | rfl
      · have e1 : x = setN (becB p a b 1) (k + 1) := by unfold setN; rw [HN.out.2, if_neg (by decide)]; exact HXY.out.1
        have e2 : y = setN (becB p a b 2) (k + 1) := by unfold setN; rw [HN.out.2, if_neg (by decide)]; exact HXY.out.2
        have HE := Lib.hid (And.intro e1 e2)
        clear e1 e2
        go_wp2_with fail
        go_roundw
        case rel => exact ⟨k + 1, by omega, by go_num, by rw [HE.out.1], by rw [HE.out.2], HS4.out⟩
        case measure => simp [intOf]; omega
      · have e1 : Bs.withS x [((k : Nat) : Int)] = setN (becB p a b 1) (k + 1) := by unfold setN; rw [HN.out.2, if_pos (by decide), ← HXY.out.1]; rfl
        have e2 : y = setN (becB p a b 2) (k + 1) := by unfold setN; rw [HN.out.2, if_neg (by decide)]; exact HXY.out.2
        have HE := Lib.hid (And.intro e1 e2)
        clear e1 e2
        have hr1 := rd_one w4 k 3
        have HR1 := Lib.hid hr1
        have hal : Below w4.heap.size w4 (w4.alloc (.cells #[.int .i64 ((k : Nat) : Int)] 3)) := (Below.refl _ _).alloc (Nat.le_refl _) _
        clear hr1
        go_wp2_with fail
        go_at_call 95
        refine (Bs.With_any _ 1 1 _ x [((k : Nat) : Int)] _ hxl rfl (Nat.le_refl _) HR1.out).mono ?_
        rintro e w6 ⟨rfl, hb⟩
        have HS6 := Lib.hid (HS4.out.step (hal.trans (hb.mono (by simp))))
        clear hb hal HR1 HS4
        go_wp2_with fail
        go_roundw
        case rel => exact ⟨k + 1, by omega, by go_num, by rw [HE.out.1], by rw [HE.out.2], HS6.out⟩
        case measure => simp [intOf]; omega
      · have e1 : x = setN (becB p a b 1) (k + 1) := by unfold setN; rw [HN.out.2, if_neg (by decide)]; exact HXY.out.1
        have e2 : Bs.withS y [((k : Nat) : Int)] = setN (becB p a b 2) (k + 1) := by unfold setN; rw [HN.out.2, if_pos (by decide), ← HXY.out.2]; rfl
        have HE := Lib.hid (And.intro e1 e2)
        clear e1 e2
        have hr1 := rd_one w4 k 3
        have HR1 := Lib.hid hr1
        have hal : Below w4.heap.size w4 (w4.alloc (.cells #[.int .i64 ((k : Nat) : Int)] 3)) := (Below.refl _ _).alloc (Nat.le_refl _) _
        clear hr1
        go_wp2_with fail
        go_at_call 95
        refine (Bs.With_any _ 1 1 _ y [((k : Nat) : Int)] _ hyl rfl (Nat.le_refl _) HR1.out).mono ?_
        rintro e w6 ⟨rfl, hb⟩
        have HS6 := Lib.hid (HS4.out.step (hal.trans (hb.mono (by simp))))
        clear hb hal HR1 HS4
        go_wp2_with fail
        go_roundw
        case rel => exact ⟨k + 1, by omega, by go_num, by rw [HE.out.1], by rw [HE.out.2], HS6.out⟩
        case measure => simp [intOf]; omega
    · obtain rfl : k = p.n := by omega
      have hbp := hS.bp
      have hbz := hS.bz
      have HS1 := Lib.hid hS
      clear hS
      go_wp2_with (first | (refine wpList_load_row rfl 95 _ rfl _ rfl _ _ _ _ hbp Try.underlying95 rfl (by exact size_pl _) ?_; (try go_simp)) | (refine wpList_store_row rfl 95 _ _ rfl _ (Pl.cs _) rfl rfl 95 _ hbz (size_pl _) (by simp only [Pl.size]) (Pl.one _) ?_; (try go_simp)))
      refine bodyPost_ret (res_ctt rfl _ _ _ _ (p.stepped a b p.n).cs _ rfl (setRow_heap _ _ _ _ _ _ hbz) Try.underlying95 rfl (size_pl _)) rfl ?_
      rw [← HXY.out.1, ← HXY.out.2]
      exact ⟨rfl, bel_row HS1.out.be HS1.out.h6 _⟩
end Go.Proofs.Ytkgeeohgfbacaaa
