/- Plants: Order. -/
import Derived.Test.YtkgeeohgfbacaaaPlN
import Derived.Test.YtkgeeohgfbacaaaRd
import Derived.Test.YtkgeeohgfbacaaaFlo3
import Derived.Maps.AppendAt
import Derived.Deep.Onto
import Derived.Deep.CutBlock
import Derived.Deep.DeepCutAuto
namespace Go.Proofs.Ytkgeeohgfbacaaa
open Go.RowKit Go.Own
set_option linter.unusedVariables false
set_option linter.unusedSimpArgs false
/-- An order to one of them: the plant, and which commands were issued. -/
def ordStep (on : Bool) (x : Pl × List Nat) (i : Int) : Pl × List Nat :=
  if x.1.has i = true then (x.1.set i.toNat (uOrd (x.1.u i.toNat) on (x.1.wt i.toNat)), if uCmd (x.1.u i.toNat) on = true then x.2 ++ [i.toNat] else x.2) else x
def ordAll (on : Bool) (p : Pl) (l : List Int) : Pl × List Nat := l.foldl (ordStep on) (p, [])
theorem ordStep_n (on : Bool) (x : Pl × List Nat) (i : Int) : (ordStep on x i).1.n = x.1.n := by unfold ordStep; split <;> rfl
theorem ordStep_w (on : Bool) (x : Pl × List Nat) (i : Int) : (ordStep on x i).1.wt = x.1.wt ∧ (ordStep on x i).1.tol = x.1.tol := by unfold ordStep; split <;> exact ⟨rfl, rfl⟩
theorem foldOrd_n (on : Bool) : ∀ (l : List Int) (x : Pl × List Nat), (l.foldl (ordStep on) x).1.n = x.1.n ∧ (l.foldl (ordStep on) x).1.wt = x.1.wt ∧ (l.foldl (ordStep on) x).1.tol = x.1.tol
  | [], _ => ⟨rfl, rfl, rfl⟩
  | i :: l, x => by
    obtain ⟨h1, h2, h3⟩ := foldOrd_n on l (ordStep on x i)
    have := ordStep_w on x i
    exact ⟨h1.trans (ordStep_n on x i), h2.trans this.1, h3.trans this.2⟩
theorem foldOrd_len (on : Bool) : ∀ (l : List Int) (x : Pl × List Nat), (l.foldl (ordStep on) x).2.length ≤ x.2.length + l.length
  | [], _ => Nat.le_refl _
  | i :: l, x => by
    have h1 := foldOrd_len on l (ordStep on x i)
    have h2 : (ordStep on x i).2.length ≤ x.2.length + 1 := by
      unfold ordStep
      split
      · dsimp only
        split
        · simp
        · omega
      · omega
    simp only [List.foldl_cons, List.length_cons]
    omega
/-- All units may be. -/
def Pl.good (p : Pl) : Prop := p.n ≤ 16 ∧ ∀ i, i < 16 → 0 ≤ (p.u i).l ∧ (p.u i).l ≤ 255 ∧ 0 ≤ (p.u i).b ∧ (p.u i).b ≤ 255 ∧ 0 ≤ p.wt i ∧ p.wt i ≤ 255 ∧ 0 ≤ p.tol i ∧ p.tol i ≤ 255
/-- The cells of the commands. -/
def ocs (on : Bool) (l : List Nat) : List Value := l.flatMap fun i => [.int .i64 ((i : Nat) : Int), .bool on]
theorem ocs_len (on : Bool) (l : List Nat) : (ocs on l).length = l.length * 2 := by
  induction l with
  | nil => rfl
  | cons x l ih => simp [ocs] at ih ⊢; omega
theorem ocs_push (on : Bool) (l : List Nat) (i : Nat) : ocs on (l ++ [i]) = ocs on l ++ [.int .i64 ((i : Nat) : Int), .bool on] := by simp [ocs]
theorem ocs_at (on : Bool) (l : List Nat) : ∀ (i : Nat), i < l.length → (ocs on l)[i * 2]? = some (.int .i64 ((l.getD i 0 : Nat) : Int)) ∧ (ocs on l)[i * 2 + 1]? = some (.bool on) := by
  induction l with
  | nil => intro i hi; simp at hi
  | cons x l ih =>
    intro i hi
    have e : ocs on (x :: l) = [.int .i64 ((x : Nat) : Int), .bool on] ++ ocs on l := by simp [ocs]
    rw [e]
    cases i with
    | zero => exact ⟨rfl, rfl⟩
    | succ i =>
      have := ih i (by simpa using hi)
      rw [show (i + 1) * 2 = i * 2 + 2 by omega, show i * 2 + 2 + 1 = i * 2 + 1 + 2 by omega]
      simpa using this
theorem info_or : (Try.prog.info? 193).map (fun i => (i.zero, i.size, i.bytes)) = some (some (.agg #[.int .i64 0, .bool false]), 2, 16) := by kernel_rfl
theorem own_lo2 {w : World} {base n size b i : Nat} {e : TypeId} {v x : Value} {xs : List Value} (h : w.ownsRow base e size v n xs) (hg : b < base) : (w.setCell ⟨b, i, none⟩ x).ownsRow base e size v n xs := by
  obtain ⟨h1, h2 | ⟨g', cap, cur, hv, hb', hr, ho⟩⟩ := h
  · exact ⟨h1, .inl h2⟩
  · exact ⟨h1, .inr ⟨g', cap, cur, hv, hb', (heap_setCell_other w ⟨b, i, none⟩ g' x (by show g' ≠ b; omega)).trans hr, ho⟩⟩
theorem own_lorow {w : World} {base n size b : Nat} {e : TypeId} {v : Value} {xs : List Value} (h : w.ownsRow base e size v n xs) (hg : b < base) (cs : Array Value) : (w.setRow b cs).ownsRow base e size v n xs := by
  obtain ⟨h1, h2 | ⟨g', cap, cur, hv, hb', hr, ho⟩⟩ := h
  · exact ⟨h1, .inl h2⟩
  · exact ⟨h1, .inr ⟨g', cap, cur, hv, hb', (setRow_other w b g' cs (by omega)).trans hr, ho⟩⟩
theorem heap_bel {w w' : World} (hb : Below w.heap.size w w') {g : Nat} {o : Obj} (h : w.heap[g]? = some o) : w'.heap[g]? = some o := (hb.block g (Array.getElem?_eq_some_iff.1 h).1).trans h
theorem own_keep2 {w w' : World} {base : Nat} {e : TypeId} {size : Nat} {v : Value} {n : Nat} {xs : List Value} (h : w.ownsRow base e size v n xs) (hb : Below w.heap.size w w') : w'.ownsRow base e size v n xs := by
  obtain ⟨h1, h2 | ⟨g, cap, cur, hv, hg, hr, ho⟩⟩ := h
  · exact ⟨h1, .inl h2⟩
  · exact ⟨h1, .inr ⟨g, cap, cur, hv, hg, heap_bel hb hr, ho⟩⟩
theorem Order_det2 (s l b : Int) (on : Bool) (wt tol s' l' b' : Int) (t : Bool) (w : World) (hu : Un.mk s' l' b' = uOrd ⟨s, l, b⟩ on wt) (ht : t = uCmd ⟨s, l, b⟩ on) :
    Calls Try.prog 94 #[.agg #[.int .u8 s, .int .u8 l, .int .u8 b], .bool on, .agg #[.int .u8 wt, .int .u8 tol]] w fun e w' => e = .returned (.tuple #[.agg #[.int .u8 s', .int .u8 l', .int .u8 b'], .bool t]) ∧ Below w.heap.size w w' := by
  refine (Order_any s l b on wt tol w).mono ?_
  rintro e w' ⟨s2, l2, b2, t2, rfl, h2, h3, hb⟩
  obtain ⟨rfl, rfl, rfl⟩ := Un.inj (h2.trans hu.symm)
  obtain rfl := h3.trans ht.symm
  exact ⟨rfl, hb⟩
/-- Where the loop stands. -/
structure OrSt (w wr : World) (g3 g6 B : Nat) (on : Bool) (q : Pl) (out : List Nat) (v : Value) : Prop where
  be : Below w.heap.size w wr
  bp : PlB wr g3 q
  bz : PlB wr g6 (Pl.empty 0)
  own : wr.ownsRow B 193 2 v out.length (ocs on out)
  h3 : w.heap.size ≤ g3
  h6 : w.heap.size ≤ g6
  n36 : g3 ≠ g6
  l3 : g3 < B
  l6 : g6 < B
  lb : w.heap.size ≤ B
  sz : B ≤ wr.heap.size
theorem OrSt.step {w wr w' : World} {g3 g6 B : Nat} {on : Bool} {q : Pl} {out : List Nat} {v : Value} (h : OrSt w wr g3 g6 B on q out v) (hb : Below wr.heap.size wr w') : OrSt w w' g3 g6 B on q out v :=
  ⟨h.be.trans (hb.mono h.be.size), h.bp.below hb (Nat.le_refl _), h.bz.below hb (Nat.le_refl _), own_keep2 h.own hb, h.h3, h.h6, h.n36, h.l3, h.l6, h.lb, Nat.le_trans h.sz hb.size⟩
theorem OrSt.set {w wr : World} {g3 g6 B i : Nat} {on : Bool} {q : Pl} {out : List Nat} {v : Value} (h : OrSt w wr g3 g6 B on q out v) (hi : i < 16) (s l b : Int) :
    OrSt w (((wr.setCell ⟨g3, i * 5, none⟩ (.int .u8 s)).setCell ⟨g3, i * 5 + 1, none⟩ (.int .u8 l)).setCell ⟨g3, i * 5 + 2, none⟩ (.int .u8 b)) g3 g6 B on (q.set i ⟨s, l, b⟩) out v :=
  ⟨((h.be.setCell (p := ⟨g3, i * 5, none⟩) h.h3 _).setCell (p := ⟨g3, i * 5 + 1, none⟩) h.h3 _).setCell (p := ⟨g3, i * 5 + 2, none⟩) h.h3 _, h.bp.set hi s l b,
   (heap_setCell_other _ ⟨g3, i * 5 + 2, none⟩ g6 _ (Ne.symm h.n36)).trans ((heap_setCell_other _ ⟨g3, i * 5 + 1, none⟩ g6 _ (Ne.symm h.n36)).trans ((heap_setCell_other _ ⟨g3, i * 5, none⟩ g6 _ (Ne.symm h.n36)).trans h.bz)),
   own_lo2 (own_lo2 (own_lo2 h.own h.l3) h.l3) h.l3, h.h3, h.h6, h.n36, h.l3, h.l6, h.lb, by simpa using h.sz⟩
theorem take_succ_fold (on : Bool) (p : Pl) (l : List Int) {k : Nat} (h : k < l.length) : ordAll on p (l.take (k + 1)) = ordStep on (ordAll on p (l.take k)) (l.getD k 0) := by
  unfold ordAll
  rw [List.take_succ_eq_append_getElem h, List.foldl_append]
  simp [List.getD, h]
set_option maxRecDepth 100000 in
set_option maxHeartbeats 8000000 in
theorem pOrder (p : Pl) (on : Bool) (a : Option Addr) (len cap : Nat) (l : List Int) (w : World) (hp : p.n ≤ 16) (hl : l.length = len) (h : Rd w.heap.size w a len cap (fun i => .int .i64 (l.getD i 0))) (hm : len ≤ 1000) :
    Calls Try.prog 43 #[.agg p.cs, .bool on, .slice a len cap] w fun e w' => ∃ v, e = .returned (.tuple #[.agg (ordAll on p l).1.cs, v]) ∧ w'.ownsRow w.heap.size 193 2 v (ordAll on p l).2.length (ocs on (ordAll on p l).2) ∧ Below w.heap.size w w' := by
  obtain ⟨i0, hi, hz0, hz1, hz2⟩ := info_parts info_or
  have H := Lib.hid h
  have HL := Lib.hid hl
  have hle := h.le
  have htop := h.top
  unfold maxLen at htop
  have hb0 : Below w.heap.size w ((w.alloc (.cells p.cs 95)).alloc (.cells (Pl.empty 0).cs 95)) := by repeat' (first | (with_reducible exact Below.refl _ _) | (with_reducible assumption) | (with_reducible refine Below.setCell ?_ ?_ _) | (with_reducible refine Below.alloc ?_ ?_ _) | (with_reducible refine Below.drew ?_) | (with_reducible refine Below.drawsN ?_ _) | go_size)
  have HP := (PlB.new w p).alloc (.cells (Pl.empty 0).cs 95)
  have HE := heap_alloc2_new w (.cells p.cs 95) (.cells (Pl.empty 0).cs 95)
  clear h hl
  go_enter Try.func43, Try.ntmps43
  go_wp2_with fail
  have hS0 : OrSt w ((w.alloc (.cells p.cs 95)).alloc (.cells (Pl.empty 0).cs 95)) w.heap.size (w.heap.size + 1) (w.heap.size + 2) on (ordAll on p (l.take 0)).1 (ordAll on p (l.take 0)).2 (.slice none 0 0) :=
    ⟨hb0, HP, HE, World.ownsRow_nil _ _ _ _, by omega, by omega, by omega, by omega, by omega, by omega, by simp⟩
  obtain ⟨g3, e3⟩ : ∃ g, g = w.heap.size := ⟨_, rfl⟩
  obtain ⟨g6, e6⟩ : ∃ g, g = g3 + 1 := ⟨_, rfl⟩
  obtain ⟨B, eB⟩ : ∃ g, g = g3 + 2 := ⟨_, rfl⟩
  obtain ⟨ws, hws⟩ : ∃ ws, ws = ((w.alloc (.cells p.cs 95)).alloc (.cells (Pl.empty 0).cs 95)) := ⟨_, rfl⟩
  have hS1 : OrSt w ws g3 g6 B on (ordAll on p (l.take 0)).1 (ordAll on p (l.take 0)).2 (.slice none 0 0) := by
    rw [hws, eB, e6, e3]
    exact hS0
  rw [← hws, ← e3, ← e6]
  have HS := Lib.hid hS1
  clear hS0 hS1 hb0 HP HE hws eB e6 e3
  go_loopw [8, 16] (fun v i wr => ∃ (k : Nat) (x : Pl × List Nat), k ≤ len ∧ i = .int .i64 k ∧ x = ordAll on p (l.take k) ∧ OrSt w wr g3 g6 B on x.1 x.2 v) (fun _ i _ => len - (intOf i).toNat)
  case atStart => exact ⟨0, _, by omega, rfl, rfl, HS.out⟩
  case round =>
    obtain ⟨k, ⟨q, out⟩, hk, rfl, hx, hS⟩ := hrel
    clear HS
    have hqn : q.n = p.n := by
      have := (foldOrd_n on (l.take k) (p, [])).1
      rw [show (l.take k).foldl (ordStep on) (p, []) = (q, out) from hx.symm] at this
      exact this
    have hol : out.length ≤ k := by
      have := foldOrd_len on (l.take k) (p, [])
      rw [show (l.take k).foldl (ordStep on) (p, []) = (q, out) from hx.symm] at this
      simp at this
      omega
    by_cases hlt : k < len
    · have hsucc := take_succ_fold on p l (k := k) (by rw [HL.out]; exact hlt)
      rw [← hx] at hsucc
      obtain ⟨i, hi_⟩ : ∃ i, i = l.getD k 0 := ⟨_, rfl⟩
      obtain ⟨bb, off, rfl, hbb, hc0⟩ := H.out.at hlt
      have hc := (hS.be.cell (p := ⟨bb, off + k, none⟩) hbb).trans hc0
      rw [← hi_] at hsucc hc
      have HX := Lib.hid hsucc
      have HPB := hS.bp
      have HS := Lib.hid hS
      have HN := Lib.hid hqn
      clear hsucc hx hi_ hc0 hS hqn
      go_wp2_with (refine wpList_load_row rfl 95 _ rfl _ rfl _ _ _ _ HPB Try.underlying95 rfl (by exact size_pl _) ?_; (try go_simp))
      go_at_call 93
      refine (pHas q i _).mono ?_
      rintro e w1 ⟨rfl, hb⟩
      have hS1 := HS.out.step hb
      clear hb HS hc HPB
      cases hh : q.has i
      · have HX2 := Lib.hid (HX.out.trans (show ordStep on (q, out) i = (q, out) by unfold ordStep; rw [if_neg (by rw [hh]; decide)]))
        have HS1 := Lib.hid hS1
        clear hh hS1
        go_wp2_with fail
        go_roundw
        case rel => exact ⟨k + 1, (q, out), by omega, by go_num, HX2.out.symm, HS1.out⟩
        case measure => simp [intOf]; omega
      · obtain ⟨h0, h1⟩ : 0 ≤ i ∧ i < (q.n : Int) := by simpa [Pl.has] using hh
        obtain ⟨j, rfl⟩ := Int.eq_ofNat_of_zero_le h0
        have hj : j < 16 := by have := HN.out; omega
        have HX2 := HX.out
        unfold ordStep at HX2
        rw [if_pos hh] at HX2
        simp only [Int.toNat_natCast] at HX2
        obtain ⟨s, lf, b, hu⟩ : ∃ s lf b, q.u j = Un.mk s lf b := ⟨_, _, _, rfl⟩
        obtain ⟨wt, hw⟩ : ∃ t, q.wt j = t := ⟨_, rfl⟩
        obtain ⟨tol, ht⟩ : ∃ t, q.tol j = t := ⟨_, rfl⟩
        have c0 := hS1.bp.cellS hj
        have c1 := hS1.bp.cellL hj
        have c2 := hS1.bp.cellB hj
        have c3 := hS1.bp.cellW hj
        have c4 := hS1.bp.cellT hj
        rw [hu] at c0 c1 c2
        rw [hw] at c3
        rw [ht] at c4
        obtain ⟨s', l', b', t', hs', ht'⟩ : ∃ (s' l' b' : Int) (t' : Bool), Un.mk s' l' b' = uOrd ⟨s, lf, b⟩ on wt ∧ t' = uCmd ⟨s, lf, b⟩ on := ⟨_, _, _, _, rfl, rfl⟩
        rw [hu, hw, ← hs', ← ht'] at HX2
        have HX2 := Lib.hid HX2
        have HU := Lib.hid (And.intro hs' ht')
        have HS1 := Lib.hid hS1
        have hg3 := box_lt hS1.bp
        clear hh h0 h1 HX hu hw ht hs' ht' hS1
        go_wp2_with fail
        obtain ⟨I, W, hne, hWI, hIW⟩ := Go.Mix.family (fun v => Below w1.heap.size w1 v) (Below.refl _ _)
        have HJ := Lib.hid hIW
        have HW := Lib.hid hWI
        clear hWI hIW
        refine Go.Flo3.wp_region (fun w' => ∃ i, w' = W i) 14 [Go.Flo.Spec.is (.tuple #[.agg #[.int .u8 s', .int .u8 l', .int .u8 b'], .bool t']), Go.Flo.Spec.ptr w1.heap.size #[.int .u8 0, .int .u8 0, .int .u8 0] 88] (by kernel_rfl) (by kernel_rfl) (by decide) (by rintro _ w' ⟨i, rfl⟩ hb; exact HJ.out _ ((HW.out i).trans (hb.mono (HW.out i).size))) (HJ.out _ (Below.refl _ _).drew) ?_
        simp only [Go.Flo.pair, Go.Mix.calm, List.take, List.drop, if_true, Bool.false_eq_true, if_false, Nat.reduceAdd, Nat.reduceSub]
        have k0 : ∀ i, (W i).cell? ⟨g3, j * 5, none⟩ = some (.int .u8 s) := fun i => ((HW.out i).cell (p := ⟨g3, j * 5, none⟩) hg3).trans c0
        have k1 : ∀ i, (W i).cell? ⟨g3, j * 5 + 1, none⟩ = some (.int .u8 lf) := fun i => ((HW.out i).cell (p := ⟨g3, j * 5 + 1, none⟩) hg3).trans c1
        have k2 : ∀ i, (W i).cell? ⟨g3, j * 5 + 2, none⟩ = some (.int .u8 b) := fun i => ((HW.out i).cell (p := ⟨g3, j * 5 + 2, none⟩) hg3).trans c2
        have k3 : ∀ i, (W i).cell? ⟨g3, j * 5 + 3, none⟩ = some (.int .u8 wt) := fun i => ((HW.out i).cell (p := ⟨g3, j * 5 + 3, none⟩) hg3).trans c3
        have k4 : ∀ i, (W i).cell? ⟨g3, j * 5 + 4, none⟩ = some (.int .u8 tol) := fun i => ((HW.out i).cell (p := ⟨g3, j * 5 + 4, none⟩) hg3).trans c4
        (repeat (first | (refine Go.Flo.fw_calm rfl ?_ (fun K hK => ?_); (first | exact Go.Mix.wanted_none rfl | exact Go.Mix.wanted_tt rfl rfl rfl | exact Go.Mix.wanted_ff rfl rfl rfl); go_big_quiet_op; refine hK _ ?_; clear hK K) | (refine Go.Flo.fw_skip ?_ (fun K hK => ?_); (first | exact Go.Mix.wanted_tf rfl rfl rfl | exact Go.Mix.wanted_ft rfl rfl rfl); go_simp; refine hK _ ?_; clear hK K) | (refine Go.Flo.fw_any rfl ?_ (fun K hK => ?_); (first | exact Go.Mix.wanted_none rfl | exact Go.Mix.wanted_tt rfl rfl rfl | exact Go.Mix.wanted_ff rfl rfl rfl); go_simp; (try (go_ints; try go_simp)); refine hK _ ?_; clear hK K)))
        refine Go.Flo.fw_loud rfl ?_ rfl (by simp) (fun wv hwv hav K hK => ?_) (fun v hv K hK => ?_)
        · (first | exact Go.Mix.wanted_none rfl | exact Go.Mix.wanted_tt rfl rfl rfl | exact Go.Mix.wanted_ff rfl rfl rfl)
        · obtain ⟨iv, rfl⟩ := hwv
          have hbv := HW.out iv
          (first | go_big_op | go_simp)
          go_at_call 94
          refine (Order_det2 s lf b on wt tol s' l' b' t' _ HU.out.1 HU.out.2).mono ?_
          rintro e w' ⟨rfl, hb⟩
          exact hK _ _ (Go.Flo.owes_is _ rfl hb)
        obtain rfl := hv.is
        go_simp
        refine hK _ ?_
        clear hK K hv
        (repeat (first | (refine Go.Flo.fw_calm rfl ?_ (fun K hK => ?_); (first | exact Go.Mix.wanted_none rfl | exact Go.Mix.wanted_tt rfl rfl rfl | exact Go.Mix.wanted_ff rfl rfl rfl); go_big_quiet_op; refine hK _ ?_; clear hK K) | (refine Go.Flo.fw_skip ?_ (fun K hK => ?_); (first | exact Go.Mix.wanted_tf rfl rfl rfl | exact Go.Mix.wanted_ft rfl rfl rfl); go_simp; refine hK _ ?_; clear hK K) | (refine Go.Flo.fw_any rfl ?_ (fun K hK => ?_); (first | exact Go.Mix.wanted_none rfl | exact Go.Mix.wanted_tt rfl rfl rfl | exact Go.Mix.wanted_ff rfl rfl rfl); go_simp; (try (go_ints; try go_simp)); refine hK _ ?_; clear hK K)))
        refine Go.Flo.fw_loud rfl ?_ rfl (by simp) (fun wv hwv hav K hK => ?_) (fun v hv K hK => ?_)
        · (first | exact Go.Mix.wanted_none rfl | exact Go.Mix.wanted_tt rfl rfl rfl | exact Go.Mix.wanted_ff rfl rfl rfl)
        · obtain ⟨iv, rfl⟩ := hwv
          (first | go_big_op | go_simp)
          refine hK _ _ (Go.Flo.owes_ptr (HW.out iv).size)
        obtain ⟨x1, hx1, rfl, hnx1⟩ := hv.ptr rfl
        go_simp
        refine hK _ ?_
        clear hK K hv
        refine Go.Flo.fw_nil ?_
        intro w2 hww2 hfw2 huw2
        obtain ⟨iend, hiend⟩ := hww2
        have hbw2 := HW.out iend
        rw [← hiend] at hbw2
        clear hiend iend huw2
        have hC2 := Go.Flo.says_ptr ((hfw2 (some 12)).2 rfl).1
        have hC3 := setRow_heap _ _ _ #[.int .u8 s', .int .u8 l', .int .u8 b'] _ _ hC2
        have hS3 := HS1.out.step (bel_row hbw2 hx1 #[.int .u8 s', .int .u8 l', .int .u8 b'])
        clear hfw2 HJ HW hne k0 k1 k2 k3 k4 c0 c1 c2 c3 c4 hbw2 HS1 hg3
        clear W I
        refine ⟨fun _ => True, trivial, ?_⟩

        (refine Go.Mix.walk_loud rfl ?_ (fun K hK => ?_); (first | exact Go.Mix.wanted_none rfl | exact Go.Mix.wanted_tt rfl rfl rfl | exact Go.Mix.wanted_ff rfl rfl rfl); refine wp_store_row 88 _ _ rfl _ #[.int .u8 s', .int .u8 l', .int .u8 b'] rfl rfl 88 _ hC2 size_un rfl (by simp [Value.oneCell']) (hK _ _ trivial ?_); clear hK K)
        (repeat (first | (refine Go.Mix.walk_calm rfl ?_ (fun K hK => ?_); (first | exact Go.Mix.wanted_none rfl | exact Go.Mix.wanted_tt rfl rfl rfl | exact Go.Mix.wanted_ff rfl rfl rfl); go_big_quiet_op; refine hK _ ?_; clear hK K) | (refine Go.Mix.walk_skip ?_ (fun K hK => ?_); (first | exact Go.Mix.wanted_tf rfl rfl rfl | exact Go.Mix.wanted_ft rfl rfl rfl); go_simp; refine hK _ ?_; clear hK K) | (refine Go.Mix.walk_loud rfl ?_ (fun K hK => ?_); (first | exact Go.Mix.wanted_none rfl | exact Go.Mix.wanted_tt rfl rfl rfl | exact Go.Mix.wanted_ff rfl rfl rfl); (first | go_big_op | go_simp); (first | (refine hK _ _ trivial ?_; clear hK K) | (fail; (try dsimp only); refine hK _ _ trivial ?_; clear hK K))) | (refine Go.Mix.walk_step (fun K hK => ?_); go_simp; (try (go_ints; try go_simp)); refine hK _ _ ?_; clear hK K)))
        refine Go.Mix.walk_nil ?_
        obtain ⟨w3, hw3⟩ : ∃ w3, w3 = w2.setRow x1 #[.int .u8 s', .int .u8 l', .int .u8 b'] := ⟨_, rfl⟩
        rw [← hw3] at hC3 hS3 ⊢
        clear hC2 hw3 hnx1 hx1
        have c0 := hS3.bp.cellS hj
        have c1 := hS3.bp.cellL hj
        have c2 := hS3.bp.cellB hj
        have f0 := frozen_of_row _ g3 (j * 5) _ _ hS3.bp
        have f1 := frozen_of_row _ g3 (j * 5 + 1) _ _ hS3.bp
        have f2 := frozen_of_row _ g3 (j * 5 + 2) _ _ hS3.bp
        have x0 := cell_of_row _ _ 0 _ _ _ hC3
        have x1' := cell_of_row _ _ 1 _ _ _ hC3
        have x2 := cell_of_row _ _ 2 _ _ _ hC3
        have hS4 := hS3.set hj s' l' b'
        have HS4 := Lib.hid hS4
        clear hC3 hS3 hS4
        cases t'
        · have HX2 := Lib.hid (HX2.out.trans (show (q.set j ⟨s', l', b'⟩, if false = true then out ++ [j] else out) = (q.set j ⟨s', l', b'⟩, out) from rfl))
          go_wp2_with fail
          go_roundw
          case rel => exact ⟨k + 1, (q.set j ⟨s', l', b'⟩, out), by omega, by go_num, HX2.out.symm, HS4.out⟩
          case measure => simp [intOf]; omega
        · have HX2 := Lib.hid (HX2.out.trans (show (q.set j ⟨s', l', b'⟩, if true = true then out ++ [j] else out) = (q.set j ⟨s', l', b'⟩, out ++ [j]) from rfl))
          go_upto_region 10 with fail
          obtain ⟨w4, hw4⟩ : ∃ w4, w4 = (((w3.setCell ⟨g3, j * 5, none⟩ (.int .u8 s')).setCell ⟨g3, j * 5 + 1, none⟩ (.int .u8 l')).setCell ⟨g3, j * 5 + 2, none⟩ (.int .u8 b')) := ⟨_, rfl⟩
          rw [← hw4] at HS4 ⊢
          clear hw4 c0 c1 c2 f0 f1 f2 x0 x1' x2
          have hsz := HS4.out.sz
          go_wp2_with (at_builtin; refine wpList_append_own _ rfl _ _ 98 rfl B 193 i0 (.agg #[.int .i64 0, .bool false]) 2 16 Try.underlying98 hi hz0 hz1 hz2 rfl (by decide) _ _ _ rfl (HS4.out.own.alloc _) ⟨w4.heap.size, 0, none⟩ 1 1 [.int .i64 ((j : Nat) : Int), .bool on] rfl rfl ?_ ?_ ?_ ?_ ?_ ?_)
          · simp [Value.oneCell']
          · unfold maxLen; omega
          · omega
          · first | omega | (simp; omega)
          intro v' w5 hown5 hgrow5 _
          rw [← ocs_push, show out.length + 1 = (out ++ [j]).length by simp] at hown5
          have hS4 := HS4.out
          have hal : Below B w4 (w4.alloc (.cells #[.int .i64 ((j : Nat) : Int), .bool on] 193)) := (Below.refl _ _).alloc hsz _
          have hb5 : Below B w4 w5 := hal.grown hgrow5 (by simp; omega) (fun i hi => (hS4.own.lt i hi).1)
          have HS5 := Lib.hid (show OrSt w w5 g3 g6 B on (q.set j ⟨s', l', b'⟩) (out ++ [j]) v' from ⟨hS4.be.trans (hb5.mono hS4.lb), (hb5.block g3 hS4.l3).trans hS4.bp, (hb5.block g6 hS4.l6).trans hS4.bz, hown5, hS4.h3, hS4.h6, hS4.n36, hS4.l3, hS4.l6, hS4.lb, Nat.le_trans hS4.sz hb5.size⟩)
          clear hown5 hgrow5 hal hb5 hS4 HS4
          go_wp2_with fail
          go_roundw
          case rel => exact ⟨k + 1, (q.set j ⟨s', l', b'⟩, out ++ [j]), by omega, by go_num, HX2.out.symm, HS5.out⟩
          case measure => simp [intOf]; omega
    · obtain rfl : k = len := by omega
      have HB := hS.be
      have hbz := hS.bz
      have hbp := hS.bp
      have HS := Lib.hid hS
      have hxl : (q, out) = ordAll on p l := by rw [hx, List.take_of_length_le (by rw [HL.out]; exact Nat.le_refl _)]
      have HX := Lib.hid hxl
      clear hx hxl hS
      go_wp2_with (first | (refine wpList_load_row rfl 95 _ rfl _ rfl _ _ _ _ hbp Try.underlying95 rfl (by exact size_pl _) ?_; (try go_simp)) | (refine wpList_store_row rfl 95 _ _ rfl _ (Pl.cs _) rfl rfl 95 _ hbz (size_pl _) (by simp only [Pl.size]) (Pl.one _) ?_; (try go_simp)))
      refine bodyPost_ret (res_ct rfl _ _ _ _ q.cs _ rfl (setRow_heap _ _ _ _ _ _ hbz) Try.underlying95 rfl (size_pl _)) rfl ?_
      rw [← HX.out]
      have hS := HS.out
      exact ⟨_, rfl, World.ownsRow.mono (own_lorow hS.own hS.l6 _) hS.lb, bel_row HB hS.h6 _⟩
end Go.Proofs.Ytkgeeohgfbacaaa
