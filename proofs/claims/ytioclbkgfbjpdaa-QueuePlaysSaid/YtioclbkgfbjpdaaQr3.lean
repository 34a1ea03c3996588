/- Layer 11: the document's queue: told a report when there is room. -/
import Derived.Test.YtioclbkgfbjpdaaQr2
import Derived.Test.YtioclbkgfbjpdaaKeep
namespace Go.Proofs.Ytioclbkgfbjpdaa
open Go.RowKit Go.Own
set_option linter.unusedVariables false
set_option linter.unusedSimpArgs false
/-- An own row of reports, as a spec. -/
def SpQ (n0 : Nat) (L : List Rq) : Go.Flo.Spec :=
  ⟨fun v w => w.ownsRow n0 57 5 v L.length (ql L), fun v w w' hb h => own_keepQ h (fun j _ hj => hb.block j hj)⟩
theorem owes_Q {o : Oper} {n0 : Nat} {L : List Rq} {w w' : World} {v : Value} {base : Nat} (hm : Go.Flo.makes o = false) (hb : Below w.heap.size w w') (h : w'.ownsRow base 57 5 v L.length (ql L)) (h0 : n0 ≤ base) : Go.Flo.owes o (SpQ n0 L) w v w' :=
  ⟨World.ownsRow.mono h h0, hb, fun g hg => by simp [Go.Flo.ownOf, hm] at hg⟩
theorem ex_Q {C : World → Prop} {o : Oper} {n0 : Nat} {L : List Rq} {v : Value} {F : Go.Flo.Facts} {G : Go.Flo.Used} (h : Go.Flo.Ex C o (SpQ n0 L) F G v) : ∃ a c, v = .slice a L.length c := by
  obtain ⟨w, _, _, h1, _⟩ := h
  rcases h1.2 with ⟨hv, hx⟩ | ⟨g, cap, cur, hv, _⟩
  · exact ⟨none, 0, by rw [hv, hx]⟩
  · exact ⟨_, _, hv⟩
/-- A report's new block, its data in new memory. -/
def SpP (n0 s u cnt t : Nat) (l : List Nat) : Go.Flo.Spec :=
  ⟨fun v w => ∃ g x c, n0 ≤ g ∧ v = .slice (some ⟨g, 0, none⟩) 1 1 ∧ w.heap[g]? = some (.cells #[.int .u8 ((s : Nat) : Int), .int .u8 ((u : Nat) : Int), .int .u16 ((cnt : Nat) : Int), .int .u32 ((t : Nat) : Int), .slice x l.length c] 57 (0, 0)) ∧ w.ownsRow n0 5 1 (.slice x l.length c) l.length (bl l),
   fun v w w' hb ⟨g, x, c, h0, hv, h, hr⟩ => ⟨g, x, c, h0, hv, heap_below hb h, own_keepQ hr (fun j _ hj => hb.block j hj)⟩⟩
theorem owes_P {o : Oper} {n0 s u cnt t : Nat} {l : List Nat} {w : World} {x : Option Addr} {c : Nat} (h0 : n0 ≤ w.heap.size) (hr : w.ownsRow n0 5 1 (.slice x l.length c) l.length (bl l)) :
    Go.Flo.owes o (SpP n0 s u cnt t l) w (.slice (some ⟨w.heap.size, 0, none⟩) 1 1) (w.alloc (.cells #[.int .u8 ((s : Nat) : Int), .int .u8 ((u : Nat) : Int), .int .u16 ((cnt : Nat) : Int), .int .u32 ((t : Nat) : Int), .slice x l.length c] 57)) := by
  have hb := (Below.refl w.heap.size w).alloc (Nat.le_refl _) (.cells #[.int .u8 ((s : Nat) : Int), .int .u8 ((u : Nat) : Int), .int .u16 ((cnt : Nat) : Int), .int .u32 ((t : Nat) : Int), .slice x l.length c] 57)
  refine ⟨⟨w.heap.size, x, c, h0, rfl, heap_alloc_new w _, own_keepQ hr (fun j _ hj => hb.block j hj)⟩, hb, fun g hg => ?_⟩
  unfold Go.Flo.ownOf at hg
  split at hg
  · simp [Go.Flo.blockOf] at hg; subst hg; simp
  · cases hg
theorem ex_P {C : World → Prop} {o : Oper} {n0 s u cnt t : Nat} {l : List Nat} {v : Value} {F : Go.Flo.Facts} {G : Go.Flo.Used} (h : Go.Flo.Ex C o (SpP n0 s u cnt t l) F G v) : ∃ g, v = .slice (some ⟨g, 0, none⟩) 1 1 := by
  obtain ⟨w, _, _, ⟨g, x, c, _, h1, _⟩, _⟩ := h
  exact ⟨g, h1⟩
theorem wp_copyQ {o : Oper} {ac : Act} {K : Act → World → Prop} {Q : Exit → Act → World → Prop} {base : Nat} {w : World} {a : Option Addr} {len cap ge : Nat} {L : List Rq} {i0 : TypeInfo} (s y : Operand)
    (ho : o.op = .call { callee := .builtin .append, args := #[s, y], argTypes := #[38, 38] }) (hi : Try.prog.info? 57 = some i0) (hz0 : i0.zero = some (.agg #[.int .u8 (rq0.s : Nat), .int .u8 (rq0.u : Nat), .int .u16 (rq0.c : Nat), .int .u32 (rq0.t : Nat), .slice rq0.a rq0.n rq0.cp])) (hz1 : i0.size = 5) (hz2 : i0.bytes = 32)
    (hs : ac.eval s = .slice (some ⟨ge, 0, none⟩) 0 0) (hy : ac.eval y = .slice a len cap) (hl : L.length = len) (hc : 0 < len → ∃ b off, a = some ⟨b, off, none⟩ ∧ ∀ j u, (ql L)[j]? = some u → w.cell? ⟨b, off + j, none⟩ = some u) (hrow : w.heap[ge]? = some (.cells #[] 57 (0, 0))) (hge : base ≤ ge) (hlen : len ≤ 100000)
    (hK : ∀ v' w', w'.ownsRow base 57 5 v' len (ql L) → Below w.heap.size w w' → K (ac.put o.dst v') w') : o.wp Try.prog ac w K Q := by
  obtain ⟨v', w', hr, h2, h3⟩ := run_copyQ o.type hi hz0 hz1 hz2 hl hc hrow hge hlen
  unfold Oper.wp execOp
  simp only [ho, resolve, invoke, builtin, Sem.run_bind, Sem.run_pure, Result.andThen_ok, List.map_toArray, List.map_cons, List.map_nil, hs, hy]
  rw [hr]
  exact hK _ _ h2 h3
theorem all_cells {w : World} {base c : Nat} {a : Option Addr} {L : List Rq} (h : w.ownsRow base 57 5 (.slice a L.length c) L.length (ql L)) : 0 < L.length → ∃ b off, a = some ⟨b, off, none⟩ ∧ ∀ j u, (ql L)[j]? = some u → w.cell? ⟨b, off + j, none⟩ = some u := fun hp => by
  rcases h.2 with ⟨hv, hx⟩ | ⟨g, cap, cur, hv, hb, hr, hn, _⟩
  · omega
  · injection hv with h1 h2 h3
    subst h1 h3
    refine ⟨g, 0, rfl, fun j u hj => ?_⟩
    have := h.cells (g := g) rfl j u hj
    rw [Addr.add_mid] at this
    exact this
theorem new_cellsQ (w : World) (cs : List Value) (T : TypeId) : ∀ (j : Nat) (u : Value), cs[j]? = some u → (w.alloc (.cells cs.toArray T)).cell? ((⟨w.heap.size, 0, none⟩ : Addr).add j) = some u := fun j u h => by
  rw [Addr.add_mid, Nat.zero_add, cell_of_row _ _ _ _ _ _ (heap_alloc_new w _)]
  simpa using h
set_option maxRecDepth 100000 in
set_option maxHeartbeats 4000000 in
theorem Q_room {w : World} {gx base n cnt d c : Nat} {a : Option Addr} {L : List Rq} (k s u t : Nat) (da : Option Addr) (dn dc : Nat) (M : Int) (l : List Nat) (h : XQ w gx base n cnt d (.slice a L.length c) L) (hk : k % 4 ≠ 3) (hr : L.length < n) (hn : n ≤ 16) (hs : s < 256) (hu : u < 256) (ht : t < 4294967296) (hcn : cnt < 65536) (hk2 : k < 256) (hbs : base ≤ w.heap.size) (hl : l.length = dn) (hby : bytes l) (hrd : Rd w.heap.size w da dn dc (bv l)) (hdn : dn ≤ 100000) :
    Calls Try.prog 20 #[.pointer (some ⟨gx, 0, none⟩), .agg #[.int .u8 ((k : Nat) : Int), .int .u8 ((s : Nat) : Int), .int .u8 ((u : Nat) : Int), .int .u32 ((t : Nat) : Int), .slice da dn dc, .int .i64 M]] w fun e w' => e = .returned (.tuple #[.bool true, .slice none 0 0]) ∧ (∃ a' c' r, PutIs s u t cnt l r ∧ XQ w' gx base n ((cnt + 1) % 65536) d (.slice a' (L.length + 1) c') (L ++ [r])) ∧ Kept gx gx w w' := by
  obtain ⟨i0, hi, hz0, hz1, hz2⟩ := info_parts info_rq11
  obtain ⟨r, hr4⟩ : ∃ r, (k : Int) % 4 = r := ⟨_, rfl⟩
  have hr3 : (r == 3) = false := by rw [beq_eq_false_iff_ne]; omega
  have hln : ((L.length : Int) == (n : Int)) = false := by rw [beq_eq_false_iff_ne]; omega
  have H := Lib.hid h
  clear hk
  skip
  have h0 := heap_alloc_new w (.cells #[.int .u8 ((k : Nat) : Int), .int .u8 ((s : Nat) : Int), .int .u8 ((u : Nat) : Int), .int .u32 ((t : Nat) : Int), .slice da dn dc, .int .i64 M] 45)
  have hb0 : Below w.heap.size w (w.alloc (.cells #[.int .u8 ((k : Nat) : Int), .int .u8 ((s : Nat) : Int), .int .u8 ((u : Nat) : Int), .int .u32 ((t : Nat) : Int), .slice da dn dc, .int .i64 M] 45)) := (Below.refl _ _).alloc (Nat.le_refl _) _
  have hgw := box_lt h.head
  go_enter Try.func20, Try.ntmps20
  go_upto_region 1 with fail
  obtain ⟨w1, hw1⟩ : ∃ w1, w1 = w.alloc (.cells #[.int .u8 ((k : Nat) : Int), .int .u8 ((s : Nat) : Int), .int .u8 ((u : Nat) : Int), .int .u32 ((t : Nat) : Int), .slice da dn dc, .int .i64 M] 45) := ⟨_, rfl⟩
  rw [← hw1] at h0 hb0 ⊢
  obtain ⟨g3, hg3⟩ : ∃ g, g = w.heap.size := ⟨_, rfl⟩
  rw [← hg3] at h0
  rw [show (Value.pointer (some ⟨w.heap.size, 0, none⟩)) = .pointer (some ⟨g3, 0, none⟩) by rw [hg3]]
  have HH := Lib.hid (box_below h.head hb0 hgw)
  have HK := Lib.hid (Kept.of_below (g := gx) (b := gx) hb0)
  have HA := Lib.hid h0
  have HB0 := Lib.hid hb0
  have hgg : gx < g3 := by rw [hg3]; exact hgw
  clear hw1 hg3 hb0 h0 hgw
  have k0 : w1.cell? ⟨g3, 0, none⟩ = some (.int .u8 ((k : Nat) : Int)) := cell_of_row _ _ 0 _ _ _ HA.out
  have c0 : w1.cell? ⟨gx, 0, none⟩ = some (.slice a L.length c) := cell_of_row _ _ 0 _ _ _ HH.out
  have c1 : w1.cell? ⟨gx, 1, none⟩ = some (.int .i64 ((n : Nat) : Int)) := cell_of_row _ _ 1 _ _ _ HH.out
  have c2 : w1.cell? ⟨gx, 2, none⟩ = some (.int .i64 ((d : Nat) : Int)) := cell_of_row _ _ 2 _ _ _ HH.out
  have f2 : w1.frozen? ⟨gx, 2, none⟩ = false := frozen_of_row _ _ 2 _ _ HH.out
  have HRD := Lib.hid (hrd.below HB0.out)
  go_upto_region 10 with fail
  go_quiet (fail)
  clear c0 c1 c2 f2 k0 hr4 hr3
  have hd5 := bel_drewQ w1 nq
  have HH2 := Lib.hid (box_below HH.out hd5 (box_lt HH.out))
  have HK2 := Lib.hid (HK.out.trans (Kept.of_below (g := gx) (b := gx) hd5))
  have HA2 := Lib.hid (box_below HA.out hd5 (box_lt HA.out))
  have HRD2 := Lib.hid (HRD.out.below (hd5.mono HB0.out.size))
  obtain ⟨w2, hw2⟩ : ∃ w2, w2 = w1.drewN nq := ⟨_, rfl⟩
  rw [← hw2] at HH2 HK2 HA2 HRD2 ⊢
  have HO2 := Lib.hid (own_keepQ H.out.own (fun j h1 h2 => HK2.out.block j h2 (by have := H.out.lt; omega) (by have := H.out.lt; omega)))
  clear hw2 hd5 HH HK HA HRD HB0 h hrd
  have lx := box_lt HH2.out
  have l3 := box_lt HA2.out
  have hw2 : w.heap.size ≤ w2.heap.size := HK2.out.size
  have hs2 : base ≤ w2.heap.size := Nat.le_trans hbs HK2.out.size
  go_upto_region 13 with fail
  obtain ⟨lt, hlt⟩ : ∃ lt, lt = l.take 189 := ⟨_, rfl⟩
  have HLT := Lib.hid hlt
  have HLN := Lib.hid (show lt.length = min 189 dn by rw [hlt, List.length_take, hl])
  clear hlt
  obtain ⟨I, W, hne, hWI, hIW⟩ := Go.Mix.family (fun v => Below w2.heap.size w2 v) (Below.refl _ _)
  have HJ := Lib.hid hIW
  have HW := Lib.hid hWI
  clear hWI hIW
  refine Go.Flo3.wp_region (fun w' => ∃ i, w' = W i) 20 [Go.Flo.Spec.row w2.heap.size 0 #[] 57, SpQ w2.heap.size L, SpO w2.heap.size lt] (by kernel_rfl) (by kernel_rfl) (by decide) (by rintro _ w' ⟨i, rfl⟩ hb; exact HJ.out _ ((HW.out i).trans (hb.mono (HW.out i).size))) (HJ.out _ (Below.refl _ _).drew) ?_
  simp only [Go.Flo.pair, Go.Mix.calm, List.take, List.drop, if_true, Bool.false_eq_true, if_false, Nat.reduceAdd, Nat.reduceSub]
  have q0 : ∀ ii, (W ii).cell? ⟨gx, 0, none⟩ = some (.slice a L.length c) := fun ii => ((HW.out ii).cell (p := ⟨gx, 0, none⟩) lx).trans (cell_of_row _ _ 0 _ _ _ HH2.out)
  have q3 : ∀ ii, (W ii).cell? ⟨gx, 3, none⟩ = some (.int .u16 ((cnt : Nat) : Int)) := fun ii => ((HW.out ii).cell (p := ⟨gx, 3, none⟩) lx).trans (cell_of_row _ _ 3 _ _ _ HH2.out)
  have r1 : ∀ ii, (W ii).cell? ⟨g3, 1, none⟩ = some (.int .u8 ((s : Nat) : Int)) := fun ii => ((HW.out ii).cell (p := ⟨g3, 1, none⟩) l3).trans (cell_of_row _ _ 1 _ _ _ HA2.out)
  have r2 : ∀ ii, (W ii).cell? ⟨g3, 2, none⟩ = some (.int .u8 ((u : Nat) : Int)) := fun ii => ((HW.out ii).cell (p := ⟨g3, 2, none⟩) l3).trans (cell_of_row _ _ 2 _ _ _ HA2.out)
  have r3 : ∀ ii, (W ii).cell? ⟨g3, 3, none⟩ = some (.int .u32 ((t : Nat) : Int)) := fun ii => ((HW.out ii).cell (p := ⟨g3, 3, none⟩) l3).trans (cell_of_row _ _ 3 _ _ _ HA2.out)
  have r4 : ∀ ii, (W ii).cell? ⟨g3, 4, none⟩ = some (.slice da dn dc) := fun ii => ((HW.out ii).cell (p := ⟨g3, 4, none⟩) l3).trans (cell_of_row _ _ 4 _ _ _ HA2.out)
  (repeat (first | (refine Go.Flo.fw_calm rfl ?_ (fun K hK => ?_); (first | exact Go.Mix.wanted_none rfl | exact Go.Mix.wanted_tt rfl rfl rfl | exact Go.Mix.wanted_ff rfl rfl rfl); go_big_quiet_op; refine hK _ ?_; clear hK K) | (refine Go.Flo.fw_skip ?_ (fun K hK => ?_); (first | exact Go.Mix.wanted_tf rfl rfl rfl | exact Go.Mix.wanted_ft rfl rfl rfl); go_simp; refine hK _ ?_; clear hK K) | (refine Go.Flo.fw_any rfl ?_ (fun K hK => ?_); (first | exact Go.Mix.wanted_none rfl | exact Go.Mix.wanted_tt rfl rfl rfl | exact Go.Mix.wanted_ff rfl rfl rfl); go_simp; (try (go_ints; try go_simp)); refine hK _ ?_; clear hK K)))
  refine Go.Flo.fw_loud rfl ?_ rfl (by simp) (fun wv hwv hav K hK => ?_) (fun v hv K hK => ?_)
  · (first | exact Go.Mix.wanted_none rfl | exact Go.Mix.wanted_tt rfl rfl rfl | exact Go.Mix.wanted_ff rfl rfl rfl)
  · obtain ⟨iv, rfl⟩ := hwv
    (first | go_big_op | go_simp)
    refine hK _ _ (Go.Flo.owes_row (HW.out iv).size)
  obtain ⟨gd, hgd, rfl⟩ := hv.row
  go_simp
  refine hK _ ?_
  clear hK K hv
  (repeat (first | (refine Go.Flo.fw_calm rfl ?_ (fun K hK => ?_); (first | exact Go.Mix.wanted_none rfl | exact Go.Mix.wanted_tt rfl rfl rfl | exact Go.Mix.wanted_ff rfl rfl rfl); go_big_quiet_op; refine hK _ ?_; clear hK K) | (refine Go.Flo.fw_skip ?_ (fun K hK => ?_); (first | exact Go.Mix.wanted_tf rfl rfl rfl | exact Go.Mix.wanted_ft rfl rfl rfl); go_simp; refine hK _ ?_; clear hK K) | (refine Go.Flo.fw_any rfl ?_ (fun K hK => ?_); (first | exact Go.Mix.wanted_none rfl | exact Go.Mix.wanted_tt rfl rfl rfl | exact Go.Mix.wanted_ff rfl rfl rfl); go_simp; (try (go_ints; try go_simp)); refine hK _ ?_; clear hK K)))
  refine Go.Flo.fw_loud rfl ?_ rfl (by simp) (fun wv hwv hav K hK => ?_) (fun v hv K hK => ?_)
  · (first | exact Go.Mix.wanted_none rfl | exact Go.Mix.wanted_tt rfl rfl rfl | exact Go.Mix.wanted_ff rfl rfl rfl)
  · obtain ⟨iv, rfl⟩ := hwv
    have hbv := HW.out iv
    have hrow := Go.Flo.says_row ((hav 66 (by decide +kernel)).1.1.1.1.2 rfl).1
    refine wp_copyQ (base := w2.heap.size) _ _ rfl hi hz0 hz1 hz2 rfl rfl rfl (all_cells (own_keepQ HO2.out (fun j _ hj => hbv.block j hj))) hrow hgd (by omega) ?_
    intro v' w' hown hb'
    exact hK _ _ (owes_Q rfl hb' hown (Nat.le_refl _))
  obtain ⟨xa, xc, rfl⟩ := ex_Q hv
  go_simp
  refine hK _ ?_
  clear hK K hv
  (repeat (first | (refine Go.Flo.fw_calm rfl ?_ (fun K hK => ?_); (first | exact Go.Mix.wanted_none rfl | exact Go.Mix.wanted_tt rfl rfl rfl | exact Go.Mix.wanted_ff rfl rfl rfl); go_big_quiet_op; refine hK _ ?_; clear hK K) | (refine Go.Flo.fw_skip ?_ (fun K hK => ?_); (first | exact Go.Mix.wanted_tf rfl rfl rfl | exact Go.Mix.wanted_ft rfl rfl rfl); go_simp; refine hK _ ?_; clear hK K) | (refine Go.Flo.fw_any rfl ?_ (fun K hK => ?_); (first | exact Go.Mix.wanted_none rfl | exact Go.Mix.wanted_tt rfl rfl rfl | exact Go.Mix.wanted_ff rfl rfl rfl); go_simp; (try (go_ints; try go_simp)); refine hK _ ?_; clear hK K)))
  refine Go.Flo.fw_loud rfl ?_ rfl (by simp) (fun wv hwv hav K hK => ?_) (fun v hv K hK => ?_)
  · (first | exact Go.Mix.wanted_none rfl | exact Go.Mix.wanted_tt rfl rfl rfl | exact Go.Mix.wanted_ff rfl rfl rfl)
  · obtain ⟨iv, rfl⟩ := hwv
    have hbv := HW.out iv
    (first | go_big_op | go_simp)
    go_at_call 19
    refine (Cut_any da dn dc l 189 _ hl ((HRD2.out.below (hbv.mono hw2)).mono (Nat.le_trans hw2 hbv.size)) (by omega)).mono ?_
    rintro e w' ⟨v, rfl, ho, hb⟩
    rw [← HLT.out] at ho
    exact hK _ _ (owes_O HLN.out rfl hb ho hbv.size)
  obtain ⟨ya, yc, rfl⟩ := ex_O hv
  go_simp
  refine hK _ ?_
  clear hK K hv
  refine Go.Flo.fw_nil ?_
  intro wc hwwc hfwc huwc
  obtain ⟨iend, hiend⟩ := hwwc
  have hbwc := HW.out iend
  rw [← hiend] at hbwc
  clear hiend iend huwc
  have hdat : wc.ownsRow w2.heap.size 5 1 (.slice ya lt.length yc) lt.length (bl lt) := ((hfwc (some 84)).2 rfl).1
  have hcp : wc.ownsRow w2.heap.size 57 5 (.slice xa L.length xc) L.length (ql L) := ((hfwc (some 71)).1.1.1.1.1.1.1.1.1.1.1.1.1.2 rfl).1
  have HDAT := Lib.hid hdat
  have HCP := Lib.hid hcp
  have HBC := Lib.hid hbwc
  have lgc : gx < wc.heap.size := Nat.lt_of_lt_of_le lx hbwc.size
  clear hfwc HJ HW hne q0 q3 r1 r2 r3 r4 hbwc hdat hcp hgd
  clear W I
  refine ⟨fun _ => True, trivial, ?_⟩

  (repeat (first | (refine Go.Mix.walk_calm rfl ?_ (fun K hK => ?_); (first | exact Go.Mix.wanted_none rfl | exact Go.Mix.wanted_tt rfl rfl rfl | exact Go.Mix.wanted_ff rfl rfl rfl); go_big_quiet_op; refine hK _ ?_; clear hK K) | (refine Go.Mix.walk_skip ?_ (fun K hK => ?_); (first | exact Go.Mix.wanted_tf rfl rfl rfl | exact Go.Mix.wanted_ft rfl rfl rfl); go_simp; refine hK _ ?_; clear hK K) | (refine Go.Mix.walk_loud rfl ?_ (fun K hK => ?_); (first | exact Go.Mix.wanted_none rfl | exact Go.Mix.wanted_tt rfl rfl rfl | exact Go.Mix.wanted_ff rfl rfl rfl); (first | go_big_op | go_simp); (first | (refine hK _ _ trivial ?_; clear hK K) | (fail; (try dsimp only); refine hK _ _ trivial ?_; clear hK K))) | (refine Go.Mix.walk_step (fun K hK => ?_); go_simp; (try (go_ints; try go_simp)); refine hK _ _ ?_; clear hK K)))
  refine Go.Mix.walk_loud rfl ?_ (fun K hK => ?_)
  · (first | exact Go.Mix.wanted_none rfl | exact Go.Mix.wanted_tt rfl rfl rfl | exact Go.Mix.wanted_ff rfl rfl rfl)
  obtain ⟨rr, hrr⟩ : ∃ rr : Rq, rr = ⟨s, u, cnt, t, ya, lt.length, yc, lt⟩ := ⟨_, rfl⟩
  have hal : Below wc.heap.size wc (wc.alloc (.cells #[.int .u8 ((s : Nat) : Int), .int .u8 ((u : Nat) : Int), .int .u16 ((cnt : Nat) : Int), .int .u32 ((t : Nat) : Int), .slice ya lt.length yc] 57)) := (Below.refl _ _).alloc (Nat.le_refl _) _
  have hcpn := own_keepQ HCP.out (fun j _ hj => hal.block j hj)
  refine wp_append_own _ _ _ 38 rfl w2.heap.size 57 i0 (.agg #[.int .u8 (rq0.s : Nat), .int .u8 (rq0.u : Nat), .int .u16 (rq0.c : Nat), .int .u32 (rq0.t : Nat), .slice rq0.a rq0.n rq0.cp]) 5 32 Try.underlying38 hi hz0 hz1 hz2 rfl (by decide) _ _ _ rfl hcpn ⟨wc.heap.size, 0, none⟩ 1 1 [.int .u8 ((s : Nat) : Int), .int .u8 ((u : Nat) : Int), .int .u16 ((cnt : Nat) : Int), .int .u32 ((t : Nat) : Int), .slice ya lt.length yc] rfl rfl (new_cellsQ wc _ _) (by simp [Value.oneCell']) (by unfold maxLen; omega) (by omega) (by simp; have := HBC.out.size; omega) ?_
  intro v' w4 hown4 hgrow4 _
  obtain ⟨a7, c7, rfl⟩ : ∃ a c, v' = .slice a (L.length + 1) c := by
    rcases hown4.2 with ⟨hv, hx⟩ | ⟨g, cap, cur, hv, _⟩
    · exact ⟨none, 0, by rw [hv, hx]⟩
    · exact ⟨_, _, hv⟩
  have hB4 : Below w2.heap.size w2 w4 := (HBC.out.alloc HBC.out.size _).grown hgrow4 (by simp; have := HBC.out.size; omega) (fun j hj => (hcpn.lt j hj).1)
  have hdn := own_keepQ HDAT.out (fun j _ hj => hal.block j hj)
  have HD4 := Lib.hid (hdn.kept hgrow4 (own_apart hdn hcpn (by decide)))
  clear hdn
  have hq4 := box_below HH2.out hB4 lx
  have hg0 : w4.cell? ⟨gx, 0, none⟩ = some (.slice a L.length c) := cell_of_row _ _ 0 _ _ _ hq4
  have hf0 : w4.frozen? ⟨gx, 0, none⟩ = false := frozen_of_row _ _ 0 _ _ hq4
  have HQ4 := Lib.hid hq4
  have HB4 := Lib.hid hB4
  have HO4 := Lib.hid hown4
  have HG4 := Lib.hid hgrow4
  refine hK _ _ trivial ?_
  clear hK K hown4 hgrow4 hB4 hq4 hcpn hal
  (repeat (first | (refine Go.Mix.walk_calm rfl ?_ (fun K hK => ?_); (first | exact Go.Mix.wanted_none rfl | exact Go.Mix.wanted_tt rfl rfl rfl | exact Go.Mix.wanted_ff rfl rfl rfl); go_big_quiet_op; refine hK _ ?_; clear hK K) | (refine Go.Mix.walk_skip ?_ (fun K hK => ?_); (first | exact Go.Mix.wanted_tf rfl rfl rfl | exact Go.Mix.wanted_ft rfl rfl rfl); go_simp; refine hK _ ?_; clear hK K) | (refine Go.Mix.walk_loud rfl ?_ (fun K hK => ?_); (first | exact Go.Mix.wanted_none rfl | exact Go.Mix.wanted_tt rfl rfl rfl | exact Go.Mix.wanted_ff rfl rfl rfl); (first | go_big_op | go_simp); (first | (refine hK _ _ trivial ?_; clear hK K) | (fail; (try dsimp only); refine hK _ _ trivial ?_; clear hK K))) | (refine Go.Mix.walk_step (fun K hK => ?_); go_simp; (try (go_ints; try go_simp)); refine hK _ _ ?_; clear hK K)))
  refine Go.Mix.walk_nil ?_
  have hq5 := heap_setCell_same _ gx 0 _ _ (.slice a7 (L.length + 1) c7) HQ4.out
  have c3 : (w4.setCell ⟨gx, 0, none⟩ (.slice a7 (L.length + 1) c7)).cell? ⟨gx, 3, none⟩ = some (.int .u16 ((cnt : Nat) : Int)) := cell_of_row _ _ 3 _ _ _ hq5
  have f3 : (w4.setCell ⟨gx, 0, none⟩ (.slice a7 (L.length + 1) c7)).frozen? ⟨gx, 3, none⟩ = false := frozen_of_row _ _ 3 _ _ hq5
  obtain ⟨w5, hw5⟩ : ∃ w5, w5 = w4.setCell ⟨gx, 0, none⟩ (.slice a7 (L.length + 1) c7) := ⟨_, rfl⟩
  rw [← hw5] at c3 f3 hq5 ⊢
  have HQ5 := Lib.hid hq5
  have HW5 := Lib.hid hw5
  clear hg0 hf0 hq5 hw5 hrr
  go_wp2_with fail
  have hcI : IntKind.u16.wrap ((cnt : Int) + 1) = (((cnt + 1) % 65536 : Nat) : Int) := by rw [IntKind.wrap_u16]; omega
  rw [hcI]
  have hK5 := (HK2.out.trans (Kept.of_below (g := gx) (b := gx) HB4.out)).set (a := ⟨gx, 0, none⟩) (.inl rfl) (.slice a7 (L.length + 1) c7)
  rw [← HW5.out] at hK5
  have hK6 := hK5.set (a := ⟨gx, 3, none⟩) (.inl rfl) (.int .u16 (((cnt + 1) % 65536 : Nat) : Int))
  have hk45 : ∀ j, j ≠ gx → (w5.setCell ⟨gx, 3, none⟩ (.int .u16 (((cnt + 1) % 65536 : Nat) : Int))).heap[j]? = w4.heap[j]? := fun j hj => by
    rw [heap_setCell_other w5 ⟨gx, 3, none⟩ j _ hj, HW5.out, heap_setCell_other w4 ⟨gx, 0, none⟩ j _ hj]
  have hrw := box_lt HQ5.out
  have hdat6 := own_keepQ HD4.out (fun j h1 _ => hk45 j (by omega))
  have hown6 := own_keepQ HO4.out (fun j h1 _ => hk45 j (by omega))
  have hXQ : XQ (w5.setCell ⟨gx, 3, none⟩ (.int .u16 (((cnt + 1) % 65536 : Nat) : Int))) gx base n ((cnt + 1) % 65536) d (.slice a7 (L.length + 1) c7) (L ++ [⟨s, u, cnt, t, ya, lt.length, yc, lt⟩]) := by
    refine ⟨heap_setCell_same _ gx 3 _ _ (.int .u16 (((cnt + 1) % 65536 : Nat) : Int)) HQ5.out, ?_, H.out.lt, ?_⟩
    · have e : ql (L ++ [⟨s, u, cnt, t, ya, lt.length, yc, lt⟩]) = ql L ++ [.int .u8 ((s : Nat) : Int), .int .u8 ((u : Nat) : Int), .int .u16 ((cnt : Nat) : Int), .int .u32 ((t : Nat) : Int), .slice ya lt.length yc] := by rw [ql_append]; rfl
      rw [e, List.length_append]
      exact World.ownsRow.mono hown6 hs2
    · intro r hr
      rcases List.mem_append.1 hr with hr | hr
      · exact (H.out.data r hr).kep (gq := gx) (g := gx) (b := gx) ⟨hK6.os, hK6.tape, hK6.output, hK6.size, fun k hk h1 h2 _ => hK6.block k hk h1 h2⟩ H.out.lt H.out.lt H.out.lt
      · obtain rfl := List.mem_singleton.1 hr
        refine ⟨hs, hu, hcn, ht, rfl, ?_, ?_, rd_of_own (f := bv lt) hdat6 (fun i hi => bl_at _ hi), fun x hx => Nat.le_trans hs2 (hdat6.lt x.block ?_).1⟩
        · show lt.length ≤ 189
          rw [HLN.out]; omega
        · show bytes lt
          rw [HLT.out]
          exact fun y hy => hby y (List.mem_of_mem_take hy)
        · show (Value.slice ya lt.length yc).ownBlock = some x.block
          rw [show ya = some x from hx]; rfl
  exact bodyPost_ret (v := .tuple #[.bool true, .slice none 0 0]) (by simp [results, Try.results20, go_sem]) rfl ⟨rfl, ⟨a7, c7, _, ⟨rfl, rfl, rfl, rfl, HLT.out⟩, hXQ⟩, hK6⟩
end Go.Proofs.Ytioclbkgfbjpdaa
