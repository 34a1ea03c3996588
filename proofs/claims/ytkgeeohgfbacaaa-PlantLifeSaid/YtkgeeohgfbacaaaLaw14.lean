/- Layer 14: the document's example. -/
import Derived.Test.YtkgeeohgfbacaaaPlS
import Derived.Test.YtkgeeohgfbacaaaPlO
namespace Go.Proofs.Ytkgeeohgfbacaaa
open Go.RowKit Go.Own
set_option linter.unusedVariables false
set_option linter.unusedSimpArgs false
theorem wpLoadW {P : Program} {ops : Array Oper} {rest : List Oper} {o : Oper} {a : Act} {w : World} {Q : Exit → Act → World → Prop} (hwt : Region.wanted o (yielded ops a.tmps) = true) (ty : TypeId) (x : Operand) (ho : o.op = .load ty x)
    (g : Nat) (hx : a.eval x = .pointer (some ⟨g, 0, none⟩)) (t : TypeId) (cs : Array Value) (fr : Nat × Nat) (d : TypeDesc) (hg : w.heap[g]? = some (.cells cs t fr))
    (hu : P.underlying ty = some d) (hd : (match d with | .struct _ | .array _ _ => true | _ => false) = true) (hi : (P.info? ty).map (·.size) = some cs.size)
    (h : wpList P ops Q rest (a.put o.dst (.agg cs)) w) : wpList P ops Q (o :: rest) a w := by
  unfold wpList
  rw [if_pos hwt]
  exact .inl (wp_load_row ty x ho g hx t cs fr d hg hu hd hi h)
set_option maxHeartbeats 1000000 in
theorem Of_any (a : Option Addr) (len cap n : Nat) (l : List Int) (w : World) (hl : l.length = len) (hn : n ≤ w.heap.size) (hr : Rd n w a len cap (Bs.iv l)) :
    Calls Try.prog 44 #[.slice a len cap] w fun e w' => e = .returned (.int .u16 (Bs.withS 0 l : Nat)) ∧ Below w.heap.size w w' := by
  go_enter Try.func44, Try.ntmps44
  go_wp2_with fail
  go_at_call 95
  refine (Bs.With_any a len cap n 0 l w (by omega) hl hn hr).mono ?_
  rintro e w1 ⟨rfl, hb⟩
  obtain ⟨x, hx⟩ : ∃ x, x = Bs.withS 0 l := ⟨_, rfl⟩
  rw [← hx]
  have HX := Lib.hid hx
  clear hx
  go_wp2
  go_ret
  rw [← HX.out]
  exact ⟨rfl, hb⟩
theorem rd_ints (w : World) (l : List Int) (t : TypeId) (hl : 0 < l.length) (hm : l.length ≤ 100) : Rd (w.alloc (.cells (l.map (Value.int .i64)).toArray t)).heap.size (w.alloc (.cells (l.map (Value.int .i64)).toArray t)) (some ⟨w.heap.size, 0, none⟩) l.length l.length (Bs.iv l) :=
  ⟨Nat.le_refl _, by unfold maxLen; omega, fun h => (by cases h), fun _ => ⟨w.heap.size, 0, rfl, by simp, fun j hj => by
    rw [Nat.zero_add]
    have := cell_of_row _ _ j _ _ _ (heap_alloc_new w (.cells (l.map (Value.int .i64)).toArray t))
    rw [this]
    simp [Bs.iv, List.getD, hj]⟩⟩
def z0f : Nat → Int := fun _ => 0
theorem aw14 : ordAll true (Pl.part 4 z0f z0f 4) [2, 2, 99] = (((Pl.part 4 z0f z0f 4).set 2 ⟨1, 0, 0⟩).set 2 ⟨1, 0, 0⟩, [2]) := rfl
@[go_sem] theorem mk4 (w : World) : (Instr.makeSlice 86 (.int .i64 4) (.int .i64 4)).run Try.prog w = .ok (.slice (some ⟨w.heap.size, 0, none⟩) 4 4) (w.alloc (.cells #[.int .u8 0, .int .u8 0, .int .u8 0, .int .u8 0, .int .u8 0, .int .u8 0, .int .u8 0, .int .u8 0] 90)) := by kernel_rfl
theorem rls4 (w : World) : RlS (w.alloc (.cells #[.int .u8 0, .int .u8 0, .int .u8 0, .int .u8 0, .int .u8 0, .int .u8 0, .int .u8 0, .int .u8 0] 90)) (some ⟨w.heap.size, 0, none⟩) 4 4 z0f z0f :=
  ⟨Nat.le_refl _, by unfold maxLen; omega, fun _ => ⟨w.heap.size, 0, rfl, by simp, fun i hi => by
    have h := heap_alloc_new w (.cells #[.int .u8 0, .int .u8 0, .int .u8 0, .int .u8 0, .int .u8 0, .int .u8 0, .int .u8 0, .int .u8 0] 90)
    have : i = 0 ∨ i = 1 ∨ i = 2 ∨ i = 3 := by omega
    rcases this with rfl | rfl | rfl | rfl <;> exact ⟨cell_of_row _ _ _ _ _ _ h, cell_of_row _ _ _ _ _ _ h⟩⟩⟩
/-- A new plant with its rules. -/
theorem part_ok {n : Nat} {wt tol : Nat → Int} (hn : n ≤ 16) (hw : ∀ i, i < n → 0 ≤ wt i ∧ wt i ≤ 255) (ht : ∀ i, i < n → 0 ≤ tol i ∧ tol i ≤ 255) : (Pl.part n wt tol n).Ok := by
  refine ⟨hn, fun i _ => ⟨by simp [Pl.part], by simp [Pl.part]⟩, fun i _ => ⟨by simp [Pl.part], by simp [Pl.part]⟩, fun i _ => ⟨by simp [Pl.part], by simp [Pl.part]⟩, fun i _ => ?_, fun i _ => ?_⟩
  · show 0 ≤ (if i < n then wt i else 0) ∧ (if i < n then wt i else 0) ≤ 255
    split
    · exact hw i ‹_›
    · omega
  · show 0 ≤ (if i < n then tol i else 0) ∧ (if i < n then tol i else 0) ≤ 255
    split
    · exact ht i ‹_›
    · omega
theorem own_cell {w : World} {base m c : Nat} {e : TypeId} {size : Nat} {a : Option Addr} {xs : List Value} (h : w.ownsRow base e size (.slice a m c) m xs) (hx : 0 < m) : ∃ g, a = some ⟨g, 0, none⟩ ∧ base ≤ g ∧ g < w.heap.size ∧ ∀ (i : Nat) v, xs[i]? = some v → w.cell? ⟨g, i, none⟩ = some v := by
  obtain ⟨h1, h2 | ⟨g', cap, cur, hv, hb', hr, ho⟩⟩ := h
  · simp only [Value.slice.injEq] at h2
    omega
  · simp only [Value.slice.injEq] at hv
    obtain ⟨rfl, _, _⟩ := hv
    refine ⟨g', rfl, hb', (Array.getElem?_eq_some_iff.1 hr).1, fun i v hi => ?_⟩
    rw [cell_of_row w g' i _ _ _ hr, ← Array.getElem?_toList]
    have hil := (List.getElem?_eq_some_iff.1 hi).1
    rw [← ho.2.2.2, List.getElem?_take] at hi
    split at hi
    · exact hi
    · cases hi
theorem own_form2 {w : World} {base m : Nat} {e : TypeId} {size : Nat} {v : Value} {xs : List Value} (h : w.ownsRow base e size v m xs) : ∃ a c, v = .slice a m c := by
  obtain ⟨h1, ⟨h2, h3⟩ | ⟨g', cap, cur, hv, hb', hr, ho⟩⟩ := h
  · exact ⟨none, 0, by simp_all⟩
  · exact ⟨_, _, hv⟩
set_option maxRecDepth 100000 in
set_option maxHeartbeats 4000000 in
theorem awake14 (w : World) : Calls Try.prog 41 #[] w fun e w' => e = .returned (.bool true) ∧ Below w.heap.size w w' := by
  have hb0 : Below w.heap.size w (w.alloc (.cells #[.int .u8 0, .int .u8 0, .int .u8 0, .int .u8 0, .int .u8 0, .int .u8 0, .int .u8 0, .int .u8 0] 90)) := (Below.refl _ _).alloc (Nat.le_refl _) _
  have HR := Lib.hid (rls4 w)
  go_enter Try.func41, Try.ntmps41
  go_wp2_with fail
  go_at_call 42
  refine (pNew_ok _ 4 4 z0f z0f _ HR.out (by omega)).mono ?_
  rintro e w1 ⟨rfl, hb1⟩
  have hb2 := hb0.trans (hb1.mono (by simp))
  obtain ⟨p, hp⟩ : ∃ p, p = Pl.part 4 z0f z0f 4 := ⟨_, rfl⟩
  rw [← hp]
  have HPN := PlB.new w1 p
  have HB2 := Lib.hid (hb2.alloc hb2.size (.cells p.cs 95))
  have HPP := Lib.hid hp
  clear hb0 hb1 hb2 HR hp
  go_wp2_with (first | (refine wpList_store_row rfl 95 _ _ rfl _ (Pl.cs _) rfl rfl 95 _ (heap_alloc_new w1 (.cells (Pl.empty 0).cs 95)) (size_pl _) (by simp only [Pl.size]) (Pl.one _) ?_; rw [World.setRow_alloc_new]; (try go_simp)) | (refine wpList_load_row rfl 95 _ rfl _ rfl _ _ _ _ HPN Try.underlying95 rfl (by exact size_pl _) ?_; (try go_simp)))
  obtain ⟨g1, hg1⟩ : ∃ g, g = w1.heap.size := ⟨_, rfl⟩
  obtain ⟨w2, hw2⟩ : ∃ w2, w2 = w1.alloc (.cells p.cs 95) := ⟨_, rfl⟩
  rw [← hw2] at HPN HB2
  rw [← hg1] at HPN
  rw [← hw2, ← hg1]
  have hsz : g1 + 1 = w2.heap.size := by rw [hw2, hg1]; simp
  rw [hsz]
  clear hw2 hg1 hsz
  have hal : Below w2.heap.size w2 (w2.alloc (.cells #[.int .i64 2, .int .i64 2, .int .i64 99] 3)) := (Below.refl _ _).alloc (Nat.le_refl _) _
  have hr : Rd (w2.alloc (.cells #[.int .i64 2, .int .i64 2, .int .i64 99] 3)).heap.size (w2.alloc (.cells #[.int .i64 2, .int .i64 2, .int .i64 99] 3)) (some ⟨w2.heap.size, 0, none⟩) 3 3 (Bs.iv [2, 2, 99]) := rd_ints w2 [2, 2, 99] 3 (by decide) (by decide)
  have HR := Lib.hid hr
  have hpn : p.n ≤ 16 := by rw [HPP.out]; exact (by decide : 4 ≤ 16)
  clear hr
  have HPN2 := HPN.below hal (Nat.le_refl _)
  have HB3 := Lib.hid (HB2.out.trans (hal.mono HB2.out.size))
  clear HPN hal HB2
  go_at_call 43
  have hcall := pOrder p true _ 3 3 [2, 2, 99] _ hpn rfl HR.out (by decide)
  with_reducible refine hcall.mono ?_
  clear hcall
  rintro e w3 ⟨v, rfl, hown, hb⟩
  have ho : (ordAll true p [2, 2, 99]).2 = [2] := by rw [HPP.out, aw14]
  rw [ho, show ([2] : List Nat).length = 1 from rfl] at hown
  obtain ⟨q, hq⟩ : ∃ q, q = (ordAll true p [2, 2, 99]).1 := ⟨_, rfl⟩
  rw [← hq]
  have HQ := Lib.hid (hq.trans (by rw [HPP.out, aw14] : _ = ((Pl.part 4 z0f z0f 4).set 2 ⟨1, 0, 0⟩).set 2 ⟨1, 0, 0⟩))
  obtain ⟨va, vc, rfl⟩ := own_form2 hown
  obtain ⟨gv, rfl, hgv, hgl, hvc⟩ := own_cell hown (by decide)
  have HP3 := Lib.hid (HPN2.below hb (Nat.le_refl _))
  have HB4 := Lib.hid (HB3.out.trans (hb.mono HB3.out.size))
  have HV0 := Lib.hid (hvc 0 _ rfl)
  have HV1 := Lib.hid (hvc 1 _ rfl)
  have HGV := Lib.hid hgl
  clear hown hvc hb hgv hgl ho hq HR HPN2 HB3
  have HQN := PlB.new w3 q
  have HPN := HP3.out.alloc (.cells q.cs 95)
  have hal : Below w3.heap.size w3 (w3.alloc (.cells q.cs 95)) := (Below.refl _ _).alloc (Nat.le_refl _) _
  have v0 : (w3.alloc (.cells q.cs 95)).cell? ⟨gv, 0, none⟩ = some (.int .i64 2) := (hal.cell (p := ⟨gv, 0, none⟩) HGV.out).trans HV0.out
  have v1 := (hal.cell (p := ⟨gv, 1, none⟩) HGV.out).trans HV1.out
  have HB5 := Lib.hid (HB4.out.trans (hal.mono HB4.out.size))
  clear hal HV0 HV1 HGV HP3 HB4
  have hqn : q.n ≤ 16 := by rw [HQ.out]; exact (by decide : 4 ≤ 16)
  have HX := Lib.hid (show setN (fun k => decide (k = 2)) q.n = 4 by rw [HQ.out]; rfl)
  have HF := Lib.hid (show ∀ k s l b, q.u k = Un.mk s l b → (fun k => decide (k = 2)) k = (decide (s = 1) || decide (s = 2)) by
    intro k s l b h
    rw [HQ.out] at h
    by_cases e : k = 2
    · subst e
      obtain ⟨rfl, rfl, rfl⟩ := Un.inj (h.symm.trans (show _ = Un.mk 1 0 0 from rfl))
      rfl
    · have h2 : (((Pl.part 4 z0f z0f 4).set 2 ⟨1, 0, 0⟩).set 2 ⟨1, 0, 0⟩).u k = Un.mk 0 0 0 := (if_neg e).trans ((if_neg e).trans rfl)
      obtain ⟨rfl, rfl, rfl⟩ := Un.inj (h.symm.trans h2)
      simp [e])
  have HX0 := Lib.hid (show setN (fun _ => false) p.n = 0 by rw [HPP.out]; rfl)
  have HF0 := Lib.hid (show ∀ k s l b, p.u k = Un.mk s l b → (fun _ => false) k = (decide (s = 1) || decide (s = 2)) by
    intro k s l b h
    rw [HPP.out] at h
    obtain ⟨rfl, rfl, rfl⟩ := Un.inj (h.symm.trans (show _ = Un.mk 0 0 0 from rfl))
    rfl)
  clear HPP HQ
  go_wp2_with (first | (refine wpList_store_row rfl 95 _ _ rfl _ (Pl.cs _) rfl rfl 95 _ (heap_alloc_new w3 (.cells (Pl.empty 0).cs 95)) (size_pl _) (by simp only [Pl.size]) (Pl.one _) ?_; rw [World.setRow_alloc_new]; (try go_simp)) | (refine wpLoadW (by (first | exact Go.Mix.wanted_none rfl | exact Go.Mix.wanted_tt rfl rfl rfl | exact Go.Mix.wanted_ff rfl rfl rfl)) 95 _ rfl _ rfl _ _ _ _ HQN Try.underlying95 rfl (size_pl _) ?_; (try go_simp)))
  obtain ⟨g3, hg3⟩ : ∃ g, g = w3.heap.size := ⟨_, rfl⟩
  obtain ⟨w4, hw4⟩ : ∃ w4, w4 = w3.alloc (.cells q.cs 95) := ⟨_, rfl⟩
  rw [← hw4] at HQN HPN HB5 v0 v1
  rw [← hg3] at HQN
  rw [← hw4, ← hg3]
  clear hw4 hg3
  go_at_call 46
  refine (pPowered q w4 _ 4 HX.out hqn HF.out).mono ?_
  rintro e w5 ⟨rfl, hb⟩
  have HPN5 := HPN.below hb (Nat.le_refl _)
  have HB6 := Lib.hid (HB5.out.trans (hb.mono HB5.out.size))
  clear hb HPN HQN HB5 v0 v1 HX HF
  go_wp2_with fail
  have hr : Rd (w5.alloc (.cells #[.int .i64 2] 3)).heap.size (w5.alloc (.cells #[.int .i64 2] 3)) (some ⟨w5.heap.size, 0, none⟩) 1 1 (Bs.iv [2]) := rd_ints w5 [2] 3 (by decide) (by decide)
  have hal : Below w5.heap.size w5 (w5.alloc (.cells #[.int .i64 2] 3)) := (Below.refl _ _).alloc (Nat.le_refl _) _
  go_at_call 44
  refine (Of_any _ 1 1 _ [2] _ rfl (Nat.le_refl _) hr).mono ?_
  rintro e w6 ⟨rfl, hb⟩
  rw [show Bs.withS 0 [2] = 4 from rfl]
  have hb6 := hal.trans (hb.mono (by simp))
  have HPN6 := HPN5.below hb6 (Nat.le_refl _)
  have HB7 := Lib.hid (HB6.out.trans (hb6.mono HB6.out.size))
  clear hb hal hr hb6 HPN5 HB6
  go_wp2_with (refine wpLoadW (by (first | exact Go.Mix.wanted_none rfl | exact Go.Mix.wanted_tt rfl rfl rfl | exact Go.Mix.wanted_ff rfl rfl rfl)) 95 _ rfl _ rfl _ _ _ _ HPN6 Try.underlying95 rfl (size_pl _) ?_; (try go_simp))
  go_at_call 46
  refine (pPowered p w6 _ 0 HX0.out hpn HF0.out).mono ?_
  rintro e w7 ⟨rfl, hb⟩
  have HB8 := Lib.hid (HB7.out.trans (hb.mono HB7.out.size))
  clear hb HPN6 HB7
  go_wp2
  go_ret
  exact ⟨rfl, HB8.out⟩
end Go.Proofs.Ytkgeeohgfbacaaa
