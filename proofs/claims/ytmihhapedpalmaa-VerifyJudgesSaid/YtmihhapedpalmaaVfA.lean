/- Verification: awake. -/
import Derived.Test.YtmihhapedpalmaaVfV
import Derived.Test.YtmihhapedpalmaaPs9
import Derived.Carry
namespace Go.Proofs.Ytmihhapedpalmaa
open Go.RowKit Go.Own Go.Maps
set_option linter.unusedVariables false
set_option linter.unusedSimpArgs false
theorem upC_mk {A C : Nat} {d : List Nat} (ha : A < 2048) (hc : C < 16384) (h0 : 0 < d.length) (h : d.length ≤ 200) : upC (mkPkt 1 A C d) = 0 := by
  unfold upC
  rw [mkPkt_len, mkPkt_err 1 A C d (by omega) ha hc h, if_neg (show ¬ 208 < d.length + 8 by omega), if_neg (show ¬ d.length = 0 by omega), if_pos rfl]
/-- The verdict on the packet of a command. -/
theorem vdC_mk {A C a s u c : Nat} {d : List Nat} (T : Nat → Nat → Option (Int × Int)) (hA : A < 2048) (hC : C < 16384) (ha : a < 16) (hd : d.length ≤ 195) : vdC T (mkPkt 1 A C (cmB a s u c d)) A = jdT T s u d.length := by
  have hl := cmB_len a s u c d
  unfold vdC
  rw [upC_mk hA hC (by omega) (by omega), if_neg (by simp), mkPkt_dat, mkPkt_k 1 A C _ (by omega) hA, mkPkt_a 1 A C _ (by omega) hA, if_neg (by simp), cmB_err ha hd, if_neg (by simp), hl, cmB_cons]
  simp
theorem own_setV {w : World} {base g m c j : Nat} {l : List Nat} (h : w.ownsRow base 5 1 (.slice (some ⟨g, 0, none⟩) m c) m (bl l)) (hl : l.length = m) (hj : j < m) (z : Nat) :
    g < w.heap.size ∧ w.cell? ⟨g, j, none⟩ = some (.int .u8 (l.getD j 0 : Nat)) ∧ w.frozen? ⟨g, j, none⟩ = false ∧ Rd (w.setCell ⟨g, j, none⟩ (.int .u8 (z : Nat))).heap.size (w.setCell ⟨g, j, none⟩ (.int .u8 (z : Nat))) (some ⟨g, 0, none⟩) m c (bv (l.set j z)) := by
  have hrd := rd_of_own (f := bv l) h (fun i hi => bl_at l (by rw [hl]; exact hi))
  have hcell : ∀ i, i < m → w.cell? ⟨g, i, none⟩ = some (bv l i) := fun i hi => by
    have := rd_cell (k := i) hrd hi
    rw [Nat.zero_add] at this
    exact this
  rcases h.2 with ⟨hv, hx⟩ | ⟨g', cap, cur, hv, hb', hg, _⟩
  · simp at hv
  · simp only [Value.slice.injEq, Option.some.injEq, Addr.mk.injEq, and_true, true_and] at hv
    obtain ⟨rfl, rfl⟩ := hv
    refine ⟨box_lt hg, hcell j hj, frozen_of_row _ g j _ _ hg, hrd.le, hrd.top, hrd.nil_, fun _ => ⟨g, 0, rfl, by simpa using box_lt hg, fun i hi => ?_⟩⟩
    rw [Nat.zero_add]
    by_cases e : i = j
    · subst e
      rw [World.cell?_setCell_same _ _ _ (hcell i hi)]
      simp [bv, List.getD, hl, hi]
    · rw [World.cell?_setCell_other _ _ _ _ (by simp [Ne.symm e]), hcell i hi]
      unfold bv
      simp only [List.getD, List.getElem?_set, Ne.symm e, if_false]
theorem own_addr {w : World} {B m : Nat} {v : Value} {l : List Nat} {t : TypeId} (h : w.ownsRow B t 1 v m (bl l)) (hl : l.length = m) (hm : 0 < m) : ∃ g c, v = .slice (some ⟨g, 0, none⟩) m c ∧ B ≤ g ∧ g < w.heap.size := by
  rcases h.2 with ⟨hv, hx⟩ | ⟨g, cap, cur, hv, hb, hg, _⟩
  · omega
  · exact ⟨g, cap, hv, hb, box_lt hg⟩
theorem wpList_insert_own {H : Type} {P : Program} (w : World) {ops : Array Oper} {rest : List Oper} {o : Oper} {a : Act} {Q : Exit → Act → World → Prop}
    (hg : o.guard = none) (m x v : Operand) (t : TypeId) (hop : o.op = Op.insert t m x v)
    (k e : TypeId) (K : Keyed P k) (ht : P.underlying t = some (.map k e)) (R : Value → Option (DataW H × List MemPlace)) (b n : Nat) (D : DataW H)
    (hm : a.eval m = .map (some b)) (hown : w.ownsMap P k R b n D) (hn : n < maxLen) (key val : Value) (kl : Lit) (hx : a.eval x = key) (hv : a.eval v = val) (hkey : keyOf P k key = some kl)
    (d : DataW H) (ps : List MemPlace) (hval : R val = some (d, ps))
    (hK : ∀ w', w'.ownsMap P k R b (n + 1) (D.put kl d) → w.grownBy w' (some b) → wpList P ops Q rest (a.put o.dst undef) w') :
    wpList P ops Q (o :: rest) a w := by
  refine wpList_plain hg fun K' hK' => ?_
  obtain ⟨w', hrun, r1, r2⟩ := hown.update K ht hn hkey hval
  unfold Oper.wp
  simp [execOp, hop, hm, hx, hv, hrun, Result.andThen]
  exact hK' _ _ (hK w' r1 r2)
def awL : List Nat := [24, 3, 192, 1, 0, 6, 32, 17, 1, 0, 0, 234, 189]
theorem awL_eq : mkPkt 1 3 1 (cmB 0 17 1 0 []) = awL := by decide +kernel
def awT : Nat → Nat → Option (Int × Int) := updT (fun _ _ => none) 17 1 (0, 0)
theorem aw0 : vdC awT awL 3 = 0 := by decide +kernel
theorem aw3 : vdC awT (awL.set 12 188) 3 = 3 := by decide +kernel
set_option maxRecDepth 100000 in
set_option maxHeartbeats 4000000 in
theorem awake12 (w : World) : Calls Try.prog 25 #[] w fun e w' => e = .returned (.bool true) ∧ Below w.heap.size w w' := by
  have hzf := form_zero
  have hzc := zero_cm
  have hmm := @run_makeMap Try.prog
  go_enter Try.func25, Try.ntmps25
  go_wp2_with fail
  go_at_call 28
  refine (Send_any 3 1 0 17 1 0 none 0 0 0 [] w (by decide) (by decide) (by decide) (by decide) (by decide) (by decide) rfl (Nat.zero_le _) (Rd.none_ _ _ _) (fun x hx => by cases hx)).mono ?_
  rintro e w1 ⟨hb1, ⟨h, _⟩ | ⟨_, v, rfl, hown⟩⟩
  · exact absurd (by decide) h
  rw [awL_eq] at hown
  obtain ⟨g, cp, rfl, hgB, hgs⟩ := own_addr hown rfl (by decide)
  obtain ⟨b, hb⟩ : ∃ b, b = w1.heap.size := ⟨_, rfl⟩
  have ht0 := tab_made w1
  rw [← hb] at ht0
  have HT0 := Lib.hid ht0
  have HOWN := Lib.hid hown
  have HB1 := Lib.hid hb1
  have HBB := Lib.hid hb
  clear ht0 hown hb1 hb
  have hkey := kl_of (s := 17) (u := 1) (by decide) (by decide)
  go_wp2_with (first | (rw [← HBB.out]; refine wpList_insert_own _ rfl _ _ _ 60 rfl _ _ kind_keyed Try.underlying60 formR b 0 _ rfl HT0.out.own (by decide) _ _ _ rfl rfl hkey (formD 0 0) [] (formR_mk 0 0) ?_; intro w2 hown2 hgrow2) | fail)
  have htab : Tab w2 b 1 awT _ := Tab.put (n' := 1) HT0.out (by decide) (by decide) (0, 0) hown2
  have hown : w1.ownsRow w.heap.size 5 1 (.slice (some ⟨g, 0, none⟩) 13 cp) 13 (bl awL) := HOWN.out
  have hb12 : Below w1.heap.size w1 w2 := ((Below.refl w1.heap.size w1).alloc (Nat.le_refl _) (.map #[] 0)).grown hgrow2 (by simp) (fun j hj => by cases hj; have := HBB.out; omega)
  have hown := own_keep hown hb12
  have hB2 := HB1.out.trans (hb12.mono HB1.out.size)
  have hgs2 : g < w2.heap.size := Nat.lt_of_lt_of_le hgs hb12.size
  have hgb : b ≠ g := by have := HBB.out; omega
  have hbw := htab.own.lt
  clear hown2 hgrow2 hb12 HT0 HOWN HB1 HBB hgs
  have hrd := rd_of_own (f := bv awL) hown (fun i hi => bl_at _ hi)
  have HTAB := Lib.hid htab
  have HOWN := Lib.hid hown
  have HB2 := Lib.hid hB2
  have HV := Lib.hid (vJudge (some ⟨g, 0, none⟩) 13 cp w2.heap.size 3 (.map (some b)) awT awL w2 rfl (Nat.le_refl _) hrd (by unfold bytes awL; decide) (jdOk_tab htab))
  clear htab hown hB2 hrd
  refine HV.out.mono ?_
  rintro e w3 ⟨hb3, a1, s1, u1, c1, x1, m1, cp1, rfl, hok, hno⟩
  have hs1 : s1 = 17 := (hok aw0).2.1
  subst hs1
  clear hno
  rw [aw0]
  obtain ⟨i, hi⟩ : ∃ i, i = idN awL := ⟨_, rfl⟩
  rw [← hi]
  have HI := Lib.hid hi
  have hown3 := own_keep HOWN.out hb3
  have htab3 := HTAB.out.below hb3
  have hs3 := hb3.size
  have hB3 := HB2.out.trans (hb3.mono HB2.out.size)
  clear hi hok HV hb3 HOWN HTAB HB2
  have HOWN := Lib.hid hown3
  have HTAB := Lib.hid htab3
  have HB3 := Lib.hid hB3
  clear hown3 htab3 hB3
  go_upto_region 4 with fail
  have h44 := heap_alloc_new w3 (.cells #[.int .u8 0, .int .u32 (i : Nat), .int .u8 (a1 : Nat), .int .u8 17, .int .u8 (u1 : Nat), .int .u16 (c1 : Nat), .slice x1 m1 cp1] 70)
  have hb4 := (Below.refl w3.heap.size w3).alloc (Nat.le_refl _) (.cells #[.int .u8 0, .int .u32 (i : Nat), .int .u8 (a1 : Nat), .int .u8 17, .int .u8 (u1 : Nat), .int .u16 (c1 : Nat), .slice x1 m1 cp1] 70)
  obtain ⟨g4, hg4⟩ : ∃ g4, g4 = w3.heap.size := ⟨_, rfl⟩
  obtain ⟨w4, hw4⟩ : ∃ w4, w4 = w3.alloc (.cells #[.int .u8 0, .int .u32 (i : Nat), .int .u8 (a1 : Nat), .int .u8 17, .int .u8 (u1 : Nat), .int .u16 (c1 : Nat), .slice x1 m1 cp1] 70) := ⟨_, rfl⟩
  rw [← hw4] at h44 hb4 ⊢
  rw [← hg4] at h44 ⊢
  have hown4 := own_keep HOWN.out hb4
  have htab4 := HTAB.out.below hb4
  have hB4 := HB3.out.trans (hb4.mono HB3.out.size)
  have hgg4 : g ≠ g4 := by omega
  have hg4s : g4 < w4.heap.size := box_lt h44
  clear hw4 hg4 hb4 HOWN HTAB HB3
  obtain ⟨hgs4, k12', f12, hrd5'⟩ := own_setV hown4 rfl (show 12 < 13 by omega) 188
  have k12 : w4.cell? ⟨g, 12, none⟩ = some (.int .u8 189) := k12'
  clear k12'
  have h45 := (heap_setCell_other w4 ⟨g, 12, none⟩ g4 (.int .u8 188) (show g4 ≠ g by omega)).trans h44
  have htab5 := htab4.kept (grown_set w4 ⟨g, 12, none⟩ (.int .u8 188)) (by simpa using hgb)
  have hB5 := hB4.setCell (p := ⟨g, 12, none⟩) hgB (.int .u8 188)
  have hs5 : (w4.setCell ⟨g, 12, none⟩ (.int .u8 188)).heap.size = w4.heap.size := by simp [World.setCell]
  have hrd5 : Rd (w4.setCell ⟨g, 12, none⟩ (.int .u8 188)).heap.size (w4.setCell ⟨g, 12, none⟩ (.int .u8 188)) (some ⟨g, 0, none⟩) 13 cp (bv (awL.set 12 188)) := hrd5'
  clear hrd5'
  have HT5 := Lib.hid htab5
  have HR5 := Lib.hid hrd5
  have HB5 := Lib.hid hB5
  have H45 := Lib.hid h45
  have HS5 := Lib.hid hs5
  clear hown4 htab4 hB4 htab5 hrd5 hB5 h45 h44 hs5
  have x12 : bits .xor .u8 189 1 = 188 := by decide +kernel
  go_upto_region 7 with fail
  obtain ⟨w5, hw5⟩ : ∃ w5, w5 = w4.setCell ⟨g, 12, none⟩ (.int .u8 188) := ⟨_, rfl⟩
  have hrd5 := HR5.out
  have htab5 := HT5.out
  have h45 := H45.out
  have hB5 := HB5.out
  have hs5 := HS5.out
  rw [← hw5] at hrd5 htab5 h45 hB5 hs5 ⊢
  have HV := Lib.hid (vJudge (some ⟨g, 0, none⟩) 13 cp w5.heap.size 3 (.map (some b)) awT (awL.set 12 188) w5 rfl (Nat.le_refl _) hrd5 (by unfold bytes awL; decide) (jdOk_tab htab5))
  have HB5 := Lib.hid hB5
  clear hrd5 htab5 hB5 HR5 HT5 H45 HS5 hw5 k12 f12
  go_wp2_with fail
  refine HV.out.mono ?_
  rintro e w6 ⟨hb6, a2, s2, u2, c2, x2, m2, cp2, rfl, hok2, hno⟩
  clear hok2 hno HV
  rw [aw3, show idN (awL.set 12 188) = i from HI.out.symm]
  have h46 := (hb6.block g4 (by omega)).trans h45
  have hB6 := HB5.out.trans (hb6.mono HB5.out.size)
  have hg6 : g4 < w6.heap.size := box_lt h46
  clear hb6 h45 HB5
  go_upto_region 8 with fail
  have h57 := heap_alloc_new w6 (.cells #[.int .u8 3, .int .u32 (i : Nat), .int .u8 (a2 : Nat), .int .u8 (s2 : Nat), .int .u8 (u2 : Nat), .int .u16 (c2 : Nat), .slice x2 m2 cp2] 70)
  have h47 := (((Below.refl w6.heap.size w6).alloc (Nat.le_refl _) (.cells #[.int .u8 3, .int .u32 (i : Nat), .int .u8 (a2 : Nat), .int .u8 (s2 : Nat), .int .u8 (u2 : Nat), .int .u16 (c2 : Nat), .slice x2 m2 cp2] 70)).block g4 hg6).trans h46
  have hB7 := hB6.alloc hB6.size (.cells #[.int .u8 3, .int .u32 (i : Nat), .int .u8 (a2 : Nat), .int .u8 (s2 : Nat), .int .u8 (u2 : Nat), .int .u16 (c2 : Nat), .slice x2 m2 cp2] 70)
  obtain ⟨g5, hg5⟩ : ∃ g5, g5 = w6.heap.size := ⟨_, rfl⟩
  obtain ⟨w7, hw7⟩ : ∃ w7, w7 = w6.alloc (.cells #[.int .u8 3, .int .u32 (i : Nat), .int .u8 (a2 : Nat), .int .u8 (s2 : Nat), .int .u8 (u2 : Nat), .int .u16 (c2 : Nat), .slice x2 m2 cp2] 70) := ⟨_, rfl⟩
  rw [← hw7] at h57 h47 hB7 ⊢
  rw [← hg5] at h57 ⊢
  have q0 := cell_of_row w7 _ 0 _ _ _ h47
  have q1 := cell_of_row w7 _ 1 _ _ _ h47
  have q3 := cell_of_row w7 _ 3 _ _ _ h47
  have r0 := cell_of_row w7 _ 0 _ _ _ h57
  have r1 := cell_of_row w7 _ 1 _ _ _ h57
  simp at q0 q1 q3 r0 r1
  clear hw7 hg5 h46 h47 h57 hB6
  go_wp2
  go_ret
  exact ⟨rfl, hB7⟩
end Go.Proofs.Ytmihhapedpalmaa
