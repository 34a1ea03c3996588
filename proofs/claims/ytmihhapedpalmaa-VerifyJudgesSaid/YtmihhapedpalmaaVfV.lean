/- Verification: Judge. -/
import Derived.Test.YtmihhapedpalmaaVfU
import Derived.Test.YtmihhapedpalmaaVfJ
import Derived.Test.YtmihhapedpalmaaVfP
import Derived.Deep.CutBlock
import Derived.Deep.DeepCutAuto
import Derived.Deep.MidRow
namespace Go.Proofs.Ytmihhapedpalmaa
open Go.RowKit Go.Own Go.Maps
set_option linter.unusedVariables false
set_option linter.unusedSimpArgs false
theorem zero_vd (w : World) : (zeroValue 70).run Try.prog w = .ok (.agg #[.int .u8 0, .int .u32 0, .int .u8 0, .int .u8 0, .int .u8 0, .int .u16 0, .slice none 0 0]) w := by kernel_rfl
theorem size_vd : (Try.prog.info? 70).map (·.size) = some 7 := by kernel_rfl
/-- The code of a verdict. -/
def vdC (T : Nat → Nat → Option (Int × Int)) (l : List Nat) (apid : Nat) : Nat :=
  if upC l ≠ 0 then upC l else if pkK l = false ∨ pkA l ≠ apid then 1 else if cmErr (pdat l) ≠ 0 then 2 else jdT T ((pdat l).getD 1 0) ((pdat l).getD 2 0) ((pdat l).length - 5)
/-- A verdict. -/
def Jdg (w : World) (l : List Nat) (apid : Nat) (T : Nat → Nat → Option (Int × Int)) (e : Ending) (w' : World) : Prop :=
  Below w.heap.size w w' ∧ ∃ (a s u c : Nat) (x : Option Addr) (m cp : Nat), e = .returned (.agg #[.int .u8 ((vdC T l apid) : Nat), .int .u32 ((idN l) : Nat), .int .u8 (a : Nat), .int .u8 (s : Nat), .int .u8 (u : Nat), .int .u16 (c : Nat), .slice x m cp]) ∧
    (vdC T l apid = 0 → a = (pdat l).getD 0 0 % 16 ∧ s = (pdat l).getD 1 0 ∧ u = (pdat l).getD 2 0 ∧ c = at2 (pdat l) 3 ∧ m = (pdat l).length - 5 ∧ Rd w'.heap.size w' x m cp (bv ((pdat l).drop 5))) ∧
    (vdC T l apid ≠ 0 → a = 0 ∧ s = 0 ∧ u = 0 ∧ c = 0 ∧ x = none ∧ m = 0 ∧ cp = 0)
def JdOk (w : World) (tv : Value) (T : Nat → Nat → Option (Int × Int)) : Prop := ∀ w1, Below w.heap.size w w1 → ∀ (a s u c : Nat) (x : Option Addr) (m cp : Nat), s < 256 → u < 256 → Calls Try.prog 70 #[tv, .agg #[.int .u8 (a : Nat), .int .u8 (s : Nat), .int .u8 (u : Nat), .int .u16 (c : Nat), .slice x m cp]] w1 fun e w' => e = .returned (.int .u8 (jdT T s u m : Nat)) ∧ Below w1.heap.size w1 w'
theorem jdOk_tab {w : World} {b n : Nat} {T : Nat → Nat → Option (Int × Int)} {D : DataW Nat} (h : Tab w b n T D) : JdOk w (.map (some b)) T := fun w1 hb a s u c x m cp hs hu => vJudge_tab b n T D a s u c m cp x w1 (h.below hb) hs hu
theorem jdOk_nil (w : World) : JdOk w (.map none) (fun _ _ => none) := fun w1 hb a s u c x m cp hs hu => by
  have h := jdT_no (T := fun _ _ => none) (s := s) (u := u) (len := m) (by unfold knB; simp)
  rw [h]
  exact vJudge_nil a s u c _ w1 hs hu
def CmUni (w : World) (l : List Nat) (e : Ending) (w' : World) : Prop :=
  Below w.heap.size w w' ∧ ∃ (a s u c : Nat) (x : Option Addr) (m cp : Nat), e = .returned (.tuple #[.agg #[.int .u8 (a : Nat), .int .u8 (s : Nat), .int .u8 (u : Nat), .int .u16 (c : Nat), .slice x m cp], .int .i64 (cmErr l : Nat)]) ∧ (cmErr l = 0 → a = l.getD 0 0 % 16 ∧ s = l.getD 1 0 ∧ u = l.getD 2 0 ∧ c = at2 l 3 ∧ m = l.length - 5 ∧ Rd w'.heap.size w' x m cp (bv (l.drop 5)))
theorem CmParse.unz {w w' : World} {l : List Nat} {e : Ending} (h : CmParse w l e w') : CmUni w l e w' := by
  obtain ⟨hb, ⟨h0, x, c, he, hr⟩ | ⟨h0, he⟩⟩ := h
  · exact ⟨hb, _, _, _, _, _, _, _, by rw [he, h0]; rfl, fun _ => ⟨rfl, rfl, rfl, rfl, rfl, hr⟩⟩
  · exact ⟨hb, 0, 0, 0, 0, none, 0, 0, he, fun h => absurd h h0⟩
theorem vf_sets_other : ∀ (vs : List Value) (o : Nat) (w : World) (g f : Nat), f ≠ g → (w.setCells g o vs).heap[f]? = w.heap[f]?
  | [], _, _, _, _, _ => rfl
  | v :: vs, o, w, g, f, h => (vf_sets_other vs (o + 1) _ g f h).trans (heap_setCell_other w ⟨g, o, .none⟩ f v h)
theorem vf_sets_below {B : Nat} {w : World} : ∀ (vs : List Value) (o : Nat) (w' : World) (g : Nat), B ≤ g → Below B w w' → Below B w (w'.setCells g o vs)
  | [], _, _, _, _, h => h
  | v :: vs, o, w', g, hg, h => vf_sets_below vs (o + 1) _ g hg (h.setCell (p := ⟨g, o, .none⟩) hg v)
theorem vf_sets_size : ∀ (vs : List Value) (o : Nat) (w : World) (g : Nat), (w.setCells g o vs).heap.size = w.heap.size
  | [], _, _, _ => rfl
  | v :: vs, o, w, g => (vf_sets_size vs (o + 1) _ g).trans (by simp [World.setCell])
theorem vf_store_mid {P : Program} {ops : Array Oper} {rest : List Oper} {op : Oper} {a : Act} {w : World} {Q : Exit → Act → World → Prop} (hgd : op.guard = none) (ty : TypeId) (x y : Operand) (ho : op.op = .store ty x y)
    (b o : Nat) (cells : Array Value) (hx : a.eval x = .pointer (some ⟨b, o, none⟩)) (hy : a.eval y = .agg cells)
    (ht : w.there b o cells.size) (hi : (P.info? ty).map (·.size) = some cells.size) (h1 : cells.all (·.oneCell') = true)
    (h : ∀ w', w' = w.setCells b o cells.toList → wpList P ops Q rest (a.put op.dst undef) w') : wpList P ops Q (op :: rest) a w :=
  wpList_store_mid hgd ty x y ho b o cells hx hy ht hi h1 (h _ rfl)
theorem vd_sets {w : World} {g i : Nat} {k a s u c : Value} {t : TypeId} {y0 y1 y2 y3 y4 : Value} {iv : Value} (h : w.heap[g]? = some (.cells #[k, iv, y0, y1, y2, y3, y4] t (0, 0))) (z0 z1 z2 z3 z4 : Value) : (w.setCells g 2 [z0, z1, z2, z3, z4]).heap[g]? = some (.cells #[k, iv, z0, z1, z2, z3, z4] t (0, 0)) :=
  heap_setCell_same _ _ _ _ _ _ (heap_setCell_same _ _ _ _ _ _ (heap_setCell_same _ _ _ _ _ _ (heap_setCell_same _ _ _ _ _ _ (heap_setCell_same _ _ _ _ _ _ h))))
theorem rd_new {w w' : World} {n m cp B : Nat} {x : Option Addr} {f : Nat → Value} (hr : Rd n w x m cp f) (hx : m = 0 ∨ ∃ b off, x = some ⟨b, off, none⟩ ∧ B ≤ b) (hk : ∀ b, B ≤ b → w'.heap[b]? = w.heap[b]?) : Rd n w' x m cp f := by
  refine ⟨hr.le, hr.top, hr.nil_, fun hl => ?_⟩
  obtain ⟨b, off, e, hb, hc⟩ := hr.row hl
  refine ⟨b, off, e, hb, fun i hi => ?_⟩
  rcases hx with h0 | ⟨b', off', e', hb'⟩
  · omega
  · rw [e] at e'
    injection e' with e'
    injection e' with e1 e2
    subst e1
    rw [World.cell?_of_block (w := w) (hk b hb')]
    exact hc i hi
set_option maxRecDepth 100000 in
set_option maxHeartbeats 4000000 in
theorem vJudge (a : Option Addr) (len cap n ap : Nat) (tv : Value) (T : Nat → Nat → Option (Int × Int)) (l : List Nat) (w : World) (hl : l.length = len) (hn : n ≤ w.heap.size) (hr : Rd n w a len cap (bv l)) (hb : bytes l) (hj : JdOk w tv T) :
    Calls Try.prog 31 #[.slice a len cap, .int .u16 (ap : Nat), tv] w (Jdg w l ap T) := by
  have hzv := zero_vd
  have HR := Lib.hid hr
  have HL := Lib.hid hl
  have HJD := Lib.hid hj
  have h1 := hr.le
  have h2 := hr.top
  unfold maxLen at h2
  have hid := idN_lt hb
  clear hr hl hj
  have hb0 : Below w.heap.size w (w.alloc (.cells #[.int .u8 0, .int .u32 0, .int .u8 0, .int .u8 0, .int .u8 0, .int .u16 0, .slice none 0 0] 70)) := (Below.refl _ _).alloc (Nat.le_refl _) _
  have h60 := heap_alloc_new w (.cells #[.int .u8 0, .int .u32 0, .int .u8 0, .int .u8 0, .int .u8 0, .int .u16 0, .slice none 0 0] 70)
  have hs0 : w.heap.size < (w.alloc (.cells #[.int .u8 0, .int .u32 0, .int .u8 0, .int .u8 0, .int .u8 0, .int .u16 0, .slice none 0 0] 70)).heap.size := by simp
  go_enter Try.func31, Try.ntmps31
  go_wp2_with fail
  obtain ⟨w0, hw0⟩ : ∃ w0, w0 = (w.alloc (.cells #[.int .u8 0, .int .u32 0, .int .u8 0, .int .u8 0, .int .u8 0, .int .u16 0, .slice none 0 0] 70)) := ⟨_, rfl⟩
  rw [← hw0] at hb0 h60 hs0 ⊢
  clear hw0
  go_at_call 67
  refine (vId a len cap n l w0 HL.out (Nat.le_trans hn hb0.size) (HR.out.below' hb0 hn) hb).mono ?_
  rintro e w1 ⟨rfl, hb1⟩
  obtain ⟨i, hi⟩ : ∃ i, i = idN l := ⟨_, rfl⟩
  rw [← hi] at hid ⊢
  have HI := Lib.hid hi
  have h61 := (hb1.block _ hs0).trans h60
  have hs1 := Nat.lt_of_lt_of_le hs0 hb1.size
  have hB1 := hb0.trans (hb1.mono hb0.size)
  clear hi hb1 hb0 h60 hs0
  go_upto_region 2 with fail
  have h62 := (((Below.refl w1.heap.size w1).alloc (Nat.le_refl _) (.cells #[.int .u8 (0 : Nat), .int .u32 (i : Nat), .int .u8 (0 : Nat), .int .u8 (0 : Nat), .int .u8 (0 : Nat), .int .u16 (0 : Nat), .slice none 0 0] 70)).block _ hs1).trans h61
  have h72 := heap_alloc_new w1 (.cells #[.int .u8 (0 : Nat), .int .u32 (i : Nat), .int .u8 (0 : Nat), .int .u8 (0 : Nat), .int .u8 (0 : Nat), .int .u16 (0 : Nat), .slice none 0 0] 70)
  have hB2 := hB1.alloc hB1.size (.cells #[.int .u8 (0 : Nat), .int .u32 (i : Nat), .int .u8 (0 : Nat), .int .u8 (0 : Nat), .int .u8 (0 : Nat), .int .u16 (0 : Nat), .slice none 0 0] 70)
  have hs2 : (w1.alloc (.cells #[.int .u8 (0 : Nat), .int .u32 (i : Nat), .int .u8 (0 : Nat), .int .u8 (0 : Nat), .int .u8 (0 : Nat), .int .u16 (0 : Nat), .slice none 0 0] 70)).heap.size = w1.heap.size + 1 := by simp
  obtain ⟨g6, hg6⟩ : ∃ g6, g6 = w.heap.size := ⟨_, rfl⟩
  obtain ⟨g7, hg7⟩ : ∃ g7, g7 = w1.heap.size := ⟨_, rfl⟩
  obtain ⟨w2, hw2⟩ : ∃ w2, w2 = w1.alloc (.cells #[.int .u8 (0 : Nat), .int .u32 (i : Nat), .int .u8 (0 : Nat), .int .u8 (0 : Nat), .int .u8 (0 : Nat), .int .u16 (0 : Nat), .slice none 0 0] 70) := ⟨_, rfl⟩
  have hcst : w1.alloc (.cells #[.int .u8 0, .int .u32 (i : Nat), .int .u8 0, .int .u8 0, .int .u8 0, .int .u16 0, .slice none 0 0] 70) = w2 := hw2.symm
  rw [← hw2] at h62 h72 hB2 hs2
  rw [hcst]
  rw [← hg6] at h62 hs1 ⊢
  rw [← hg7] at h72 hs1 hs2 ⊢
  have h67 : g6 < g7 := hs1
  have hg7b : w.heap.size ≤ g7 := by rw [hg7]; exact hB1.size
  have hg6b : w.heap.size ≤ g6 := Nat.le_of_eq hg6.symm
  clear hcst hw2 hg7 hB1 h61 hs1 hg6
  go_wp2_with fail
  go_at_call 68
  refine (vUnpack a len cap n l w2 HL.out (Nat.le_trans hn hB2.size) (HR.out.below' hB2 hn) hb).mono ?_
  rintro e w3 ⟨hb3, kb, A, C, x, m, c, rfl, hok⟩
  have h63 := (hb3.block g6 (by omega)).trans h62
  have h73 := (hb3.block g7 (by omega)).trans h72
  have hs3 := hb3.size
  have hB3 := hB2.trans (hb3.mono hB2.size)
  obtain ⟨cd, hcd⟩ : ∃ cd, cd = upC l := ⟨_, rfl⟩
  rw [← hcd] at hok ⊢
  have HOK := Lib.hid hok
  have HCD := Lib.hid hcd
  have hcd7 : cd < 7 := by rw [hcd]; exact upC_lt l
  clear hcd hok hb3 h62 h72 hB2
  go_upto_region 3 with (refine wpList_store_row rfl 121 _ _ rfl _ _ rfl rfl _ _ (heap_alloc_new _ _) (by exact size_pk) (by rfl) (by simp [Value.oneCell']) ?_; rw [World.setRow_alloc_new])
  have h64 := (((Below.refl w3.heap.size w3).alloc (Nat.le_refl _) (.cells #[.bool kb, .int .u16 (A : Nat), .int .u16 (C : Nat), .slice x m c] 121)).block g6 (by omega)).trans h63
  have h74 := (((Below.refl w3.heap.size w3).alloc (Nat.le_refl _) (.cells #[.bool kb, .int .u16 (A : Nat), .int .u16 (C : Nat), .slice x m c] 121)).block g7 (by omega)).trans h73
  have h84 := heap_alloc_new w3 (.cells #[.bool kb, .int .u16 (A : Nat), .int .u16 (C : Nat), .slice x m c] 121)
  have hB4 := hB3.alloc hB3.size (.cells #[.bool kb, .int .u16 (A : Nat), .int .u16 (C : Nat), .slice x m c] 121)
  have hb4 := (Below.refl w3.heap.size w3).alloc (Nat.le_refl _) (.cells #[.bool kb, .int .u16 (A : Nat), .int .u16 (C : Nat), .slice x m c] 121)
  have hs4 : (w3.alloc (.cells #[.bool kb, .int .u16 (A : Nat), .int .u16 (C : Nat), .slice x m c] 121)).heap.size = w3.heap.size + 1 := by simp
  obtain ⟨g8, hg8⟩ : ∃ g8, g8 = w3.heap.size := ⟨_, rfl⟩
  obtain ⟨w4, hw4⟩ : ∃ w4, w4 = w3.alloc (.cells #[.bool kb, .int .u16 (A : Nat), .int .u16 (C : Nat), .slice x m c] 121) := ⟨_, rfl⟩
  rw [← hw4] at h64 h74 h84 hB4 hs4 hb4 ⊢
  have HB34 := Lib.hid hb4
  have HS34 := Lib.hid (show w4.heap.size = w3.heap.size + 1 from hs4)
  rw [← hg8] at h84 hs4 hs3 ⊢
  have h78 : g7 < g8 := by omega
  have HG8 := Lib.hid hg8
  clear hw4 hg8 h63 h73 hB3 hb4
  have h74 : w4.heap[g7]? = some (.cells #[.int .u8 0, .int .u32 (i : Nat), .int .u8 0, .int .u8 0, .int .u8 0, .int .u16 0, .slice none 0 0] 70 (0, 0)) := h74
  by_cases hc0 : cd = 0
  · subst hc0
    have hup := HCD.out.symm
    obtain ⟨hpk, hl208⟩ := upC_ok hup
    have hok := HOK.out rfl
    obtain ⟨ekb, eA, _, em, hrx⟩ := hok
    have hrx := (hrx.below HB34.out).mono HB34.out.size
    have k80 := cell_of_row w4 _ 0 _ _ _ h84
    have k81 := cell_of_row w4 _ 1 _ _ _ h84
    have k83 := cell_of_row w4 _ 3 _ _ _ h84
    simp at k80 k81 k83
    have EKB := Lib.hid ekb
    have EA := Lib.hid eA
    have EM := Lib.hid em
    have HRX := Lib.hid hrx
    have HL208 := Lib.hid hl208
    have HUP := Lib.hid hup
    clear HOK hpk hup ekb eA em hrx hl208 HCD hcd7
    by_cases hbad : kb = false ∨ A ≠ ap
    · have HV := Lib.hid (show vdC T l ap = 1 by unfold vdC; rw [if_neg (by rw [HUP.out]; decide), ← EKB.out, ← EA.out, if_pos hbad])
      rcases hkb : kb with _ | _
      · subst hkb
        clear hbad
        skip
        have k70 := cell_of_row w4 _ 0 _ _ _ h74
        have f70 := frozen_of_row w4 _ 0 _ _ h74
        simp at k70 f70
        have f7 : (w4.setCell ⟨g7, 0, none⟩ (.int .u8 1)).heap[g7]? = some (.cells #[.int .u8 1, .int .u32 (i : Nat), .int .u8 0, .int .u8 0, .int .u8 0, .int .u16 0, .slice none 0 0] 70 (0, 0)) := heap_setCell_same _ _ _ _ _ _ h74
        have f6 := (heap_setCell_other w4 ⟨g7, 0, none⟩ g6 (.int .u8 1) (show g6 ≠ g7 by omega)).trans h64
        have F7 := Lib.hid f7
        have F6 := Lib.hid f6
        clear f6 f7
        go_wp2_with (first | (refine wpList_load_row rfl 70 _ rfl _ rfl _ _ _ _ F7.out Try.underlying70 rfl (by exact size_vd) ?_; (try go_simp)) | (refine wpList_store_row rfl 70 _ _ rfl _ _ rfl rfl _ _ F6.out (by exact size_vd) (by rfl) (by simp [Value.oneCell']) ?_; (try go_simp)))
        refine bodyPost_ret (results_cell_row rfl _ _ g6 _ _ _ _ rfl (setRow_heap _ _ _ _ _ _ F6.out) Try.underlying70 rfl size_vd) rfl ?_
        exact ⟨below_setRow (hB4.setCell hg7b _) hg6b _, 0, 0, 0, 0, none, 0, 0, by rw [HV.out, ← HI.out]; rfl, fun h => absurd (HV.out.symm.trans h) (by decide), fun _ => ⟨rfl, rfl, rfl, rfl, rfl, rfl, rfl⟩⟩
      · subst hkb
        have hAI : ((A : Int) != (ap : Int)) = true := by simp [bne]; simp at hbad; omega
        clear hbad
        skip
        have k70 := cell_of_row w4 _ 0 _ _ _ h74
        have f70 := frozen_of_row w4 _ 0 _ _ h74
        simp at k70 f70
        have f7 : (w4.setCell ⟨g7, 0, none⟩ (.int .u8 1)).heap[g7]? = some (.cells #[.int .u8 1, .int .u32 (i : Nat), .int .u8 0, .int .u8 0, .int .u8 0, .int .u16 0, .slice none 0 0] 70 (0, 0)) := heap_setCell_same _ _ _ _ _ _ h74
        have f6 := (heap_setCell_other w4 ⟨g7, 0, none⟩ g6 (.int .u8 1) (show g6 ≠ g7 by omega)).trans h64
        have F7 := Lib.hid f7
        have F6 := Lib.hid f6
        clear f6 f7
        go_wp2_with (first | (refine wpList_load_row rfl 70 _ rfl _ rfl _ _ _ _ F7.out Try.underlying70 rfl (by exact size_vd) ?_; (try go_simp)) | (refine wpList_store_row rfl 70 _ _ rfl _ _ rfl rfl _ _ F6.out (by exact size_vd) (by rfl) (by simp [Value.oneCell']) ?_; (try go_simp)))
        refine bodyPost_ret (results_cell_row rfl _ _ g6 _ _ _ _ rfl (setRow_heap _ _ _ _ _ _ F6.out) Try.underlying70 rfl size_vd) rfl ?_
        exact ⟨below_setRow (hB4.setCell hg7b _) hg6b _, 0, 0, 0, 0, none, 0, 0, by rw [HV.out, ← HI.out]; rfl, fun h => absurd (HV.out.symm.trans h) (by decide), fun _ => ⟨rfl, rfl, rfl, rfl, rfl, rfl, rfl⟩⟩
    · have hkb : kb = true := by cases kb <;> simp_all
      have hA : A = ap := by simp at hbad; exact hbad.2
      subst hkb hA
      have HNB := Lib.hid hbad
      have hAI : ((A : Int) != (A : Int)) = false := by simp [bne]
      have hbd : bytes (pdat l) := by unfold pdat; exact (hb.drop 6).take _
      have hdl : (pdat l).length ≤ 208 := by unfold pdat; rw [List.length_take]; have := HL208.out; omega
      obtain ⟨P, hP⟩ : ∃ P, P = pdat l := ⟨_, rfl⟩
      have HP := Lib.hid hP
      have hrx := HRX.out
      rw [← hP] at hbd hdl hrx
      have HRX2 := Lib.hid hrx
      have hem := EM.out
      rw [← hP] at hem
      have HEM := Lib.hid hem
      clear hbad hP hrx hem HRX EM
      go_wp2_with fail
      go_at_call 69
      refine (cmParse_new x m c w4.heap.size P w4 HEM.out.symm (Nat.le_refl _) HRX2.out hbd (by have := HEM.out; omega)).mono ?_
      rintro e w5 ⟨hp, hnew⟩
      obtain ⟨hb5, a', s, u, c', x', m', cp, rfl, hok⟩ := hp.unz
      have hnew := hnew _ _ _ _ _ _ _ _ rfl
      have HNEW := Lib.hid hnew
      have h65 := (hb5.block g6 (by omega)).trans h64
      have h75 := (hb5.block g7 (by omega)).trans h74
      have hB5 := hB4.trans (hb5.mono hB4.size)
      have hs5 := hb5.size
      obtain ⟨er, her⟩ : ∃ er, er = cmErr P := ⟨_, rfl⟩
      rw [← her] at hok ⊢
      have HOK := Lib.hid hok
      have HER := Lib.hid her
      clear hp hb5 hok her hnew k80 k81 k83 h64 h74 h84 HRX2
      go_upto_region 10 with (refine wpList_store_row rfl 56 _ _ rfl _ _ rfl rfl _ _ (heap_alloc_new _ _) (by exact size_cm) (by rfl) (by simp [Value.oneCell']) ?_; rw [World.setRow_alloc_new])
      have h66 := (((Below.refl w5.heap.size w5).alloc (Nat.le_refl _) (.cells #[.int .u8 (a' : Nat), .int .u8 (s : Nat), .int .u8 (u : Nat), .int .u16 (c' : Nat), .slice x' m' cp] 56)).block g6 (by omega)).trans h65
      have h76 := (((Below.refl w5.heap.size w5).alloc (Nat.le_refl _) (.cells #[.int .u8 (a' : Nat), .int .u8 (s : Nat), .int .u8 (u : Nat), .int .u16 (c' : Nat), .slice x' m' cp] 56)).block g7 (by omega)).trans h75
      have h106 := heap_alloc_new w5 (.cells #[.int .u8 (a' : Nat), .int .u8 (s : Nat), .int .u8 (u : Nat), .int .u16 (c' : Nat), .slice x' m' cp] 56)
      have hB6 := hB5.alloc hB5.size (.cells #[.int .u8 (a' : Nat), .int .u8 (s : Nat), .int .u8 (u : Nat), .int .u16 (c' : Nat), .slice x' m' cp] 56)
      have hb6 := (Below.refl w5.heap.size w5).alloc (Nat.le_refl _) (.cells #[.int .u8 (a' : Nat), .int .u8 (s : Nat), .int .u8 (u : Nat), .int .u16 (c' : Nat), .slice x' m' cp] 56)
      have hs6 : (w5.alloc (.cells #[.int .u8 (a' : Nat), .int .u8 (s : Nat), .int .u8 (u : Nat), .int .u16 (c' : Nat), .slice x' m' cp] 56)).heap.size = w5.heap.size + 1 := by simp
      obtain ⟨g10, hg10⟩ : ∃ g10, g10 = w5.heap.size := ⟨_, rfl⟩
      obtain ⟨w6, hw6⟩ : ∃ w6, w6 = w5.alloc (.cells #[.int .u8 (a' : Nat), .int .u8 (s : Nat), .int .u8 (u : Nat), .int .u16 (c' : Nat), .slice x' m' cp] 56) := ⟨_, rfl⟩
      rw [← hw6] at h66 h76 h106 hB6 hs6 hb6 ⊢
      have HB56 := Lib.hid hb6
      rw [← hg10] at h106 hs6 hs5 ⊢
      have h710 : g7 < g10 := by omega
      have HG10 := Lib.hid hg10
      clear hw6 hg10 h65 h75 hB5 hb6
      by_cases her0 : er = 0
      · subst her0
        obtain ⟨ea, es, eu, ec, em', hrx⟩ := HOK.out rfl
        have hs256 : s < 256 := by rw [es]; exact hbd.at 1
        have hu256 : u < 256 := by rw [eu]; exact hbd.at 2
        have hrx := (hrx.below HB56.out).mono HB56.out.size
        have HRX3 := Lib.hid hrx
        have HEQ := Lib.hid (And.intro ea (And.intro es (And.intro eu (And.intro ec em'))))
        have H106 := Lib.hid h106
        have HV := Lib.hid (show vdC T l A = jdT T s u m' by unfold vdC; rw [if_neg (by rw [HUP.out]; decide), ← EKB.out, ← EA.out, if_neg HNB.out, if_neg (by rw [← HP.out, ← HER.out]; decide), ← HP.out, ← es, ← eu, ← em'])
        clear ea es eu ec em' hrx HOK h106
        go_wp2_with (refine wpList_load_row rfl 56 _ rfl _ rfl _ _ _ _ H106.out Try.underlying56 rfl (by exact size_cm) ?_; (try go_simp))
        go_at_call 70
        refine (HJD.out w6 hB6 a' s u c' x' m' cp hs256 hu256).mono ?_
        rintro e w7 ⟨rfl, hb7⟩
        have h67 := (hb7.block g6 (by omega)).trans h66
        have h77 := (hb7.block g7 (by omega)).trans h76
        have h107 := (hb7.block g10 (by omega)).trans H106.out
        have hB7 := hB6.trans (hb7.mono hB6.size)
        have hrx := (HRX3.out.below hb7).mono hb7.size
        have hs7 := hb7.size
        obtain ⟨jd, hjd⟩ : ∃ jd, jd = jdT T s u m' := ⟨_, rfl⟩
        have hvd := HV.out
        rw [← hjd] at hvd ⊢
        have HV2 := Lib.hid hvd
        have HRX4 := Lib.hid hrx
        clear hb7 h66 h76 H106 hB6 hrx HRX3 hjd hvd HV
        have k70 := cell_of_row w7 _ 0 _ _ _ h77
        have f70 := frozen_of_row w7 _ 0 _ _ h77
        simp at k70 f70
        go_upto_region 14 with fail
        have h78 : (w7.setCell ⟨g7, 0, none⟩ (.int .u8 (jd : Nat))).heap[g7]? = some (.cells #[.int .u8 (jd : Nat), .int .u32 (i : Nat), .int .u8 0, .int .u8 0, .int .u8 0, .int .u16 0, .slice none 0 0] 70 (0, 0)) := heap_setCell_same _ _ _ _ _ _ h77
        have h68 := (heap_setCell_other w7 ⟨g7, 0, none⟩ g6 (.int .u8 (jd : Nat)) (show g6 ≠ g7 by omega)).trans h67
        have h108 := (heap_setCell_other w7 ⟨g7, 0, none⟩ g10 (.int .u8 (jd : Nat)) (show g10 ≠ g7 by omega)).trans h107
        have hB8 := hB7.setCell (p := ⟨g7, 0, none⟩) hg7b (.int .u8 (jd : Nat))
        have hrx := rd_new (B := w4.heap.size) (w' := w7.setCell ⟨g7, 0, none⟩ (.int .u8 (jd : Nat))) HRX4.out HNEW.out (fun b hb' => heap_setCell_other w7 ⟨g7, 0, none⟩ b _ (show b ≠ g7 by omega))
        have hs8 : (w7.setCell ⟨g7, 0, none⟩ (.int .u8 (jd : Nat))).heap.size = w7.heap.size := by simp [World.setCell]
        obtain ⟨w8, hw8⟩ : ∃ w8, w8 = w7.setCell ⟨g7, 0, none⟩ (.int .u8 (jd : Nat)) := ⟨_, rfl⟩
        rw [← hw8] at h78 h68 h108 hB8 hrx hs8 ⊢
        have HRX8 := Lib.hid hrx
        have HS8 := Lib.hid hs8
        have H108 := Lib.hid h108
        clear hw8 h67 h77 h107 hB7 hrx hs8 HRX4 k70 f70 h108
        have k70 := cell_of_row w8 _ 0 _ _ _ h78
        simp at k70
        have F6 := Lib.hid h68
        by_cases hjd : jd = 0
        · subst hjd
          have hth : w8.there g7 2 5 := fun j hj => by
            obtain rfl | rfl | rfl | rfl | rfl : j = 0 ∨ j = 1 ∨ j = 2 ∨ j = 3 ∨ j = 4 := by omega
            all_goals exact ⟨by rw [cell_of_row w8 _ _ _ _ _ h78]; rfl, frozen_of_row w8 _ _ _ _ h78⟩
          go_upto_region 16 with (first | (refine wpList_load_row rfl 56 _ rfl _ rfl _ _ _ _ H108.out Try.underlying56 rfl (by exact size_cm) ?_; (try go_simp)) | (refine vf_store_mid rfl 56 _ _ rfl g7 2 #[.int .u8 (a' : Nat), .int .u8 (s : Nat), .int .u8 (u : Nat), .int .u16 (c' : Nat), .slice x' m' cp] rfl rfl hth size_cm (by simp [Value.oneCell']) ?_; intro w9 hw9; have HW9 := Lib.hid hw9; clear hw9))
          have h79 := vd_sets (i := i) (k := .int .u8 0) (a := .int .u8 0) (s := .int .u8 0) (u := .int .u8 0) (c := .int .u8 0) h78 (.int .u8 (a' : Nat)) (.int .u8 (s : Nat)) (.int .u8 (u : Nat)) (.int .u16 (c' : Nat)) (.slice x' m' cp)
          have h69 := (vf_sets_other [.int .u8 (a' : Nat), .int .u8 (s : Nat), .int .u8 (u : Nat), .int .u16 (c' : Nat), .slice x' m' cp] 2 w8 g7 g6 (show g6 ≠ g7 by omega)).trans h68
          have hB9 := vf_sets_below [.int .u8 (a' : Nat), .int .u8 (s : Nat), .int .u8 (u : Nat), .int .u16 (c' : Nat), .slice x' m' cp] 2 w8 g7 hg7b hB8
          have hs9 := vf_sets_size [.int .u8 (a' : Nat), .int .u8 (s : Nat), .int .u8 (u : Nat), .int .u16 (c' : Nat), .slice x' m' cp] 2 w8 g7
          have hrx := rd_new (B := w4.heap.size) (w' := w8.setCells g7 2 [.int .u8 (a' : Nat), .int .u8 (s : Nat), .int .u8 (u : Nat), .int .u16 (c' : Nat), .slice x' m' cp]) HRX8.out HNEW.out (fun b hb' => vf_sets_other _ 2 w8 g7 b (show b ≠ g7 by omega))
          rw [← (show w9 = w8.setCells g7 2 [.int .u8 (a' : Nat), .int .u8 (s : Nat), .int .u8 (u : Nat), .int .u16 (c' : Nat), .slice x' m' cp] from HW9.out)] at h79 h69 hB9 hs9 hrx
          have F7 := Lib.hid h79
          have F69 := Lib.hid h69
          have HRX9 := Lib.hid hrx
          have HS9 := Lib.hid hs9
          clear h78 h68 h79 h69 hrx hs9 F6 hth k70 HW9 HRX8
          go_wp2_with (first | (refine wpList_load_row rfl 70 _ rfl _ rfl _ _ _ _ F7.out Try.underlying70 rfl (by exact size_vd) ?_; (try go_simp)) | (refine wpList_store_row rfl 70 _ _ rfl _ _ rfl rfl _ _ F69.out (by exact size_vd) (by rfl) (by simp [Value.oneCell']) ?_; (try go_simp)))
          refine bodyPost_ret (results_cell_row rfl _ _ g6 _ _ _ _ rfl (setRow_heap _ _ _ _ _ _ F69.out) Try.underlying70 rfl size_vd) rfl ?_
          obtain ⟨ea, es, eu, ec, em'⟩ := HEQ.out
          refine ⟨below_setRow hB9 hg6b _, a', s, u, c', x', m', cp, by rw [HV2.out, ← HI.out]; rfl, fun _ => ⟨by rw [ea, HP.out], by rw [es, HP.out], by rw [eu, HP.out], by rw [ec, HP.out], by rw [em', HP.out], ?_⟩, fun h => absurd HV2.out h⟩
          rw [← HP.out]
          refine (rd_new (B := w4.heap.size) HRX9.out HNEW.out (fun b hb' => setRow_other _ g6 b _ (show b ≠ g6 by omega))).mono ?_
          have := HS9.out
          have := HS8.out
          simp [World.setRow]
          omega
        · have hjI : ((jd : Int) == 0) = false := by rw [beq_eq_false_iff_ne]; omega
          have F7 := Lib.hid h78
          clear h78 h68
          go_wp2_with (first | (refine wpList_load_row rfl 70 _ rfl _ rfl _ _ _ _ F7.out Try.underlying70 rfl (by exact size_vd) ?_; (try go_simp)) | (refine wpList_store_row rfl 70 _ _ rfl _ _ rfl rfl _ _ F6.out (by exact size_vd) (by rfl) (by simp [Value.oneCell']) ?_; (try go_simp)))
          refine bodyPost_ret (results_cell_row rfl _ _ g6 _ _ _ _ rfl (setRow_heap _ _ _ _ _ _ F6.out) Try.underlying70 rfl size_vd) rfl ?_
          exact ⟨below_setRow hB8 hg6b _, 0, 0, 0, 0, none, 0, 0, by rw [HV2.out, ← HI.out]; rfl, fun h => absurd (HV2.out.symm.trans h) hjd, fun _ => ⟨rfl, rfl, rfl, rfl, rfl, rfl, rfl⟩⟩
      · have heI : ((er : Int) != 0) = true := by simp [bne]; omega
        have HV := Lib.hid (show vdC T l A = 2 by unfold vdC; rw [if_neg (by rw [HUP.out]; decide), ← EKB.out, ← EA.out, if_neg HNB.out, if_pos (by rw [← HP.out, ← HER.out]; exact her0)])
        clear HOK
        skip
        have k70 := cell_of_row w6 _ 0 _ _ _ h76
        have f70 := frozen_of_row w6 _ 0 _ _ h76
        simp at k70 f70
        have f7 : (w6.setCell ⟨g7, 0, none⟩ (.int .u8 2)).heap[g7]? = some (.cells #[.int .u8 2, .int .u32 (i : Nat), .int .u8 0, .int .u8 0, .int .u8 0, .int .u16 0, .slice none 0 0] 70 (0, 0)) := heap_setCell_same _ _ _ _ _ _ h76
        have f6 := (heap_setCell_other w6 ⟨g7, 0, none⟩ g6 (.int .u8 2) (show g6 ≠ g7 by omega)).trans h66
        have F7 := Lib.hid f7
        have F6 := Lib.hid f6
        clear f6 f7
        go_wp2_with (first | (refine wpList_load_row rfl 70 _ rfl _ rfl _ _ _ _ F7.out Try.underlying70 rfl (by exact size_vd) ?_; (try go_simp)) | (refine wpList_store_row rfl 70 _ _ rfl _ _ rfl rfl _ _ F6.out (by exact size_vd) (by rfl) (by simp [Value.oneCell']) ?_; (try go_simp)))
        refine bodyPost_ret (results_cell_row rfl _ _ g6 _ _ _ _ rfl (setRow_heap _ _ _ _ _ _ F6.out) Try.underlying70 rfl size_vd) rfl ?_
        exact ⟨below_setRow (hB6.setCell hg7b _) hg6b _, 0, 0, 0, 0, none, 0, 0, by rw [HV.out, ← HI.out]; rfl, fun h => absurd (HV.out.symm.trans h) (by decide), fun _ => ⟨rfl, rfl, rfl, rfl, rfl, rfl, rfl⟩⟩
  · have hcI : ((cd : Int) != 0) = true := by simp [bne]; omega
    have HV := Lib.hid (show vdC T l ap = cd by unfold vdC; rw [if_pos (by rw [← HCD.out]; exact hc0), ← HCD.out])
    clear HOK
    skip
    have k70 := cell_of_row w4 _ 0 _ _ _ h74
    have f70 := frozen_of_row w4 _ 0 _ _ h74
    simp at k70 f70
    have f7 : (w4.setCell ⟨g7, 0, none⟩ (.int .u8 (cd : Nat))).heap[g7]? = some (.cells #[.int .u8 (cd : Nat), .int .u32 (i : Nat), .int .u8 0, .int .u8 0, .int .u8 0, .int .u16 0, .slice none 0 0] 70 (0, 0)) := heap_setCell_same _ _ _ _ _ _ h74
    have f6 := (heap_setCell_other w4 ⟨g7, 0, none⟩ g6 (.int .u8 (cd : Nat)) (show g6 ≠ g7 by omega)).trans h64
    have F7 := Lib.hid f7
    have F6 := Lib.hid f6
    clear f6 f7
    go_wp2_with (first | (refine wpList_load_row rfl 70 _ rfl _ rfl _ _ _ _ F7.out Try.underlying70 rfl (by exact size_vd) ?_; (try go_simp)) | (refine wpList_store_row rfl 70 _ _ rfl _ _ rfl rfl _ _ F6.out (by exact size_vd) (by rfl) (by simp [Value.oneCell']) ?_; (try go_simp)))
    refine bodyPost_ret (results_cell_row rfl _ _ g6 _ _ _ _ rfl (setRow_heap _ _ _ _ _ _ F6.out) Try.underlying70 rfl size_vd) rfl ?_
    exact ⟨below_setRow (hB4.setCell hg7b _) hg6b _, 0, 0, 0, 0, none, 0, 0, by rw [HV.out, ← HI.out]; rfl, fun h => absurd (HV.out.symm.trans h) hc0, fun _ => ⟨rfl, rfl, rfl, rfl, rfl, rfl, rfl⟩⟩
end Go.Proofs.Ytmihhapedpalmaa
