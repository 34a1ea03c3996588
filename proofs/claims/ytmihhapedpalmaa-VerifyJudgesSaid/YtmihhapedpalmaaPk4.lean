/- Space packets: any bytes are read. -/
import Derived.Test.YtmihhapedpalmaaPk3
import Derived.Laws.ResultCell
import Derived.Laws.Tables
import Derived.Deep.WholeRow
namespace Go.Proofs.Ytmihhapedpalmaa
open Go.RowKit Go.Own
set_option linter.unusedVariables false
set_option linter.unusedSimpArgs false

theorem results_cell_tmp3 {P : Program} {fn : Func} {p u : Tmp} {ty : TypeId} (h : fn.results = #[.cell p ty, .tmp u]) (tmps : Array Value) (w : World) (g : Nat) (t : TypeId) (cs : Array Value) (fr : Nat × Nat) {d : TypeDesc}
    (hp : tmps.getD p undef = .pointer (some ⟨g, 0, none⟩)) (hg : w.heap[g]? = some (.cells cs t fr))
    (hu : P.underlying ty = some d) (hd : (match d with | .struct _ | .array _ _ => true | _ => false) = true) (hi : (P.info? ty).map (·.size) = some cs.size) :
    (results fn tmps).run P w = .ok (.tuple #[.agg cs, tmps.getD u undef]) w := by
  rw [results_cell_tmp h]
  have hp' : tmps[p]?.getD undef = .pointer (some ⟨g, 0, none⟩) := by simpa using hp
  simp [hp', asAddr, run_loadVar_row w g t ty cs fr d hg hu hd hi]
theorem below_setRow {B : Nat} {a w : World} (h : Below B a w) {g : Nat} (hg : B ≤ g) (c : Array Value) : Below B a (w.setRow g c) :=
  ⟨h.os, h.tape, h.output, by have := h.size; simpa using this, fun k hk => (setRow_other w g k c (by omega)).trans (h.block k hk)⟩
theorem zero_pk (w : World) : (zeroValue 121).run Try.prog w = .ok (.agg #[.bool false, .int .u16 0, .int .u16 0, .slice none 0 0]) w := by kernel_rfl
theorem size_pk : (Try.prog.info? 121).map (·.size) = some 4 := by kernel_rfl
theorem and232 : ∀ x, x < 256 → ((x &&& 232 = 8) ↔ (x < 32 ∧ x / 8 % 2 = 1)) := by decide +kernel
theorem and192 : ∀ x, x < 256 → ((x &&& 192 = 192) ↔ 192 ≤ x) := by decide +kernel
theorem and16a : ∀ x, x < 32 → ((x &&& 16 = 0) ↔ x < 16) := by decide +kernel
theorem and8u (a b : Nat) (ha : a < 256) (hb : b < 256) : bits .and .u8 (a : Int) (b : Int) = ((a &&& b : Nat) : Int) := andNatJ .u8 8 (by decide) (fun n h0 h1 => by rw [IntKind.wrap_u8]; omega) a b ha hb
theorem and_lt8 (a b : Nat) (hb : b < 256) : a &&& b < 256 := Nat.lt_of_le_of_lt Nat.and_le_right hb
theorem rd_drop {n len cap b off k : Nat} {l : List Nat} {w : World} (h : Rd n w (some ⟨b, off, none⟩) len cap (bv l)) (hk : k ≤ len) (hk2 : 0 < k ∧ k < cap) : Rd n w (some ⟨b, off + k, none⟩) (len - k) (cap - k) (bv (l.drop k)) := by
  have hrr := Rd.rest (k := k) h hk
  rw [if_neg (by omega)] at hrr
  have e : (Option.map (fun x => x.add k) (some (⟨b, off, none⟩ : Addr))) = some ⟨b, off + k, none⟩ := by
    simp [Addr.add]; omega
  rw [e] at hrr
  refine hrr.same fun i hi => ?_
  unfold bv
  simp [List.getD, List.getElem?_drop]
theorem grown_setRow (w : World) (g : Nat) (c : Array Value) : w.grownBy (w.setRow g c) (some g) := ⟨rfl, rfl, rfl, by simp, fun k _ hk => setRow_other w g k c (fun e => hk (by rw [e]))⟩
/-- What Parse hands back. -/
def PkParse (w : World) (l : List Nat) (e : Ending) (w' : World) : Prop :=
  Below w.heap.size w w' ∧ ((pkErr l = 0 ∧ ∃ x c, e = .returned (.tuple #[.agg #[.bool (pkK l), .int .u16 (pkA l : Nat), .int .u16 (pkC l : Nat), .slice x (pdat l).length c], .int .i64 0]) ∧ Rd w'.heap.size w' x (pdat l).length c (bv (pdat l))) ∨
    (pkErr l ≠ 0 ∧ e = .returned (.tuple #[.agg #[.bool false, .int .u16 0, .int .u16 0, .slice none 0 0], .int .i64 (pkErr l : Nat)])))

set_option maxRecDepth 100000 in
set_option maxHeartbeats 4000000 in
theorem pParse_any (a : Option Addr) (len cap n : Nat) (l : List Nat) (w : World) (hl : l.length = len) (hn : n ≤ w.heap.size) (hr : Rd n w a len cap (bv l)) (hb : bytes l) (hm : len ≤ 1000000) :
    Calls Try.prog 86 #[.slice a len cap] w (PkParse w l) := by
  have hzc := zero_pk
  have h1 := hr.le
  have h2 := hr.top
  unfold maxLen at h2
  have hb0 : Below w.heap.size w (w.alloc (.cells #[.bool false, .int .u16 0, .int .u16 0, .slice none 0 0] 121)) := (Below.refl _ _).alloc (Nat.le_refl _) _
  have hC0 := heap_alloc_new w (.cells #[.bool false, .int .u16 0, .int .u16 0, .slice none 0 0] 121)
  have hR0 := hr.below' hb0 hn
  obtain ⟨w0, hw0⟩ : ∃ w0, w0 = w.alloc (.cells #[.bool false, .int .u16 0, .int .u16 0, .slice none 0 0] 121) := ⟨_, rfl⟩
  obtain ⟨g, hg⟩ : ∃ g, g = w.heap.size := ⟨_, rfl⟩
  rw [← hw0] at hb0 hC0 hR0
  rw [← hg] at hC0
  have HR := Lib.hid hr
  have HL := Lib.hid hl
  have HW0 := Lib.hid hw0
  have HG := Lib.hid hg
  have HB0 := Lib.hid hb0
  have HR0 := Lib.hid hR0
  have hgB : w.heap.size ≤ g := Nat.le_of_eq hg.symm
  have hn0 := Nat.le_trans hn hb0.size
  clear hr hl hw0 hg hb0 hR0
  by_cases h9 : len < 9
  · have HE := Lib.hid (show pkErr l = 2 by unfold pkErr; rw [if_pos (.inl (by rw [HL.out]; exact h9))])
    go_enter Try.func86, Try.ntmps86
    go_wp2_with fail
    rw [← HG.out, ← HW0.out]
    skip
    refine bodyPost_ret (results_cell_tmp3 rfl _ _ _ _ _ _ rfl (hC0) Try.underlying121 rfl size_pk) rfl ?_
    exact ⟨HB0.out, .inr ⟨by rw [HE.out]; decide, by rw [HE.out]; rfl⟩⟩
  have hx := hb.at 0
  have hz := hb.at 2
  obtain ⟨b, off, rfl, hbn, hc⟩ := HR.out.row (by omega)
  have c0 := hc 0 (by omega)
  have c2 := hc 2 (by omega)
  unfold bv at c0 c2
  rw [Nat.add_zero] at c0
  have hps : psize l = l.getD 4 0 * 256 + l.getD 5 0 := rfl
  have hp4 := hb.at 4
  have hp5 := hb.at 5
  obtain ⟨z, hz'⟩ : ∃ z, z = psize l := ⟨_, rfl⟩
  have hz2 : z < 65536 := by rw [hz', hps]; omega
  have HZ := Lib.hid hz'
  have hbn0 : b < w0.heap.size := Nat.lt_of_lt_of_le hbn hn0
  have HC0 := Lib.hid hC0
  have hgl : g < w0.heap.size := (Array.getElem?_eq_some_iff.1 hC0).1
  have a0 : bits .and .u8 ((l.getD 0 0 : Nat) : Int) 232 = ((l.getD 0 0 &&& 232 : Nat) : Int) := and8u (l.getD 0 0) 232 hx (by omega)
  have a2 : bits .and .u8 ((l.getD 2 0 : Nat) : Int) 192 = ((l.getD 2 0 &&& 192 : Nat) : Int) := and8u (l.getD 2 0) 192 hz (by omega)
  have p0 := and232 _ hx
  have p2 := and192 _ hz
  have hfx : pkFix l = true ↔ ((l.getD 0 0 < 32 ∧ l.getD 0 0 / 8 % 2 = 1) ∧ 192 ≤ l.getD 2 0) := by unfold pkFix; rw [decide_eq_true_eq, and_assoc]
  rw [← p0, ← p2] at hfx
  obtain ⟨q0, hq0⟩ : ∃ q0, q0 = l.getD 0 0 &&& 232 := ⟨_, rfl⟩
  obtain ⟨q2, hq2⟩ : ∃ q2, q2 = l.getD 2 0 &&& 192 := ⟨_, rfl⟩
  rw [← hq0] at a0 hfx p0
  rw [← hq2] at a2 hfx p2
  obtain ⟨x0, hx0⟩ : ∃ x0, x0 = l.getD 0 0 := ⟨_, rfl⟩
  obtain ⟨x2, hx2⟩ : ∃ x2, x2 = l.getD 2 0 := ⟨_, rfl⟩
  rw [← hx0] at a0 hx c0 p0
  rw [← hx2] at a2 hz c2 p2
  have HFX := Lib.hid hfx
  have HX0 := Lib.hid hx0
  have HX2 := Lib.hid hx2
  have P0 := Lib.hid p0
  have P2 := Lib.hid p2
  clear hps hp4 hp5 hz' hc hfx hx0 hx2 p0 p2 hq0 hq2
  by_cases hs : len = z + 7
  · have HSZ := Lib.hid hs
    have hsI : ((len : Int) != (z : Int) + 7) = false := by simp [bne]; omega
    have hsN : ¬ len < 9 := h9
    have hz9 : 2 ≤ z := by omega
    cases hRB : rightB l
    · have HRB := Lib.hid hRB
      have HE := Lib.hid (show pkErr l = 5 by unfold pkErr; rw [if_neg (by rw [HL.out, ← HZ.out]; omega), hRB]; rfl)
      clear hRB hs a0 a2
      go_enter Try.func86, Try.ntmps86
      skip
      go_wp2_with fail
      rw [← HG.out, ← HW0.out]
      go_at_call 94
      refine (pstated_any (some ⟨b, off, none⟩) len cap n l _ HL.out (by omega) HR0.out hb).mono ?_
      rintro e w1 ⟨rfl, j1, hw1⟩
      rw [← HZ.out]
      have hb1 : Below w0.heap.size w0 w1 := by rw [hw1]; exact below_drews _ _ _
      have hC1 := (hb1.block g hgl).trans HC0.out
      have HB1 := Lib.hid (HB0.out.trans (hb1.mono HB0.out.size))
      have hs1 : w0.heap.size ≤ w1.heap.size := hb1.size
      have HC1 := Lib.hid hC1
      have HR1 := Lib.hid (HR0.out.below' hb1 hn0)
      clear hw1
      skip
      have hn1 := Nat.le_trans hn0 hs1
      go_wp2_with fail
      go_at_call 84
      refine (Make_any _).mono ?_
      rintro e w2 ⟨rfl, hb2⟩
      have hs2 : w0.heap.size ≤ w2.heap.size := Nat.le_trans hs1 hb2.size
      have HC2 := Lib.hid ((hb2.block g (Nat.lt_of_lt_of_le hgl hs1)).trans HC1.out)
      have HB2 := Lib.hid (HB1.out.trans (hb2.mono HB1.out.size))
      have HR2 := Lib.hid (HR1.out.below' hb2 hn1)
      clear hb2 HC1 HB1 HR1 hb1 hs1
      go_wp2_with fail
      go_at_call 95
      refine (TRight_any _ _ _ n l _ HL.out (Nat.le_trans hn0 hs2) HR2.out hb).mono ?_
      rintro e w3 ⟨rfl, hb3⟩
      rw [HRB.out]
      have hs3 : w0.heap.size ≤ w3.heap.size := Nat.le_trans hs2 hb3.size
      have hC3 := (hb3.block g (Nat.lt_of_lt_of_le hgl hs2)).trans HC2.out
      have hb03 := HB2.out.trans (hb3.mono HB2.out.size)
      have hR3 := HR2.out.below' hb3 (Nat.le_trans hn0 hs2)
      have HC3 := Lib.hid hC3
      have HB3 := Lib.hid hb03
      have HR3 := Lib.hid hR3
      clear hb3 HC2 HB2 HR2 hb03 hs2
      go_wp2_with (refine wpList_store_row rfl 121 _ _ rfl _ _ rfl rfl _ _ (by (first | exact heap_alloc2_new _ _ _ | exact heap_alloc2_old _ _ _ | exact heap_alloc_new _ _ | assumption)) (by exact size_pk) (by rfl) (by simp [Value.oneCell']) ?_; (first | rw [setRow_alloc2_new] | rw [setRow_alloc2_old] | rw [World.setRow_alloc_new] | skip); (try go_simp))
      skip
      refine bodyPost_ret (results_cell_tmp3 rfl _ _ _ _ _ _ rfl (setRow_heap _ _ _ _ _ _ hC3) Try.underlying121 rfl size_pk) rfl ?_
      exact ⟨below_setRow HB3.out hgB _, .inr ⟨by rw [HE.out]; decide, by rw [HE.out]; rfl⟩⟩
    · have HRB := Lib.hid hRB
      cases hFB : pkFix l
      · have HE := Lib.hid (show pkErr l = 2 by unfold pkErr; rw [if_neg (by rw [HL.out, ← HZ.out]; omega), hRB, hFB]; rfl)
        have hq : ¬ (q0 = 8 ∧ q2 = 192) := by
          intro h
          have := HFX.out.2 h
          rw [hFB] at this
          cases this
        clear hRB hFB hs
        by_cases hq0 : q0 = 8
        · have hq2 : ¬ q2 = 192 := fun h => hq ⟨hq0, h⟩
          have hq0I : ((q0 : Int) != 8) = false := by simp [bne]; omega
          have hq2I : ((q2 : Int) != 192) = true := by simp [bne]; omega
          clear hq hq0 hq2
          go_enter Try.func86, Try.ntmps86
          skip
          go_wp2_with fail
          rw [← HG.out, ← HW0.out]
          go_at_call 94
          refine (pstated_any (some ⟨b, off, none⟩) len cap n l _ HL.out (by omega) HR0.out hb).mono ?_
          rintro e w1 ⟨rfl, j1, hw1⟩
          rw [← HZ.out]
          have hb1 : Below w0.heap.size w0 w1 := by rw [hw1]; exact below_drews _ _ _
          have hC1 := (hb1.block g hgl).trans HC0.out
          have HB1 := Lib.hid (HB0.out.trans (hb1.mono HB0.out.size))
          have hs1 : w0.heap.size ≤ w1.heap.size := hb1.size
          have HC1 := Lib.hid hC1
          have HR1 := Lib.hid (HR0.out.below' hb1 hn0)
          clear hw1
          skip
          have hn1 := Nat.le_trans hn0 hs1
          go_wp2_with fail
          go_at_call 84
          refine (Make_any _).mono ?_
          rintro e w2 ⟨rfl, hb2⟩
          have hs2 : w0.heap.size ≤ w2.heap.size := Nat.le_trans hs1 hb2.size
          have HC2 := Lib.hid ((hb2.block g (Nat.lt_of_lt_of_le hgl hs1)).trans HC1.out)
          have HB2 := Lib.hid (HB1.out.trans (hb2.mono HB1.out.size))
          have HR2 := Lib.hid (HR1.out.below' hb2 hn1)
          clear hb2 HC1 HB1 HR1 hb1 hs1
          go_wp2_with fail
          go_at_call 95
          refine (TRight_any _ _ _ n l _ HL.out (Nat.le_trans hn0 hs2) HR2.out hb).mono ?_
          rintro e w3 ⟨rfl, hb3⟩
          rw [HRB.out]
          have hs3 : w0.heap.size ≤ w3.heap.size := Nat.le_trans hs2 hb3.size
          have hC3 := (hb3.block g (Nat.lt_of_lt_of_le hgl hs2)).trans HC2.out
          have hb03 := HB2.out.trans (hb3.mono HB2.out.size)
          have hR3 := HR2.out.below' hb3 (Nat.le_trans hn0 hs2)
          have HC3 := Lib.hid hC3
          have HB3 := Lib.hid hb03
          have HR3 := Lib.hid hR3
          clear hb3 HC2 HB2 HR2 hb03 hs2
          skip
          have k0 := (HB3.out.cell (p := ⟨b, off, none⟩) (Nat.lt_of_lt_of_le hbn hn)).trans c0
          have k2 := (HB3.out.cell (p := ⟨b, off + 2, none⟩) (Nat.lt_of_lt_of_le hbn hn)).trans c2
          go_wp2_with (refine wpList_store_row rfl 121 _ _ rfl _ _ rfl rfl _ _ (by (first | exact heap_alloc2_new _ _ _ | exact heap_alloc2_old _ _ _ | exact heap_alloc_new _ _ | assumption)) (by exact size_pk) (by rfl) (by simp [Value.oneCell']) ?_; (first | rw [setRow_alloc2_new] | rw [setRow_alloc2_old] | rw [World.setRow_alloc_new] | skip); (try go_simp))
          skip
          refine bodyPost_ret (results_cell_tmp3 rfl _ _ _ _ _ _ rfl (setRow_heap _ _ _ _ _ _ hC3) Try.underlying121 rfl size_pk) rfl ?_
          exact ⟨below_setRow HB3.out hgB _, .inr ⟨by rw [HE.out]; decide, by rw [HE.out]; rfl⟩⟩
        · have hq0I : ((q0 : Int) != 8) = true := by simp [bne]; omega
          clear hq hq0
          go_enter Try.func86, Try.ntmps86
          skip
          go_wp2_with fail
          rw [← HG.out, ← HW0.out]
          go_at_call 94
          refine (pstated_any (some ⟨b, off, none⟩) len cap n l _ HL.out (by omega) HR0.out hb).mono ?_
          rintro e w1 ⟨rfl, j1, hw1⟩
          rw [← HZ.out]
          have hb1 : Below w0.heap.size w0 w1 := by rw [hw1]; exact below_drews _ _ _
          have hC1 := (hb1.block g hgl).trans HC0.out
          have HB1 := Lib.hid (HB0.out.trans (hb1.mono HB0.out.size))
          have hs1 : w0.heap.size ≤ w1.heap.size := hb1.size
          have HC1 := Lib.hid hC1
          have HR1 := Lib.hid (HR0.out.below' hb1 hn0)
          clear hw1
          skip
          have hn1 := Nat.le_trans hn0 hs1
          go_wp2_with fail
          go_at_call 84
          refine (Make_any _).mono ?_
          rintro e w2 ⟨rfl, hb2⟩
          have hs2 : w0.heap.size ≤ w2.heap.size := Nat.le_trans hs1 hb2.size
          have HC2 := Lib.hid ((hb2.block g (Nat.lt_of_lt_of_le hgl hs1)).trans HC1.out)
          have HB2 := Lib.hid (HB1.out.trans (hb2.mono HB1.out.size))
          have HR2 := Lib.hid (HR1.out.below' hb2 hn1)
          clear hb2 HC1 HB1 HR1 hb1 hs1
          go_wp2_with fail
          go_at_call 95
          refine (TRight_any _ _ _ n l _ HL.out (Nat.le_trans hn0 hs2) HR2.out hb).mono ?_
          rintro e w3 ⟨rfl, hb3⟩
          rw [HRB.out]
          have hs3 : w0.heap.size ≤ w3.heap.size := Nat.le_trans hs2 hb3.size
          have hC3 := (hb3.block g (Nat.lt_of_lt_of_le hgl hs2)).trans HC2.out
          have hb03 := HB2.out.trans (hb3.mono HB2.out.size)
          have hR3 := HR2.out.below' hb3 (Nat.le_trans hn0 hs2)
          have HC3 := Lib.hid hC3
          have HB3 := Lib.hid hb03
          have HR3 := Lib.hid hR3
          clear hb3 HC2 HB2 HR2 hb03 hs2
          skip
          have k0 := (HB3.out.cell (p := ⟨b, off, none⟩) (Nat.lt_of_lt_of_le hbn hn)).trans c0
          have k2 := (HB3.out.cell (p := ⟨b, off + 2, none⟩) (Nat.lt_of_lt_of_le hbn hn)).trans c2
          go_wp2_with (refine wpList_store_row rfl 121 _ _ rfl _ _ rfl rfl _ _ (by (first | exact heap_alloc2_new _ _ _ | exact heap_alloc2_old _ _ _ | exact heap_alloc_new _ _ | assumption)) (by exact size_pk) (by rfl) (by simp [Value.oneCell']) ?_; (first | rw [setRow_alloc2_new] | rw [setRow_alloc2_old] | rw [World.setRow_alloc_new] | skip); (try go_simp))
          skip
          refine bodyPost_ret (results_cell_tmp3 rfl _ _ _ _ _ _ rfl (setRow_heap _ _ _ _ _ _ hC3) Try.underlying121 rfl size_pk) rfl ?_
          exact ⟨below_setRow HB3.out hgB _, .inr ⟨by rw [HE.out]; decide, by rw [HE.out]; rfl⟩⟩
      · have hqq := HFX.out.1 hFB
        have hq0I : ((q0 : Int) != 8) = false := by simp [bne]; omega
        have hq2I : ((q2 : Int) != 192) = false := by simp [bne]; omega
        have hx32 := P0.out.1 hqq.1
        have hx192 := P2.out.1 hqq.2
        have hdl := pdat_len (l := l) (by rw [HL.out]; omega)
        rw [HL.out] at hdl
        obtain ⟨dl, hdl'⟩ : ∃ dl, dl = (pdat l).length := ⟨_, rfl⟩
        rw [← hdl'] at hdl
        have hI : (len : Int) - 2 - 6 = (dl : Int) := by omega
        have HDL := Lib.hid hdl'
        have HI := Lib.hid hI
        clear hdl' hI hqq
        by_cases h200 : 200 < dl
        · have HE := Lib.hid (show pkErr l = 4 by unfold pkErr; rw [if_neg (by rw [HL.out, ← HZ.out]; omega), hRB, hFB, HL.out]; simp; omega)
          clear hRB hFB hs
          go_enter Try.func86, Try.ntmps86
          skip
          go_wp2_with fail
          rw [← HG.out, ← HW0.out]
          go_at_call 94
          refine (pstated_any (some ⟨b, off, none⟩) len cap n l _ HL.out (by omega) HR0.out hb).mono ?_
          rintro e w1 ⟨rfl, j1, hw1⟩
          rw [← HZ.out]
          have hb1 : Below w0.heap.size w0 w1 := by rw [hw1]; exact below_drews _ _ _
          have hC1 := (hb1.block g hgl).trans HC0.out
          have HB1 := Lib.hid (HB0.out.trans (hb1.mono HB0.out.size))
          have hs1 : w0.heap.size ≤ w1.heap.size := hb1.size
          have HC1 := Lib.hid hC1
          have HR1 := Lib.hid (HR0.out.below' hb1 hn0)
          clear hw1
          skip
          have hn1 := Nat.le_trans hn0 hs1
          go_wp2_with fail
          go_at_call 84
          refine (Make_any _).mono ?_
          rintro e w2 ⟨rfl, hb2⟩
          have hs2 : w0.heap.size ≤ w2.heap.size := Nat.le_trans hs1 hb2.size
          have HC2 := Lib.hid ((hb2.block g (Nat.lt_of_lt_of_le hgl hs1)).trans HC1.out)
          have HB2 := Lib.hid (HB1.out.trans (hb2.mono HB1.out.size))
          have HR2 := Lib.hid (HR1.out.below' hb2 hn1)
          clear hb2 HC1 HB1 HR1 hb1 hs1
          go_wp2_with fail
          go_at_call 95
          refine (TRight_any _ _ _ n l _ HL.out (Nat.le_trans hn0 hs2) HR2.out hb).mono ?_
          rintro e w3 ⟨rfl, hb3⟩
          rw [HRB.out]
          have hs3 : w0.heap.size ≤ w3.heap.size := Nat.le_trans hs2 hb3.size
          have hC3 := (hb3.block g (Nat.lt_of_lt_of_le hgl hs2)).trans HC2.out
          have hb03 := HB2.out.trans (hb3.mono HB2.out.size)
          have hR3 := HR2.out.below' hb3 (Nat.le_trans hn0 hs2)
          have HC3 := Lib.hid hC3
          have HB3 := Lib.hid hb03
          have HR3 := Lib.hid hR3
          clear hb3 HC2 HB2 HR2 hb03 hs2
          skip
          have k0 := (HB3.out.cell (p := ⟨b, off, none⟩) (Nat.lt_of_lt_of_le hbn hn)).trans c0
          have k2 := (HB3.out.cell (p := ⟨b, off + 2, none⟩) (Nat.lt_of_lt_of_le hbn hn)).trans c2
          go_wp2_with (refine wpList_store_row rfl 121 _ _ rfl _ _ rfl rfl _ _ (by (first | exact heap_alloc2_new _ _ _ | exact heap_alloc2_old _ _ _ | exact heap_alloc_new _ _ | assumption)) (by exact size_pk) (by rfl) (by simp [Value.oneCell']) ?_; (first | rw [setRow_alloc2_new] | rw [setRow_alloc2_old] | rw [World.setRow_alloc_new] | skip); (try go_simp))
          skip
          refine bodyPost_ret (results_cell_tmp3 rfl _ _ _ _ _ _ rfl (setRow_heap _ _ _ _ _ _ hC3) Try.underlying121 rfl size_pk) rfl ?_
          exact ⟨below_setRow HB3.out hgB _, .inr ⟨by rw [HE.out]; decide, by rw [HE.out]; rfl⟩⟩
        · have HE := Lib.hid (show pkErr l = 0 by unfold pkErr; rw [if_neg (by rw [HL.out, ← HZ.out]; omega), hRB, hFB, HL.out]; simp; omega)
          clear hRB hFB hs
          go_enter Try.func86, Try.ntmps86
          skip
          go_wp2_with fail
          rw [← HG.out, ← HW0.out]
          go_at_call 94
          refine (pstated_any (some ⟨b, off, none⟩) len cap n l _ HL.out (by omega) HR0.out hb).mono ?_
          rintro e w1 ⟨rfl, j1, hw1⟩
          rw [← HZ.out]
          have hb1 : Below w0.heap.size w0 w1 := by rw [hw1]; exact below_drews _ _ _
          have hC1 := (hb1.block g hgl).trans HC0.out
          have HB1 := Lib.hid (HB0.out.trans (hb1.mono HB0.out.size))
          have hs1 : w0.heap.size ≤ w1.heap.size := hb1.size
          have HC1 := Lib.hid hC1
          have HR1 := Lib.hid (HR0.out.below' hb1 hn0)
          clear hw1
          skip
          have hn1 := Nat.le_trans hn0 hs1
          go_wp2_with fail
          go_at_call 84
          refine (Make_any _).mono ?_
          rintro e w2 ⟨rfl, hb2⟩
          have hs2 : w0.heap.size ≤ w2.heap.size := Nat.le_trans hs1 hb2.size
          have HC2 := Lib.hid ((hb2.block g (Nat.lt_of_lt_of_le hgl hs1)).trans HC1.out)
          have HB2 := Lib.hid (HB1.out.trans (hb2.mono HB1.out.size))
          have HR2 := Lib.hid (HR1.out.below' hb2 hn1)
          clear hb2 HC1 HB1 HR1 hb1 hs1
          go_wp2_with fail
          go_at_call 95
          refine (TRight_any _ _ _ n l _ HL.out (Nat.le_trans hn0 hs2) HR2.out hb).mono ?_
          rintro e w3 ⟨rfl, hb3⟩
          rw [HRB.out]
          have hs3 : w0.heap.size ≤ w3.heap.size := Nat.le_trans hs2 hb3.size
          have hC3 := (hb3.block g (Nat.lt_of_lt_of_le hgl hs2)).trans HC2.out
          have hb03 := HB2.out.trans (hb3.mono HB2.out.size)
          have hR3 := HR2.out.below' hb3 (Nat.le_trans hn0 hs2)
          have HC3 := Lib.hid hC3
          have HB3 := Lib.hid hb03
          have HR3 := Lib.hid hR3
          clear hb3 HC2 HB2 HR2 hb03 hs2
          skip
          have k0 := (HB3.out.cell (p := ⟨b, off, none⟩) (Nat.lt_of_lt_of_le hbn hn)).trans c0
          have k2 := (HB3.out.cell (p := ⟨b, off + 2, none⟩) (Nat.lt_of_lt_of_le hbn hn)).trans c2
          go_wp2_with fail
          rw [show len - 2 - 6 = dl by omega]
          have hSub := sub_rd HL.out hR3 HDL.out.symm (by omega)
          rw [← HDL.out] at hSub
          have hR2 := rd_drop (k := 2) hR3 (by omega) (by omega)
          have hl2 : (l.drop 2).length = len - 2 := by rw [List.length_drop, HL.out]
          have hb2 := hb.drop 2
          have hA := hb.at 0
          have hA1 := hb.at 1
          have hB0 := hb.at 2
          have hB1 := hb.at 3
          have hkk : pkK l = decide (16 ≤ x0) := by rw [HX0.out]; rfl
          have hka : (l.getD 0 0 * 256 + l.getD 1 0) % 2048 = pkA l := rfl
          have hkc : ((l.drop 2).getD 0 0 * 256 + (l.drop 2).getD 1 0) % 16384 = pkC l := by unfold pkC; simp [List.getD, List.getElem?_drop]
          have ec0 : (l.drop 2).getD 0 0 = l.getD 2 0 := by simp [List.getD, List.getElem?_drop]
          have ec1 : (l.drop 2).getD 1 0 = l.getD 3 0 := by simp [List.getD, List.getElem?_drop]
          have hBl : (l.drop 2).getD 0 0 * 256 + (l.drop 2).getD 1 0 < 65536 := by rw [ec0, ec1]; omega
          obtain ⟨A, hA'⟩ : ∃ A, A = l.getD 0 0 * 256 + l.getD 1 0 := ⟨_, rfl⟩
          obtain ⟨C, hC'⟩ : ∃ C, C = (l.drop 2).getD 0 0 * 256 + (l.drop 2).getD 1 0 := ⟨_, rfl⟩
          have hAl : A < 65536 := by omega
          rw [← hA'] at hka
          rw [← hC'] at hkc hBl
          have hmA : Int.tmod (A : Int) 2048 = ((pkA l : Nat) : Int) := by rw [Int.tmod_eq_emod_of_nonneg (by omega), ← hka]; omega
          have hmC : Int.tmod (C : Int) 16384 = ((pkC l : Nat) : Int) := by rw [Int.tmod_eq_emod_of_nonneg (by omega), ← hkc]; omega
          have p16 := and16a x0 hx32.1
          have a16 : bits .and .u8 (x0 : Int) 16 = ((x0 &&& 16 : Nat) : Int) := and8u x0 16 hx (by omega)
          obtain ⟨q, hq⟩ : ∃ q, q = x0 &&& 16 := ⟨_, rfl⟩
          rw [← hq] at a16 p16
          obtain ⟨t, ht⟩ : ∃ t, t = decide (16 ≤ x0) := ⟨_, rfl⟩
          have hqt : ((q : Int) != 0) = t := by
            rw [ht]
            by_cases h : x0 < 16
            · rw [p16.2 h, decide_eq_false (by omega)]; rfl
            · have h1 : ¬ q = 0 := fun e => h (p16.1 e)
              rw [decide_eq_true (by omega)]
              simp [bne, h1]
          rw [← ht] at hkk
          obtain ⟨D, hD⟩ : ∃ D, D = pdat l := ⟨_, rfl⟩
          have hDl : D.length = dl := by rw [hD, HDL.out]
          obtain ⟨ka, hka'⟩ : ∃ ka, ka = pkA l := ⟨_, rfl⟩
          obtain ⟨kc, hkc'⟩ : ∃ kc, kc = pkC l := ⟨_, rfl⟩
          rw [← hka'] at hmA
          rw [← hkc'] at hmC
          rw [← hD] at hSub
          have HA := Lib.hid hA'
          have HC := Lib.hid hC'
          have HD := Lib.hid hD
          have HDD := Lib.hid hDl
          have HDL8 := Lib.hid hdl
          have HKK := Lib.hid hkk
          have HKA := Lib.hid hka'
          have HKC := Lib.hid hkc'
          have HL2 := Lib.hid hl2
          have HR2 := Lib.hid hR2
          have HSUB := Lib.hid hSub
          have hns : n ≤ w3.heap.size := Nat.le_trans hn0 hs3
          have hgs : g < w3.heap.size := Nat.lt_of_lt_of_le hgl hs3
          have hbs : b < w3.heap.size := Nat.lt_of_lt_of_le hbn hns
          clear hdl ec0 ec1 hA hA1 hB0 hB1 hkk hka hkc hA' hC' p16 hq ht hD hDl hka' hkc' hl2 hR2 hSub HX0 HX2 P0 P2 HFX k2 c0 c2 a0 a2 hC1 hR3
          obtain ⟨I, W, hne, hWI, hIW⟩ := Go.Mix.family (fun v => Below w3.heap.size w3 v) (Below.refl _ _)
          have HJ := Lib.hid hIW
          have HW := Lib.hid hWI
          clear hWI hIW
          refine Go.Flo.wp_region (fun w' => ∃ i, w' = W i) 15 [Go.Flo.Spec.is (.int .u16 (A : Nat)), Go.Flo.Spec.is (.int .u16 (C : Nat)), SpO w3.heap.size D] (by kernel_rfl) (by kernel_rfl) (by decide) (by rintro _ w' ⟨i, rfl⟩ hb; exact HJ.out _ ((HW.out i).trans (hb.mono (HW.out i).size))) (HJ.out _ (Below.refl _ _).drew) ?_
          simp only [Go.Flo.pair, Go.Mix.calm, List.take, List.drop, if_true, Bool.false_eq_true, if_false, Nat.reduceAdd, Nat.reduceSub]
          have e0 : ∀ i, (W i).cell? ⟨b, off, none⟩ = some (.int .u8 (x0 : Int)) := fun i => ((HW.out i).cell (p := ⟨b, off, none⟩) hbs).trans k0
          (repeat (first | (refine Go.Flo.fw_calm rfl ?_ (fun K hK => ?_); (first | exact Go.Mix.wanted_none rfl | exact Go.Mix.wanted_tt rfl rfl rfl | exact Go.Mix.wanted_ff rfl rfl rfl); go_big_quiet_op; refine hK _ ?_; clear hK K) | (refine Go.Flo.fw_skip ?_ (fun K hK => ?_); (first | exact Go.Mix.wanted_tf rfl rfl rfl | exact Go.Mix.wanted_ft rfl rfl rfl); go_simp; refine hK _ ?_; clear hK K) | (refine Go.Flo.fw_any rfl ?_ (fun K hK => ?_); (first | exact Go.Mix.wanted_none rfl | exact Go.Mix.wanted_tt rfl rfl rfl | exact Go.Mix.wanted_ff rfl rfl rfl); go_simp; (try (go_ints; try go_simp)); refine hK _ ?_; clear hK K)))
          refine Go.Flo.fw_loud rfl ?_ rfl (by simp) (fun wv hwv hav K hK => ?_) (fun v hv K hK => ?_)
          · (first | exact Go.Mix.wanted_none rfl | exact Go.Mix.wanted_tt rfl rfl rfl | exact Go.Mix.wanted_ff rfl rfl rfl)
          · obtain ⟨iv, rfl⟩ := hwv
            have hbv := HW.out iv
            (first | go_big_op | go_simp)
            go_at_call 96
            refine (pget_any (some ⟨b, off, none⟩) len cap n l _ HL.out (by omega) (HR3.out.below' hbv hns) hb).mono ?_
            rintro e w' ⟨rfl, j, hj⟩
            rw [← HA.out]
            exact hK _ _ (Go.Flo.owes_is _ rfl (by rw [hj]; exact below_drews _ _ _))
          obtain rfl := hv.is
          go_simp
          refine hK _ ?_
          clear hK K hv
          (repeat (first | (refine Go.Flo.fw_calm rfl ?_ (fun K hK => ?_); (first | exact Go.Mix.wanted_none rfl | exact Go.Mix.wanted_tt rfl rfl rfl | exact Go.Mix.wanted_ff rfl rfl rfl); go_big_quiet_op; refine hK _ ?_; clear hK K) | (refine Go.Flo.fw_skip ?_ (fun K hK => ?_); (first | exact Go.Mix.wanted_tf rfl rfl rfl | exact Go.Mix.wanted_ft rfl rfl rfl); go_simp; refine hK _ ?_; clear hK K) | (refine Go.Flo.fw_any rfl ?_ (fun K hK => ?_); (first | exact Go.Mix.wanted_none rfl | exact Go.Mix.wanted_tt rfl rfl rfl | exact Go.Mix.wanted_ff rfl rfl rfl); go_simp; (try (go_ints; try go_simp)); refine hK _ ?_; clear hK K)))
          refine Go.Flo.fw_loud rfl ?_ rfl (by simp) (fun wv hwv hav K hK => ?_) (fun v hv K hK => ?_)
          · (first | exact Go.Mix.wanted_none rfl | exact Go.Mix.wanted_tt rfl rfl rfl | exact Go.Mix.wanted_ff rfl rfl rfl)
          · obtain ⟨iv, rfl⟩ := hwv
            have hbv := HW.out iv
            (first | go_big_op | go_simp)
            go_at_call 96
            refine (pget_any (some ⟨b, off + 2, none⟩) (len - 2) (cap - 2) n (l.drop 2) _ HL2.out (by omega) (HR2.out.below' hbv hns) hb2).mono ?_
            rintro e w' ⟨rfl, j, hj⟩
            rw [← HC.out]
            exact hK _ _ (Go.Flo.owes_is _ rfl (by rw [hj]; exact below_drews _ _ _))
          obtain rfl := hv.is
          go_simp
          refine hK _ ?_
          clear hK K hv
          (repeat (first | (refine Go.Flo.fw_calm rfl ?_ (fun K hK => ?_); (first | exact Go.Mix.wanted_none rfl | exact Go.Mix.wanted_tt rfl rfl rfl | exact Go.Mix.wanted_ff rfl rfl rfl); go_big_quiet_op; refine hK _ ?_; clear hK K) | (refine Go.Flo.fw_skip ?_ (fun K hK => ?_); (first | exact Go.Mix.wanted_tf rfl rfl rfl | exact Go.Mix.wanted_ft rfl rfl rfl); go_simp; refine hK _ ?_; clear hK K) | (refine Go.Flo.fw_any rfl ?_ (fun K hK => ?_); (first | exact Go.Mix.wanted_none rfl | exact Go.Mix.wanted_tt rfl rfl rfl | exact Go.Mix.wanted_ff rfl rfl rfl); go_simp; (try (go_ints; try go_simp)); refine hK _ ?_; clear hK K)))
          refine Go.Flo.fw_loud rfl ?_ rfl (by simp) (fun wv hwv hav K hK => ?_) (fun v hv K hK => ?_)
          · (first | exact Go.Mix.wanted_none rfl | exact Go.Mix.wanted_tt rfl rfl rfl | exact Go.Mix.wanted_ff rfl rfl rfl)
          · obtain ⟨iv, rfl⟩ := hwv
            have hbv := HW.out iv
            (first | go_big_op | go_simp)
            go_at_call 88
            refine (Clone_any (some ⟨b, off + 6, none⟩) dl (cap - 6) n D _ (Nat.le_trans hns hbv.size) HDD.out (HSUB.out.below' hbv hns) (by omega)).mono ?_
            rintro e w' ⟨v, rfl, hown, hbb⟩
            exact hK _ _ (owes_O HDD.out rfl hbb hown hbv.size)
          obtain ⟨a9, c9, rfl⟩ := ex_O hv
          rw [HDD.out]
          go_simp
          refine hK _ ?_
          clear hK K hv
          (repeat (first | (refine Go.Flo.fw_calm rfl ?_ (fun K hK => ?_); (first | exact Go.Mix.wanted_none rfl | exact Go.Mix.wanted_tt rfl rfl rfl | exact Go.Mix.wanted_ff rfl rfl rfl); go_big_quiet_op; refine hK _ ?_; clear hK K) | (refine Go.Flo.fw_skip ?_ (fun K hK => ?_); (first | exact Go.Mix.wanted_tf rfl rfl rfl | exact Go.Mix.wanted_ft rfl rfl rfl); go_simp; refine hK _ ?_; clear hK K) | (refine Go.Flo.fw_any rfl ?_ (fun K hK => ?_); (first | exact Go.Mix.wanted_none rfl | exact Go.Mix.wanted_tt rfl rfl rfl | exact Go.Mix.wanted_ff rfl rfl rfl); go_simp; (try (go_ints; try go_simp)); refine hK _ ?_; clear hK K)))
          refine Go.Flo.fw_nil ?_
          intro w4 hww4 hfw4 huw4
          obtain ⟨iend, hiend⟩ := hww4
          have hbw4 := HW.out iend
          rw [← hiend] at hbw4
          clear hiend iend huw4
          have hsays : w4.ownsRow w3.heap.size 5 1 (.slice a9 D.length c9) D.length (bl D) := ((hfw4 (some 59)).1.2 rfl).1
          have hC4 := (hbw4.block g hgs).trans HC3.out
          clear hfw4 HJ HW hne e0
          clear W I
          rw [HDD.out] at hsays
          refine Go.Flo.tw_step ?_ (fun K hK => ?_)
          · (first | exact Go.Mix.wanted_none rfl | exact Go.Mix.wanted_tt rfl rfl rfl | exact Go.Mix.wanted_ff rfl rfl rfl)
          refine wp_store_row 121 (.tmp 2) (.tmp 60) rfl g _ rfl rfl 121 _ hC4 size_pk rfl (by simp [Value.oneCell']) (hK _ _ ?_)
          clear hK K
          refine Go.Flo.tw_step ?_ (fun K hK => ?_)
          · (first | exact Go.Mix.wanted_none rfl | exact Go.Mix.wanted_tt rfl rfl rfl | exact Go.Mix.wanted_ff rfl rfl rfl)
          (first | go_big_op | go_simp)
          refine hK _ _ ?_
          clear hK K
          refine Go.Flo.tw_nil ?_
          go_wp2
          skip
          refine bodyPost_ret (results_cell_tmp3 rfl _ _ _ _ _ _ rfl (setRow_heap _ _ _ _ _ _ hC4) Try.underlying121 rfl size_pk) rfl ?_
          have hB4 := below_setRow (HB3.out.trans (hbw4.mono HB3.out.size)) hgB #[.bool t, .int .u16 ka, .int .u16 kc, .slice a9 dl c9]
          have hown := hsays.kept (grown_setRow w4 g #[.bool t, .int .u16 ka, .int .u16 kc, .slice a9 dl c9]) (.inr (fun e => by have := (hsays.lt g e).1; omega))
          have hrd := rd_of_own (f := bv D) hown (fun i hi => bl_at D (by rw [HDD.out]; exact hi))
          refine ⟨hB4, .inl ⟨HE.out, a9, c9, ?_, ?_⟩⟩
          · rw [HKK.out, ← HKA.out, ← HKC.out, ← HDL.out]; rfl
          · rw [← HD.out, HDD.out]; exact hrd
  · have HE := Lib.hid (show pkErr l = 2 by unfold pkErr; rw [if_pos (.inr (by rw [HL.out, ← HZ.out]; omega))])
    have hsI : ((len : Int) != (z : Int) + 7) = true := by simp [bne]; omega
    clear hs a0 a2
    go_enter Try.func86, Try.ntmps86
    skip
    go_wp2_with fail
    rw [← HG.out, ← HW0.out]
    go_at_call 94
    refine (pstated_any (some ⟨b, off, none⟩) len cap n l _ HL.out (by omega) HR0.out hb).mono ?_
    rintro e w1 ⟨rfl, j1, hw1⟩
    rw [← HZ.out]
    have hb1 : Below w0.heap.size w0 w1 := by rw [hw1]; exact below_drews _ _ _
    have hC1 := (hb1.block g hgl).trans HC0.out
    have HB1 := Lib.hid (HB0.out.trans (hb1.mono HB0.out.size))
    have hs1 : w0.heap.size ≤ w1.heap.size := hb1.size
    have HC1 := Lib.hid hC1
    have HR1 := Lib.hid (HR0.out.below' hb1 hn0)
    clear hw1
    go_wp2_with (refine wpList_store_row rfl 121 _ _ rfl _ _ rfl rfl _ _ (by (first | exact heap_alloc2_new _ _ _ | exact heap_alloc2_old _ _ _ | exact heap_alloc_new _ _ | assumption)) (by exact size_pk) (by rfl) (by simp [Value.oneCell']) ?_; (first | rw [setRow_alloc2_new] | rw [setRow_alloc2_old] | rw [World.setRow_alloc_new] | skip); (try go_simp))
    skip
    refine bodyPost_ret (results_cell_tmp3 rfl _ _ _ _ _ _ rfl (setRow_heap _ _ _ _ _ _ hC1) Try.underlying121 rfl size_pk) rfl ?_
    exact ⟨below_setRow HB1.out hgB _, .inr ⟨by rw [HE.out]; decide, by rw [HE.out]; rfl⟩⟩
end Go.Proofs.Ytmihhapedpalmaa
