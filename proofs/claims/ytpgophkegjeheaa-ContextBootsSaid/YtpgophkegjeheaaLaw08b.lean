/- ContextBoots: behind a reset the context is what was kept. -/
import Derived.Test.YtpgophkegjeheaaCxU
import Derived.Deep.DeepCutAuto
import Derived.Deep.CutBlock
namespace Go.Proofs.Ytpgophkegjeheaa
open Go.RowKit Go.Own
set_option linter.unusedVariables false
set_option linter.unusedSimpArgs false
/-- Where the law stands: two boxes, a memory. -/
structure BtSt (w wr : World) (g x0 x12 : Nat) (c W : Cx) (v : Nat → Value) (ls : Nat → List Nat) : Prop where
  be : Below w.heap.size w wr
  mem : MemS wr g g v ls
  b0 : wr.heap[x0]? = some (.cells #[.int .u16 c.f, .int .u16 c.i, .int .u8 c.r0, .int .u8 c.r1, .int .u8 c.r2, .int .u8 c.r3, .int .u8 c.r4, .int .u8 c.r5, .int .i8 c.c0, .int .i8 c.c1, .int .i8 c.c2, .int .i8 c.c3, .int .i8 c.c4, .int .i8 c.c5, .int .u8 c.m, .int .u16 c.n, .bool c.x, .int .u8 c.h] 28 (0, 0))
  b12 : wr.heap[x12]? = some (.cells #[.int .u16 W.f, .int .u16 W.i, .int .u8 W.r0, .int .u8 W.r1, .int .u8 W.r2, .int .u8 W.r3, .int .u8 W.r4, .int .u8 W.r5, .int .i8 W.c0, .int .i8 W.c1, .int .i8 W.c2, .int .i8 W.c3, .int .i8 W.c4, .int .i8 W.c5, .int .u8 W.m, .int .u16 W.n, .bool W.x, .int .u8 W.h] 28 (0, 0))
  a0 : ∀ i, i < 4 → (v i).ownBlock ≠ some x0
  a12 : ∀ i, i < 4 → (v i).ownBlock ≠ some x12
  hg : w.heap.size ≤ g
  h12 : w.heap.size ≤ x12
  n0 : x0 ≠ g
  n12 : x12 ≠ g
  n : x0 ≠ x12
theorem BtSt.below {w wr w' : World} {g x0 x12 : Nat} {c W : Cx} {v : Nat → Value} {ls : Nat → List Nat} (h : BtSt w wr g x0 x12 c W v ls) (hb : Below wr.heap.size wr w') : BtSt w w' g x0 x12 c W v ls :=
  ⟨h.be.trans (hb.mono h.be.size), h.mem.below hb, box_below h.b0 hb (box_lt h.b0), box_below h.b12 hb (box_lt h.b12), h.a0, h.a12, h.hg, h.h12, h.n0, h.n12, h.n⟩
theorem BtSt.step {w wr w' : World} {g x0 x12 : Nat} {c W : Cx} {v v' : Nat → Value} {ls ls' : Nat → List Nat} (h : BtSt w wr g x0 x12 c W v ls) (hs : MStep g v v' wr w') (hm : MemS w' g g v' ls') : BtSt w w' g x0 x12 c W v' ls' :=
  ⟨h.be.trans ((hs.below h.mem).mono h.hg), hm, (hs.block x0 (box_lt h.b0) h.n0 h.a0).trans h.b0, (hs.block x12 (box_lt h.b12) h.n12 h.a12).trans h.b12, hs.apart x0 (box_lt h.b0) h.a0, hs.apart x12 (box_lt h.b12) h.a12, h.hg, h.h12, h.n0, h.n12, h.n⟩
theorem BtSt.want {w wr : World} {g x0 x12 : Nat} {c W : Cx} {v : Nat → Value} {ls : Nat → List Nat} (h : BtSt w wr g x0 x12 c W v ls) (W' : Cx) : BtSt w (wr.setRow x12 #[.int .u16 W'.f, .int .u16 W'.i, .int .u8 W'.r0, .int .u8 W'.r1, .int .u8 W'.r2, .int .u8 W'.r3, .int .u8 W'.r4, .int .u8 W'.r5, .int .i8 W'.c0, .int .i8 W'.c1, .int .i8 W'.c2, .int .i8 W'.c3, .int .i8 W'.c4, .int .i8 W'.c5, .int .u8 W'.m, .int .u16 W'.n, .bool W'.x, .int .u8 W'.h]) g x0 x12 c W' v ls :=
  ⟨below_setRow h.be h.h12 _, h.mem.setBox h.b12 (by decide) (Ne.symm h.n12) _, (setRow_other wr x12 x0 _ h.n).trans h.b0, setRow_heap _ _ _ _ _ _ h.b12, h.a0, h.a12, h.hg, h.h12, h.n0, h.n12, h.n⟩
/-- What the memory is behind the switch. -/
def BtKind (h4 : Nat) (ls : Nat → List Nat) (W : Cx) (ok : Bool) : Prop :=
  ls 3 = [] ∧ toldOk ls = ok ∧ toldCx ls = W ∧ gtop ls 3 ≤ 1 ∧ ((h4 ≠ 2 ∧ (ok = true ∨ h4 = 1) ∧ ∃ D, ls = sel4 D D D [] ∧ perr D = 0 ∧ pseq D = 1) ∨ (h4 ≠ 1 ∧ h4 ≠ 2 ∧ ok = false ∧ perr (ls 1) ≠ 0 ∧ perr (ls 2) ≠ 0) ∨ (h4 = 2 ∧ ok = false))
/-- What the memory tells behind the first phase, if it ran. -/
def BtTold (h4 : Nat) (ls : Nat → List Nat) (W : Cx) (ok bb : Bool) : Prop :=
  (bb = true ∧ h4 = 2) ∨ (gtop ls 3 ≤ 2 ∧ toldCx ls = W ∧ ((bb = false ∧ toldOk ls = ok) ∨ (bb = true ∧ h4 = 1 ∧ toldOk ls = true) ∨ (bb = true ∧ h4 ≠ 1 ∧ h4 ≠ 2 ∧ toldOk ls = ok)))
theorem bt_stay {h4 : Nat} {ls : Nat → List Nat} {W : Cx} {ok : Bool} (h : BtKind h4 ls W ok) : BtTold h4 ls W ok false :=
  .inr ⟨by have := h.2.2.2.1; omega, h.2.2.1, .inl ⟨rfl, h.2.1⟩⟩
theorem bt_begin {h4 : Nat} {ls : Nat → List Nat} {W : Cx} {ok : Bool} (h : BtKind h4 ls W ok) (hok : W.Ok) (hr : W.right = true) :
    BtTold h4 (sel4 (mkCell (gtop ls 3 + 1) (bytesOf W)) (ls 1) (ls 2) (mkCell (gtop ls 3 + 1) (bytesOf W))) W ok true := by
  obtain ⟨h3, ht, hc, hg, hK⟩ := h
  rcases hK with ⟨h2, h1, D, rfl, hD, hs⟩ | ⟨h1, h2, rfl, hp1, hp2⟩ | ⟨h2, _⟩
  · have e1 : sel4 D D D [] 1 = D := rfl
    have e2 : sel4 D D D [] 2 = D := rfl
    rw [e1, e2]
    have hgt : gtop (sel4 D D D []) 3 = 1 := by rw [gtop_all hD, hs]
    rw [hgt]
    obtain ⟨t1, t2, t3⟩ := told_begin (d := mkCell (1 + 1) (bytesOf W)) (s := 1 + 1) (by omega) hD (by omega) hok hr
    refine .inr ⟨by rw [t3]; omega, t2, ?_⟩
    by_cases h : h4 = 1
    · exact .inr (.inl ⟨rfl, h, t1⟩)
    · refine .inr (.inr ⟨rfl, h, h2, ?_⟩)
      rcases h1 with h1 | h1
      · rw [t1, h1]
      · exact absurd h1 h
  · have hf := mk_fine (gtop ls 3 + 1) W (by omega)
    obtain ⟨t, htt⟩ : ∃ t, t = gtop ls 3 := ⟨_, rfl⟩
    rw [← htt] at hf hg ⊢
    obtain ⟨C, hC⟩ : ∃ C, C = mkCell (t + 1) (bytesOf W) := ⟨_, rfl⟩
    rw [← hC] at hf ⊢
    have hv : (vst (sel4 C (ls 1) (ls 2) C) 3).1 < 2 := vst_two ⟨hp1, hp2⟩
    have hW : toldCx ls = cxDef := by unfold toldCx; rw [ht]; rfl
    refine .inr ⟨?_, by rw [(told_none hv).2, ← hW, hc], .inr (.inr ⟨rfl, h1, h2, (told_none hv).1⟩)⟩
    have e1 : sel4 C (ls 1) (ls 2) C 1 = ls 1 := rfl
    have e2 : sel4 C (ls 1) (ls 2) C 2 = ls 2 := rfl
    have e0 : sel4 C (ls 1) (ls 2) C 0 = C := rfl
    simp only [gtop, e0, e1, e2, if_neg hp1, if_neg hp2, if_pos hf.1, hf.2.2]
    simp
    omega
  · exact .inl ⟨rfl, h2⟩
theorem bt_none {h4 : Nat} (h1 : h4 ≠ 1) (h2 : h4 ≠ 2) : BtKind h4 noL cxDef false := by
  have hp : perr [] ≠ 0 := by decide
  have hv : (vst noL 3).1 < 2 := vst_two (ls := noL) ⟨hp, hp⟩
  exact ⟨rfl, (told_none hv).1, (told_none hv).2, by decide +kernel, .inr (.inl ⟨h1, h2, rfl, hp, hp⟩)⟩
theorem bt_two {h4 j0 j1 : Nat} {D : List Nat} (hh : h4 = 2) (h0 : perr (D.set j0 (D.getD j0 0 ^^^ 1)) ≠ 0) (h1 : perr (D.set j1 (D.getD j1 0 ^^^ 1)) ≠ 0) (hD : perr D = 0) (hs : pseq D = 1) :
    BtKind h4 (upd (upd (sel4 D D D []) 0 (turnL (sel4 D D D [] 0) j0 1)) 1 (turnL (upd (sel4 D D D []) 0 (turnL (sel4 D D D [] 0) j0 1) 1) j1 1)) cxDef false := by
  obtain ⟨ls, hls⟩ : ∃ ls, ls = upd (upd (sel4 D D D []) 0 (turnL (sel4 D D D [] 0) j0 1)) 1 (turnL (upd (sel4 D D D []) 0 (turnL (sel4 D D D [] 0) j0 1) 1) j1 1) := ⟨_, rfl⟩
  have e0 : ls 0 = D.set j0 (D.getD j0 0 ^^^ 1) := by rw [hls]; rfl
  have e1 : ls 1 = D.set j1 (D.getD j1 0 ^^^ 1) := by rw [hls]; rfl
  have e2 : ls 2 = D := by rw [hls]; rfl
  have e3 : ls 3 = [] := by rw [hls]; rfl
  rw [← hls]
  have hv : (vst ls 3).1 < 2 := vst_two' ⟨by rw [e0]; exact h0, by rw [e1]; exact h1⟩
  refine ⟨e3, (told_none hv).1, (told_none hv).2, ?_, .inr (.inr ⟨hh, rfl⟩)⟩
  simp only [gtop, e0, e1, e2, if_neg h0, if_neg h1, if_pos hD, hs]
  decide
theorem Bytes_uni (c : Cx) (w : World) (hok : c.Ok) : ∃ P : List Nat, P.length ≤ 200 ∧ bytes P ∧ Calls Try.prog 17 #[.agg #[.int .u16 c.f, .int .u16 c.i, .int .u8 c.r0, .int .u8 c.r1, .int .u8 c.r2, .int .u8 c.r3, .int .u8 c.r4, .int .u8 c.r5, .int .i8 c.c0, .int .i8 c.c1, .int .i8 c.c2, .int .i8 c.c3, .int .i8 c.c4, .int .i8 c.c5, .int .u8 c.m, .int .u16 c.n, .bool c.x, .int .u8 c.h]] w fun e w' => ∃ va vc, e = .returned (.slice va P.length vc) ∧ Rd w'.heap.size w' va P.length vc (bv P) ∧ Below w.heap.size w w' := by
  cases hr : c.right with
  | true =>
    refine ⟨bytesOf c, by rw [bytesOf_len]; omega, bytesOf_bytes hok hr, (Bytes_of c w hok hr).mono ?_⟩
    rintro e w' ⟨v, rfl, hown, hb⟩
    obtain ⟨va, vc, rfl⟩ := own_form hown
    exact ⟨va, vc, rfl, rd_of_own hown (fun i hi => bl_at _ (by rw [bytesOf_len]; exact hi)), hb⟩
  | false =>
    refine ⟨[], by simp, fun x hx => absurd hx (by simp), (Bytes_no c w hr).mono ?_⟩
    rintro e w' ⟨rfl, hb⟩
    exact ⟨none, 0, rfl, Rd.none_ _ _ _, hb⟩
/-- A slice that is none of the memory's reads as before. -/
theorem bt_rd {w wr w' : World} {g x0 x12 : Nat} {c W : Cx} {v v' : Nat → Value} {ls : Nat → List Nat} {a : Option Addr} {m cp : Nat} {f : Nat → Value} (h : Rd wr.heap.size wr a m cp f) (hs : MStep g v v' wr w') (hst : BtSt w wr g x0 x12 c W v ls) (hx : ∀ y, a = some y → y.block ≠ g ∧ ∀ i, i < 4 → (v i).ownBlock ≠ some y.block) : Rd w'.heap.size w' a m cp f :=
  ⟨h.le, h.top, h.nil_, fun hl => by
    obtain ⟨b, off, e, hb, hc⟩ := h.row hl
    obtain ⟨h1, h2⟩ := hx _ e
    exact ⟨b, off, e, Nat.lt_of_lt_of_le hb hs.size, fun i hi => (World.cell?_of_block (a := ⟨b, off + i, none⟩) (hs.block b hb h1 h2)).trans (hc i hi)⟩⟩
set_option maxRecDepth 100000 in
set_option maxHeartbeats 8000000 in
theorem walk_ContextBoots (c : Cx) (a1 : Option Addr) (len1 cap1 : Nat) (z1 : List Int) (a2 a3 : Int) (a4 : Bool) (w : World) (hok : c.Ok) (w1 : IsRow .u8 w a1 len1 cap1 z1) (w2 : (Lit.int .u8 a2).wf = true) (w3 : (Lit.int .u16 a3).wf = true) :
    Calls Try.prog 4 #[.agg #[.int .u16 c.f, .int .u16 c.i, .int .u8 c.r0, .int .u8 c.r1, .int .u8 c.r2, .int .u8 c.r3, .int .u8 c.r4, .int .u8 c.r5, .int .i8 c.c0, .int .i8 c.c1, .int .i8 c.c2, .int .i8 c.c3, .int .i8 c.c4, .int .i8 c.c5, .int .u8 c.m, .int .u16 c.n, .bool c.x, .int .u8 c.h], .slice a1 len1 cap1, .int .u8 a2, .int .u16 a3, .bool a4] w fun e w' => e = .returned (.bool true) ∧ Below w.heap.size w w' := by
  obtain ⟨l1, hl1, hb1, hr1⟩ := isRow_rd w1
  obtain ⟨p0, p1⟩ := bounds_u8 w2
  obtain ⟨q0, q1⟩ := bounds_u16 w3
  obtain ⟨a2, rfl⟩ := Int.eq_ofNat_of_zero_le p0
  obtain ⟨a3, rfl⟩ := Int.eq_ofNat_of_zero_le q0
  obtain ⟨h4, hh4⟩ : ∃ h4, h4 = a2 % 4 := ⟨_, rfl⟩
  have hhI : (a2 : Int) % 4 = (h4 : Int) := by omega
  have hh4b : h4 < 4 := by omega
  have HOK := Lib.hid hok
  have HL1 := Lib.hid hl1
  have HB1 := Lib.hid hb1
  have hal : Below w.heap.size w (w.alloc (.cells #[.int .u16 c.f, .int .u16 c.i, .int .u8 c.r0, .int .u8 c.r1, .int .u8 c.r2, .int .u8 c.r3, .int .u8 c.r4, .int .u8 c.r5, .int .i8 c.c0, .int .i8 c.c1, .int .i8 c.c2, .int .i8 c.c3, .int .i8 c.c4, .int .i8 c.c5, .int .u8 c.m, .int .u16 c.n, .bool c.x, .int .u8 c.h] 28)) := (Below.refl _ _).alloc (Nat.le_refl _) _
  have hx := heap_alloc_new w (.cells #[.int .u16 c.f, .int .u16 c.i, .int .u8 c.r0, .int .u8 c.r1, .int .u8 c.r2, .int .u8 c.r3, .int .u8 c.r4, .int .u8 c.r5, .int .i8 c.c0, .int .i8 c.c1, .int .i8 c.c2, .int .i8 c.c3, .int .i8 c.c4, .int .i8 c.c5, .int .u8 c.m, .int .u16 c.n, .bool c.x, .int .u8 c.h] 28)
  have HR1 := Lib.hid (rd_grow hr1 hal)
  clear w1 w2 w3 hok hl1 hb1 hr1 hh4
  go_enter Try.func4, Try.ntmps4
  go_wp2_with fail
  obtain ⟨w0, hw0⟩ : ∃ w0, w0 = w.alloc (.cells #[.int .u16 c.f, .int .u16 c.i, .int .u8 c.r0, .int .u8 c.r1, .int .u8 c.r2, .int .u8 c.r3, .int .u8 c.r4, .int .u8 c.r5, .int .i8 c.c0, .int .i8 c.c1, .int .i8 c.c2, .int .i8 c.c3, .int .i8 c.c4, .int .i8 c.c5, .int .u8 c.m, .int .u16 c.n, .bool c.x, .int .u8 c.h] 28) := ⟨_, rfl⟩
  obtain ⟨x0, hx0⟩ : ∃ x0, x0 = w.heap.size := ⟨_, rfl⟩
  have hx0n : w.heap.size ≤ x0 := by omega
  rw [← hw0] at hal hx HR1
  rw [← hx0] at hx
  rw [← hw0, ← hx0]
  clear hw0 hx0
  go_at_call 15
  refine (awake08 _).mono ?_
  rintro e wa ⟨rfl, hba⟩
  have hxa := box_below hx hba (box_lt hx)
  have HBA := Lib.hid (hal.trans (hba.mono hal.size))
  have HRA := Lib.hid (rd_grow HR1.out hba)
  clear hal hx hba HR1
  go_wp2_with fail
  go_at_call 27
  refine (mNew _).mono ?_
  rintro e wd ⟨rfl, hmd, hbd⟩
  obtain ⟨g, hg⟩ : ∃ g, g = wa.heap.size := ⟨_, rfl⟩
  have hsa := HBA.out.size
  have hgn : w.heap.size ≤ g := by omega
  have hxg : x0 < g := by rw [hg]; exact box_lt hxa
  rw [← hg] at hmd ⊢
  have hxd := box_below hxa hbd (box_lt hxa)
  have HBD := Lib.hid (HBA.out.trans (hbd.mono hsa))
  have HRD := Lib.hid (rd_grow HRA.out hbd)
  have HMD := Lib.hid hmd
  clear hxa hbd HBA HRA hmd hg
  go_wp2_with fail
  go_at_call 28
  refine (Default_any _).mono ?_
  rintro e we ⟨rfl, hbe⟩
  have hal2 : Below we.heap.size we (we.alloc (.cells #[.int .u16 cxDef.f, .int .u16 cxDef.i, .int .u8 cxDef.r0, .int .u8 cxDef.r1, .int .u8 cxDef.r2, .int .u8 cxDef.r3, .int .u8 cxDef.r4, .int .u8 cxDef.r5, .int .i8 cxDef.c0, .int .i8 cxDef.c1, .int .i8 cxDef.c2, .int .i8 cxDef.c3, .int .i8 cxDef.c4, .int .i8 cxDef.c5, .int .u8 cxDef.m, .int .u16 cxDef.n, .bool cxDef.x, .int .u8 cxDef.h] 28)) := (Below.refl _ _).alloc (Nat.le_refl _) _
  have hbe2 := hbe.trans (hal2.mono hbe.size)
  obtain ⟨w4, hw4, hst, hrd⟩ : ∃ w4, w4 = we.alloc (.cells #[.int .u16 cxDef.f, .int .u16 cxDef.i, .int .u8 cxDef.r0, .int .u8 cxDef.r1, .int .u8 cxDef.r2, .int .u8 cxDef.r3, .int .u8 cxDef.r4, .int .u8 cxDef.r5, .int .i8 cxDef.c0, .int .i8 cxDef.c1, .int .i8 cxDef.c2, .int .i8 cxDef.c3, .int .i8 cxDef.c4, .int .i8 cxDef.c5, .int .u8 cxDef.m, .int .u16 cxDef.n, .bool cxDef.x, .int .u8 cxDef.h] 28) ∧ BtSt w w4 g x0 we.heap.size c cxDef noV noL ∧ Rd w4.heap.size w4 a1 len1 cap1 (bv l1) := by
    refine ⟨_, rfl, ⟨HBD.out.trans (hbe2.mono HBD.out.size), HMD.out.below hbe2, box_below hxd hbe2 (box_lt hxd), heap_alloc_new _ _, fun i hi e => (by simp [noV, Value.ownBlock] at e), fun i hi e => (by simp [noV, Value.ownBlock] at e), hgn, ?_, by omega, ?_, ?_⟩, rd_grow HRD.out hbe2⟩
    · have := HBD.out.size; have := hbe.size; omega
    · have := HMD.out.lt; have := hbe.size; omega
    · have := box_lt hxd; have := hbe.size; omega
  have HW4 := Lib.hid hw4
  have HS := Lib.hid hst
  have HR := Lib.hid hrd
  clear hal2 hbe hbe2 hw4 hst hrd hxd HBD HRD HMD
  go_upto_block 0 with (first | (refine wpList_store_row rfl 28 _ _ rfl _ _ rfl rfl _ _ (heap_alloc_new _ _) (by exact size_cx) (by rfl) (by simp [Value.oneCell']) ?_; rw [World.setRow_alloc_new]; rw [← HW4.out]))
  obtain ⟨x12, hx12⟩ : ∃ x, x = we.heap.size := ⟨_, rfl⟩
  rw [← hx12] at HS ⊢
  clear hx12
  simp only [hhI]
  have HHI := Lib.hid hhI
  clear hhI
  go_cut [1, 13] (fun s1 s13 wx => ∃ (v : Nat → Value) (ls : Nat → List Nat) (W : Cx) (ok : Bool), s13 = .bool ok ∧ BtSt w wx g x0 x12 c W v ls ∧ W.Ok ∧ W.right = true ∧ BtKind h4 ls W ok)
  case first =>
    have : h4 = 0 ∨ h4 = 1 ∨ h4 = 2 ∨ h4 = 3 := by omega
    rcases this with h | h | h | h
    · have e0 : ((h4 : Int) == 0) = true := by rw [beq_iff_eq]; omega
      have HH := Lib.hid h
      clear h
      have hb0 := HS.out.b0
      go_wp2_with (first | (refine wpList_load_row rfl 28 _ rfl _ rfl _ _ _ _ hb0 Try.underlying28 rfl (by exact size_cx) ?_; (try go_simp)))
      go_at_call 20
      cases hr : c.right with
      | true =>
        have hR := Right_any c w4
        rw [hr] at hR
        refine hR.mono ?_
        rintro e w5 ⟨rfl, hb5⟩
        have HS5 := Lib.hid (HS.out.below hb5)
        have HRT := Lib.hid hr
        clear hR hb5 hb0 hr
        have hb0 := HS5.out.b0
        go_wp2_with (first | (refine wpList_load_row rfl 28 _ rfl _ rfl _ _ _ _ hb0 Try.underlying28 rfl (by exact size_cx) ?_; (try go_simp)))
        go_at_call 17
        refine (Bytes_of c _ HOK.out HRT.out).mono ?_
        rintro e w6 ⟨vb, rfl, hown, hb6⟩
        obtain ⟨va, vc, rfl⟩ := own_form hown
        have HS6 := Lib.hid (HS5.out.below hb6)
        have hrd := rd_of_own (f := bv (bytesOf c)) hown (fun i hi => bl_at _ (by rw [bytesOf_len]; exact hi))
        have hF := mFill va vc w6.heap.size (bytesOf c) HS6.out.mem (Nat.le_refl _) hrd (bytesOf_bytes HOK.out HRT.out)
        rw [show gtop noL 3 = 0 by decide +kernel, bytesOf_len] at hF
        have HF := Lib.hid hF
        clear hown hb6 hrd hF hb0 HS5
        go_wp2_with fail
        go_at_call 29
        refine HF.out.mono ?_
        rintro e w7 (⟨h1, _⟩ | ⟨_, h1, _⟩ | ⟨_, _, rfl, v7, hm7, hs7⟩)
        · omega
        · omega
        have HS7 := Lib.hid (HS6.out.step hs7 hm7)
        have hb0 := HS7.out.b0
        have hb12 := HS7.out.b12
        clear hm7 hs7 HS6 HF
        go_wp2_with (first | (refine wpList_load_row rfl 28 _ rfl _ rfl _ _ _ _ hb0 Try.underlying28 rfl (by exact size_cx) ?_; (try go_simp)) | (refine wpList_store_row rfl 28 _ _ rfl _ _ rfl rfl _ _ hb12 (by exact size_cx) (by rfl) (by simp [Value.oneCell']) ?_; (try go_simp)))
        go_meet
        case rel =>
          obtain ⟨t1, t2, t3⟩ := told_all (s := 0 + 1) (d := []) (by omega) HOK.out HRT.out
          exact ⟨_, _, c, true, rfl, HS7.out.want c, HOK.out, HRT.out, rfl, t1, t2, by rw [t3]; omega, .inl ⟨by have := HH.out; omega, .inl rfl, _, rfl, (mk_fine (0 + 1) c (by omega)).1, (mk_fine (0 + 1) c (by omega)).2.2⟩⟩
      | false =>
        have hR := Right_any c w4
        rw [hr] at hR
        refine hR.mono ?_
        rintro e w5 ⟨rfl, hb5⟩
        have HS5 := Lib.hid (HS.out.below hb5)
        clear hR hb5 hb0 hr
        go_wp2
        go_meet
        case rel => exact ⟨_, _, cxDef, false, rfl, HS5.out, cxDef_ok, cxDef_right, bt_none (by have := HH.out; omega) (by have := HH.out; omega)⟩
    · have e0 : ((h4 : Int) == 0) = false := by rw [beq_eq_false_iff_ne]; omega
      have e1 : ((h4 : Int) == 1) = true := by rw [beq_iff_eq]; omega
      have HH := Lib.hid h
      clear h
      go_wp2_with fail
      go_at_call 16
      refine (Cut_any a1 len1 cap1 l1 30 _ HL1.out HR.out (by omega)).mono ?_
      rintro e w5 ⟨v, rfl, hown, hb5⟩
      obtain ⟨ar, cr, rfl⟩ := own_form hown
      obtain ⟨mr, hmr⟩ : ∃ m, m = min 30 len1 := ⟨_, rfl⟩
      obtain ⟨lr, hlr⟩ : ∃ l, l = l1.take 30 := ⟨_, rfl⟩
      rw [← hmr, ← hlr] at hown
      rw [← hmr]
      have hmr30 : mr ≤ 30 := by omega
      have hlrl : lr.length = mr := by rw [hlr, List.length_take, HL1.out, hmr]
      have hlrb : bytes lr := by rw [hlr]; exact fun x hx => HB1.out x (List.mem_of_mem_take hx)
      have HRB := Lib.hid (rd_of_own (f := bv lr) hown (fun i hi => bl_at lr (by rw [hlrl]; exact hi)))
      have HAR := Lib.hid (show ∀ y, ar = some y → y.block ≠ g from fun y hy => by
        have h1 := (hown.lt y.block (by rw [hy]; rfl)).1
        have h2 := HS.out.mem.lt
        omega)
      have HLR := Lib.hid hlrl
      have HLB := Lib.hid hlrb
      have HS5 := Lib.hid (HS.out.below hb5)
      have hF := mFill ar cr w5.heap.size lr HS5.out.mem (Nat.le_refl _) (by rw [HLR.out]; exact HRB.out) HLB.out
      rw [show gtop noL 3 = 0 by decide +kernel, HLR.out] at hF
      have HF := Lib.hid hF
      clear hown hmr hlr hlrl hlrb hb5 hF
      go_wp2_with fail
      go_at_call 29
      refine HF.out.mono ?_
      rintro e w6 (⟨h1, _⟩ | ⟨_, h1, _⟩ | ⟨_, _, rfl, v6, hm6, hs6⟩)
      · omega
      · omega
      obtain ⟨D, hD⟩ : ∃ D, D = mkCell (0 + 1) lr := ⟨_, rfl⟩
      rw [← hD] at hm6
      have HDE := Lib.hid (show perr D = 0 by rw [hD]; exact mkCell_err _ _ (by rw [HLR.out]; omega))
      have HDP := Lib.hid (show pdat D = lr by rw [hD]; exact mkCell_dat _ _)
      have HDS := Lib.hid (show pseq D = 1 by rw [hD]; exact mkCell_seq _ _ (by omega))
      have HS6 := Lib.hid (HS5.out.step hs6 hm6)
      have HR6 := Lib.hid (show Rd w6.heap.size w6 ar mr cr (bv lr) from bt_rd HRB.out hs6 HS5.out (fun y hy => ⟨HAR.out y hy, fun i hi e => by simp [noV, Value.ownBlock] at e⟩))
      clear hm6 hs6 hD HS5 HF HRB
      go_wp2_with fail
      go_at_call 25
      refine (xParse_any ar mr cr _ lr _ HLR.out (Nat.le_refl _) HR6.out HLB.out).mono ?_
      rintro e w7 ⟨hb7, ⟨hg, rfl⟩ | ⟨hg, rfl⟩⟩
      · obtain ⟨W, hW⟩ : ∃ W, W = cxOf lr := ⟨_, rfl⟩
        have hWok : W.Ok := by rw [hW]; exact cxOf_ok HLB.out
        have hWr : W.right = true := by rw [hW]; exact hg.1
        rw [← hW]
        have hal8 : Below w7.heap.size w7 (w7.alloc (.cells #[.int .u16 W.f, .int .u16 W.i, .int .u8 W.r0, .int .u8 W.r1, .int .u8 W.r2, .int .u8 W.r3, .int .u8 W.r4, .int .u8 W.r5, .int .i8 W.c0, .int .i8 W.c1, .int .i8 W.c2, .int .i8 W.c3, .int .i8 W.c4, .int .i8 W.c5, .int .u8 W.m, .int .u16 W.n, .bool W.x, .int .u8 W.h] 35)) := (Below.refl _ _).alloc (Nat.le_refl _) _
        obtain ⟨w8, hw8, hb8⟩ : ∃ w8, w8 = w7.alloc (.cells #[.int .u16 W.f, .int .u16 W.i, .int .u8 W.r0, .int .u8 W.r1, .int .u8 W.r2, .int .u8 W.r3, .int .u8 W.r4, .int .u8 W.r5, .int .i8 W.c0, .int .i8 W.c1, .int .i8 W.c2, .int .i8 W.c3, .int .i8 W.c4, .int .i8 W.c5, .int .u8 W.m, .int .u16 W.n, .bool W.x, .int .u8 W.h] 35) ∧ Below w6.heap.size w6 w8 := ⟨_, rfl, hb7.trans (hal8.mono hb7.size)⟩
        have HW8 := Lib.hid hw8
        have HS8 := Lib.hid (HS6.out.below hb8)
        have HR8 := Lib.hid (rd_grow HR6.out hb8)
        have HW := Lib.hid hW
        have HG := Lib.hid hg
        have HWK := Lib.hid hWok
        have HWR := Lib.hid hWr
        clear hal8 hw8 hb8 hb7 hW hg hWok hWr HS6 HR6
        go_wp2_with (first | (refine wpList_store_row rfl 35 _ _ rfl _ _ rfl rfl _ _ (heap_alloc_new _ _) (by exact size_rc) (by rfl) (by simp [Value.oneCell']) ?_; rw [World.setRow_alloc_new]; rw [← HW8.out]))
        go_at_call 24
        refine (cxParse_any ar mr cr _ lr _ HLR.out (Nat.le_refl _) HR8.out HLB.out (by rw [← HLR.out]; exact good_len HG.out)).mono ?_
        rintro e w9 ⟨hb9, ⟨_, rfl⟩ | ⟨hg, _⟩⟩
        rotate_left
        · exact absurd HG.out hg
        rw [← HW.out]
        have HS9 := Lib.hid (HS8.out.below hb9)
        have hb12 := HS9.out.b12
        clear hb9 HS8 HR8
        go_wp2_with (first | (refine wpList_store_row rfl 28 _ _ rfl _ _ rfl rfl _ _ hb12 (by exact size_cx) (by rfl) (by simp [Value.oneCell']) ?_; (try go_simp)))
        go_meet
        case rel =>
          obtain ⟨t1, t2, t3⟩ := told_raw (d := []) HDE.out
          rw [HDP.out] at t1 t2
          rw [decide_eq_true HG.out] at t2
          refine ⟨_, _, W, true, rfl, HS9.out.want W, HWK.out, HWR.out, rfl, t2, ?_, by rw [t3, HDS.out]; omega, .inl ⟨by have := HH.out; omega, .inl rfl, D, rfl, HDE.out, HDS.out⟩⟩
          unfold toldCx
          rw [t2, t1, HW.out]
          rfl
      · have hal8 : Below w7.heap.size w7 (w7.alloc (.cells #[.int .u16 cxZero.f, .int .u16 cxZero.i, .int .u8 cxZero.r0, .int .u8 cxZero.r1, .int .u8 cxZero.r2, .int .u8 cxZero.r3, .int .u8 cxZero.r4, .int .u8 cxZero.r5, .int .i8 cxZero.c0, .int .i8 cxZero.c1, .int .i8 cxZero.c2, .int .i8 cxZero.c3, .int .i8 cxZero.c4, .int .i8 cxZero.c5, .int .u8 cxZero.m, .int .u16 cxZero.n, .bool cxZero.x, .int .u8 cxZero.h] 35)) := (Below.refl _ _).alloc (Nat.le_refl _) _
        obtain ⟨w8, hw8, hb8⟩ : ∃ w8, w8 = w7.alloc (.cells #[.int .u16 cxZero.f, .int .u16 cxZero.i, .int .u8 cxZero.r0, .int .u8 cxZero.r1, .int .u8 cxZero.r2, .int .u8 cxZero.r3, .int .u8 cxZero.r4, .int .u8 cxZero.r5, .int .i8 cxZero.c0, .int .i8 cxZero.c1, .int .i8 cxZero.c2, .int .i8 cxZero.c3, .int .i8 cxZero.c4, .int .i8 cxZero.c5, .int .u8 cxZero.m, .int .u16 cxZero.n, .bool cxZero.x, .int .u8 cxZero.h] 35) ∧ Below w6.heap.size w6 w8 := ⟨_, rfl, hb7.trans (hal8.mono hb7.size)⟩
        have HW8 := Lib.hid hw8
        have HS8 := Lib.hid (HS6.out.below hb8)
        have HG := Lib.hid hg
        clear hal8 hw8 hb8 hb7 hg HS6 HR6
        go_wp2_with (first | (refine wpList_store_row rfl 35 _ _ rfl _ _ rfl rfl _ _ (heap_alloc_new _ _) (by exact size_rc) (by rfl) (by simp [Value.oneCell']) ?_; rw [World.setRow_alloc_new]; rw [← HW8.out]))
        go_meet
        case rel =>
          obtain ⟨t1, t2, t3⟩ := told_raw (d := []) HDE.out
          rw [HDP.out] at t1 t2
          rw [decide_eq_false HG.out] at t2
          refine ⟨_, _, cxDef, false, rfl, HS8.out, cxDef_ok, cxDef_right, rfl, t2, ?_, by rw [t3, HDS.out]; omega, .inl ⟨by have := HH.out; omega, .inr HH.out, D, rfl, HDE.out, HDS.out⟩⟩
          unfold toldCx
          rw [t2]
          rfl
    · have e0 : ((h4 : Int) == 0) = false := by rw [beq_eq_false_iff_ne]; omega
      have e1 : ((h4 : Int) == 1) = false := by rw [beq_eq_false_iff_ne]; omega
      have e2 : ((h4 : Int) == 2) = true := by rw [beq_iff_eq]; omega
      have HH := Lib.hid h
      obtain ⟨j0, hj0⟩ : ∃ j, j = a3 % 8 := ⟨_, rfl⟩
      obtain ⟨j1, hj1⟩ : ∃ j, j = a3 / 8 % 8 := ⟨_, rfl⟩
      obtain ⟨k1, hk1⟩ : ∃ j, j = a3 / 8 := ⟨_, rfl⟩
      have hJ0 : (a3 : Int) % 8 = (j0 : Int) := by omega
      have hJ0' : (a3 : Int).tmod 8 = (j0 : Int) := by rw [hj0]; rfl
      have hK1 : (a3 : Int) / 8 = (k1 : Int) := by omega
      have hK1' : (a3 : Int).tdiv 8 = (k1 : Int) := by rw [hk1]; rfl
      have hJ1 : (k1 : Int) % 8 = (j1 : Int) := by omega
      have hJ1' : (k1 : Int).tmod 8 = (j1 : Int) := by rw [hj1, hk1]; rfl
      have hj08 : j0 < 8 := by omega
      have hj18 : j1 < 8 := by omega
      have hk1b : k1 < 65536 := by omega
      have hb0 := HS.out.b0
      obtain ⟨P, hPl, hPb, hBY⟩ := Bytes_uni c w4 HOK.out
      have HBY := Lib.hid hBY
      have HPB := Lib.hid hPb
      clear h hj0 hj1 hk1 hBY hPb
      go_wp2_with (first | (refine wpList_load_row rfl 28 _ rfl _ rfl _ _ _ _ hb0 Try.underlying28 rfl (by exact size_cx) ?_; (try go_simp)))
      go_at_call 17
      refine HBY.out.mono ?_
      rintro e w5 ⟨va, vc, rfl, hrd, hb5⟩
      have HS5 := Lib.hid (HS.out.below hb5)
      have hF := mFill va vc w5.heap.size P HS5.out.mem (Nat.le_refl _) hrd HPB.out
      rw [show gtop noL 3 = 0 by decide +kernel] at hF
      have HF := Lib.hid hF
      clear hrd hb5 hF hb0 HBY
      go_wp2_with fail
      go_at_call 29
      refine HF.out.mono ?_
      rintro e w6 (⟨h1, _⟩ | ⟨_, h1, _⟩ | ⟨_, _, rfl, v6, hm6, hs6⟩)
      · omega
      · omega
      obtain ⟨D, hD⟩ : ∃ D, D = mkCell (0 + 1) P := ⟨_, rfl⟩
      rw [← hD] at hm6
      have HDE := Lib.hid (show perr D = 0 by rw [hD]; exact mkCell_err _ _ (by omega))
      have HDS := Lib.hid (show pseq D = 1 by rw [hD]; exact mkCell_seq _ _ (by omega))
      have HDB := Lib.hid (show bytes D by rw [hD]; exact mkCell_bytes HPB.out)
      have hDl : 8 ≤ D.length := by rw [hD, mkCell_len]; omega
      have HS6 := Lib.hid (HS5.out.step hs6 hm6)
      clear hm6 hs6 hD HS5 HF
      go_wp2_with fail
      go_at_call 30
      refine (mFlip 0 j0 1 HS6.out.mem (by omega) (by show j0 < D.length; omega) (by omega)).mono ?_
      rintro e w7 ⟨rfl, hm7, hs7⟩
      have HS7 := Lib.hid (HS6.out.step hs7 hm7)
      clear hm7 hs7 HS6
      go_wp2_with fail
      go_at_call 30
      refine (mFlip 1 j1 1 HS7.out.mem (by omega) (by show j1 < D.length; omega) (by omega)).mono ?_
      rintro e w8 ⟨rfl, hm8, hs8⟩
      have HS8 := Lib.hid (HS7.out.step hs8 hm8)
      clear hm8 hs8 HS7
      go_wp2
      go_meet
      case rel =>
        have hb0 := turned_err HDB.out HDE.out (i := j0) (t := 1) (by omega) (by omega) (by omega)
        have hb1 := turned_err HDB.out HDE.out (i := j1) (t := 1) (by omega) (by omega) (by omega)
        exact ⟨_, _, cxDef, false, rfl, HS8.out, cxDef_ok, cxDef_right, bt_two HH.out hb0 hb1 HDE.out HDS.out⟩
    · have e0 : ((h4 : Int) == 0) = false := by rw [beq_eq_false_iff_ne]; omega
      have e1 : ((h4 : Int) == 1) = false := by rw [beq_eq_false_iff_ne]; omega
      have e2 : ((h4 : Int) == 2) = false := by rw [beq_eq_false_iff_ne]; omega
      have HH := Lib.hid h
      clear h
      go_wp2
      go_meet
      case rel => exact ⟨_, _, cxDef, false, rfl, HS.out, cxDef_ok, cxDef_right, bt_none (by have := HH.out; omega) (by have := HH.out; omega)⟩
  case rest =>
    obtain ⟨v, ls, Z, ok, rfl, hst, hZok, hZr, hK⟩ := hcut
    have HS := Lib.hid hst
    have HZK := Lib.hid hZok
    have HZR := Lib.hid hZr
    have HK := Lib.hid hK
    clear hst hZok hZr hK
    go_upto_region 21 with fail
    go_cut [83] (fun s83 wx => ∃ (v : Nat → Value) (ls : Nat → List Nat) (bb : Bool), s83 = .bool bb ∧ BtSt w wx g x0 x12 c Z v ls ∧ BtTold h4 ls Z ok bb)
    case first =>
      cases a4 with
      | false =>
        go_wp2
        go_meet
        case rel => exact ⟨_, _, false, rfl, HS.out, bt_stay HK.out⟩
      | true =>
        have hb12 := HS.out.b12
        go_wp2_with (first | (refine wpList_load_row_w (by (first | exact Go.Mix.wanted_none rfl | exact Go.Mix.wanted_tt rfl rfl rfl | exact Go.Mix.wanted_ff rfl rfl rfl)) 28 _ rfl _ rfl _ _ _ _ hb12 Try.underlying28 rfl (by exact size_cx) ?_; (try go_simp)))
        go_at_call 17
        refine (Bytes_of Z _ HZK.out HZR.out).mono ?_
        rintro e w6 ⟨vb, rfl, hown, hb6⟩
        obtain ⟨va, vc, rfl⟩ := own_form hown
        have HS6 := Lib.hid (HS.out.below hb6)
        have hrd := rd_of_own (f := bv (bytesOf Z)) hown (fun i hi => bl_at _ (by rw [bytesOf_len]; exact hi))
        have hF := mBegin va vc w6.heap.size (bytesOf Z) HS6.out.mem (Nat.le_refl _) hrd (bytesOf_bytes HZK.out HZR.out)
        rw [bytesOf_len] at hF
        have HF := Lib.hid hF
        clear hown hb6 hrd hF hb12
        go_wp2_with fail
        go_at_call 31
        refine HF.out.mono ?_
        rintro e w7 (⟨h1, _⟩ | ⟨_, h1, _⟩ | ⟨_, _, h1, _⟩ | ⟨_, _, _, rfl, v7, hm7, hs7⟩)
        · omega
        · exact absurd HK.out.1 h1
        · have := HK.out.2.2.2.1; omega
        have HS7 := Lib.hid (HS6.out.step hs7 hm7)
        clear hm7 hs7 HS6 HF
        go_wp2
        go_meet
        case rel => exact ⟨_, _, true, rfl, HS7.out, bt_begin HK.out HZK.out HZR.out⟩
    case rest =>
      obtain ⟨v, ls, bb, rfl, hst, hT⟩ := hcut
      have HS := Lib.hid hst
      have HT := Lib.hid hT
      clear hst hT
      go_upto_if 83 with fail
      go_cut [13] (fun s13 wx => ∃ (v : Nat → Value) (ls : Nat → List Nat) (ok : Bool), s13 = .bool ok ∧ BtSt w wx g x0 x12 c Z v ls ∧ toldOk ls = ok ∧ toldCx ls = Z ∧ gtop ls 3 ≤ 2)
      case first =>
        rcases HT.out with ⟨rfl, h2⟩ | ⟨hgt, htc, ⟨rfl, hto⟩ | ⟨rfl, h1, hto⟩ | ⟨rfl, h1, h2, hto⟩⟩
        · have e2 : ((a2 : Int) % 4 == 2) = true := by rw [HHI.out, beq_iff_eq]; omega
          go_wp2
          go_ret
          exact ⟨rfl, HS.out.be⟩
        · have HGT := Lib.hid hgt
          have HTC := Lib.hid htc
          have HTO := Lib.hid hto
          clear hgt htc hto
          go_wp2
          go_meet
          case rel => exact ⟨_, _, _, rfl, HS.out, HTO.out, HTC.out, HGT.out⟩
        · have e2 : ((a2 : Int) % 4 == 2) = false := by rw [HHI.out, beq_eq_false_iff_ne]; omega
          have e1 : ((a2 : Int) % 4 == 1) = true := by rw [HHI.out, beq_iff_eq]; omega
          have HGT := Lib.hid hgt
          have HTC := Lib.hid htc
          have HTO := Lib.hid hto
          clear hgt htc hto h1
          cases ok with
          | true =>
            go_wp2
            go_meet
            case rel => exact ⟨_, _, true, rfl, HS.out, HTO.out, HTC.out, HGT.out⟩
          | false =>
            go_wp2
            go_meet
            case rel => exact ⟨_, _, true, rfl, HS.out, HTO.out, HTC.out, HGT.out⟩
        · have e2 : ((a2 : Int) % 4 == 2) = false := by rw [HHI.out, beq_eq_false_iff_ne]; omega
          have e1 : ((a2 : Int) % 4 == 1) = false := by rw [HHI.out, beq_eq_false_iff_ne]; omega
          have HGT := Lib.hid hgt
          have HTC := Lib.hid htc
          have HTO := Lib.hid hto
          clear hgt htc hto h1 h2
          cases ok with
          | true =>
            go_wp2
            go_meet
            case rel => exact ⟨_, _, true, rfl, HS.out, HTO.out, HTC.out, HGT.out⟩
          | false =>
            go_wp2
            go_meet
            case rel => exact ⟨_, _, false, rfl, HS.out, HTO.out, HTC.out, HGT.out⟩
      case rest =>
        obtain ⟨v, ls, ok, rfl, hst, hto, htc, hgt⟩ := hcut
        have HS := Lib.hid hst
        have HTO := Lib.hid hto
        have HTC := Lib.hid htc
        have HGT := Lib.hid hgt
        clear hst hto htc hgt
        go_wp2_with fail
        go_at_call 32
        refine (cxRead HS.out.mem).mono ?_
        rintro e w5 ⟨rfl, hb5⟩
        rw [HTO.out, HTC.out]
        have hal6 : Below w5.heap.size w5 (w5.alloc (.cells #[.int .u16 Z.f, .int .u16 Z.i, .int .u8 Z.r0, .int .u8 Z.r1, .int .u8 Z.r2, .int .u8 Z.r3, .int .u8 Z.r4, .int .u8 Z.r5, .int .i8 Z.c0, .int .i8 Z.c1, .int .i8 Z.c2, .int .i8 Z.c3, .int .i8 Z.c4, .int .i8 Z.c5, .int .u8 Z.m, .int .u16 Z.n, .bool Z.x, .int .u8 Z.h] 28)) := (Below.refl _ _).alloc (Nat.le_refl _) _
        have hb56 := hb5.trans (hal6.mono hb5.size)
        obtain ⟨w6, hw6, hst6, hx6⟩ : ∃ w6, w6 = w5.alloc (.cells #[.int .u16 Z.f, .int .u16 Z.i, .int .u8 Z.r0, .int .u8 Z.r1, .int .u8 Z.r2, .int .u8 Z.r3, .int .u8 Z.r4, .int .u8 Z.r5, .int .i8 Z.c0, .int .i8 Z.c1, .int .i8 Z.c2, .int .i8 Z.c3, .int .i8 Z.c4, .int .i8 Z.c5, .int .u8 Z.m, .int .u16 Z.n, .bool Z.x, .int .u8 Z.h] 28) ∧ BtSt w w6 g x0 x12 c Z v ls ∧ w6.heap[w5.heap.size]? = some (.cells #[.int .u16 Z.f, .int .u16 Z.i, .int .u8 Z.r0, .int .u8 Z.r1, .int .u8 Z.r2, .int .u8 Z.r3, .int .u8 Z.r4, .int .u8 Z.r5, .int .i8 Z.c0, .int .i8 Z.c1, .int .i8 Z.c2, .int .i8 Z.c3, .int .i8 Z.c4, .int .i8 Z.c5, .int .u8 Z.m, .int .u16 Z.n, .bool Z.x, .int .u8 Z.h] 28 (0, 0)) := ⟨_, rfl, HS.out.below hb56, heap_alloc_new _ _⟩
        have HW6 := Lib.hid hw6
        have HX6 := Lib.hid hx6
        have HS6 := Lib.hid hst6
        clear hal6 hw6 hb56 hx6 hb5 hst6
        go_upto_region 26 with (first | (refine wpList_store_row rfl 28 _ _ rfl _ _ rfl rfl _ _ (heap_alloc_new _ _) (by exact size_cx) (by rfl) (by simp [Value.oneCell']) ?_; rw [World.setRow_alloc_new]; rw [← HW6.out]))
        obtain ⟨x16, hx16⟩ : ∃ x, x = w5.heap.size := ⟨_, rfl⟩
        rw [← hx16] at HX6 ⊢
        clear hx16
        go_cut [117] (fun s117 wx => s117 = .bool false ∧ BtSt w wx g x0 x12 c Z v ls)
        case first =>
          have h16 := box_lt HX6.out
          have hb12 := HS6.out.b12
          have h12l := box_lt hb12
          have HB12 := Lib.hid hb12
          clear hb12
          cases ok with
          | true =>
            have he := fun w => neqCx Z Z w
            rw [decide_eq_true (rfl : Z = Z)] at he
            have HE := Lib.hid he
            clear he
            obtain ⟨I, W, hne, hWI, hIW⟩ := Go.Mix.family (fun v => Below w6.heap.size w6 v) (Below.refl _ _)
            have HJ := Lib.hid hIW
            have HW := Lib.hid hWI
            clear hWI hIW
            refine Go.Flo.wp_region (fun w' => ∃ i, w' = W i) 20 [Go.Flo.dflt] (by kernel_rfl) (by kernel_rfl) (by decide) (by rintro _ w' ⟨i, rfl⟩ hb; exact HJ.out _ ((HW.out i).trans (hb.mono (HW.out i).size))) (HJ.out _ (Below.refl _ _).drew) ?_
            simp only [Go.Flo.pair, Go.Mix.calm, List.take, List.drop, if_true, Bool.false_eq_true, if_false, Nat.reduceAdd, Nat.reduceSub]
            (repeat (first | (refine Go.Flo.fw_calm rfl ?_ (fun K hK => ?_); (first | exact Go.Mix.wanted_none rfl | exact Go.Mix.wanted_tt rfl rfl rfl | exact Go.Mix.wanted_ff rfl rfl rfl); go_big_quiet_op; refine hK _ ?_; clear hK K) | (refine Go.Flo.fw_skip ?_ (fun K hK => ?_); (first | exact Go.Mix.wanted_tf rfl rfl rfl | exact Go.Mix.wanted_ft rfl rfl rfl); go_simp; refine hK _ ?_; clear hK K) | (refine Go.Flo.fw_any rfl ?_ (fun K hK => ?_); (first | exact Go.Mix.wanted_none rfl | exact Go.Mix.wanted_tt rfl rfl rfl | exact Go.Mix.wanted_ff rfl rfl rfl); go_simp; (try (go_ints; try go_simp)); refine hK _ ?_; clear hK K)))
            (refine Go.Flo.fw_calm rfl ?_ (fun K hK => ?_); (first | exact Go.Mix.wanted_none rfl | exact Go.Mix.wanted_tt rfl rfl rfl | exact Go.Mix.wanted_ff rfl rfl rfl); refine Go.Flo.quiet_load_row 28 _ rfl x16 rfl _ #[.int .u16 Z.f, .int .u16 Z.i, .int .u8 Z.r0, .int .u8 Z.r1, .int .u8 Z.r2, .int .u8 Z.r3, .int .u8 Z.r4, .int .u8 Z.r5, .int .i8 Z.c0, .int .i8 Z.c1, .int .i8 Z.c2, .int .i8 Z.c3, .int .i8 Z.c4, .int .i8 Z.c5, .int .u8 Z.m, .int .u16 Z.n, .bool Z.x, .int .u8 Z.h] _ (by rintro _ ⟨i, rfl⟩; exact ((HW.out i).block x16 h16).trans HX6.out) Try.underlying28 rfl size_cx ?_; go_simp; refine hK _ ?_; clear hK K)
            (refine Go.Flo.fw_calm rfl ?_ (fun K hK => ?_); (first | exact Go.Mix.wanted_none rfl | exact Go.Mix.wanted_tt rfl rfl rfl | exact Go.Mix.wanted_ff rfl rfl rfl); refine Go.Flo.quiet_load_row 28 _ rfl x12 rfl _ #[.int .u16 Z.f, .int .u16 Z.i, .int .u8 Z.r0, .int .u8 Z.r1, .int .u8 Z.r2, .int .u8 Z.r3, .int .u8 Z.r4, .int .u8 Z.r5, .int .i8 Z.c0, .int .i8 Z.c1, .int .i8 Z.c2, .int .i8 Z.c3, .int .i8 Z.c4, .int .i8 Z.c5, .int .u8 Z.m, .int .u16 Z.n, .bool Z.x, .int .u8 Z.h] _ (by rintro _ ⟨i, rfl⟩; exact ((HW.out i).block x12 h12l).trans HB12.out) Try.underlying28 rfl size_cx ?_; go_simp; refine hK _ ?_; clear hK K)
            have he := HE.out
            (repeat (first | (refine Go.Flo.fw_calm rfl ?_ (fun K hK => ?_); (first | exact Go.Mix.wanted_none rfl | exact Go.Mix.wanted_tt rfl rfl rfl | exact Go.Mix.wanted_ff rfl rfl rfl); go_big_quiet_op; refine hK _ ?_; clear hK K) | (refine Go.Flo.fw_skip ?_ (fun K hK => ?_); (first | exact Go.Mix.wanted_tf rfl rfl rfl | exact Go.Mix.wanted_ft rfl rfl rfl); go_simp; refine hK _ ?_; clear hK K) | (refine Go.Flo.fw_any rfl ?_ (fun K hK => ?_); (first | exact Go.Mix.wanted_none rfl | exact Go.Mix.wanted_tt rfl rfl rfl | exact Go.Mix.wanted_ff rfl rfl rfl); go_simp; (try (go_ints; try go_simp)); refine hK _ ?_; clear hK K)))
            clear he
            (repeat (first | (refine Go.Flo.fw_calm rfl ?_ (fun K hK => ?_); (first | exact Go.Mix.wanted_none rfl | exact Go.Mix.wanted_tt rfl rfl rfl | exact Go.Mix.wanted_ff rfl rfl rfl); go_big_quiet_op; refine hK _ ?_; clear hK K) | (refine Go.Flo.fw_skip ?_ (fun K hK => ?_); (first | exact Go.Mix.wanted_tf rfl rfl rfl | exact Go.Mix.wanted_ft rfl rfl rfl); go_simp; refine hK _ ?_; clear hK K) | (refine Go.Flo.fw_any rfl ?_ (fun K hK => ?_); (first | exact Go.Mix.wanted_none rfl | exact Go.Mix.wanted_tt rfl rfl rfl | exact Go.Mix.wanted_ff rfl rfl rfl); go_simp; (try (go_ints; try go_simp)); refine hK _ ?_; clear hK K)))
            refine Go.Flo.fw_nil ?_
            intro w7 hww7 hfw7 huw7
            refine Go.Flo.tw_nil ?_
            obtain ⟨iend, hiend⟩ := hww7
            have hbw7 := HW.out iend
            rw [← hiend] at hbw7
            clear hiend iend huw7
            have HS7 := Lib.hid (HS6.out.below hbw7)
            clear hfw7 HJ HW hne hbw7 h16 h12l
            clear W I
            go_wp2
            go_meet
            case rel => exact ⟨rfl, HS7.out⟩
          | false =>
            have hZ : Z = cxDef := by rw [← HTC.out]; unfold toldCx; rw [HTO.out]; rfl
            have he := fun w => neqCx Z cxDef w
            rw [decide_eq_true hZ] at he
            have HE := Lib.hid he
            clear he hZ
            obtain ⟨I, W, hne, hWI, hIW⟩ := Go.Mix.family (fun v => Below w6.heap.size w6 v) (Below.refl _ _)
            have HJ := Lib.hid hIW
            have HW := Lib.hid hWI
            clear hWI hIW
            refine Go.Flo.wp_region (fun w' => ∃ i, w' = W i) 20 [Go.Flo.Spec.is (.agg #[.int .u16 cxDef.f, .int .u16 cxDef.i, .int .u8 cxDef.r0, .int .u8 cxDef.r1, .int .u8 cxDef.r2, .int .u8 cxDef.r3, .int .u8 cxDef.r4, .int .u8 cxDef.r5, .int .i8 cxDef.c0, .int .i8 cxDef.c1, .int .i8 cxDef.c2, .int .i8 cxDef.c3, .int .i8 cxDef.c4, .int .i8 cxDef.c5, .int .u8 cxDef.m, .int .u16 cxDef.n, .bool cxDef.x, .int .u8 cxDef.h])] (by kernel_rfl) (by kernel_rfl) (by decide) (by rintro _ w' ⟨i, rfl⟩ hb; exact HJ.out _ ((HW.out i).trans (hb.mono (HW.out i).size))) (HJ.out _ (Below.refl _ _).drew) ?_
            simp only [Go.Flo.pair, Go.Mix.calm, List.take, List.drop, if_true, Bool.false_eq_true, if_false, Nat.reduceAdd, Nat.reduceSub]
            (repeat (first | (refine Go.Flo.fw_calm rfl ?_ (fun K hK => ?_); (first | exact Go.Mix.wanted_none rfl | exact Go.Mix.wanted_tt rfl rfl rfl | exact Go.Mix.wanted_ff rfl rfl rfl); go_big_quiet_op; refine hK _ ?_; clear hK K) | (refine Go.Flo.fw_skip ?_ (fun K hK => ?_); (first | exact Go.Mix.wanted_tf rfl rfl rfl | exact Go.Mix.wanted_ft rfl rfl rfl); go_simp; refine hK _ ?_; clear hK K) | (refine Go.Flo.fw_any rfl ?_ (fun K hK => ?_); (first | exact Go.Mix.wanted_none rfl | exact Go.Mix.wanted_tt rfl rfl rfl | exact Go.Mix.wanted_ff rfl rfl rfl); go_simp; (try (go_ints; try go_simp)); refine hK _ ?_; clear hK K)))
            (refine Go.Flo.fw_calm rfl ?_ (fun K hK => ?_); (first | exact Go.Mix.wanted_none rfl | exact Go.Mix.wanted_tt rfl rfl rfl | exact Go.Mix.wanted_ff rfl rfl rfl); refine Go.Flo.quiet_load_row 28 _ rfl x16 rfl _ #[.int .u16 Z.f, .int .u16 Z.i, .int .u8 Z.r0, .int .u8 Z.r1, .int .u8 Z.r2, .int .u8 Z.r3, .int .u8 Z.r4, .int .u8 Z.r5, .int .i8 Z.c0, .int .i8 Z.c1, .int .i8 Z.c2, .int .i8 Z.c3, .int .i8 Z.c4, .int .i8 Z.c5, .int .u8 Z.m, .int .u16 Z.n, .bool Z.x, .int .u8 Z.h] _ (by rintro _ ⟨i, rfl⟩; exact ((HW.out i).block x16 h16).trans HX6.out) Try.underlying28 rfl size_cx ?_; go_simp; refine hK _ ?_; clear hK K)
            refine Go.Flo.fw_loud rfl ?_ rfl (by simp) (fun wv hwv hav K hK => ?_) (fun v hv K hK => ?_)
            · (first | exact Go.Mix.wanted_none rfl | exact Go.Mix.wanted_tt rfl rfl rfl | exact Go.Mix.wanted_ff rfl rfl rfl)
            · obtain ⟨iv, rfl⟩ := hwv
              have hbv := HW.out iv
              (first | go_big_op | go_simp)
              go_at_call 28
              refine (Default_any _).mono ?_
              rintro e w' ⟨rfl, hbb⟩
              exact hK _ _ (Go.Flo.owes_is _ rfl hbb)
            obtain rfl := hv.is
            go_simp
            refine hK _ ?_
            clear hK K hv
            have he := HE.out
            (repeat (first | (refine Go.Flo.fw_calm rfl ?_ (fun K hK => ?_); (first | exact Go.Mix.wanted_none rfl | exact Go.Mix.wanted_tt rfl rfl rfl | exact Go.Mix.wanted_ff rfl rfl rfl); go_big_quiet_op; refine hK _ ?_; clear hK K) | (refine Go.Flo.fw_skip ?_ (fun K hK => ?_); (first | exact Go.Mix.wanted_tf rfl rfl rfl | exact Go.Mix.wanted_ft rfl rfl rfl); go_simp; refine hK _ ?_; clear hK K) | (refine Go.Flo.fw_any rfl ?_ (fun K hK => ?_); (first | exact Go.Mix.wanted_none rfl | exact Go.Mix.wanted_tt rfl rfl rfl | exact Go.Mix.wanted_ff rfl rfl rfl); go_simp; (try (go_ints; try go_simp)); refine hK _ ?_; clear hK K)))
            clear he
            (repeat (first | (refine Go.Flo.fw_calm rfl ?_ (fun K hK => ?_); (first | exact Go.Mix.wanted_none rfl | exact Go.Mix.wanted_tt rfl rfl rfl | exact Go.Mix.wanted_ff rfl rfl rfl); go_big_quiet_op; refine hK _ ?_; clear hK K) | (refine Go.Flo.fw_skip ?_ (fun K hK => ?_); (first | exact Go.Mix.wanted_tf rfl rfl rfl | exact Go.Mix.wanted_ft rfl rfl rfl); go_simp; refine hK _ ?_; clear hK K) | (refine Go.Flo.fw_any rfl ?_ (fun K hK => ?_); (first | exact Go.Mix.wanted_none rfl | exact Go.Mix.wanted_tt rfl rfl rfl | exact Go.Mix.wanted_ff rfl rfl rfl); go_simp; (try (go_ints; try go_simp)); refine hK _ ?_; clear hK K)))
            refine Go.Flo.fw_nil ?_
            intro w7 hww7 hfw7 huw7
            refine Go.Flo.tw_nil ?_
            obtain ⟨iend, hiend⟩ := hww7
            have hbw7 := HW.out iend
            rw [← hiend] at hbw7
            clear hiend iend huw7
            have HS7 := Lib.hid (HS6.out.below hbw7)
            clear hfw7 HJ HW hne hbw7 h16 h12l
            clear W I
            go_wp2
            go_meet
            case rel => exact ⟨rfl, HS7.out⟩
        case rest =>
          obtain ⟨rfl, hst⟩ := hcut
          have HS := Lib.hid hst
          clear hst HS6 HX6 HW6
          go_wp2_with fail
          go_at_call 33
          refine (cxBoot HS.out.mem (by have := HGT.out; omega)).mono ?_
          rintro e w7 ⟨rfl, v7, hm7, hs7⟩
          rw [HTO.out, HTC.out]
          obtain ⟨b, hb⟩ : ∃ b, b = Z.reset := ⟨_, rfl⟩
          obtain ⟨C, hC⟩ : ∃ C, C = bootCell ls := ⟨_, rfl⟩
          have hCE : C = mkCell (gtop ls 3 + 1) (bytesOf b) := by rw [hC, hb]; unfold bootCell; rw [HTC.out]
          rw [← hb]
          rw [← hC] at hm7
          have hbo : b.Ok := by rw [hb]; exact Cx.reset_ok HZK.out
          have hbr : b.right = true := by rw [hb]; exact Cx.reset_right HZR.out
          obtain ⟨t1, t2, _⟩ := told_all (s := gtop ls 3 + 1) (d := []) (by have := HGT.out; omega) hbo hbr
          obtain ⟨c1, c2, _⟩ := mk_fine (gtop ls 3 + 1) b (by have := HGT.out; omega)
          rw [← hCE] at t1 t2 c1 c2
          obtain ⟨P, hP⟩ : ∃ P, P = bytesOf b := ⟨_, rfl⟩
          have hPB : bytes P := by rw [hP]; exact bytesOf_bytes hbo hbr
          rw [← hP] at c2
          have HPE := Lib.hid hP
          have HPB := Lib.hid hPB
          have HBE := Lib.hid hb
          have HBO := Lib.hid hbo
          have HBR := Lib.hid hbr
          have HT1 := Lib.hid t1
          have HT2 := Lib.hid t2
          have HC1 := Lib.hid c1
          have HC2 := Lib.hid c2
          have HS7 := Lib.hid (HS.out.step hs7 hm7)
          clear hb hC hCE hbo hbr t1 t2 c1 c2 hP hPB hm7 hs7
          have hal8 : Below w7.heap.size w7 (w7.alloc (.cells #[.int .u16 b.f, .int .u16 b.i, .int .u8 b.r0, .int .u8 b.r1, .int .u8 b.r2, .int .u8 b.r3, .int .u8 b.r4, .int .u8 b.r5, .int .i8 b.c0, .int .i8 b.c1, .int .i8 b.c2, .int .i8 b.c3, .int .i8 b.c4, .int .i8 b.c5, .int .u8 b.m, .int .u16 b.n, .bool b.x, .int .u8 b.h] 28)) := (Below.refl _ _).alloc (Nat.le_refl _) _
          obtain ⟨w8, hw8, hst8, hx8⟩ : ∃ w8, w8 = w7.alloc (.cells #[.int .u16 b.f, .int .u16 b.i, .int .u8 b.r0, .int .u8 b.r1, .int .u8 b.r2, .int .u8 b.r3, .int .u8 b.r4, .int .u8 b.r5, .int .i8 b.c0, .int .i8 b.c1, .int .i8 b.c2, .int .i8 b.c3, .int .i8 b.c4, .int .i8 b.c5, .int .u8 b.m, .int .u16 b.n, .bool b.x, .int .u8 b.h] 28) ∧ BtSt w w8 g x0 x12 c Z v7 (sel4 C C C []) ∧ w8.heap[w7.heap.size]? = some (.cells #[.int .u16 b.f, .int .u16 b.i, .int .u8 b.r0, .int .u8 b.r1, .int .u8 b.r2, .int .u8 b.r3, .int .u8 b.r4, .int .u8 b.r5, .int .i8 b.c0, .int .i8 b.c1, .int .i8 b.c2, .int .i8 b.c3, .int .i8 b.c4, .int .i8 b.c5, .int .u8 b.m, .int .u16 b.n, .bool b.x, .int .u8 b.h] 28 (0, 0)) := ⟨_, rfl, HS7.out.below hal8, heap_alloc_new _ _⟩
          have HW8 := Lib.hid hw8
          have HX8 := Lib.hid hx8
          have HS8 := Lib.hid hst8
          clear hal8 hw8 hx8 hst8
          go_wp2_with (first | (refine wpList_store_row rfl 28 _ _ rfl _ _ rfl rfl _ _ (heap_alloc_new _ _) (by exact size_cx) (by rfl) (by simp [Value.oneCell']) ?_; rw [World.setRow_alloc_new]; rw [← HW8.out]))
          obtain ⟨x18, hx18⟩ : ∃ x, x = w7.heap.size := ⟨_, rfl⟩
          rw [← hx18] at HX8 ⊢
          clear hx18
          go_at_call 32
          refine (cxRead HS8.out.mem).mono ?_
          rintro e w9 ⟨rfl, hb9⟩
          rw [HT1.out, HT2.out]
          have hal10 : Below w9.heap.size w9 (w9.alloc (.cells #[.int .u16 b.f, .int .u16 b.i, .int .u8 b.r0, .int .u8 b.r1, .int .u8 b.r2, .int .u8 b.r3, .int .u8 b.r4, .int .u8 b.r5, .int .i8 b.c0, .int .i8 b.c1, .int .i8 b.c2, .int .i8 b.c3, .int .i8 b.c4, .int .i8 b.c5, .int .u8 b.m, .int .u16 b.n, .bool b.x, .int .u8 b.h] 28)) := (Below.refl _ _).alloc (Nat.le_refl _) _
          have hb90 := hb9.trans (hal10.mono hb9.size)
          obtain ⟨w10, hw10, hst10, hx10, hx18'⟩ : ∃ w10, w10 = w9.alloc (.cells #[.int .u16 b.f, .int .u16 b.i, .int .u8 b.r0, .int .u8 b.r1, .int .u8 b.r2, .int .u8 b.r3, .int .u8 b.r4, .int .u8 b.r5, .int .i8 b.c0, .int .i8 b.c1, .int .i8 b.c2, .int .i8 b.c3, .int .i8 b.c4, .int .i8 b.c5, .int .u8 b.m, .int .u16 b.n, .bool b.x, .int .u8 b.h] 28) ∧ BtSt w w10 g x0 x12 c Z v7 (sel4 C C C []) ∧ w10.heap[w9.heap.size]? = some (.cells #[.int .u16 b.f, .int .u16 b.i, .int .u8 b.r0, .int .u8 b.r1, .int .u8 b.r2, .int .u8 b.r3, .int .u8 b.r4, .int .u8 b.r5, .int .i8 b.c0, .int .i8 b.c1, .int .i8 b.c2, .int .i8 b.c3, .int .i8 b.c4, .int .i8 b.c5, .int .u8 b.m, .int .u16 b.n, .bool b.x, .int .u8 b.h] 28 (0, 0)) ∧ w10.heap[x18]? = some (.cells #[.int .u16 b.f, .int .u16 b.i, .int .u8 b.r0, .int .u8 b.r1, .int .u8 b.r2, .int .u8 b.r3, .int .u8 b.r4, .int .u8 b.r5, .int .i8 b.c0, .int .i8 b.c1, .int .i8 b.c2, .int .i8 b.c3, .int .i8 b.c4, .int .i8 b.c5, .int .u8 b.m, .int .u16 b.n, .bool b.x, .int .u8 b.h] 28 (0, 0)) := ⟨_, rfl, HS8.out.below hb90, heap_alloc_new _ _, box_below HX8.out hb90 (box_lt HX8.out)⟩
          have HW10 := Lib.hid hw10
          have HX10 := Lib.hid hx10
          have HY10 := Lib.hid hx18'
          have HS10 := Lib.hid hst10
          clear hal10 hb90 hw10 hx10 hst10 hb9 hx18'
          go_wp2_with (first | (refine wpList_store_row rfl 28 _ _ rfl _ _ rfl rfl _ _ (heap_alloc_new _ _) (by exact size_cx) (by rfl) (by simp [Value.oneCell']) ?_; rw [World.setRow_alloc_new]; rw [← HW10.out]))
          obtain ⟨x20, hx20⟩ : ∃ x, x = w9.heap.size := ⟨_, rfl⟩
          rw [← hx20] at HX10 ⊢
          clear hx20
          go_at_call 34
          refine (mCopies HS10.out.mem).mono ?_
          rintro e w11 ⟨xr, cr, pa, pc, rfl, hrows, hb11⟩
          have hrd3 : Rd w11.heap.size w11 xr 3 cr (fun i => .slice (pa i) (sel4 C C C [] i).length (pc i)) := rd_of_own hrows.out (fun i hi => by
            have : i = 0 ∨ i = 1 ∨ i = 2 := by omega
            rcases this with rfl | rfl | rfl <;> rfl)
          have hV := rVote_any xr 3 cr w11.heap.size pa pc (sel4 C C C []) w11 (Nat.le_refl _) hrd3 (fun i hi => rd_of_own (hrows.inn i hi) (fun j hj => bl_at _ hj)) (fun i hi => HS10.out.mem.byt i (by omega))
          have HV := Lib.hid hV
          have HS11 := Lib.hid (HS10.out.below hb11)
          have HX11 := Lib.hid (box_below HX10.out hb11 (box_lt HX10.out))
          have HY11 := Lib.hid (box_below HY10.out hb11 (box_lt HY10.out))
          clear hrd3 hV hb11 hrows HS10 HX10 HY10
          go_wp2_with fail
          go_at_call 35
          refine HV.out.mono ?_
          rintro e w12 ⟨hb12, ⟨h, _⟩ | ⟨_, y, yc, rfl, hrd⟩⟩
          · rw [vst_all HC1.out] at h
            exact absurd h (by decide)
          have e0 : sel4 C C C [] (vst (sel4 C C C []) 3).2 = C := by rw [vst_all HC1.out]; rfl
          rw [e0, HC2.out] at hrd ⊢
          obtain ⟨sq, hsq⟩ : ∃ n, n = pseq C := ⟨_, rfl⟩
          rw [← hsq]
          have HR12 := Lib.hid hrd
          have HS12 := Lib.hid (HS11.out.below hb12)
          have HX12 := Lib.hid (box_below HX11.out hb12 (box_lt HX11.out))
          have HY12 := Lib.hid (box_below HY11.out hb12 (box_lt HY11.out))
          clear hsq e0 hrd hb12 HS11 HX11 HY11 HV
          have hn0 : (0 : Int) < b.n := by
            have h := HZK.out.n
            rw [HBE.out]
            show 0 < (if Z.n < 65535 then Z.n + 1 else Z.n)
            split <;> omega
          have hm0 : b.m = 0 := by rw [HBE.out]; rfl
          obtain ⟨nb, hnb⟩ := Int.eq_ofNat_of_zero_le (Int.le_of_lt hn0)
          have hnb0 : 0 < nb := by omega
          have h15 : ∀ w', Below w12.heap.size w12 w' → w'.cell? ⟨x18, 15, none⟩ = some (.int .u16 (nb : Nat)) := fun w' h => by
            rw [h.cell (p := ⟨x18, 15, none⟩) (box_lt HY12.out), cell_of_row w12 x18 15 _ _ _ HY12.out]
            show some (Value.int .u16 b.n) = _
            rw [hnb]
          have h14 : ∀ w', Below w12.heap.size w12 w' → w'.cell? ⟨x18, 14, none⟩ = some (.int .u8 0) := fun w' h => by
            rw [h.cell (p := ⟨x18, 14, none⟩) (box_lt HY12.out), cell_of_row w12 x18 14 _ _ _ HY12.out]
            show some (Value.int .u8 b.m) = _
            rw [hm0]
          have H15 := Lib.hid h15
          have H14 := Lib.hid h14
          have he := fun w => eqlCx b b w
          rw [decide_eq_true (rfl : b = b)] at he
          have HE := Lib.hid he
          have hSA := fun (wz : World) (hz : Below w12.heap.size w12 wz) (a9 : Option Addr) (c9 : Nat) (hs : wz.ownsRow w12.heap.size 5 1 (.slice a9 P.length c9) P.length (bl P)) => Same_any y a9 P.length P.length yc c9 w12.heap.size wz.heap.size P P wz rfl rfl (HR12.out.below hz) (rd_of_own hs (fun j hj => bl_at _ hj)) HPB.out HPB.out
          rw [decide_eq_true (rfl : P = P)] at hSA
          have HSA := Lib.hid hSA
          have h12l := box_lt HS12.out.b12
          have h18l := box_lt HY12.out
          have h20l := box_lt HX12.out
          have HB12 := Lib.hid HS12.out.b12
          have HG7 := Lib.hid (gset_three (d := []) HC1.out)
          clear h15 h14 he hSA hn0 hm0 hnb
          go_upto_region 32 with fail
          obtain ⟨I, W, hne, hWI, hIW⟩ := Go.Mix.family (fun v => Below w12.heap.size w12 v) (Below.refl _ _)
          have HJ := Lib.hid hIW
          have HW := Lib.hid hWI
          clear hWI hIW
          refine Go.Flo.wp_region (fun w' => ∃ i, w' = W i) 49 [Go.Flo.Spec.is (.agg #[.int .u16 b.f, .int .u16 b.i, .int .u8 b.r0, .int .u8 b.r1, .int .u8 b.r2, .int .u8 b.r3, .int .u8 b.r4, .int .u8 b.r5, .int .i8 b.c0, .int .i8 b.c1, .int .i8 b.c2, .int .i8 b.c3, .int .i8 b.c4, .int .i8 b.c5, .int .u8 b.m, .int .u16 b.n, .bool b.x, .int .u8 b.h]), SpO w12.heap.size P, Go.Flo.Spec.is (.bool true), Go.Flo.Spec.is (.int .u16 7), Go.Flo.Spec.is (.int .i64 3), Go.Flo.Spec.is (.bool false)] (by kernel_rfl) (by kernel_rfl) (by decide) (by rintro _ w' ⟨i, rfl⟩ hb; exact HJ.out _ ((HW.out i).trans (hb.mono (HW.out i).size))) (HJ.out _ (Below.refl _ _).drew) ?_
          simp only [Go.Flo.pair, Go.Mix.calm, List.take, List.drop, if_true, Bool.false_eq_true, if_false, Nat.reduceAdd, Nat.reduceSub]
          (repeat (first | (refine Go.Flo.fw_calm rfl ?_ (fun K hK => ?_); (first | exact Go.Mix.wanted_none rfl | exact Go.Mix.wanted_tt rfl rfl rfl | exact Go.Mix.wanted_ff rfl rfl rfl); go_big_quiet_op; refine hK _ ?_; clear hK K) | (refine Go.Flo.fw_skip ?_ (fun K hK => ?_); (first | exact Go.Mix.wanted_tf rfl rfl rfl | exact Go.Mix.wanted_ft rfl rfl rfl); go_simp; refine hK _ ?_; clear hK K) | (refine Go.Flo.fw_any rfl ?_ (fun K hK => ?_); (first | exact Go.Mix.wanted_none rfl | exact Go.Mix.wanted_tt rfl rfl rfl | exact Go.Mix.wanted_ff rfl rfl rfl); go_simp; (try (go_ints; try go_simp)); refine hK _ ?_; clear hK K)))
          (refine Go.Flo.fw_calm rfl ?_ (fun K hK => ?_); (first | exact Go.Mix.wanted_none rfl | exact Go.Mix.wanted_tt rfl rfl rfl | exact Go.Mix.wanted_ff rfl rfl rfl); refine Go.Flo.quiet_load_row 28 _ rfl x18 rfl _ #[.int .u16 b.f, .int .u16 b.i, .int .u8 b.r0, .int .u8 b.r1, .int .u8 b.r2, .int .u8 b.r3, .int .u8 b.r4, .int .u8 b.r5, .int .i8 b.c0, .int .i8 b.c1, .int .i8 b.c2, .int .i8 b.c3, .int .i8 b.c4, .int .i8 b.c5, .int .u8 b.m, .int .u16 b.n, .bool b.x, .int .u8 b.h] _ (by rintro _ ⟨i, rfl⟩; exact ((HW.out i).block x18 h18l).trans HY12.out) Try.underlying28 rfl size_cx ?_; go_simp; refine hK _ ?_; clear hK K)
          (refine Go.Flo.fw_calm rfl ?_ (fun K hK => ?_); (first | exact Go.Mix.wanted_none rfl | exact Go.Mix.wanted_tt rfl rfl rfl | exact Go.Mix.wanted_ff rfl rfl rfl); refine Go.Flo.quiet_load_row 28 _ rfl x12 rfl _ #[.int .u16 Z.f, .int .u16 Z.i, .int .u8 Z.r0, .int .u8 Z.r1, .int .u8 Z.r2, .int .u8 Z.r3, .int .u8 Z.r4, .int .u8 Z.r5, .int .i8 Z.c0, .int .i8 Z.c1, .int .i8 Z.c2, .int .i8 Z.c3, .int .i8 Z.c4, .int .i8 Z.c5, .int .u8 Z.m, .int .u16 Z.n, .bool Z.x, .int .u8 Z.h] _ (by rintro _ ⟨i, rfl⟩; exact ((HW.out i).block x12 h12l).trans HB12.out) Try.underlying28 rfl size_cx ?_; go_simp; refine hK _ ?_; clear hK K)
          refine Go.Flo.fw_loud rfl ?_ rfl (by simp) (fun wv hwv hav K hK => ?_) (fun v hv K hK => ?_)
          · (first | exact Go.Mix.wanted_none rfl | exact Go.Mix.wanted_tt rfl rfl rfl | exact Go.Mix.wanted_ff rfl rfl rfl)
          · obtain ⟨iv, rfl⟩ := hwv
            have hbv := HW.out iv
            (first | go_big_op | go_simp)
            go_at_call 36
            refine (Reset_any Z _ HZK.out).mono ?_
            rintro e w' ⟨rfl, hbb⟩
            rw [← HBE.out]
            exact hK _ _ (Go.Flo.owes_is _ rfl hbb)
          obtain rfl := hv.is
          go_simp
          refine hK _ ?_
          clear hK K hv
          have he := HE.out
          (repeat (first | (refine Go.Flo.fw_calm rfl ?_ (fun K hK => ?_); (first | exact Go.Mix.wanted_none rfl | exact Go.Mix.wanted_tt rfl rfl rfl | exact Go.Mix.wanted_ff rfl rfl rfl); go_big_quiet_op; refine hK _ ?_; clear hK K) | (refine Go.Flo.fw_skip ?_ (fun K hK => ?_); (first | exact Go.Mix.wanted_tf rfl rfl rfl | exact Go.Mix.wanted_ft rfl rfl rfl); go_simp; refine hK _ ?_; clear hK K) | (refine Go.Flo.fw_any rfl ?_ (fun K hK => ?_); (first | exact Go.Mix.wanted_none rfl | exact Go.Mix.wanted_tt rfl rfl rfl | exact Go.Mix.wanted_ff rfl rfl rfl); go_simp; (try (go_ints; try go_simp)); refine hK _ ?_; clear hK K)))
          clear he
          (refine Go.Flo.fw_calm rfl ?_ (fun K hK => ?_); (first | exact Go.Mix.wanted_none rfl | exact Go.Mix.wanted_tt rfl rfl rfl | exact Go.Mix.wanted_ff rfl rfl rfl); refine Go.Flo.quiet_load_row 28 _ rfl x20 rfl _ #[.int .u16 b.f, .int .u16 b.i, .int .u8 b.r0, .int .u8 b.r1, .int .u8 b.r2, .int .u8 b.r3, .int .u8 b.r4, .int .u8 b.r5, .int .i8 b.c0, .int .i8 b.c1, .int .i8 b.c2, .int .i8 b.c3, .int .i8 b.c4, .int .i8 b.c5, .int .u8 b.m, .int .u16 b.n, .bool b.x, .int .u8 b.h] _ (by rintro _ ⟨i, rfl⟩; exact ((HW.out i).block x20 h20l).trans HX12.out) Try.underlying28 rfl size_cx ?_; go_simp; refine hK _ ?_; clear hK K)
          (refine Go.Flo.fw_calm rfl ?_ (fun K hK => ?_); (first | exact Go.Mix.wanted_none rfl | exact Go.Mix.wanted_tt rfl rfl rfl | exact Go.Mix.wanted_ff rfl rfl rfl); refine Go.Flo.quiet_load_row 28 _ rfl x18 rfl _ #[.int .u16 b.f, .int .u16 b.i, .int .u8 b.r0, .int .u8 b.r1, .int .u8 b.r2, .int .u8 b.r3, .int .u8 b.r4, .int .u8 b.r5, .int .i8 b.c0, .int .i8 b.c1, .int .i8 b.c2, .int .i8 b.c3, .int .i8 b.c4, .int .i8 b.c5, .int .u8 b.m, .int .u16 b.n, .bool b.x, .int .u8 b.h] _ (by rintro _ ⟨i, rfl⟩; exact ((HW.out i).block x18 h18l).trans HY12.out) Try.underlying28 rfl size_cx ?_; go_simp; refine hK _ ?_; clear hK K)
          have he := HE.out
          (repeat (first | (refine Go.Flo.fw_calm rfl ?_ (fun K hK => ?_); (first | exact Go.Mix.wanted_none rfl | exact Go.Mix.wanted_tt rfl rfl rfl | exact Go.Mix.wanted_ff rfl rfl rfl); go_big_quiet_op; refine hK _ ?_; clear hK K) | (refine Go.Flo.fw_skip ?_ (fun K hK => ?_); (first | exact Go.Mix.wanted_tf rfl rfl rfl | exact Go.Mix.wanted_ft rfl rfl rfl); go_simp; refine hK _ ?_; clear hK K) | (refine Go.Flo.fw_any rfl ?_ (fun K hK => ?_); (first | exact Go.Mix.wanted_none rfl | exact Go.Mix.wanted_tt rfl rfl rfl | exact Go.Mix.wanted_ff rfl rfl rfl); go_simp; (try (go_ints; try go_simp)); refine hK _ ?_; clear hK K)))
          clear he
          (refine Go.Flo.fw_calm rfl ?_ (fun K hK => ?_); (first | exact Go.Mix.wanted_none rfl | exact Go.Mix.wanted_tt rfl rfl rfl | exact Go.Mix.wanted_ff rfl rfl rfl); refine Go.Flo.quiet_load_row 28 _ rfl x18 rfl _ #[.int .u16 b.f, .int .u16 b.i, .int .u8 b.r0, .int .u8 b.r1, .int .u8 b.r2, .int .u8 b.r3, .int .u8 b.r4, .int .u8 b.r5, .int .i8 b.c0, .int .i8 b.c1, .int .i8 b.c2, .int .i8 b.c3, .int .i8 b.c4, .int .i8 b.c5, .int .u8 b.m, .int .u16 b.n, .bool b.x, .int .u8 b.h] _ (by rintro _ ⟨i, rfl⟩; exact ((HW.out i).block x18 h18l).trans HY12.out) Try.underlying28 rfl size_cx ?_; go_simp; refine hK _ ?_; clear hK K)
          refine Go.Flo.fw_loud rfl ?_ rfl (by simp) (fun wv hwv hav K hK => ?_) (fun v hv K hK => ?_)
          · (first | exact Go.Mix.wanted_none rfl | exact Go.Mix.wanted_tt rfl rfl rfl | exact Go.Mix.wanted_ff rfl rfl rfl)
          · obtain ⟨iv, rfl⟩ := hwv
            have hbv := HW.out iv
            (first | go_big_op | go_simp)
            go_at_call 17
            refine (Bytes_of b _ HBO.out HBR.out).mono ?_
            rw [← HPE.out]
            rintro e w' ⟨v, rfl, hown, hbb⟩
            exact hK _ _ (owes_O (by rw [HPE.out]; exact bytesOf_len _) rfl hbb hown hbv.size)
          obtain ⟨a9, c9, rfl⟩ := ex_O hv
          go_simp
          refine hK _ ?_
          clear hK K hv
          refine Go.Flo.fw_loud rfl ?_ rfl (by simp) (fun wv hwv hav K hK => ?_) (fun v hv K hK => ?_)
          · (first | exact Go.Mix.wanted_none rfl | exact Go.Mix.wanted_tt rfl rfl rfl | exact Go.Mix.wanted_ff rfl rfl rfl)
          · obtain ⟨iv, rfl⟩ := hwv
            have hbv := HW.out iv
            (first | go_big_op | go_simp)
            have hs1 := ((hav 160 (by decide +kernel)).2 rfl).1
            go_at_call 21
            refine (HSA.out _ hbv _ _ hs1).mono ?_
            rintro e w' ⟨rfl, q, rfl⟩
            exact hK _ _ (Go.Flo.owes_is _ rfl (below_drews _ _ _))
          obtain rfl := hv.is
          go_simp
          refine hK _ ?_
          clear hK K hv
          (repeat (first | (refine Go.Flo.fw_calm rfl ?_ (fun K hK => ?_); (first | exact Go.Mix.wanted_none rfl | exact Go.Mix.wanted_tt rfl rfl rfl | exact Go.Mix.wanted_ff rfl rfl rfl); go_big_quiet_op; refine hK _ ?_; clear hK K) | (refine Go.Flo.fw_skip ?_ (fun K hK => ?_); (first | exact Go.Mix.wanted_tf rfl rfl rfl | exact Go.Mix.wanted_ft rfl rfl rfl); go_simp; refine hK _ ?_; clear hK K) | (refine Go.Flo.fw_any rfl ?_ (fun K hK => ?_); (first | exact Go.Mix.wanted_none rfl | exact Go.Mix.wanted_tt rfl rfl rfl | exact Go.Mix.wanted_ff rfl rfl rfl); go_simp; (try (go_ints; try go_simp)); refine hK _ ?_; clear hK K)))
          refine Go.Flo.fw_loud rfl ?_ rfl (by simp) (fun wv hwv hav K hK => ?_) (fun v hv K hK => ?_)
          · (first | exact Go.Mix.wanted_none rfl | exact Go.Mix.wanted_tt rfl rfl rfl | exact Go.Mix.wanted_ff rfl rfl rfl)
          · obtain ⟨iv, rfl⟩ := hwv
            have hbv := HW.out iv
            (first | go_big_op | go_simp)
            go_at_call 37
            refine (mGood (HS12.out.mem.below hbv)).mono ?_
            rintro e w' ⟨rfl, hbb⟩
            rw [HG7.out]
            exact hK _ _ (Go.Flo.owes_is _ rfl hbb)
          obtain rfl := hv.is
          go_simp
          refine hK _ ?_
          clear hK K hv
          refine Go.Flo.fw_loud rfl ?_ rfl (by simp) (fun wv hwv hav K hK => ?_) (fun v hv K hK => ?_)
          · (first | exact Go.Mix.wanted_none rfl | exact Go.Mix.wanted_tt rfl rfl rfl | exact Go.Mix.wanted_ff rfl rfl rfl)
          · obtain ⟨iv, rfl⟩ := hwv
            have hbv := HW.out iv
            (first | go_big_op | go_simp)
            go_at_call 38
            refine (Count7 _).mono ?_
            rintro e w' ⟨rfl, hbb⟩
            exact hK _ _ (Go.Flo.owes_is _ rfl hbb)
          obtain rfl := hv.is
          go_simp
          refine hK _ ?_
          clear hK K hv
          (repeat (first | (refine Go.Flo.fw_calm rfl ?_ (fun K hK => ?_); (first | exact Go.Mix.wanted_none rfl | exact Go.Mix.wanted_tt rfl rfl rfl | exact Go.Mix.wanted_ff rfl rfl rfl); go_big_quiet_op; refine hK _ ?_; clear hK K) | (refine Go.Flo.fw_skip ?_ (fun K hK => ?_); (first | exact Go.Mix.wanted_tf rfl rfl rfl | exact Go.Mix.wanted_ft rfl rfl rfl); go_simp; refine hK _ ?_; clear hK K) | (refine Go.Flo.fw_any rfl ?_ (fun K hK => ?_); (first | exact Go.Mix.wanted_none rfl | exact Go.Mix.wanted_tt rfl rfl rfl | exact Go.Mix.wanted_ff rfl rfl rfl); go_simp; (try (go_ints; try go_simp)); refine hK _ ?_; clear hK K)))
          refine Go.Flo.fw_loud rfl ?_ rfl (by simp) (fun wv hwv hav K hK => ?_) (fun v hv K hK => ?_)
          · (first | exact Go.Mix.wanted_none rfl | exact Go.Mix.wanted_tt rfl rfl rfl | exact Go.Mix.wanted_ff rfl rfl rfl)
          · obtain ⟨iv, rfl⟩ := hwv
            have hbv := HW.out iv
            (first | go_big_op | go_simp)
            go_at_call 39
            refine (mPending (HS12.out.mem.below hbv)).mono ?_
            rintro e w' ⟨rfl, rfl⟩
            exact hK _ _ (Go.Flo.owes_is _ rfl (Below.refl _ _))
          obtain rfl := hv.is
          go_simp
          refine hK _ ?_
          clear hK K hv
          have k15 : ∀ i, (W i).cell? ⟨x18, 15, none⟩ = some (.int .u16 (nb : Nat)) := fun i => H15.out _ (HW.out i)
          have k14 : ∀ i, (W i).cell? ⟨x18, 14, none⟩ = some (.int .u8 0) := fun i => H14.out _ (HW.out i)
          (repeat (first | (refine Go.Flo.fw_calm rfl ?_ (fun K hK => ?_); (first | exact Go.Mix.wanted_none rfl | exact Go.Mix.wanted_tt rfl rfl rfl | exact Go.Mix.wanted_ff rfl rfl rfl); go_big_quiet_op; refine hK _ ?_; clear hK K) | (refine Go.Flo.fw_skip ?_ (fun K hK => ?_); (first | exact Go.Mix.wanted_tf rfl rfl rfl | exact Go.Mix.wanted_ft rfl rfl rfl); go_simp; refine hK _ ?_; clear hK K) | (refine Go.Flo.fw_any rfl ?_ (fun K hK => ?_); (first | exact Go.Mix.wanted_none rfl | exact Go.Mix.wanted_tt rfl rfl rfl | exact Go.Mix.wanted_ff rfl rfl rfl); go_simp; (try (go_ints; try go_simp)); refine hK _ ?_; clear hK K)))
          refine Go.Flo.fw_nil ?_
          intro w13 hww13 hfw13 huw13
          refine Go.Flo.tw_nil ?_
          obtain ⟨iend, hiend⟩ := hww13
          have hbw13 := HW.out iend
          rw [← hiend] at hbw13
          clear hiend iend huw13
          have HB13 := Lib.hid (HS12.out.be.trans (hbw13.mono HS12.out.be.size))
          clear hfw13 HJ HW hne k15 k14 hbw13
          clear W I
          go_wp2
          go_ret
          exact ⟨rfl, HB13.out⟩
end Go.Proofs.Ytpgophkegjeheaa
