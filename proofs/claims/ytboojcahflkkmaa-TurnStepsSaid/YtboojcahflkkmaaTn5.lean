/- Layer 20: Start, power, Next. -/
import Derived.Test.YtboojcahflkkmaaTn4
namespace Go.Flo
theorem quiet_load_midT {P : Program} {C : World → Prop} {o : Oper} {a : Act} {K : Act → Prop} (ty : TypeId) (x : Operand) (ho : o.op = .load ty x) (b off : Nat) (hx : a.eval x = .pointer (some ⟨b, off, none⟩)) (cs : List Value) {d : TypeDesc}
    (hg : ∀ w, C w → w.rangeAt b off cs) (hu : P.underlying ty = some d) (hd : d.isRow = true) (hi : (P.info? ty).map (·.size) = some cs.length)
    (h : K (a.put o.dst (.agg cs.toArray))) : o.quiet P a C K := by
  refine ⟨.agg cs.toArray, fun w hw => ?_, h⟩
  unfold Oper.quietAt execOp
  simp only [ho, hx, Instr.loadAt, Instr.sureAddr, Sem.run_bind, Sem.run_pure, Result.andThen_ok, run_loadVar_mid w b off ty cs d (hg w hw) hu hd hi]
  exact ⟨rfl, rfl⟩
end Go.Flo
namespace Go.Proofs.Ytboojcahflkkmaa
open Go.RowKit Go.Own Bs
set_option linter.unusedVariables false
set_option linter.unusedSimpArgs false
theorem res_cc {P : Program} {fn : Func} {p q : Tmp} {ty uy : TypeId} (h : fn.results = #[.cell p ty, .cell q uy]) (tmps : Array Value) (w : World) (g k : Nat) (t u : TypeId) (cs ds : Array Value) (fr gr : Nat × Nat) {d e : TypeDesc}
    (hp : tmps.getD p undef = .pointer (some ⟨g, 0, none⟩)) (hq : tmps.getD q undef = .pointer (some ⟨k, 0, none⟩)) (hg : w.heap[g]? = some (.cells cs t fr)) (hk : w.heap[k]? = some (.cells ds u gr))
    (hu : P.underlying ty = some d) (hd : (match d with | .struct _ | .array _ _ => true | _ => false) = true) (hi : (P.info? ty).map (·.size) = some cs.size)
    (hu' : P.underlying uy = some e) (he : (match e with | .struct _ | .array _ _ => true | _ => false) = true) (hi' : (P.info? uy).map (·.size) = some ds.size) :
    (results fn tmps).run P w = .ok (.tuple #[.agg cs, .agg ds]) w := by
  have hp' : tmps[p]?.getD undef = .pointer (some ⟨g, 0, none⟩) := by simpa using hp
  have hq' : tmps[q]?.getD undef = .pointer (some ⟨k, 0, none⟩) := by simpa using hq
  simp only [results, h]
  simp [Sem.run_bind, Result.andThen, hp', hq', asAddr, run_loadVar_row w g t ty cs fr d hg hu hd hi, run_loadVar_row w k u uy ds gr e hk hu' he hi']
theorem res_cct {P : Program} {fn : Func} {p q r : Tmp} {ty uy : TypeId} (h : fn.results = #[.cell p ty, .cell q uy, .tmp r]) (tmps : Array Value) (w : World) (g k : Nat) (t u : TypeId) (cs ds : Array Value) (fr gr : Nat × Nat) {d e : TypeDesc}
    (hp : tmps.getD p undef = .pointer (some ⟨g, 0, none⟩)) (hq : tmps.getD q undef = .pointer (some ⟨k, 0, none⟩)) (hg : w.heap[g]? = some (.cells cs t fr)) (hk : w.heap[k]? = some (.cells ds u gr))
    (hu : P.underlying ty = some d) (hd : (match d with | .struct _ | .array _ _ => true | _ => false) = true) (hi : (P.info? ty).map (·.size) = some cs.size)
    (hu' : P.underlying uy = some e) (he : (match e with | .struct _ | .array _ _ => true | _ => false) = true) (hi' : (P.info? uy).map (·.size) = some ds.size) :
    (results fn tmps).run P w = .ok (.tuple #[.agg cs, .agg ds, tmps.getD r undef]) w := by
  have hp' : tmps[p]?.getD undef = .pointer (some ⟨g, 0, none⟩) := by simpa using hp
  have hq' : tmps[q]?.getD undef = .pointer (some ⟨k, 0, none⟩) := by simpa using hq
  simp only [results, h]
  simp [Sem.run_bind, Result.andThen, hp', hq', asAddr, run_loadVar_row w g t ty cs fr d hg hu hd hi, run_loadVar_row w k u uy ds gr e hk hu' he hi']
theorem own_setRowT {w : World} {base n size g : Nat} {e : TypeId} {v : Value} {xs : List Value} (h : w.ownsRow base e size v n xs) (hg : g < base) (cs : Array Value) : (w.setRow g cs).ownsRow base e size v n xs := by
  obtain ⟨h1, h2 | ⟨g', cap, cur, hv, hb', hr, ho⟩⟩ := h
  · exact ⟨h1, .inl h2⟩
  · exact ⟨h1, .inr ⟨g', cap, cur, hv, hb', (setRow_other w g g' cs (by omega)).trans hr, ho⟩⟩
/-- A turn's box, and those of the two results. -/
structure T3 (w wr : World) (g3 g6 g7 B : Nat) (p : Int) (f t : Nat → Int) : Prop where
  be : Below w.heap.size w wr
  b3 : wr.heap[g3]? = some (.cells #[.int .u8 p, .int .i8 (f 0), .int .i8 (f 1), .int .i8 (f 2), .int .i8 (f 3), .int .i8 (f 4), .int .i8 (f 5), .int .i8 (t 0), .int .i8 (t 1), .int .i8 (t 2), .int .i8 (t 3), .int .i8 (t 4), .int .i8 (t 5)] 96 (0, 0))
  b6 : wr.heap[g6]? = some (.cells #[.int .u8 0, .int .i8 0, .int .i8 0, .int .i8 0, .int .i8 0, .int .i8 0, .int .i8 0, .int .i8 0, .int .i8 0, .int .i8 0, .int .i8 0, .int .i8 0, .int .i8 0] 96 (0, 0))
  b7 : wr.heap[g7]? = some (.cells #[.slice none 0 0, .slice none 0 0, .bool false, .int .u16 0] 98 (0, 0))
  h3 : w.heap.size ≤ g3
  h6 : w.heap.size ≤ g6
  h7 : w.heap.size ≤ g7
  n36 : g3 ≠ g6
  n37 : g3 ≠ g7
  n67 : g6 ≠ g7
  l6 : g6 < B
  l7 : g7 < B
  lb : w.heap.size ≤ B
  sz : B ≤ wr.heap.size
theorem T3.step {w wr w' : World} {g3 g6 g7 B : Nat} {p : Int} {f t : Nat → Int} (h : T3 w wr g3 g6 g7 B p f t) (hb : Below wr.heap.size wr w') : T3 w w' g3 g6 g7 B p f t :=
  ⟨h.be.trans (hb.mono h.be.size), box_below h.b3 hb (box_lt h.b3), box_below h.b6 hb (box_lt h.b6), box_below h.b7 hb (box_lt h.b7), h.h3, h.h6, h.h7, h.n36, h.n37, h.n67, h.l6, h.l7, h.lb, Nat.le_trans h.sz hb.size⟩
theorem T3.phase {w wr : World} {g3 g6 g7 B : Nat} {p : Int} {f t : Nat → Int} (h : T3 w wr g3 g6 g7 B p f t) (q : Int) : T3 w (wr.setCell ⟨g3, 0, none⟩ (.int .u8 q)) g3 g6 g7 B q f t :=
  ⟨h.be.setCell (p := ⟨g3, 0, none⟩) h.h3 _, heap_setCell_same wr g3 0 _ _ _ h.b3, (heap_setCell_other wr ⟨g3, 0, none⟩ g6 _ (Ne.symm h.n36)).trans h.b6, (heap_setCell_other wr ⟨g3, 0, none⟩ g7 _ (Ne.symm h.n37)).trans h.b7, h.h3, h.h6, h.h7, h.n36, h.n37, h.n67, h.l6, h.l7, h.lb, by simpa using h.sz⟩
theorem T3.fin {w wr : World} {g3 g6 g7 B : Nat} {p : Int} {f t : Nat → Int} (h : T3 w wr g3 g6 g7 B p f t) (C D : Array Value) :
    ((wr.setRow g6 C).setRow g7 D).heap[g6]? = some (.cells C 96 (0, 0)) ∧ ((wr.setRow g6 C).setRow g7 D).heap[g7]? = some (.cells D 98 (0, 0)) ∧ (wr.setRow g6 C).heap[g7]? = some (.cells #[.slice none 0 0, .slice none 0 0, .bool false, .int .u16 0] 98 (0, 0)) ∧ Below w.heap.size w ((wr.setRow g6 C).setRow g7 D) := by
  have e7 := (setRow_other wr g6 g7 C (Ne.symm h.n67)).trans h.b7
  exact ⟨(setRow_other _ g7 g6 D h.n67).trans (setRow_heap _ g6 _ _ _ _ h.b6), setRow_heap _ g7 _ _ _ _ e7, e7, bel_rowS (bel_rowS h.be h.h6 C) h.h7 D⟩
theorem T3.new (w : World) (p : Int) (f t : Nat → Int) : T3 w (((w.alloc (.cells #[.int .u8 p, .int .i8 (f 0), .int .i8 (f 1), .int .i8 (f 2), .int .i8 (f 3), .int .i8 (f 4), .int .i8 (f 5), .int .i8 (t 0), .int .i8 (t 1), .int .i8 (t 2), .int .i8 (t 3), .int .i8 (t 4), .int .i8 (t 5)] 96)).alloc (.cells #[.int .u8 0, .int .i8 0, .int .i8 0, .int .i8 0, .int .i8 0, .int .i8 0, .int .i8 0, .int .i8 0, .int .i8 0, .int .i8 0, .int .i8 0, .int .i8 0, .int .i8 0] 96)).alloc (.cells #[.slice none 0 0, .slice none 0 0, .bool false, .int .u16 0] 98)) w.heap.size (w.heap.size + 1) (w.heap.size + 1 + 1) (w.heap.size + 1 + 1 + 1) p f t := by
  obtain ⟨h1, h2, h3⟩ := al3S w (.cells #[.int .u8 p, .int .i8 (f 0), .int .i8 (f 1), .int .i8 (f 2), .int .i8 (f 3), .int .i8 (f 4), .int .i8 (f 5), .int .i8 (t 0), .int .i8 (t 1), .int .i8 (t 2), .int .i8 (t 3), .int .i8 (t 4), .int .i8 (t 5)] 96) (.cells #[.int .u8 0, .int .i8 0, .int .i8 0, .int .i8 0, .int .i8 0, .int .i8 0, .int .i8 0, .int .i8 0, .int .i8 0, .int .i8 0, .int .i8 0, .int .i8 0, .int .i8 0] 96) (.cells #[.slice none 0 0, .slice none 0 0, .bool false, .int .u16 0] 98)
  exact ⟨by repeat' (first | (with_reducible exact Below.refl _ _) | (with_reducible assumption) | (with_reducible refine Below.setCell ?_ ?_ _) | (with_reducible refine Below.alloc ?_ ?_ _) | (with_reducible refine Below.drew ?_) | (with_reducible refine Below.drawsN ?_ _) | go_size), h1, h2, h3, by omega, by omega, by omega, by omega, by omega, by omega, by omega, by omega, by omega, by simp⟩
/-- What a cycle gives: the turn then; what loses power; is it done? what has failed? -/
structure Nx where
  p : Int
  f : Nat → Int
  t : Nat → Int
  o : Nat
  d : Bool
  q : Nat
def NxPost (w : World) (x : Nx) (e : Ending) (w' : World) : Prop :=
  ∃ v, e = .returned (.tuple #[.agg #[.int .u8 x.p, .int .i8 (x.f 0), .int .i8 (x.f 1), .int .i8 (x.f 2), .int .i8 (x.f 3), .int .i8 (x.f 4), .int .i8 (x.f 5), .int .i8 (x.t 0), .int .i8 (x.t 1), .int .i8 (x.t 2), .int .i8 (x.t 3), .int .i8 (x.t 4), .int .i8 (x.t 5)], .agg #[.slice none 0 0, v, .bool x.d, .int .u16 ((x.q : Nat) : Int)]]) ∧ w'.ownsRow w.heap.size 3 1 v (upTo x.o 16).length (zl (upTo x.o 16)) ∧ Below w.heap.size w w'
theorem own_noneT (w : World) (B : Nat) : w.ownsRow B 3 1 (.slice none 0 0) (upTo 0 16).length (zl (upTo 0 16)) := by
  have e : upTo 0 16 = [] := by decide
  rw [e]
  simpa [zl] using World.ownsRow_nil _ _ _ _
def powR (f t : Nat → Int) (wk ls : Nat) : Nx :=
  if unitsS t 6 &&& ls = 0 then (if lessS (unitsS t 6) wk = 0 then ⟨2, f, t, 0, false, 0⟩ else ⟨1, f, t, 0, false, 0⟩) else ⟨0, f, f, onlyS t f, false, unitsS t 6 &&& ls⟩
set_option maxHeartbeats 1000000 in
theorem Within_any (a b : Nat) (w : World) (ha : a < 65536) (hb : b < 65536) : Calls Try.prog 57 #[.int .u16 (a : Nat), .int .u16 (b : Nat)] w fun e w' => e = .returned (.bool (decide (lessS a b = 0))) ∧ w = w' := by
  obtain ⟨q, hq⟩ : ∃ q, q = lessS a b := ⟨_, rfl⟩
  rw [← hq]
  have HQ := Lib.hid hq
  clear hq
  have hd : ((q : Int) == 0) = decide (q = 0) := by by_cases h : q = 0 <;> simp [h]
  obtain ⟨r, hr⟩ : ∃ r, r = decide (q = 0) := ⟨_, rfl⟩
  rw [← hr] at hd ⊢
  clear hr
  go_enter Try.func57, Try.ntmps57
  go_wp2_with fail
  go_at_call 67
  refine (Less_any a b _ ha hb).mono ?_
  rintro e w1 ⟨rfl, rfl⟩
  rw [show a &&& (65535 - b) = q from HQ.out.symm]
  go_wp2_with fail
  go_ret
  exact ⟨rfl, rfl⟩
end Go.Proofs.Ytboojcahflkkmaa
