/- Layer 3: the document's ring: what it holds; a row copied. -/
import Derived.Test.YtnjkpamjjdkmoaaRgC
import Derived.Test.YtnjkpamjjdkmoaaLaw03q
import Derived.Test.YtnjkpamjjdkmoaaFlo3
import Derived.Test.YtnjkpamjjdkmoaaBx
import Derived.Deep.CutBlock
import Derived.Deep.DeepCutAuto
namespace Go.Proofs.Ytnjkpamjjdkmoaa
open Go.RowKit Go.Own
set_option linter.unusedVariables false
set_option linter.unusedSimpArgs false
theorem own_keepR {w w' : World} {base : Nat} {e : TypeId} {size : Nat} {v : Value} {n : Nat} {xs : List Value} (h : w.ownsRow base e size v n xs) (hb : Below w.heap.size w w') : w'.ownsRow base e size v n xs := by
  obtain ⟨h1, h2 | ⟨g, cap, cur, hv, hg, hr, ho⟩⟩ := h
  · exact ⟨h1, .inl h2⟩
  · exact ⟨h1, .inr ⟨g, cap, cur, hv, hg, (hb.block g (box_lt hr)).trans hr, ho⟩⟩
/-- An own row of ints, as a spec. -/
def SpW (n0 : Nat) (L : List Int) : Go.Flo.Spec :=
  ⟨fun v w => w.ownsRow n0 3 1 v L.length (il L), fun v w w' hb h => own_keepR h hb⟩
theorem owes_W {o : Oper} {n0 : Nat} {L : List Int} {w w' : World} {v : Value} {base : Nat} (hm : Go.Flo.makes o = false) (hb : Below w.heap.size w w') (h : w'.ownsRow base 3 1 v L.length (il L)) (h0 : n0 ≤ base) : Go.Flo.owes o (SpW n0 L) w v w' :=
  ⟨World.ownsRow.mono h h0, hb, fun g hg => by simp [Go.Flo.ownOf, hm] at hg⟩
theorem ex_W {C : World → Prop} {o : Oper} {n0 : Nat} {L : List Int} {v : Value} {F : Go.Flo.Facts} {G : Go.Flo.Used} (h : Go.Flo.Ex C o (SpW n0 L) F G v) : ∃ a c, v = .slice a L.length c := by
  obtain ⟨w, _, _, h1, _⟩ := h
  exact own_form h1
/-- A copy of a row, by append to an empty one. -/
theorem run_app_empty {base n : Nat} {w : World} {a : Option Addr} {len cap ge : Nat} {L : List Int} {i0 : TypeInfo} (ty : TypeId) (hi : Try.prog.info? 3 = some i0) (hz0 : i0.zero = some (.int .i64 0)) (hz1 : i0.size = 1) (hz2 : i0.bytes = 8)
    (hl : L.length = len) (h : Rd n w a len cap (iv L)) (hrow : w.heap[ge]? = some (.cells #[] 3 (0, 0))) (hge : base ≤ ge) (hlen : len ≤ 1000000) :
    ∃ v' w', (Builtin.append_ #[38, 38] ty #[.slice (some ⟨ge, 0, none⟩) 0 0, .slice a len cap]).run Try.prog w = .ok v' w' ∧ w'.ownsRow base 3 1 v' len (il L) ∧ Below w.heap.size w w' := by
  rcases Nat.eq_zero_or_pos len with h0 | h0
  · have hL : L = [] := List.eq_nil_of_length_eq_zero (by omega)
    subst hL
    subst h0
    have hsrc : Src Try.prog i0.size 38 (.slice a 0 cap) 0 [] w := by
      cases a with
      | none => exact Src.ofNil w Try.underlying38 cap
      | some b => exact Src.ofSlice w Try.underlying38 b 0 cap [] (by simp) (by simp) (by simp)
    have hr := run_append_nothing (P := Try.prog) w 38 38 ty 3 i0 Try.underlying38 hi (some ⟨ge, 0, none⟩) 0 0 (Nat.le_refl _) (.slice a 0 cap) hsrc
    exact ⟨_, _, hr, ⟨rfl, .inr ⟨ge, 0, #[], rfl, hge, hrow, Nat.le_refl _, Nat.zero_le _, rfl, rfl⟩⟩, Below.refl _ _⟩
  · obtain ⟨b, off, rfl, _, hc⟩ := h.row h0
    have hsrc : Src Try.prog i0.size 38 (.slice (some ⟨b, off, none⟩) len cap) len (il L) w := Src.ofSlice w Try.underlying38 _ _ _ _ (by rw [hz1]; simp [il, hl]) (fun j u hj => by
      have hjl : j < L.length := by
        have := (List.getElem?_eq_some_iff.1 hj).1
        simpa [il] using this
      rw [il_at L hjl] at hj
      cases hj
      rw [Addr.add_mid]
      exact hc j (by omega)) (fun u hu => by
      obtain ⟨x, _, rfl⟩ := List.mem_map.1 hu
      rfl)
    have hold : (Builtin.firstCells i0.size 0 (.slice (some ⟨ge, 0, none⟩) 0 0)).run Try.prog w.drew = .ok ([] : List Value).toArray w.drew := run_firstCells_some _ _ 0 _ _ _ [] (by simp) (by simp)
    have hr := run_append_grow_src (P := Try.prog) w 38 38 ty 3 i0 (.int .i64 0) Try.underlying38 hi hz0 (some ⟨ge, 0, none⟩) 0 0 [] hold (.slice (some ⟨b, off, none⟩) len cap) len (il L) hsrc (by omega) (by omega) (growslice_fits (by omega) (by rw [hz2]; omega))
    simp only [Nat.zero_add, List.nil_append] at hr
    have hgc := grownCap_ge w len 0 3
    have hcm : grownCap w len 0 3 ≤ maxLen := grownCap_le_maxLen w len 0 3 (by unfold maxLen; omega)
    obtain ⟨C, hC⟩ : ∃ C, C = grownCap w len 0 3 := ⟨_, rfl⟩
    rw [← hC] at hr hgc hcm
    refine ⟨_, _, hr, ⟨by simp [il, hl], .inr ⟨w.heap.size, C, _, rfl, Nat.le_of_lt (Nat.lt_of_le_of_lt hge (box_lt hrow)), heap_alloc_new w.drew _, hgc, hcm, ?_, ?_⟩⟩, (Below.refl w.heap.size w).drew.alloc (by simp) _⟩
    · simp [il, hl, Builtin.zeroCells, Value.cells]
      omega
    · have e : (il L).length = len := by simp [il, hl]
      simp [e]
theorem wp_app_empty {o : Oper} {ac : Act} {K : Act → World → Prop} {Q : Exit → Act → World → Prop} {base n : Nat} {w : World} {a : Option Addr} {len cap ge : Nat} {L : List Int} {i0 : TypeInfo} (s y : Operand)
    (ho : o.op = .call { callee := .builtin .append, args := #[s, y], argTypes := #[38, 38] }) (hi : Try.prog.info? 3 = some i0) (hz0 : i0.zero = some (.int .i64 0)) (hz1 : i0.size = 1) (hz2 : i0.bytes = 8)
    (hs : ac.eval s = .slice (some ⟨ge, 0, none⟩) 0 0) (hy : ac.eval y = .slice a len cap) (hl : L.length = len) (h : Rd n w a len cap (iv L)) (hrow : w.heap[ge]? = some (.cells #[] 3 (0, 0))) (hge : base ≤ ge) (hlen : len ≤ 1000000)
    (hK : ∀ v' w', w'.ownsRow base 3 1 v' len (il L) → Below w.heap.size w w' → K (ac.put o.dst v') w') : o.wp Try.prog ac w K Q := by
  obtain ⟨v', w', hr, h2, h3⟩ := run_app_empty o.type hi hz0 hz1 hz2 hl h hrow hge hlen
  unfold Oper.wp execOp
  simp only [ho, resolve, invoke, builtin, Sem.run_bind, Sem.run_pure, Result.andThen_ok, List.map_toArray, List.map_cons, List.map_nil, hs, hy, hr]
  exact hK v' w' h2 h3
/-- The document's ring: its block, its row in memory of its own. -/
structure XS (w : World) (gx base n : Nat) (L : List Int) (lo d : Nat) (a : Option Addr) (cap : Nat) : Prop where
  head : w.heap[gx]? = some (.cells #[.slice a L.length cap, .int .i64 ((n : Nat) : Int), .int .i64 ((lo : Nat) : Int), .int .i64 ((d : Nat) : Int)] 40 (0, 0))
  cut : CutI base w a L.length cap L
  lt : gx < base
theorem XS.step {w w' : World} {gx base n : Nat} {L : List Int} {lo d cap : Nat} {a : Option Addr} (h : XS w gx base n L lo d a cap) (hb : Below w.heap.size w w') : XS w' gx base n L lo d a cap :=
  ⟨box_below h.head hb (box_lt h.head), h.cut.below hb, h.lt⟩
theorem XS.kept {w w' : World} {gx base n g b : Nat} {L : List Int} {lo d cap : Nat} {a : Option Addr} (h : XS w gx base n L lo d a cap) (hk : Kept g b w w') (hg : g < gx) (hb : b < gx) : XS w' gx base n L lo d a cap :=
  ⟨(hk.block gx (box_lt h.head) (by omega) (by omega)).trans h.head, h.cut.kept hk (Nat.lt_trans hg h.lt) (Nat.lt_trans hb h.lt), h.lt⟩
/-- A new row, laid into its place. -/
theorem XS.put {w w1 : World} {gx base n : Nat} {L M : List Int} {lo d cap cap' : Nat} {a a' : Option Addr} (h : XS w gx base n L lo d a cap) (hb : Below base w w1) (hc : CutI base w1 a' M.length cap' M) : XS (w1.setCell ⟨gx, 0, none⟩ (.slice a' M.length cap')) gx base n M lo d a' cap' :=
  ⟨heap_setCell_same _ _ _ _ _ _ ((hb.block gx h.lt).trans h.head), hc.step (fun k h1 h2 => heap_setCell_other _ _ _ _ (by show k ≠ gx; have := h.lt; omega)) (by simp), h.lt⟩
theorem XS.setLost {w : World} {gx base n : Nat} {L : List Int} {lo d cap : Nat} {a : Option Addr} (h : XS w gx base n L lo d a cap) (x : Nat) : XS (w.setCell ⟨gx, 2, none⟩ (.int .i64 (x : Nat))) gx base n L x d a cap :=
  ⟨heap_setCell_same _ _ _ _ _ _ h.head, h.cut.step (fun k h1 h2 => heap_setCell_other _ _ _ _ (by show k ≠ gx; have := h.lt; omega)) (by simp), h.lt⟩
theorem XS.setDropped {w : World} {gx base n : Nat} {L : List Int} {lo d cap : Nat} {a : Option Addr} (h : XS w gx base n L lo d a cap) (x : Nat) : XS (w.setCell ⟨gx, 3, none⟩ (.int .i64 (x : Nat))) gx base n L lo x a cap :=
  ⟨heap_setCell_same _ _ _ _ _ _ h.head, h.cut.step (fun k h1 h2 => heap_setCell_other _ _ _ _ (by show k ≠ gx; have := h.lt; omega)) (by simp), h.lt⟩
/-- What a call that is told the document's ring leaves as it is. -/
structure BK (gx : Nat) (a : Option Addr) (cap : Nat) (w w' : World) : Prop where
  be : Below gx w w'
  ke : ∀ j, j < w.heap.size → j ≠ gx → (0 < cap → ∀ p, a = some p → p.block ≠ j) → w'.heap[j]? = w.heap[j]?
theorem BK.init {gx cap : Nat} {a : Option Addr} {w w' : World} (hb : Below w.heap.size w w') (hg : gx ≤ w.heap.size) : BK gx a cap w w' := ⟨hb.mono hg, fun j hj _ _ => hb.block j hj⟩
theorem BK.app {gx cap : Nat} {a : Option Addr} {w w1 w2 : World} (h : BK gx a cap w w1) (hb : Below gx w1 w2) (hk : KeI a cap w1 w2) : BK gx a cap w w2 :=
  ⟨h.be.trans hb, fun j hj h1 h2 => (hk j (Nat.lt_of_lt_of_le hj h.be.size) h2).trans (h.ke j hj h1 h2)⟩
theorem BK.step {gx cap : Nat} {a : Option Addr} {w w1 w2 : World} (h : BK gx a cap w w1) (hb : Below w1.heap.size w1 w2) (hg : gx ≤ w1.heap.size) : BK gx a cap w w2 :=
  h.app (hb.mono hg) fun j hj _ => hb.block j hj
theorem BK.setCell {gx cap : Nat} {a : Option Addr} {w w1 : World} (h : BK gx a cap w w1) (o : Nat) (v : Value) : BK gx a cap w (w1.setCell ⟨gx, o, none⟩ v) :=
  ⟨h.be.setCell (p := ⟨gx, o, none⟩) (Nat.le_refl _) v, fun j hj h1 h2 => (heap_setCell_other w1 _ j v h1).trans (h.ke j hj h1 h2)⟩
theorem BK.kept {gx cap : Nat} {a : Option Addr} {w w1 w2 : World} (h : BK gx a cap w w1) (hk : Kept gx gx w1 w2) (hg : gx ≤ w1.heap.size) : BK gx a cap w w2 :=
  ⟨h.be.trans (hk.below (Nat.le_refl _) (Nat.le_refl _) hg), fun j hj h1 h2 => (hk.block j (Nat.lt_of_lt_of_le hj h.be.size) h1 h1).trans (h.ke j hj h1 h2)⟩
end Go.Proofs.Ytnjkpamjjdkmoaa
