/- Layer 18: the table of ways: an own map from places. -/
import Derived.Test.YtioclbkgfbjpdaaSw
import Derived.Maps.OwnSet
import Derived.Maps.Own
import Derived.Maps.Views
import Derived.Maps.OwnOps
import Derived.DeepKeys4
namespace Go.Proofs.Ytioclbkgfbjpdaa
open Go.RowKit Go.Own Go.Maps
set_option linter.unusedVariables false
set_option linter.unusedSimpArgs false
theorem place_laid : laidOutB Try.prog = true := by kernel_rfl
theorem place_row : (159 : TypeId) < Try.prog.types.size := of_decide_eq_true (by kernel_rfl)
theorem place_wide : (match Try.prog.underlying 159 with | some (.array _ _) | some (.struct _) => true | _ => false) = true := by rw [Try.underlying159]
set_option maxRecDepth 100000 in
theorem place_law : WideMaps.KeyLaw Try.prog 159 := deep_law_laid place_laid (m := 2) (by omega) place_row (by kernel_rfl) place_wide
theorem place_keyed : Keyed Try.prog 159 := Keyed.of_law place_law
theorem wfn : ∀ n : Nat, n < 256 → (Lit.int .i64 (n : Nat)).wf = true := by decide +kernel
/-- The key of a place. -/
def pl (r u : Nat) : Lit := .string (keyBytes [.int .i64 (r : Nat), .int .i64 (u : Nat)])
theorem pl_of {r u : Nat} (hr : r < 256) (hu : u < 256) : keyOf Try.prog 159 (.agg #[.int .i64 (r : Nat), .int .i64 (u : Nat)]) = some (pl r u) := by
  unfold keyOf
  rw [Try.underlying159]
  dsimp only
  rw [if_pos (by rw [show Try.prog.keyType 159 = true by kernel_rfl]; simp [Value.formed, Try.underlying159, show Try.prog.cellsOf 159 = 2 by kernel_rfl])]
  have hk : Try.prog.keyLits (Try.prog.types.size + 1) 159 (Value.agg #[.int .i64 (r : Nat), .int .i64 (u : Nat)]).cells.toList = some [.int .i64 (r : Nat), .int .i64 (u : Nat)] := by
    obtain ⟨m, hm⟩ : ∃ m, Try.prog.types.size = m + 1 := Nat.exists_eq_succ_of_ne_zero (Nat.ne_of_gt (Nat.lt_of_le_of_lt (Nat.zero_le _) place_row))
    have c1 : Try.prog.cellsOf 159 = 2 := by kernel_rfl
    have c2 : Try.prog.cellsOf 3 = 1 := by kernel_rfl
    have w1 : (Lit.int .i64 (r : Nat)).wf = true := wfn _ hr
    have w2 : (Lit.int .i64 (u : Nat)).wf = true := wfn _ hu
    rw [hm]
    simp [Program.keyLits, Try.underlying159, Try.underlying3, c1, c2, Value.cells, w1, w2, List.range_succ]
  rw [hk]
  rfl
theorem pl_inj {r u r' u' : Nat} (hr : r < 256) (hu : u < 256) (hr' : r' < 256) (hu' : u' < 256) (h : pl r u = pl r' u') : r = r' ∧ u = u' := by
  have h1 := pl_of hr hu
  have h2 := pl_of hr' hu'
  rw [← h] at h2
  have := place_keyed.inj h1 h2
  simp at this
  omega
/-- How ways read. -/
def wyL : List Value → Option (List (DataW Nat))
  | [] => some []
  | .int k z :: l => (wyL l).map fun r => .lit (.int k z) :: r
  | _ => none
def wyR : Value → Option (DataW Nat × List MemPlace)
  | .agg cs => (wyL cs.toList).map fun l => (.agg l, [])
  | _ => none
theorem wyL_inj : ∀ {l l' : List Value} {r : List (DataW Nat)}, wyL l = some r → wyL l' = some r → l = l'
  | [], [], _, _, _ => rfl
  | [], a :: l', r, h, h' => by
    simp [wyL] at h
    subst h
    cases a <;> simp [wyL] at h'
  | a :: l, [], r, h, h' => by
    simp [wyL] at h'
    subst h'
    cases a <;> simp [wyL] at h
  | a :: l, b :: l', r, h, h' => by
    cases a with
    | int k z =>
      cases b with
      | int k' z' =>
        simp only [wyL, Option.map_eq_some_iff] at h h'
        obtain ⟨x, hx, rfl⟩ := h
        obtain ⟨y, hy, e⟩ := h'
        injection e with e1 e2
        subst e2
        injection e1 with e1
        injection e1 with e1 e3
        subst e1 e3
        rw [wyL_inj hx hy]
      | _ => simp [wyL] at h'
    | _ => simp [wyL] at h
theorem wyR_inj {v v' : Value} {ps : List MemPlace} {d : DataW Nat} (h : wyR v = some (d, ps)) (h' : wyR v' = some (d, ps)) : v = v' := by
  unfold wyR at h h'
  split at h
  · split at h'
    · rename_i cs _ cs'
      simp only [Option.map_eq_some_iff] at h h'
      obtain ⟨x, hx, e⟩ := h
      obtain ⟨y, hy, e'⟩ := h'
      injection e with e _
      injection e' with e' _
      rw [← e] at e'
      injection e' with e'
      subst e'
      rw [Array.toList_inj.1 (wyL_inj hx hy)]
    · cases h'
  · cases h
def wyD (x : Wy) : DataW Nat := .agg [.lit (.int .i64 (x.n : Nat)), .lit (.int .i8 (x.b 0)), .lit (.int .i8 (x.b 1)), .lit (.int .i8 (x.b 2)), .lit (.int .i8 (x.b 3)), .lit (.int .i8 (x.b 4)), .lit (.int .i8 (x.b 5)), .lit (.int .i64 (x.d : Nat))]
theorem wyR_mk (x : Wy) : wyR (.agg #[.int .i64 ((Wy.n x : Nat) : Int), .int .i8 (Wy.b x 0), .int .i8 (Wy.b x 1), .int .i8 (Wy.b x 2), .int .i8 (Wy.b x 3), .int .i8 (Wy.b x 4), .int .i8 (Wy.b x 5), .int .i64 ((Wy.d x : Nat) : Int)]) = some (wyD x, []) := rfl
/-- A table of ways: block b; F: the ways at each place. -/
structure WTab (w : World) (b n : Nat) (F : Nat → Nat → Wy) (D : DataW Nat) : Prop where
  own : w.ownsMap Try.prog 159 wyR b n D
  get : ∀ r u, r < 256 → u < 256 → D.atKey (pl r u) (wyD Wy.zero) = wyD (F r u)
theorem WTab.kept {w w' : World} {b n : Nat} {F : Nat → Nat → Wy} {D : DataW Nat} {row : Option Nat} (h : WTab w b n F D) (hg : w.grownBy w' row) (hne : some b ≠ row) : WTab w' b n F D := ⟨h.own.kept hg hne, h.get⟩
theorem grown_belowS {w w' : World} (h : Below w.heap.size w w') : w.grownBy w' none := ⟨h.os, h.tape, h.output, h.size, fun k hk _ => h.block k hk⟩
theorem WTab.below {w w' : World} {b n : Nat} {F : Nat → Nat → Wy} {D : DataW Nat} (h : WTab w b n F D) (hb : Below w.heap.size w w') : WTab w' b n F D := h.kept (grown_belowS hb) (by simp)
theorem wtab_made (w : World) : WTab (w.alloc (.map #[] 0)) w.heap.size 0 (fun _ _ => Wy.zero) (.map []) :=
  ⟨World.ownsMap_made w _ _ _, fun _ _ _ _ => rfl⟩
def updW (F : Nat → Nat → Wy) (r u : Nat) (x : Wy) : Nat → Nat → Wy := fun r' u' => if r' = r ∧ u' = u then x else F r' u'
theorem WTab.put {w w' : World} {b n n' r u : Nat} {F : Nat → Nat → Wy} {D : DataW Nat} (h : WTab w b n F D) (hr : r < 256) (hu : u < 256) (x : Wy) (h' : w'.ownsMap Try.prog 159 wyR b n' (D.put (pl r u) (wyD x))) : WTab w' b n' (updW F r u x) (D.put (pl r u) (wyD x)) := by
  have hm := h.own.isMap
  have hk := place_keyed.key (pl_of hr hu)
  refine ⟨h', fun r' u' hr' hu' => ?_⟩
  by_cases e : r' = r ∧ u' = u
  · obtain ⟨rfl, rfl⟩ := e
    rw [Maps.atKey_put_same hm hk]
    simp [updW]
  · rw [Maps.atKey_put_other (fun e' => e (by have := pl_inj hr' hu' hr hu e'; exact this)), h.get r' u' hr' hu']
    simp only [updW, if_neg e]
set_option maxRecDepth 100000 in
/-- A look-up, as an equation. -/
theorem WTab.look {w : World} {b n r u : Nat} {F : Nat → Nat → Wy} {D : DataW Nat} (h : WTab w b n F D) (hr : r < 256) (hu : u < 256) :
    (Instr.lookup 150 (.map (some b)) (.agg #[.int .i64 (r : Nat), .int .i64 (u : Nat)]) false).run Try.prog w = .ok (.agg #[.int .i64 ((Wy.n (F r u) : Nat) : Int), .int .i8 (Wy.b (F r u) 0), .int .i8 (Wy.b (F r u) 1), .int .i8 (Wy.b (F r u) 2), .int .i8 (Wy.b (F r u) 3), .int .i8 (Wy.b (F r u) 4), .int .i8 (Wy.b (F r u) 5), .int .i64 ((Wy.d (F r u) : Nat) : Int)]) w := by
  obtain ⟨v, ps, hrun, hv⟩ := h.own.lookup place_keyed Try.underlying150 (zero_wy w) (wyR_mk Wy.zero) (pl_of hr hu)
  rw [h.get r u hr hu] at hv
  have hps : ps = [] := by
    unfold wyR at hv
    split at hv
    · simp only [Option.map_eq_some_iff] at hv
      obtain ⟨x, _, e⟩ := hv
      injection e with _ e
      exact e.symm
    · cases hv
  subst hps
  obtain rfl := wyR_inj hv (wyR_mk (F r u))
  exact hrun
end Go.Proofs.Ytioclbkgfbjpdaa
