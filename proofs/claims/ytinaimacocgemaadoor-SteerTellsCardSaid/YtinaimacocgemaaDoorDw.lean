/- Layer 23: what the wheels' axes read as. -/
import Derived.Test.YtinaimacocgemaaDoorRows
import Derived.Lib.LaidTab
import Derived.LaidMore
import Derived.OpenShut
import Derived.Stop.Joined
import Derived.ProofKit
namespace Go.Proofs.YtinaimacocgemaaDoor
open Go.RowKit
set_option linter.unusedVariables false
/-- The four axes. -/
def waL : List (List Int) := [[1, 1, 1], [1, -1, -1], [-1, 1, -1], [-1, -1, 1]]
def wa (i j : Nat) : Int := (waL.getD i []).getD j 0
/-- The variable holds them. -/
structure WAx (W : World) : Prop where
  lt : 0 < W.heap.size
  c : ∀ i, i < 4 → ∀ j, j < 3 → W.cell? ⟨0, i * 3 + j, none⟩ = some (.int .i32 (wa i j))
theorem WAx.below {w w' : World} {B : Nat} (h : WAx w) (hb : Below B w w') (hB : 0 < B) : WAx w' :=
  ⟨Nat.lt_of_lt_of_le h.lt hb.size, fun i hi j hj => (hb.cell (p := ⟨0, i * 3 + j, none⟩) hB).trans (h.c i hi j hj)⟩
theorem cells_tab2 {H : Type} {enc : TypeId × Value → H} {P : Program} {w : World} {base : Nat} {sp : Nat → Bool} {held : Bool} {fuel : Nat} {t e u : TypeId} {n m : Nat} {k : IntKind} {cs : List Value} {rows : List (List Int)} {p : List MemPlace}
    (ht : P.underlying t = some (.array n e)) (he : P.underlying e = some (.array m u)) (hu : P.underlying u = some (.int k)) (hcu : P.cellsOf u = 1) (hce : P.cellsOf e = m)
    (h : DataW.trod enc P w base sp held fuel t cs = some (.agg (rows.map (Lib.tabData k)), p)) (i j : Nat) (hi : i < n) (hj : j < m) : cs[i * m + j]? = ((rows.getD i []).map (Value.int k))[j]? := by
  obtain ⟨xs, q, rfl, hx, hl, hn, hel⟩ := DataW.trod_array ht h
  simp only [Prod.mk.injEq, DataW.agg.injEq] at hx
  have h1 := hel i hi
  rw [hce] at h1
  obtain ⟨x, hxi⟩ : ∃ x, xs[i]? = some x := ⟨xs[i], List.getElem?_eq_getElem (by omega)⟩
  rw [hxi] at h1
  have h2 : (rows.map (Lib.tabData k) : List (DataW H))[i]? = some x.1 := by rw [hx.1, List.getElem?_map, hxi]; rfl
  rw [List.getElem?_map] at h2
  obtain ⟨zs, hz, hzx⟩ := Option.map_eq_some_iff.1 h2
  have h3 : DataW.trod enc P w base sp held q e ((cs.drop (i * m)).take m) = some (Lib.tabData k zs, x.2) := by rw [h1, hzx]
  have h4 := Lib.cells_of_tab he hu hcu hce h3
  have h5 : (rows.getD i []) = zs := by rw [List.getD, hz]; rfl
  rw [h5, ← h4, List.getElem?_take, if_pos hj, List.getElem?_drop]
theorem gWheel : Tryd.prog.globalNamed "aerie/steer.wheelAxes" = some 0 := by kernel_rfl
theorem tWheel : (Tryd.prog.globals[0]?).map (·.type) = some 46 := by kernel_rfl
theorem wax_of {W : World} (h : laidMetH Tryd.prog [("aerie/steer.wheelAxes", Rows.laid_aerie_steer_wheelAxes)] W) : WAx W := by
  rw [MakeChecks.laidMetH_plain _ _ _ (by kernel_rfl)] at h
  obtain ⟨ps, ⟨g0, t0, cs0, f0, p0, q0, hg0, ht0, hv0, hd0, _, _⟩, _, _⟩ := h
  obtain rfl := Option.some.inj (gWheel.symm.trans hg0)
  obtain rfl := Option.some.inj (tWheel.symm.trans ht0)
  have hc : ∀ i, i < 4 → ∀ j, j < 3 → W.cell? ⟨0, i * 3 + j, none⟩ = some (.int .i32 (wa i j)) := fun i hi j hj => by
    have h1 := World.var?_cell gWheel hv0 (i * 3 + j)
    have h2 := cells_tab2 (rows := waL) Tryd.underlying46 Tryd.underlying23 Tryd.underlying21 (by kernel_rfl) (by kernel_rfl) hd0 i j hi hj
    rw [h1, ← Array.getElem?_toList, h2]
    rcases (by omega : i = 0 ∨ i = 1 ∨ i = 2 ∨ i = 3) with rfl | rfl | rfl | rfl <;> rcases (by omega : j = 0 ∨ j = 1 ∨ j = 2) with rfl | rfl | rfl <;> rfl
  exact ⟨World.block_lt_of_cell? W _ (hc 0 (by decide) 0 (by decide)), hc⟩
end Go.Proofs.YtinaimacocgemaaDoor
