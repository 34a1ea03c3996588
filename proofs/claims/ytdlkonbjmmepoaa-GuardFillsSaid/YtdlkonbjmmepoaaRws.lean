/- A slice of slices of bytes that came in, opened. -/
import Derived.Test.YtdlkonbjmmepoaaCel4
import Derived.Deep.Matrix
namespace Go.Proofs.Ytdlkonbjmmepoaa
open Go.RowKit Go.Own Go.ChangeShapes Go.WideShapes
set_option linter.unusedVariables false

/-- A slice of slices of bytes that came in. -/
def IsRows (w : World) (a : Option Addr) (len cap : Nat) : Prop :=
  ∃ (p : Nat → Option Addr) (c : Nat → Nat) (ls : Nat → List Nat), Rd w.heap.size w a len cap (fun i => .slice (p i) (ls i).length (c i)) ∧ ∀ i, i < len → bytes (ls i) ∧ Rd w.heap.size w (p i) (ls i).length (c i) (bv (ls i))
theorem plain_of_cell {w : World} {x : Addr} {f : Nat → Value} {n : Nat} (hn : 0 < n) (hc : ∀ i, i < n → w.cell? (x.add i) = some (f i)) : ∃ b off, x = ⟨b, off, none⟩ ∧ b < w.heap.size ∧ ∀ i, i < n → w.cell? ⟨b, off + i, none⟩ = some (f i) := by
  have h0 := hc 0 hn
  obtain ⟨b, off, spot⟩ := x
  have hspot : spot = none := by simpa [Addr.add] using World.cell?_spot h0
  subst hspot
  refine ⟨b, off, rfl, ?_, fun i hi => ?_⟩
  · have := World.block_lt_of_cell? w _ h0
    simpa [Addr.add] using this
  · have := hc i hi
    rw [← this]
    congr 1
    unfold Addr.add
    split
    · rename_i e; subst e; rfl
    · rfl
theorem isRows_of {H : Type} {enc : TypeId × Value → H} {P : Program} {w : World} {t e q : TypeId} {a : Option Addr} {len cap : Nat} {d : DataW H} {ps : List MemPlace}
    (ht : P.underlying t = some (.slice e)) (he : P.underlying e = some (.slice q)) (hq : P.underlying q = some (.int .u8)) (ce : P.cellsOf e = 1) (cq : P.cellsOf q = 1)
    (h : DataW.Trod enc P w 0 (fun _ => true) true t (.slice a len cap) d ps) : IsRows w a len cap := by
  obtain ⟨fuel, hf⟩ := h
  rcases Go.Deep.open_int_rows ht he hq ce cq hf with ⟨hcs, _⟩ | ⟨x, l, c, A, L, C, Z, hcs, _, hl, hm, _, hx⟩
  · simp [Value.cells] at hcs
    obtain ⟨rfl, rfl, rfl⟩ := hcs
    exact ⟨fun _ => none, fun _ => 0, fun _ => [], Rd.none_ _ _ _, fun i hi => absurd hi (by omega)⟩
  · simp [Value.cells] at hcs
    obtain ⟨rfl, rfl, rfl⟩ := hcs
    have hz : ∀ r, r < cap → ∀ n ∈ Z r, 0 ≤ n ∧ n ≤ 255 := fun r hr n hn => bounds_u8 ((hx r hr).2.2.2.2.1 n hn)
    have hll : ∀ r, r < cap → (((Z r).take (L r)).map Int.toNat).length = L r := fun r hr => by
      obtain ⟨_, h1, _, h3, _⟩ := hx r hr
      simp; omega
    refine ⟨A, C, fun r => ((Z r).take (L r)).map Int.toNat, ?_, fun r hr => ⟨?_, ?_⟩⟩
    · refine ⟨hl, hm, fun h => (by cases h), fun h0 => ?_⟩
      obtain ⟨b, off, rfl, hb, hc⟩ := plain_of_cell (n := cap) (by omega) (fun r hr => (hx r hr).1)
      exact ⟨b, off, rfl, hb, fun i hi => by rw [hc i (by omega), hll i (by omega)]⟩
    · intro b hb
      obtain ⟨n, hn, rfl⟩ := List.mem_map.1 hb
      have := hz r (by omega) n (List.mem_of_mem_take hn)
      omega
    · obtain ⟨_, h1, h2, h3, h4, h5, h6⟩ := hx r (by omega)
      rw [hll r (by omega)]
      refine ⟨h1, h2, h5, fun h0 => ?_⟩
      cases hA : A r with
      | none => have := h5 hA; omega
      | some a' =>
        obtain ⟨_, hc⟩ := h6 a' hA
        obtain ⟨b, off, rfl, hb, hc⟩ := plain_of_cell (n := C r) (by omega) hc
        refine ⟨b, off, rfl, hb, fun i hi => ?_⟩
        rw [hc i (by omega)]
        have hi2 : i < (Z r).length := by omega
        have := hz r (by omega) ((Z r)[i]) (List.getElem_mem hi2)
        unfold bv
        simp only [List.getD, List.getElem?_map, List.getElem?_take, hi, if_true, List.getElem?_eq_getElem hi2, Option.map_some, Option.getD_some]
        rw [Int.toNat_of_nonneg this.1]
end Go.Proofs.Ytdlkonbjmmepoaa
