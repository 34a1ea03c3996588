/- A slice of packets that came in, opened. -/
import Derived.Test.YtfolebogfapmaaaAgg
import Derived.Test.YtfolebogfapmaaaPk5
import Derived.Deep.Slices
namespace Go.Proofs.Ytfolebogfapmaaa
open Go.RowKit Go.Own Go.ChangeShapes Go.WideShapes Go.Deep
set_option linter.unusedVariables false

/-- A slice of packets that came in. -/
def IsPkts (w : World) (a : Option Addr) (len cap : Nat) : Prop :=
  len ≤ cap ∧ cap ≤ maxLen ∧ (a = none → cap = 0) ∧ (0 < len → ∃ b off, a = some ⟨b, off, none⟩ ∧ b < w.heap.size ∧ ∀ i, i < len → ∃ (k : Bool) (ap ct : Nat) (x : Option Addr) (xl xc : Nat) (d : List Nat), ap < 65536 ∧ ct < 65536 ∧ d.length = xl ∧ bytes d ∧ Rd w.heap.size w x xl xc (bv d) ∧
    w.cell? ⟨b, off + i * 4, none⟩ = some (.bool k) ∧ w.cell? ⟨b, off + i * 4 + 1, none⟩ = some (.int .u16 (ap : Nat)) ∧ w.cell? ⟨b, off + i * 4 + 2, none⟩ = some (.int .u16 (ct : Nat)) ∧ w.cell? ⟨b, off + i * 4 + 3, none⟩ = some (.slice x xl xc))
theorem add_plain (b off j : Nat) : (⟨b, off, none⟩ : Addr).add j = ⟨b, off + j, none⟩ := by
  unfold Addr.add
  split
  · rename_i e; subst e; rfl
  · rfl
set_option maxRecDepth 100000 in
theorem isPkts_of {H : Type} {enc : TypeId × Value → H} {w : World} {t : TypeId} {a : Option Addr} {len cap : Nat} {d : DataW H} {ps : List MemPlace}
    (ht : Try.prog.underlying t = some (.slice 28)) (h : DataW.Trod enc Try.prog w 0 (fun _ => true) true t (.slice a len cap) d ps) : IsPkts w a len cap := by
  obtain ⟨fuel, hf⟩ := h
  rcases open_slice ht hf with ⟨hcs, _⟩ | ⟨x, l, c, m, n, D, Pl, hcs, hb, hl, hm, hmm, _, hx⟩
  · simp [Value.cells] at hcs
    obtain ⟨rfl, rfl, rfl⟩ := hcs
    exact ⟨Nat.le_refl _, Nat.zero_le _, fun _ => rfl, fun h => by omega⟩
  · simp [Value.cells] at hcs
    obtain ⟨rfl, rfl, rfl⟩ := hcs
    simp only [if_true] at hmm
    have hmm' := hmm.symm
    subst hmm'
    refine ⟨hl, hm, fun h => (by cases h), fun h0 => ?_⟩
    have ce : Try.prog.cellsOf 28 = 4 := by kernel_rfl
    have each : ∀ i, i < cap → ∃ (k : Bool) (ap ct : Nat) (x' : Option Addr) (xl xc : Nat) (d : List Nat), ap < 65536 ∧ ct < 65536 ∧ d.length = xl ∧ bytes d ∧ Rd w.heap.size w x' xl xc (bv d) ∧
        w.cell? (x.add (i * 4)) = some (.bool k) ∧ w.cell? (x.add (i * 4 + 1)) = some (.int .u16 (ap : Nat)) ∧ w.cell? (x.add (i * 4 + 2)) = some (.int .u16 (ct : Nat)) ∧ w.cell? (x.add (i * 4 + 3)) = some (.slice x' xl xc) := by
      intro i hi
      obtain ⟨cs', h1, h2⟩ := hx i hi
      rw [ce] at h1
      obtain ⟨_, hlen, hcell⟩ := World.cells?_some h1
      obtain ⟨xs, k, hk, hxy, _, hxl, hf⟩ := DataW.trod_struct Try.underlying28 h2
      have cb : Try.prog.cellsOf 4 = 1 := by kernel_rfl
      have cu : Try.prog.cellsOf 26 = 1 := by kernel_rfl
      have cr : Try.prog.cellsOf 23 = 1 := by kernel_rfl
      match cs', hlen, xs, hxl with
      | [v0, v1, v2, v3], _, [y0, y1, y2, y3], _ =>
        have e0 := hcell 0 (by omega)
        have e1 := hcell 1 (by omega)
        have e2 := hcell 2 (by omega)
        have e3 := hcell 3 (by omega)
        rw [add_add] at e0 e1 e2 e3
        have g0 := hf 0 _ rfl
        have g1 := hf 1 _ rfl
        have g2 := hf 2 _ rfl
        have g3 := hf 3 _ rfl
        simp [cb, cu, cr] at g0 g1 g2 g3
        obtain ⟨b0, h0, _⟩ := DataW.trod_bool Try.underlying4 g0
        obtain ⟨n1, h1', _, w1⟩ := DataW.trod_int Try.underlying26 g1
        obtain ⟨n2, h2', _, w2⟩ := DataW.trod_int Try.underlying26 g2
        obtain ⟨a3, l3, c3, z3, h3, w3⟩ := isRow_field Try.underlying23 Try.underlying5 (by kernel_rfl) g3
        obtain ⟨p0, p1⟩ := bounds_u16 w1
        obtain ⟨q0, q1⟩ := bounds_u16 w2
        obtain ⟨n1, rfl⟩ := Int.eq_ofNat_of_zero_le p0
        obtain ⟨n2, rfl⟩ := Int.eq_ofNat_of_zero_le q0
        obtain ⟨l, hl, hb, hr⟩ := isRow_rd w3
        simp at h0 h1' h2'
        subst h0 h1' h2' h3
        exact ⟨b0, n1, n2, a3, l3, c3, l, by omega, by omega, hl, hb, hr, by simpa using e0, by simpa using e1, by simpa using e2, by simpa using e3⟩
    obtain ⟨_, _, _, _, _, _, _, _, _, _, _, _, hc0, _⟩ := each 0 (by omega)
    obtain ⟨b, off, spot⟩ := x
    have hspot : spot = none := by simpa [Addr.add] using World.cell?_spot hc0
    subst hspot
    have hbl : b < w.heap.size := by
      have := World.block_lt_of_cell? w _ hc0
      simpa [Addr.add] using this
    refine ⟨b, off, rfl, hbl, fun i hi => ?_⟩
    obtain ⟨k, ap, ct, x', xl, xc, d, r1, r2, r3, r4, r5, k0, k1, k2, k3⟩ := each i (by omega)
    rw [add_plain] at k0 k1 k2 k3
    exact ⟨k, ap, ct, x', xl, xc, d, r1, r2, r3, r4, r5, k0, k1, k2, k3⟩
end Go.Proofs.Ytfolebogfapmaaa
