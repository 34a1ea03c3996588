/- QueueOwns: what was put, and what is told, is nobody else's. -/
import Derived.Test.YtioclbkgfbjpdaaLaw11
namespace Go.Proofs.Ytioclbkgfbjpdaa
open Go.RowKit Go.Own
set_option linter.unusedVariables false
set_option linter.unusedSimpArgs false
/-- m bytes lie in block b, and may be written. -/
structure Wr (w : World) (b m : Nat) : Prop where
  lt : b < w.heap.size
  cell : ∀ i, i < m → ∃ n : Nat, n < 256 ∧ w.cell? ⟨b, i, none⟩ = some (.int .u8 (n : Nat))
  fz : ∀ i, i < m → w.frozen? ⟨b, i, none⟩ = false
theorem Wr.of_own {w : World} {base m c : Nat} {a : Option Addr} {l : List Nat} (h : w.ownsRow base 5 1 (.slice a m c) m (bl l)) (hl : l.length = m) (hb : bytes l) (hm : 0 < m) : ∃ b, a = some ⟨b, 0, none⟩ ∧ base ≤ b ∧ Wr w b m := by
  have hrd := rd_of_own (f := bv l) h (fun i hi => bl_at l (by rw [hl]; exact hi))
  rcases h.2 with ⟨hv, hx⟩ | ⟨g, cap, cur, hv, hb', hg, _⟩
  · omega
  · simp only [Value.slice.injEq] at hv
    obtain ⟨rfl, _, _⟩ := hv
    refine ⟨g, rfl, hb', box_lt hg, fun i hi => ?_, fun i _ => frozen_of_row _ g i _ _ hg⟩
    obtain ⟨b, off, e, _, hc⟩ := hrd.at hi
    simp only [Option.some.injEq, Addr.mk.injEq] at e
    obtain ⟨rfl, rfl, _⟩ := e
    rw [Nat.zero_add] at hc
    exact ⟨l.getD i 0, hb.at i, hc⟩
theorem Wr.set {w : World} {b m i n : Nat} (h : Wr w b m) (hi : i < m) (hn : n < 256) : Wr (w.setCell ⟨b, i, none⟩ (.int .u8 (n : Nat))) b m := by
  refine ⟨by simpa using h.lt, fun j hj => ?_, fun j hj => by rw [World.frozen?_setCell]; exact h.fz j hj⟩
  by_cases e : i = j
  · subst e
    obtain ⟨x, _, hx⟩ := h.cell i hi
    exact ⟨n, hn, World.cell?_setCell_same _ _ _ hx⟩
  · obtain ⟨x, hx, hc⟩ := h.cell j hj
    exact ⟨x, hx, by rw [World.cell?_setCell_other _ _ _ _ (by simp [e])]; exact hc⟩
theorem Wr.same {w w' : World} {b m : Nat} (h : Wr w b m) (hk : w'.heap[b]? = w.heap[b]?) (hs : w.heap.size ≤ w'.heap.size) : Wr w' b m :=
  ⟨Nat.lt_of_lt_of_le h.lt hs, fun i hi => by
    obtain ⟨n, hn, hc⟩ := h.cell i hi
    exact ⟨n, hn, (World.cell?_of_block (a := ⟨b, i, none⟩) hk).trans hc⟩, fun i hi => (World.frozen?_of_block (a := ⟨b, i, none⟩) hk).trans (h.fz i hi)⟩
theorem QuS.other {w w' : World} {B gq g b n cnt d x : Nat} {L : List Rq} (h : QuS w B gq g b n cnt d L) (hk : Kep3 x x x w w') (h1 : gq ≠ x) (h2 : g ≠ x) (h3 : b ≠ x) (hd : ∀ r ∈ L, ∀ y, r.a = some y → y.block < w.heap.size → y.block ≠ x) : QuS w' B gq g b n cnt d L := by
  have hle := h.ring.le
  refine ⟨(hk.block gq (box_lt h.box) h1 h1 h1).trans h.box, h.ring.same (hk.block g hle.2.2.2.2.1 h2 h2 h2) (hk.block b hle.2.2.2.2.2.1 h3 h3 h3), h.ng, h.nb, h.hcnt, h.hg, h.hb, h.hq, fun r hr => ?_⟩
  have hr' := h.data r hr
  exact ⟨hr'.hs, hr'.hu, hr'.hc, hr'.ht, hr'.len, hr'.le, hr'.by_, Rd.away (n := 0) (B := 0) hr'.rd hk.size (fun y hy hlt => by
    have := hd r hr y hy hlt
    exact hk.block _ hlt this this this), hr'.lo⟩
end Go.Proofs.Ytioclbkgfbjpdaa
