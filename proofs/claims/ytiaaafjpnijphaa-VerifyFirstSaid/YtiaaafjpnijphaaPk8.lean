/- Space packets: the document's own reading. -/
import Derived.Test.YtiaaafjpnijphaaPk7
namespace Go.Proofs.Ytiaaafjpnijphaa
open Go.RowKit Go.Own
set_option linter.unusedVariables false
set_option linter.unusedSimpArgs false

theorem rd_seg {n len cap b off k m : Nat} {l : List Nat} {w : World} (h : Rd n w (some ⟨b, off, none⟩) len cap (bv l)) (hk : k + m ≤ len) : Rd n w (some ⟨b, off + k, none⟩) m (cap - k) (bv ((l.drop k).take m)) := by
  have h1 := h.le
  have h2 := h.top
  refine ⟨by omega, by omega, fun h => (by cases h), fun h0 => ?_⟩
  obtain ⟨b', off', e, hb, hc⟩ := h.row (by omega)
  simp at e
  obtain ⟨rfl, rfl⟩ := e
  refine ⟨b, off + k, rfl, hb, fun i hi => ?_⟩
  rw [Nat.add_assoc, hc (k + i) (by omega)]
  unfold bv
  simp [List.getD, List.getElem?_drop, List.getElem?_take, hi]
theorem val_seg (l : List Nat) (k : Nat) (h : k + 2 ≤ l.length) : val ((l.drop k).take 2) = l.getD k 0 * 256 + l.getD (k + 1) 0 := by
  rw [seg_two l k h]
  simp [val]
  omega
theorem Cut_z (z : Int) (a : Option Addr) (len cap : Nat) (l : List Nat) (n : Nat) (w : World) (hz : z = (n : Int)) (hl : l.length = len) (hr : Rd w.heap.size w a len cap (bv l)) (hn : n ≤ 1000) :
    Calls Try.prog 28 #[.slice a len cap, .int .i64 z] w fun e w' => ∃ v, e = .returned v ∧ w'.ownsRow w.heap.size 5 1 v (min n len) (bl (l.take n)) ∧ Below w.heap.size w w' := by
  subst hz
  exact Cut_any a len cap l n w hl hr hn
end Go.Proofs.Ytiaaafjpnijphaa
