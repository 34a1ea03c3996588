/- Layer 13: the document's example; units that never answer, units that are unwell. -/
import Derived.Test.YtkgeeohgfbacaaaUn
namespace Go.Proofs.Ytkgeeohgfbacaaa
open Go.RowKit Go.Own
set_option linter.unusedVariables false
set_option linter.unusedSimpArgs false
theorem Un.inj {s l b s' l' b' : Int} (h : Un.mk s l b = Un.mk s' l' b') : s = s' ∧ l = l' ∧ b = b' := by
  injection h with h1 h2 h3
  exact ⟨h1, h2, h3⟩
theorem Step_det (s l b : Int) (ack well : Bool) (wt tol s' l' b' n' : Int) (w : World) (l0 : 0 ≤ l) (l1 : l ≤ 255) (b0 : 0 ≤ b) (b1 : b ≤ 255) (t1 : tol ≤ 255) (hu : Un.mk s' l' b' = uStep ⟨s, l, b⟩ ack well tol) (hn : n' = uBec ⟨s, l, b⟩ ack well tol) :
    Calls Try.prog 99 #[.agg #[.int .u8 s, .int .u8 l, .int .u8 b], .bool ack, .bool well, .agg #[.int .u8 wt, .int .u8 tol]] w fun e w' => e = .returned (.tuple #[.agg #[.int .u8 s', .int .u8 l', .int .u8 b'], .int .u8 n']) ∧ Below w.heap.size w w' := by
  refine (Step_any s l b ack well wt tol w l0 l1 b0 b1 t1).mono ?_
  rintro e w' ⟨s2, l2, b2, n2, rfl, h2, h3, hb⟩
  obtain ⟨rfl, rfl, rfl⟩ := Un.inj (h2.trans hu.symm)
  obtain rfl := h3.trans hn.symm
  exact ⟨rfl, hb⟩
/-- Where a law on one unit stands: its base, its rule's block, its unit's block. -/
structure USt (w wr : World) (gr gu : Nat) (wt tol s l b : Int) : Prop where
  be : Below w.heap.size w wr
  br : wr.heap[gr]? = some (.cells #[.int .u8 wt, .int .u8 tol] 90 (0, 0))
  bu : wr.heap[gu]? = some (.cells #[.int .u8 s, .int .u8 l, .int .u8 b] 88 (0, 0))
  hu : w.heap.size ≤ gu
  ne : gr ≠ gu
theorem USt.step {w wr w' : World} {gr gu k : Nat} {wt tol s l b : Int} (h : USt w wr gr gu wt tol s l b) (hb : Below k wr w') (hk : wr.heap.size ≤ k) : USt w w' gr gu wt tol s l b :=
  ⟨h.be.trans (hb.mono (Nat.le_trans h.be.size hk)), box_below h.br hb (Nat.lt_of_lt_of_le (box_lt h.br) hk), box_below h.bu hb (Nat.lt_of_lt_of_le (box_lt h.bu) hk), h.hu, h.ne⟩
theorem USt.put {w wr : World} {gr gu : Nat} {wt tol s l b : Int} (h : USt w wr gr gu wt tol s l b) (s' l' b' : Int) : USt w (wr.setRow gu #[.int .u8 s', .int .u8 l', .int .u8 b']) gr gu wt tol s' l' b' :=
  ⟨bel_row h.be h.hu _, (setRow_other _ gu gr _ h.ne).trans h.br, setRow_heap _ gu _ _ _ _ h.bu, h.hu, h.ne⟩
theorem USt.new {w w1 : World} {gr : Nat} {wt tol : Int} (hb : Below w.heap.size w w1) (hr : w1.heap[gr]? = some (.cells #[.int .u8 wt, .int .u8 tol] 90 (0, 0))) (s l b : Int) : USt w (w1.alloc (.cells #[.int .u8 s, .int .u8 l, .int .u8 b] 88)) gr w1.heap.size wt tol s l b :=
  ⟨hb.alloc hb.size _, (Below.heap_alloc _ _ _ (box_lt hr)).trans hr, heap_alloc_new _ _, hb.size, Nat.ne_of_lt (box_lt hr)⟩
def uQ (wt : Int) (k : Nat) : Un := if (k : Int) ≤ wt then ⟨1, wt - k, 0⟩ else ⟨3, 0, 0⟩
def uT (tol : Int) (k : Nat) : Un := if (k : Int) ≤ tol then ⟨2, 0, k⟩ else ⟨3, 0, 0⟩
theorem uQ_step {wt tol : Int} {k : Nat} (well : Bool) (h : (k : Int) ≤ wt) : uStep ⟨1, wt - k, 0⟩ false well tol = uQ wt (k + 1) := by
  unfold uStep uQ
  rw [if_pos rfl, if_neg (by decide)]
  by_cases e : wt - k = 0
  · rw [if_pos e, if_neg (by omega)]
  · rw [if_neg e, if_pos (by omega)]
    simp only [Un.mk.injEq, and_true, true_and]
    omega
theorem uT_step {tol : Int} {k : Nat} {ack well : Bool} (hn : (ack && well) = false) (h : (k : Int) ≤ tol) : uStep ⟨2, 0, k⟩ ack well tol = uT tol (k + 1) := by
  unfold uStep uT
  rw [if_neg (show ¬ (2 : Int) = 1 by decide), if_pos rfl, hn, if_neg (by decide)]
  by_cases e : tol ≤ k
  · rw [if_pos e, if_neg (by omega)]
  · rw [if_neg e, if_pos (by omega)]
    simp
end Go.Proofs.Ytkgeeohgfbacaaa
