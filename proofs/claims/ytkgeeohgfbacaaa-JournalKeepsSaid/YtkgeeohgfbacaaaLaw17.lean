/- Layer 17: the law's fixed question. -/
import Derived.Test.YtkgeeohgfbacaaaJm
namespace Go.Proofs.Ytkgeeohgfbacaaa.Je
open Go.RowKit Go.Own Go.Shelf
set_option linter.unusedVariables false
set_option linter.unusedSimpArgs false
theorem own_cell {w : World} {base m : Nat} {a : Option Addr} {c : Nat} {l : List En} (h : w.ownsRow base 143 5 (.slice a m c) m (ql l)) (hl : l.length = m) (h0 : 0 < m) : ∃ g, a = some ⟨g, 0, none⟩ ∧ base ≤ g ∧ g < w.heap.size ∧ ∀ i, i < m → w.rangeAt g (i * 5) (l.getD i en0).cs := by
  obtain ⟨g, e, h1, h2, _⟩ := own_range h hl h0
  refine ⟨g, e, h1, h2, fun i hi => ?_⟩
  obtain ⟨g', e', _, _, h3⟩ := own_range h hl hi
  rw [e] at e'
  cases e'
  exact h3
set_option maxRecDepth 100000 in
set_option maxHeartbeats 2000000 in
theorem awake17 (w : World) : Calls Try.prog 58 #[] w fun e w' => e = .returned (.bool true) ∧ Below w.heap.size w w' := by
  go_enter Try.func58, Try.ntmps58
  go_wp2_with fail
  go_at_call 59
  refine (jNew_ok 2 w (by decide) (by decide)).mono ?_
  rintro e w1 ⟨gj, g, b, rfl, h1, hj, hg, hb, hbe⟩
  have H1 := Lib.hid (show JS w1 gj g b 2 (lastn 2 []) 0 from h1)
  have K1 := Lib.hid hbe
  clear h1 hbe
  go_wp2_with fail
  refine wp_loop_rounds 4 ?_
  rw [rounds_succ]
  go_wp2_with fail
  go_at_call 60
  refine (jNote 0 1 0 0 H1.out).mono ?_
  rintro e w2 ⟨rfl, h2, k2⟩
  have H2 := Lib.hid (show JS w2 gj g b 2 (lastn 2 [⟨1, 0, 1, 0, 0⟩]) 0 from h2)
  have K2 := Lib.hid (K1.out.trans (k2.below hg hb K1.out.size))
  clear h2 k2 H1 K1
  go_wp2_with fail
  rw [rounds_succ]
  go_wp2_with fail
  go_at_call 60
  refine (jNote 1 1 0 0 H2.out).mono ?_
  rintro e w3 ⟨rfl, h3, k3⟩
  have H3 := Lib.hid (show JS w3 gj g b 2 (lastn 2 [⟨1, 0, 1, 0, 0⟩, ⟨2, 1, 1, 0, 0⟩]) 0 from h3)
  have K3 := Lib.hid (K2.out.trans (k3.below hg hb K2.out.size))
  clear h3 k3 H2 K2
  go_wp2_with fail
  rw [rounds_succ]
  go_wp2_with fail
  go_at_call 60
  refine (jNote 2 1 0 0 H3.out).mono ?_
  rintro e w4 ⟨rfl, h4, k4⟩
  have H4 := Lib.hid (show JS w4 gj g b 2 [⟨2, 1, 1, 0, 0⟩, ⟨3, 2, 1, 0, 0⟩] 1 from h4)
  have K4 := Lib.hid (K3.out.trans (k4.below hg hb K3.out.size))
  clear h4 k4 H3 K3
  go_wp2_with fail
  rw [rounds_succ]
  go_wp2_with fail
  go_at_call 63
  refine (jAll H4.out.jr).mono ?_
  rintro e w5 ⟨v, rfl, ho, hb5⟩
  obtain ⟨a, c, rfl⟩ := own_form ho
  obtain ⟨gr, rfl, hgr, _, hcs⟩ := own_cell ho rfl (by decide)
  have a0 := hcs 0 (by decide) 0 _ rfl
  have a1 := hcs 1 (by decide) 0 _ rfl
  have H5 := Lib.hid (H4.out.below hb5 (Nat.le_refl _))
  have K5 := Lib.hid (K4.out.trans (hb5.mono K4.out.size))
  clear hcs ho hb5 H4 K4
  go_wp2_with fail
  go_at_call 66
  refine (jLost H5.out.jr).mono ?_
  rintro e w6 ⟨rfl, rfl⟩
  go_wp2
  go_ret
  exact ⟨rfl, K5.out⟩
end Go.Proofs.Ytkgeeohgfbacaaa.Je
