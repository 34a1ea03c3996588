/- GuardHolds: the walk. -/
import Derived.Test.YtdlkonbjmmepoaaLaw07h
namespace Go.Proofs.Ytdlkonbjmmepoaa
open Go.RowKit Go.Own
set_option linter.unusedVariables false
set_option linter.unusedSimpArgs false

theorem isRow_u16 {w : World} {a : Option Addr} {len cap : Nat} {z : List Int} (h : IsRow .u16 w a len cap z) : ∃ ns : Nat → Nat, (∀ i, ns i < 65536) ∧ Rd w.heap.size w a len cap (fun i => .int .u16 ((ns i : Nat) : Int)) := by
  rcases h with ⟨rfl, rfl, rfl, rfl⟩ | ⟨x, rfl, hl, hm, hz, hcell, hwz⟩
  · exact ⟨fun _ => 0, fun _ => (by decide : (0 : Nat) < 65536), Rd.none_ _ _ _⟩
  · have hb : ∀ i, 0 ≤ z.getD i 0 ∧ z.getD i 0 ≤ 65535 := by
      intro i
      by_cases hi : i < z.length
      · simp only [List.getD, List.getElem?_eq_getElem hi, Option.getD_some]
        exact bounds_u16 (hwz _ (List.getElem_mem hi))
      · simp only [List.getD, List.getElem?_eq_none (Nat.le_of_not_lt hi), Option.getD_none]; omega
    refine ⟨fun i => (z.getD i 0).toNat, fun i => (by have := hb i; show (z.getD i 0).toNat < 65536; omega), (rd_of_row hl hm (by omega) hcell).same fun i hi => ?_⟩
    rw [Int.toNat_of_nonneg (hb i).1]
/-- Where the law stands: memory, boxes, the last data, what is written. -/
structure St (w0 w : World) (g ba bm at_ : Nat) (v : Nat → Value) (ls : Nat → List Nat) (a b : Option Addr) (m n ca cb : Nat) (L P : List Nat) : Prop where
  B : Below w0.heap.size w0 w
  M : MemS w g g v ls
  xa : w.heap[ba]? = some (.cells #[.int .u16 (at_ : Nat)] 31 (0, 0))
  xm : w.heap[bm]? = some (.cells #[.pointer (some ⟨g, 0, none⟩)] 26 (0, 0))
  lr : w.ownsRow w0.heap.size 5 1 (.slice a m ca) m (bl L)
  lo : Off g v (.slice a m ca)
  pr : w.ownsRow w0.heap.size 5 1 (.slice b n cb) n (bl P)
  po : Off g v (.slice b n cb)
  hg : w0.heap.size ≤ g
  na : ba ≠ g
  nm : bm ≠ g
variable {w0 w w' : World} {g ba bm at_ m n ca cb : Nat} {v v' : Nat → Value} {ls ls' : Nat → List Nat} {a b : Option Addr} {L P : List Nat}
theorem St.step (h : St w0 w g ba bm at_ v ls a b m n ca cb L P) (hm : MemS w' g g v' ls') (s : MStep g v v' w w') : St w0 w' g ba bm at_ v' ls' a b m n ca cb L P :=
  ⟨h.B.trans ((s.below h.M).mono h.hg), hm, box_step s h.M h.xa h.na (by decide), box_step s h.M h.xm h.nm (by decide), (s.row h.lr h.lo).1, (s.row h.lr h.lo).2, (s.row h.pr h.po).1, (s.row h.pr h.po).2, h.hg, h.na, h.nm⟩
theorem St.below (h : St w0 w g ba bm at_ v ls a b m n ca cb L P) (hb : Below w.heap.size w w') : St w0 w' g ba bm at_ v ls a b m n ca cb L P :=
  ⟨h.B.trans (hb.mono h.B.size), h.M.below hb, box_below h.xa hb (box_lt h.xa), box_below h.xm hb (box_lt h.xm), own_keep h.lr hb, h.lo, own_keep h.pr hb, h.po, h.hg, h.na, h.nm⟩
theorem St.rdP (h : St w0 w g ba bm at_ v ls a b m n ca cb L P) (hP : P.length = n) : Rd w.heap.size w b P.length cb (bv P) := by
  rw [hP]; exact rd_of_own h.pr (fun i hi => bl_at P (by rw [hP]; exact hi))
theorem St.rdL (h : St w0 w g ba bm at_ v ls a b m n ca cb L P) (hL : L.length = m) : Rd w.heap.size w a L.length ca (bv L) := by
  rw [hL]; exact rd_of_own h.lr (fun i hi => bl_at L (by rw [hL]; exact hi))
theorem Fine.of (n : Nat) {P : List Nat} (hb : bytes P) (hl : P.length ≤ 200) : Fine (mkCell n P) := ⟨mkCell_bytes hb, mkCell_err _ _ hl, by rw [mkCell_len]; omega⟩
theorem Fine.ne {c : List Nat} (h : Fine c) : c ≠ [] := fun e => by have := h.len; rw [e] at this; simp at this
theorem sel_len {c d : List Nat} {ls : Nat → List Nat} (hd : Fine d) (h : ∀ i, i < 3 → 8 ≤ (ls i).length) : ∀ i, i < 3 → 8 ≤ (sel4 d (ls 1) (ls 2) d i).length := by
  intro i hi
  rcases three_cases hi with rfl | rfl | rfl
  · exact hd.len
  · exact h 1 (by omega)
  · exact h 2 (by omega)
theorem A1_len {c : List Nat} (hc : Fine c) (at_ : Nat) : ∀ i, i < 3 → 8 ≤ (A1 c at_ i).length := fun i hi => by
  unfold A1; rw [hitL_len, sel_at c hi]; exact hc.len
theorem A2_len {c d : List Nat} (hc : Fine c) (hd : Fine d) (at_ : Nat) : ∀ i, i < 3 → 8 ≤ (A2 c d at_ i).length := fun i hi => by
  unfold A2; rw [hitL_len]; exact sel_len (c := c) hd (A1_len hc at_) i hi
theorem A4_len {c d : List Nat} (hc : Fine c) (hd : Fine d) (at_ : Nat) : ∀ i, i < 3 → 8 ≤ (sel4 (A2 c d at_ 0) d d [] i).length := by
  intro i hi
  rcases three_cases hi with rfl | rfl | rfl
  · exact A2_len hc hd at_ 0 (by omega)
  · exact hd.len
  · exact hd.len
theorem A1_3 (c : List Nat) (at_ : Nat) : A1 c at_ 3 = [] := by unfold A1; rw [hitL_3]; rfl
theorem A2_3 (c d : List Nat) (at_ : Nat) : A2 c d at_ 3 = d := by unfold A2; rw [hitL_3]; rfl
/-- The closure, from where the law stands. -/
theorem St.hit {when : Nat} (h : St w0 w g ba bm at_ v ls a b m n ca cb L P) (h8 : ∀ i, i < 3 → 8 ≤ (ls i).length) (hat : at_ < 65536) (hwh : when < 4) :
    Calls Try.prog 19 #[.int .u16 (when : Nat), .pointer (some ⟨ba, 0, none⟩), .pointer (some ⟨bm, 0, none⟩)] w fun e w' => (∃ u, e = .returned u) ∧ St w0 w' g ba bm at_ v (hitL when at_ ls) a b m n ca cb L P := by
  refine (hit_any h.M h8 hat hwh h.xa h.xm).mono ?_
  rintro e w' ⟨hu, hm, hs⟩
  exact ⟨hu, h.step hm hs⟩
theorem drew0 (w : World) : w.drewN 0 = w := rfl
theorem same_at {wq : World} {x a : Option Addr} {q m xc ca n1 n2 : Nat} {P L : List Nat} (hP : P.length = q) (hL : L.length = m) (r1 : wq.ownsRow n1 5 1 (.slice x q xc) q (bl P)) (r2 : wq.ownsRow n2 5 1 (.slice a m ca) m (bl L)) (b1 : bytes P) (b2 : bytes L) (j : Nat) :
    Calls Try.prog 25 #[.slice x q xc, .slice a m ca] (wq.drewN j) fun e w' => e = .returned (.bool (decide (P = L))) ∧ ∃ j', w' = wq.drewN j' := by
  refine (Same_any x a q m xc ca wq.heap.size wq.heap.size P L (wq.drewN j) hP hL ((rd_of_own r1 (fun i hi => bl_at P (by rw [hP]; exact hi))).below (below_drews _ _ _)) ((rd_of_own r2 (fun i hi => bl_at L (by rw [hL]; exact hi))).below (below_drews _ _ _)) b1 b2).mono ?_
  rintro e w' ⟨rfl, i, rfl⟩
  exact ⟨rfl, _, World.drewN_drewN _ _ _⟩
end Go.Proofs.Ytdlkonbjmmepoaa
