/- Layer 16: sleeps: where the law stands. -/
import Derived.Test.YtkgeeohgfbacaaaLaw16r
import Derived.Test.YtkgeeohgfbacaaaLaw16t
import Derived.Test.YtkgeeohgfbacaaaFlo3
import Derived.Deep.CutBlock
import Derived.Deep.DeepCutAuto
namespace Go.Proofs.Ytkgeeohgfbacaaa
open Go.RowKit Go.Own
set_option linter.unusedVariables false
set_option linter.unusedSimpArgs false
/-- The statuses. -/
def scs (s : Nat → Int) : Array Value := Array.ofFn (n := 16) fun k => .int .u8 (s k)
theorem scs_at (s : Nat → Int) {k : Nat} (h : k < 16) : (scs s)[k]? = some (.int .u8 (s k)) := by simp [scs, Array.getElem?_ofFn, h]
theorem scs_size (s : Nat → Int) : (scs s).size = 16 := by simp [scs]
attribute [irreducible] scs
theorem scs_eq {C : Array Value} {s : Nat → Int} (hs : C.size = 16) (h : ∀ i, i < 16 → C[i]? = some (.int .u8 (s i))) : C = scs s := by
  apply Array.ext_getElem?
  intro k
  by_cases hk : k < 16
  · rw [h k hk, scs_at s hk]
  · rw [Array.getElem?_eq_none (by omega), Array.getElem?_eq_none (by rw [scs_size]; omega)]
theorem scs_set (s : Nat → Int) (i : Nat) (v : Int) (h : i < 16) : (scs s).setIfInBounds i (.int .u8 v) = scs (fun j => if j = i then v else s j) := scs_eq (by rw [Array.size_setIfInBounds, scs_size]) fun j hj => by
  by_cases e : j = i
  · subst e
    rw [Array.getElem?_setIfInBounds_self_of_lt (by rw [scs_size]; exact h), if_pos rfl]
  · rw [Array.getElem?_setIfInBounds_ne (Ne.symm e), scs_at s hj, if_neg e]
/-- Where the law stands. -/
structure SSt (w wr : World) (gm gs : Nat) (p : Mn) (s : Nat → Int) : Prop where
  be : Below w.heap.size w wr
  bm : MnB wr gm p
  bs : wr.heap[gs]? = some (.cells (scs s) 127 (0, 0))
  hm : w.heap.size ≤ gm
  hs : w.heap.size ≤ gs
  ne : gm ≠ gs
theorem SSt.step {w wr w' : World} {gm gs : Nat} {p : Mn} {s : Nat → Int} (h : SSt w wr gm gs p s) (hb : Below wr.heap.size wr w') : SSt w w' gm gs p s :=
  ⟨h.be.trans (hb.mono h.be.size), h.bm.below hb (Nat.le_refl _), box_below h.bs hb (box_lt h.bs), h.hm, h.hs, h.ne⟩
theorem SSt.put {w wr : World} {gm gs : Nat} {p : Mn} {s : Nat → Int} (h : SSt w wr gm gs p s) (p' : Mn) : SSt w (wr.setRow gm p'.cs) gm gs p' s :=
  ⟨bel_row h.be h.hm _, setRow_heap _ _ _ _ _ _ h.bm, (setRow_other _ _ _ _ (Ne.symm h.ne)).trans h.bs, h.hm, h.hs, h.ne⟩
theorem SSt.stat {w wr : World} {gm gs i : Nat} {p : Mn} {s : Nat → Int} (h : SSt w wr gm gs p s) (hi : i < 16) (v : Int) : SSt w (wr.setCell ⟨gs, i, none⟩ (.int .u8 v)) gm gs p (fun j => if j = i then v else s j) :=
  ⟨h.be.setCell (p := ⟨gs, i, none⟩) h.hs _, (heap_setCell_other wr ⟨gs, i, none⟩ gm _ h.ne).trans h.bm, by rw [← scs_set s i v hi]; exact heap_setCell_same wr gs i _ _ _ h.bs, h.hm, h.hs, h.ne⟩
theorem scs_zero : (#[.int .u8 0, .int .u8 0, .int .u8 0, .int .u8 0, .int .u8 0, .int .u8 0, .int .u8 0, .int .u8 0, .int .u8 0, .int .u8 0, .int .u8 0, .int .u8 0, .int .u8 0, .int .u8 0, .int .u8 0, .int .u8 0] : Array Value) = scs (fun _ => 0) := scs_eq rfl (all16 rfl rfl rfl rfl rfl rfl rfl rfl rfl rfl rfl rfl rfl rfl rfl rfl)
theorem choose_natS {α : Type} [Inhabited α] {n : Nat} {p : Nat → α → Prop} (h : ∀ i, i < n → ∃ x, p i x) : ∃ f : Nat → α, ∀ i, i < n → p i (f i) := by
  classical
  exact ⟨fun i => if hi : i < n then Classical.choose (h i hi) else default, fun i hi => by
    simp only [hi, dif_pos]
    exact Classical.choose_spec (h i hi)⟩
instance : Inhabited Rl := ⟨Rl.z⟩
theorem rus_flatS0 {w : World} {a : Option Addr} {len cap m : Nat} (h : IsFlat [.int .u8, .int .i64, .int .i32, .int .i32, .int .u32, .int .u32, .int .u8, .int .u8, .int .u8, .int .i64, .bool] w a len cap) (hm : m ≤ len) : ∃ r : Nat → Rl, RuS w a m cap r ∧ ∀ i, i < m → (r i).ok := by
  obtain ⟨h1, h2, _, h4⟩ := h
  by_cases h0 : 0 < len
  · obtain ⟨b, off, e, hb, hx⟩ := h4 h0
    have each : ∀ i, i < len → ∃ r : Rl, w.rangeAt b (off + i * 11) r.cs.toList ∧ r.ok := by
      intro i hi
      obtain ⟨cs, hf, hc⟩ := hx i hi
      obtain ⟨r, hr, hok⟩ := rl_fit hf
      refine ⟨r, fun j v hv => hc j v ?_, hok⟩
      rw [← hr] at hv
      simpa using hv
    obtain ⟨f, hf⟩ := choose_natS each
    exact ⟨f, ⟨by omega, h2, fun _ => ⟨b, off, e, hb, fun i hi => (hf i (by omega)).1⟩⟩, fun i hi => (hf i (by omega)).2⟩
  · exact ⟨fun _ => Rl.z, ⟨by omega, h2, fun h => absurd h (by omega)⟩, fun i hi => absurd hi (by omega)⟩
theorem rus_flatS {w : World} {a : Option Addr} {len cap : Nat} (h : IsFlat [.int .u8, .int .i64, .int .i32, .int .i32, .int .u32, .int .u32, .int .u8, .int .u8, .int .u8, .int .i64, .bool] w a len cap) : ∃ r : Nat → Rl, RuS w a len cap r ∧ ∀ i, i < len → (r i).ok := rus_flatS0 h (Nat.le_refl _)
def Mn.sts (p : Mn) (i : Nat) : Int := if i < p.n then (p.x i).st else 0
theorem Mn.mix0 (p : Mn) (ps : Nat → Int) : p.mix ps 0 = p.sts := by
  funext i
  unfold Mn.mix Mn.sts
  split
  · rw [if_neg (by omega)]
  · rfl
theorem Mn.mixn (p : Mn) (ps : Nat → Int) : p.mix ps p.n = (p.stepTo ps p.n).sts := by
  funext i
  unfold Mn.mix Mn.sts
  show (if i < p.n then (if i < p.n then (p.nx ps i).st else (p.x i).st) else 0) = if i < p.n then (if i < p.n then p.nx ps i else p.x i).st else 0
  split
  · rfl
  · rfl
theorem part_sts (n : Nat) (r : Nat → Rl) : Mn.sts (Mn.part n r n) = fun _ => 0 := by
  funext i
  show (if i < n then (if i < n then (⟨r i, false, 0, 0, 0, 0⟩ : Wt) else Wt.z).st else 0) = 0
  split <;> rfl
theorem part_ok {n : Nat} {r : Nat → Rl} (h : n ≤ 16) (hall : ∀ i, i < n → (r i).ok ∧ (r i).right = true) : (Mn.part n r n).ok ∧ (Mn.part n r n).n = n ∧ ∀ i, i < n → ((Mn.part n r n).x i).r = r i := by
  have e : ∀ i, i < n → (Mn.part n r n).x i = ⟨r i, false, 0, 0, 0, 0⟩ := fun i hi => if_pos hi
  refine ⟨⟨h, fun i hi => ?_⟩, rfl, fun i hi => by rw [e i hi]⟩
  rw [e i hi]
  refine ⟨(hall i hi).1, (hall i hi).2, ?_, ?_, ?_, ?_, ?_, ?_, ?_, ?_⟩ <;> simp only [] <;> omega
theorem pcs_one (ps : Nat → Int) : (pcs ps).all (·.oneCell') = true := by
  rw [Array.all_eq_true]
  intro i hi
  rw [pcs_size] at hi
  have := pcs_at ps hi
  rw [Array.getElem?_eq_getElem (by rw [pcs_size]; exact hi)] at this
  rw [Option.some.inj this]
  rfl
theorem PaS.below {w w' : World} {a : Option Addr} {len cap k : Nat} {P : Nat → Nat → Int} (h : PaS w a len cap P) (hb : Below k w w') (hk : w.heap.size ≤ k) : PaS w' a len cap P :=
  ⟨h.le, h.top, h.ok, fun hl => by
    obtain ⟨b, off, e, hlt, hc⟩ := h.at_ hl
    exact ⟨b, off, e, Nat.lt_of_lt_of_le hlt hb.size, fun i hi => rangeAt_below (hc i hi) hb (Nat.lt_of_lt_of_le hlt hk)⟩⟩
theorem cgl_at : ∀ (l : List Cg) (j k : Nat) (c : Cg) (v : Value), l[j]? = some c → c.cs[k]? = some v → (cgl l)[j * 4 + k]? = some v
  | [], _, _, _, _, h, _ => by cases h
  | x :: l, 0, k, c, v, h, hv => by
    obtain rfl : x = c := by simpa using h
    have hk : k < x.cs.length := (List.getElem?_eq_some_iff.1 hv).1
    show (x.cs ++ cgl l)[0 * 4 + k]? = some v
    rw [Nat.zero_mul, Nat.zero_add, List.getElem?_append_left hk]
    exact hv
  | x :: l, j + 1, k, c, v, h, hv => by
    have := cgl_at l j k c v (by simpa using h) hv
    show (x.cs ++ cgl l)[(j + 1) * 4 + k]? = some v
    rw [List.getElem?_append_right (by show 4 ≤ _; omega), show (j + 1) * 4 + k - x.cs.length = j * 4 + k from by show (j + 1) * 4 + k - 4 = _; omega]
    exact this
end Go.Proofs.Ytkgeeohgfbacaaa
