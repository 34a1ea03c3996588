/- A region that draws its order, whose operations read what was there before it, make new memory, or call what leaves old memory as it is: one walk of the text's order serves every order, wherever new blocks and calls float. What each new thing is, is said ahead ('specs'). A tail of operations that wait for all others may do anything. Of whatever program. -/
import Derived.Test.YtioclbkgfbjpdaaMix
import Derived.Below
import Derived.Laws.Rows
import Derived.WalkKit
namespace Go.Flo
open Go.RowKit
set_option linter.unusedVariables false
set_option linter.unusedSimpArgs false

/-- What an operation's result is, and what the world holds of it; it abides whatever leaves old blocks as they are. -/
structure Spec where
  says : Value → World → Prop
  abides : ∀ v w w', Below w.heap.size w w' → says v w → says v w'

abbrev Facts := Option Tmp → World → Prop
def Facts.add (F : Facts) (d : Option Tmp) (p : World → Prop) : Facts := fun t w => F t w ∧ (t = d → p w)
def Facts.none_ : Facts := fun _ _ => True
abbrev Used := Nat → Prop
def Used.add (G : Used) (g : Option Nat) : Used := fun x => some x = g ∨ G x
def Used.none_ : Used := fun _ => False

theorem Facts.comm (F : Facts) (d e : Option Tmp) (p q : World → Prop) : (F.add d p).add e q = (F.add e q).add d p := by
  funext t w
  apply propext
  unfold Facts.add
  exact ⟨fun ⟨⟨a, b⟩, c⟩ => ⟨⟨a, c⟩, b⟩, fun ⟨⟨a, b⟩, c⟩ => ⟨⟨a, c⟩, b⟩⟩
theorem Used.comm (G : Used) (a b : Option Nat) : (G.add a).add b = (G.add b).add a := by
  funext x
  apply propext
  unfold Used.add
  exact ⟨fun h => h.elim (fun e => .inr (.inl e)) (fun h => h.elim .inl (fun g => .inr (.inr g))), fun h => h.elim (fun e => .inr (.inl e)) (fun h => h.elim .inl (fun g => .inr (.inr g)))⟩

/-- The block that a value leads to. -/
def blockOf : Value → Option Nat
  | .slice (some a) _ _ => some a.block
  | .pointer (some a) => some a.block
  | _ => none
/-- The operations that make a block of their own. -/
def makes (o : Oper) : Bool :=
  match o.op with
  | .alloc _ | .box _ _ | .buildSlice _ _ _ => true
  | _ => false
def ownOf (o : Oper) (v : Value) : Option Nat := if makes o then blockOf v else none

section
variable (P : Program) (ops : Array Oper) (C : World → Prop)

def avail (o : Oper) (F : Facts) (w : World) : Prop := ∀ t, t ∈ o.looksAt ops → F (some t) w

/-- What comes of an operation. -/
def resUpon (T : Value → World → Prop) : Result Next → Prop
  | .ok (.value v) w' => T v w'
  | .ok .skip w' => T undef w'
  | .ok (.enter f args) w' => Calls P f args w' fun
      | .returned v, w'' => T v w''
      | _, _ => False
  | .ok (.row row args) w' => Rows P row args w' T
  | _ => False
def resAt (o : Oper) (a : Act) (w : World) (T : Value → World → Prop) : Prop := resUpon P T ((execOp a.eval o).run P w)

/-- What a result owes. -/
def owes (o : Oper) (s : Spec) (w : World) (v : Value) (w' : World) : Prop :=
  s.says v w' ∧ Below w.heap.size w w' ∧ ∀ g, ownOf o v = some g → w.heap.size ≤ g ∧ g < w'.heap.size

def Sure (o : Oper) (a : Act) (v : Value) : Prop :=
  if Region.wanted o (yielded ops a.tmps) then ∀ i : { w : World // C w }, (match (execOp a.eval o).run P i.val with
    | .ok (.value u) w' => w' = i.val ∧ u = v
    | _ => False) else v = undef
def Loud (o : Oper) (s : Spec) (a : Act) (F : Facts) : Prop :=
  ∀ w, C w → avail ops o F w → resAt P o a w (owes o s w)

/-- A world in which all that is known holds, and the value besides. -/
def Ex (o : Oper) (s : Spec) (F : Facts) (G : Used) (v : Value) : Prop :=
  ∃ w, C w ∧ (∀ t, F t w) ∧ s.says v w ∧ (∀ x, G x → x < w.heap.size) ∧ ∀ g, ownOf o v = some g → ¬ G g ∧ g < w.heap.size

def calmQ (o : Oper) (a : Act) : Prop := Mix.calm o = true ∨ Region.wanted o (yielded ops a.tmps) = false

/-- One operation. -/
def oneF (os : Oper × Spec) (K : Act → Facts → Used → Prop) (a : Act) (F : Facts) (G : Used) : Prop :=
  (calmQ ops os.1 a ∧ ∃ v, Sure P ops C os.1 a v ∧ K (a.put os.1.dst v) (F.add os.1.dst (avail ops os.1 F)) G) ∨
  (¬ calmQ ops os.1 a ∧ Loud P ops C os.1 os.2 a F ∧
    ∀ v, Ex C os.1 os.2 F G v → K (a.put os.1.dst v) (F.add os.1.dst fun w => os.2.says v w ∧ avail ops os.1 F w) (G.add (ownOf os.1 v)))
end

section
variable {P : Program} {ops : Array Oper} {C : World → Prop}

/-- Something is known to be consistent. -/
def Good (C : World → Prop) (F : Facts) (G : Used) : Prop := ∃ w, C w ∧ (∀ t, F t w) ∧ (∀ x, G x → x < w.heap.size)

theorem oneF_mono {os : Oper × Spec} {K K' : Act → Facts → Used → Prop} {a : Act} {F : Facts} {G : Used} (h : ∀ a F G, K a F G → K' a F G) (hh : oneF P ops C os K a F G) : oneF P ops C os K' a F G := by
  rcases hh with ⟨hq, v, hv, hk⟩ | ⟨hw, hl, hk⟩
  · exact .inl ⟨hq, v, hv, h _ _ _ hk⟩
  · exact .inr ⟨hw, hl, fun v hv => h _ _ _ (hk v hv)⟩

theorem avail_add {o : Oper} {F : Facts} {d : Option Tmp} {p : World → Prop} (h : ∀ t, d = some t → t ∉ o.looksAt ops) : avail ops o (F.add d p) = avail ops o F := by
  funext w
  apply propext
  unfold avail Facts.add
  exact ⟨fun hh t ht => (hh t ht).1, fun hh t ht => ⟨hh t ht, fun e => absurd ht (h t e.symm)⟩⟩

theorem sure_put {o : Oper} (hs : ∀ cs b, o.op ≠ .select cs b) {a : Act} {d : Option Tmp} {u : Value} (h : ∀ t, d = some t → t ∉ o.looksAt ops) (v : Value) : Sure P ops C o (a.put d u) v = Sure P ops C o a v := by
  unfold Sure
  rw [wanted_put o a d u h, execOp_put o hs a d u h]
theorem loud_put {o : Oper} {s : Spec} (hs : ∀ cs b, o.op ≠ .select cs b) {a : Act} {F : Facts} {d : Option Tmp} {u : Value} {p : World → Prop} (h : ∀ t, d = some t → t ∉ o.looksAt ops) : Loud P ops C o s (a.put d u) (F.add d p) = Loud P ops C o s a F := by
  unfold Loud resAt
  rw [execOp_put o hs a d u h, avail_add h]
theorem calm_put {o : Oper} {a : Act} {d : Option Tmp} {u : Value} (h : ∀ t, d = some t → t ∉ o.looksAt ops) : calmQ ops o (a.put d u) = calmQ ops o a := by
  unfold calmQ
  rw [wanted_put o a d u h]

theorem Sure.unique {o : Oper} {a : Act} {v v' : Value} {w : World} (hw : C w) (h : Sure P ops C o a v) (h' : Sure P ops C o a v') : v = v' := by
  unfold Sure at h h'
  split at h
  · rename_i hq
    rw [if_pos hq] at h'
    have e1 := h ⟨w, hw⟩
    have e2 := h' ⟨w, hw⟩
    cases hr : (execOp a.eval o).run P w with
    | ok n w' =>
      simp only [hr] at e1 e2
      cases n <;> simp only at e1 e2
      rw [← e1.2, ← e2.2]
    | halt x w' => simp only [hr] at e1
  · rename_i hq
    rw [if_neg hq] at h'
    rw [h, h']

theorem resUpon_some {T : Value → World → Prop} {r : Result Next} (h : resUpon P T r) : ∃ v w', T v w' := by
  cases r with
  | ok n w' =>
    cases n <;> simp only [resUpon] at h
    case value v => exact ⟨v, w', h⟩
    case skip => exact ⟨undef, w', h⟩
    case enter f args =>
      obtain ⟨e, w'', he⟩ := Mix.Calls_some h
      cases e with
      | returned u => exact ⟨u, w'', he⟩
      | _ => exact he.elim
    case row row args =>
      obtain ⟨v, w'', he, _⟩ := h default []
      exact ⟨v, w'', he⟩
  | halt x w' => simp only [resUpon] at h

/-- All that is known abides. -/
def Abides (F : Facts) : Prop := ∀ t w w', Below w.heap.size w w' → F t w → F t w'
theorem avail_abides {o : Oper} {F : Facts} (h : Abides F) {w w' : World} (hb : Below w.heap.size w w') (ha : avail ops o F w) : avail ops o F w' := fun t ht => h _ _ _ hb (ha t ht)
theorem Abides.calm {F : Facts} (h : Abides F) (o : Oper) : Abides (F.add o.dst (avail ops o F)) := fun t w w' hb ⟨h1, h2⟩ => ⟨h t w w' hb h1, fun e => avail_abides h hb (h2 e)⟩
theorem Abides.loud {F : Facts} (h : Abides F) (o : Oper) (s : Spec) (v : Value) : Abides (F.add o.dst fun w => s.says v w ∧ avail ops o F w) := fun t w w' hb ⟨h1, h2⟩ => ⟨h t w w' hb h1, fun e => ⟨s.abides _ _ _ hb (h2 e).1, avail_abides h hb (h2 e).2⟩⟩

/-- A loud operation leads somewhere. -/
theorem loud_ex {o : Oper} {s : Spec} {a : Act} {F : Facts} {G : Used} (hC : ∀ w w', C w → Below w.heap.size w w' → C w') (hF : Abides F) (hl : Loud P ops C o s a F) (hg : Good C F G) : ∃ v, Ex C o s F G v := by
  obtain ⟨w, hw, hf, hx⟩ := hg
  obtain ⟨v, w', h1, h2, h3⟩ := resUpon_some (hl w hw (fun t _ => hf (some t)))
  refine ⟨v, w', hC w w' hw h2, fun t => hF t w w' h2 (hf t), h1, fun x hx' => Nat.lt_of_lt_of_le (hx x hx') h2.size, fun g hg => ?_⟩
  have := h3 g hg
  refine ⟨fun hG => ?_, this.2⟩
  have := hx g hG
  omega
theorem Ex.good {o : Oper} {s : Spec} {F : Facts} {G : Used} {v : Value} (h : Ex C o s F G v) : Good C (F.add o.dst fun w => s.says v w ∧ avail ops o F w) (G.add (ownOf o v)) := by
  obtain ⟨w, hw, hf, hs, hx, hg⟩ := h
  refine ⟨w, hw, fun t => ⟨hf t, fun _ => ⟨hs, fun t _ => hf _⟩⟩, fun x hx' => ?_⟩
  rcases hx' with h | h
  · exact (hg x h.symm).2
  · exact hx x h
theorem Good.calm {o : Oper} {F : Facts} {G : Used} (h : Good C F G) : Good C (F.add o.dst (avail ops o F)) G := by
  obtain ⟨w, hw, hf, hx⟩ := h
  exact ⟨w, hw, fun t => ⟨hf t, fun _ => fun t _ => hf _⟩, hx⟩

/-- THE SWAP. -/
theorem one_swap {oq oi : Oper × Spec} (hC : ∀ w w', C w → Below w.heap.size w w' → C w') (hap : oq.1.apart ops oi.1 = true) (hap' : oi.1.apart ops oq.1 = true)
    (hsi : ∀ cs b, oi.1.op ≠ .select cs b) (hsq : ∀ cs b, oq.1.op ≠ .select cs b) {K : Act → Facts → Used → Prop} {a : Act} {F : Facts} {G : Used} (hF : Abides F) (hg : Good C F G)
    (h : oneF P ops C oq (oneF P ops C oi K) a F G) : oneF P ops C oi (oneF P ops C oq K) a F G := by
  obtain ⟨h1, h2, h3⟩ := Oper.apart_spec hap
  obtain ⟨k1, k2, k3⟩ := Oper.apart_spec hap'
  have hput : ∀ v u, (a.put oq.1.dst v).put oi.1.dst u = (a.put oi.1.dst u).put oq.1.dst v := fun v u => Act.put_comm a v u h2
  obtain ⟨w0, hw0, hf0, hx0⟩ := id hg
  rcases h with ⟨hq, v, hv, h⟩ | ⟨hq, hlq, h⟩
  · rcases h with ⟨hi, u, hu, hk⟩ | ⟨hi, hli, hk⟩
    · rw [calm_put h1] at hi
      rw [sure_put hsi h1] at hu
      rw [avail_add h1] at hk
      refine .inl ⟨hi, u, hu, .inl ⟨by rw [calm_put k1]; exact hq, v, by rw [sure_put hsq k1]; exact hv, ?_⟩⟩
      rw [avail_add k1, ← hput, Facts.comm]
      exact hk
    · rw [calm_put h1] at hi
      rw [loud_put hsi h1] at hli
      refine .inr ⟨hi, hli, fun u hu => .inl ⟨by rw [calm_put k1]; exact hq, v, by rw [sure_put hsq k1]; exact hv, ?_⟩⟩
      rw [avail_add k1, ← hput, Facts.comm]
      have := hk u (by
        obtain ⟨w, e1, e2, e3, e4, e5⟩ := hu
        exact ⟨w, e1, fun t => ⟨e2 t, fun _ => fun t _ => e2 _⟩, e3, e4, e5⟩)
      rw [avail_add h1] at this
      exact this
  · by_cases hci : calmQ ops oi.1 a
    · have hu0 : ∀ v, Ex C oq.1 oq.2 F G v → ∃ u, Sure P ops C oi.1 a u ∧ K ((a.put oq.1.dst v).put oi.1.dst u) ((F.add oq.1.dst fun w => oq.2.says v w ∧ avail ops oq.1 F w).add oi.1.dst (avail ops oi.1 F)) (G.add (ownOf oq.1 v)) := by
        intro v hv
        rcases h v hv with ⟨_, u, hu, hk⟩ | ⟨hi, _⟩
        · rw [sure_put hsi h1] at hu
          rw [avail_add h1] at hk
          exact ⟨u, hu, hk⟩
        · rw [calm_put h1] at hi; exact absurd hci hi
      obtain ⟨v0, hv0⟩ := loud_ex hC hF hlq hg
      obtain ⟨u, hu, _⟩ := hu0 v0 hv0
      refine .inl ⟨hci, u, hu, .inr ⟨by rw [calm_put k1]; exact hq, by rw [loud_put hsq k1]; exact hlq, fun v hv => ?_⟩⟩
      have hv' : Ex C oq.1 oq.2 F G v := by
        obtain ⟨w, e1, e2, e3⟩ := hv
        exact ⟨w, e1, fun t => (e2 t).1, e3⟩
      obtain ⟨u', hu', hk⟩ := hu0 v hv'
      obtain rfl : u' = u := Sure.unique hw0 hu' hu
      rw [avail_add k1, ← hput, Facts.comm]
      exact hk
    · have hl0 : ∀ v, Ex C oq.1 oq.2 F G v → Loud P ops C oi.1 oi.2 a F ∧ ∀ u, Ex C oi.1 oi.2 (F.add oq.1.dst fun w => oq.2.says v w ∧ avail ops oq.1 F w) (G.add (ownOf oq.1 v)) u →
          K ((a.put oq.1.dst v).put oi.1.dst u) ((F.add oq.1.dst fun w => oq.2.says v w ∧ avail ops oq.1 F w).add oi.1.dst fun w => oi.2.says u w ∧ avail ops oi.1 F w) ((G.add (ownOf oq.1 v)).add (ownOf oi.1 u)) := by
        intro v hv
        rcases h v hv with ⟨hi, _⟩ | ⟨_, hl, hk⟩
        · rw [calm_put h1] at hi; exact absurd hi hci
        · rw [loud_put hsi h1] at hl
          refine ⟨hl, fun u hu => ?_⟩
          have := hk u hu
          rw [avail_add h1] at this
          exact this
      obtain ⟨v0, hv0⟩ := loud_ex hC hF hlq hg
      refine .inr ⟨hci, (hl0 v0 hv0).1, fun u hu => .inr ⟨by rw [calm_put k1]; exact hq, by rw [loud_put hsq k1]; exact hlq, fun v hv => ?_⟩⟩
      obtain ⟨w1, _, _, _, _, f5⟩ := hu
      obtain ⟨w, e1, e2, e3, e4, e5⟩ := hv
      have hv' : Ex C oq.1 oq.2 F G v := ⟨w, e1, fun t => (e2 t).1, e3, fun x hx => e4 x (.inr hx), fun g hg => ⟨fun hG => (e5 g hg).1 (.inr hG), (e5 g hg).2⟩⟩
      have hk := (hl0 v hv').2 u ⟨w, e1, fun t => ⟨(e2 t).1, fun _ => ⟨e3, fun t _ => (e2 _).1⟩⟩, ((e2 oi.1.dst).2 rfl).1, fun x hx => by
        rcases hx with hx | hx
        · exact (e5 x hx.symm).2
        · exact e4 x (.inr hx), fun g hg => ⟨fun hG => by
          rcases hG with hG | hG
          · exact (e5 g hG.symm).1 (.inl hg.symm)
          · exact (f5 g hg).1 hG, e4 g (.inl hg.symm)⟩⟩
      rw [avail_add k1, ← hput, Facts.comm, Used.comm]
      exact hk

theorem oneF_mono' {os : Oper × Spec} {K K' : Act → Facts → Used → Prop} {a : Act} {F : Facts} {G : Used} (hF : Abides F) (hg : Good C F G) (h : ∀ a F G, Abides F → Good C F G → K a F G → K' a F G) (hh : oneF P ops C os K a F G) : oneF P ops C os K' a F G := by
  rcases hh with ⟨hq, v, hv, hk⟩ | ⟨hw, hl, hk⟩
  · exact .inl ⟨hq, v, hv, h _ _ _ (hF.calm _) hg.calm hk⟩
  · exact .inr ⟨hw, hl, fun v hv => h _ _ _ (hF.loud _ _ _) hv.good (hk v hv)⟩

/-- What holds at a world that the run has come to. -/
def At (C : World → Prop) (F : Facts) (G : Used) (w : World) : Prop := Abides F ∧ C w ∧ (∀ t, F t w) ∧ ∀ x, G x → x < w.heap.size
theorem At.good {F : Facts} {G : Used} {w : World} (h : At C F G w) : Good C F G := ⟨w, h.2⟩

/-- Soundness of one operation. -/
theorem one_wp {os : Oper × Spec} {i : Nat} {Q : Exit → Act → World → Prop} {a : Act} {w : World} {F : Facts} {G : Used} {K : Act → Facts → Used → Prop} (hC : ∀ w w', C w → Below w.heap.size w w' → C w') (hi : ops[i]? = some os.1) (hw : At C F G w) (hh : oneF P ops C os K a F G) :
    wpOp P ops Q i (fun a' w' => ∃ F' G', At C F' G' w' ∧ K a' F' G') a w := by
  obtain ⟨o, s⟩ := os
  obtain ⟨hF, hc, hf, hx⟩ := hw
  unfold wpOp
  simp only [hi]
  rcases hh with ⟨hq, v, hv, hk⟩ | ⟨hq, hl, hk⟩
  · have hat : At C (F.add o.dst (avail ops o F)) G w := ⟨hF.calm _, hc, fun t => ⟨hf t, fun _ => fun t _ => hf _⟩, hx⟩
    unfold Sure at hv
    split
    · rename_i hwt
      simp only [hwt, if_true] at hv
      left
      have e1 := hv ⟨w, hc⟩
      unfold Oper.wp
      cases hr : (execOp a.eval o).run P w with
      | ok n w' =>
        simp only [hr] at e1
        cases n <;> simp only at e1
        obtain ⟨rfl, rfl⟩ := e1
        exact ⟨_, _, hat, hk⟩
      | halt x w' => simp only [hr] at e1
    · rename_i hwt
      simp only [hwt] at hv
      simp only [Bool.false_eq_true, if_false] at hv
      subst hv
      exact ⟨_, _, hat, hk⟩
  · have hwt : Region.wanted o (yielded ops a.tmps) = true := by
      cases hx : Region.wanted o (yielded ops a.tmps)
      · exact absurd (.inr hx) hq
      · rfl
    simp only [hwt, if_true]
    left
    have fin : ∀ v w', owes o s w v w' → ∃ F' G', At C F' G' w' ∧ K (a.put o.dst v) F' G' := by
      rintro v w' ⟨h1, h2, h3⟩
      have hx' : ∀ x, G x → x < w'.heap.size := fun x hxx => Nat.lt_of_lt_of_le (hx x hxx) h2.size
      have hf' : ∀ t, F t w' := fun t => hF t w w' h2 (hf t)
      refine ⟨_, _, ⟨hF.loud o s v, hC w w' hc h2, fun t => ⟨hf' t, fun _ => ⟨h1, fun t _ => hf' _⟩⟩, fun x hxx => ?_⟩, hk v ⟨w', hC w w' hc h2, hf', h1, hx', fun g hg => ?_⟩⟩
      · rcases hxx with h | h
        · exact (h3 x h.symm).2
        · exact hx' x h
      · have := h3 g hg
        exact ⟨fun hG => by have := hx g hG; omega, this.2⟩
    have hr := hl w hc (fun t _ => hf _)
    unfold resAt at hr
    unfold Oper.wp
    cases hrr : (execOp a.eval o).run P w with
    | ok n w' =>
      rw [hrr] at hr
      cases n <;> simp only [resUpon] at hr <;> simp only [Oper.upon]
      case value v => exact fin _ _ hr
      case skip => exact fin _ _ hr
      case enter f args =>
        refine Calls.mono hr fun e w'' he => ?_
        cases e with
        | returned u => exact fin _ _ he
        | _ => exact he.elim
      case row row args => exact Rows.mono hr fun v w'' he => fin _ _ he
    | halt x w' => rw [hrr] at hr; simp only [resUpon] at hr

section
variable (P : Program) (ops : Array Oper) (C : World → Prop) (S : Nat → Spec)
def fOp (i : Nat) (K : Act → Facts → Used → Prop) (a : Act) (F : Facts) (G : Used) : Prop :=
  match ops[i]? with
  | none => K a F G
  | some o => oneF P ops C (o, S i) K a F G
def fmix (Q : Act → Facts → Used → Prop) : List Nat → Act → Facts → Used → Prop
  | [], a, F, G => Q a F G
  | i :: rest, a, F, G => fOp P ops C S i (fmix Q rest) a F G
/-- The tail: one operation behind another. -/
def tOp (Q' : Exit → Act → World → Prop) (o : Oper) (K : Act → World → Prop) (a : Act) (w : World) : Prop :=
  if Region.wanted o (yielded ops a.tmps) then o.wp P a w K Q' else K (a.put o.dst undef) w
def tmix (Q' : Exit → Act → World → Prop) : List Nat → Act → World → Prop
  | [], a, w => Q' .normal a w
  | i :: rest, a, w => match ops[i]? with
    | none => tmix Q' rest a w
    | some o => tOp P ops Q' o (tmix Q' rest) a w
def twalk (Q' : Exit → Act → World → Prop) : List Oper → Act → World → Prop
  | [], a, w => Q' .normal a w
  | o :: rest, a, w => tOp P ops Q' o (twalk Q' rest) a w
def fwalk (Q : Act → Facts → Used → Prop) : List (Oper × Spec) → Act → Facts → Used → Prop
  | [], a, F, G => Q a F G
  | os :: rest, a, F, G => oneF P ops C os (fwalk Q rest) a F G
end
variable {S : Nat → Spec}

theorem mix_front {Q : Act → Facts → Used → Prop} {i : Nat} {oi : Oper} (hC : ∀ w w', C w → Below w.heap.size w w' → C w') (ho : ops[i]? = some oi) (hns : Region.noSelect ops = true) (l2 : List Nat) :
    ∀ (l1 : List Nat) (a : Act) (F : Facts) (G : Used), (∀ q ∈ l1, ∀ oq, ops[q]? = some oq → oq.apart ops oi = true ∧ oi.apart ops oq = true) → Abides F → Good C F G →
      fmix P ops C S Q (l1 ++ i :: l2) a F G → fOp P ops C S i (fmix P ops C S Q (l1 ++ l2)) a F G
  | [], a, F, G, _, _, _, h => h
  | q :: l1, a, F, G, hl, hF, hg, h => by
    simp only [List.cons_append, fmix] at h
    cases hq : ops[q]? with
    | none =>
      unfold fOp at h
      simp only [hq] at h
      have h2 := mix_front hC ho hns l2 l1 a F G (fun q' hq' => hl q' (by simp [hq'])) hF hg h
      unfold fOp at h2 ⊢
      simp only [ho] at h2 ⊢
      refine oneF_mono (fun a' F' G' h' => ?_) h2
      show fOp P ops C S q (fmix P ops C S Q (l1 ++ l2)) a' F' G'
      unfold fOp
      simp only [hq]
      exact h'
    | some oq =>
      obtain ⟨e1, e2⟩ := hl q (by simp) oq hq
      unfold fOp at h
      simp only [hq] at h
      have h3 : oneF P ops C (oq, S q) (oneF P ops C (oi, S i) (fmix P ops C S Q (l1 ++ l2))) a F G := by
        refine oneF_mono' hF hg (fun a' F' G' hF' hg' h' => ?_) h
        have := mix_front hC ho hns l2 l1 a' F' G' (fun q' hq' => hl q' (by simp [hq'])) hF' hg' h'
        unfold fOp at this
        simpa only [ho] using this
      have h4 := one_swap (P := P) (C := C) (oi := (oi, S i)) (oq := (oq, S q)) hC e1 e2 (fun cs b => Region.noSelect_spec hns i oi cs b ho) (fun cs b => Region.noSelect_spec hns q oq cs b hq) hF hg h3
      unfold fOp
      simp only [ho]
      refine oneF_mono (fun a' F' G' h' => ?_) h4
      show fOp P ops C S q (fmix P ops C S Q (l1 ++ l2)) a' F' G'
      unfold fOp
      simp only [hq]
      exact h'

/-- The check on the edges: below m any two are apart or ordered; from m on each waits for all ahead of it. -/
def pairsOk (ops : Array Oper) (tab : List Nat) (m : Nat) : Bool :=
  (List.range ops.size).all fun j => match ops[j]? with
    | none => true
    | some oj => (List.range j).all fun q => (tab.getD j 0).testBit q || (decide (j < m) && match ops[q]? with
      | none => true
      | some oq => oq.apart ops oj && oj.apart ops oq)
def ok (md : Region.Mode) (ops : Array Oper) (m : Nat) : Bool :=
  Region.noSelect ops && Mix.tableOk md ops (Mix.table md ops.toList []) && pairsOk ops (Mix.table md ops.toList []) m

section
variable {md : Region.Mode} {m : Nat}
theorem preds_of_ready {rem : List Nat} {listed : Array Bool} (ht : Mix.tableOk md ops (Mix.table md ops.toList []) = true) (hs : listed.size = ops.size) (hl : ∀ j, j ∈ rem ↔ listed.getD j true = false)
    {oi : Oper} (hall : ∀ e ∈ oi.after, Region.binds md e = true → listed.getD e.on false = true) : ∀ p ∈ Mix.preds md oi, p ∉ rem := by
  intro p hpm hm
  obtain ⟨e, he, hb, rfl⟩ := Mix.mem_preds.1 hpm
  have h1 := hall e he hb
  have h2 := (hl _).1 hm
  have hes : e.on < listed.size := by
    rcases Nat.lt_or_ge e.on listed.size with h' | h'
    · exact h'
    · simp [Array.getElem?_eq_none h'] at h2
  simp only [Array.getD_eq_getD_getElem?, Array.getElem?_eq_getElem hes, Option.getD_some] at h1 h2
  rw [h1] at h2
  cases h2

theorem any_tail {Q' : Exit → Act → World → Prop} (hB : ok md ops m = true) :
    ∀ (n k : Nat) (listed : Array Bool) (a : Act) (w : World), k + n = ops.size → m ≤ k → listed.size = ops.size →
      (∀ j, j ∈ List.range' k n ↔ listed.getD j true = false) → (∀ (j : Nat) (o : Oper) p, ops[j]? = some o → j ∉ List.range' k n → p ∈ Mix.preds md o → p ∉ List.range' k n) →
      tmix P ops Q' (List.range' k n) a w → wpAny P md ops Q' n listed a w := by
  have hB' := hB
  unfold ok at hB
  simp only [Bool.and_eq_true] at hB
  obtain ⟨⟨hns, ht⟩, hp⟩ := hB
  intro n
  induction n with
  | zero =>
    intro k listed a w hk hm hs hl _ h
    refine ⟨?_, h⟩
    apply List.eq_nil_iff_forall_not_mem.2
    intro j hj
    have := (hl j).2 (mem_ready.1 hj).1
    simp at this
  | succ n ih =>
    intro k listed a w hk hm hs hl hdown h
    have hkk : ops[k]? = some (ops[k]'(by omega)) := Array.getElem?_eq_getElem (by omega)
    have hkm : k ∈ List.range' k (n + 1) := by simp
    -- whatever is ready is k
    have only : ∀ i ∈ Region.ready md ops listed, i = k := by
      intro i hi
      obtain ⟨hi0, oi, hoi, hall⟩ := mem_ready.1 hi
      have him := (hl i).2 hi0
      have hki : k ≤ i := by simp at him; omega
      rcases Nat.eq_or_lt_of_le hki with h' | h'
      · exact h'.symm
      · exfalso
        have his : i < ops.size := (Array.getElem?_eq_some_iff.1 hoi).1
        have h1 := List.all_eq_true.1 (by unfold pairsOk at hp; exact hp) i (List.mem_range.2 his)
        simp only [hoi, List.all_eq_true] at h1
        have h2 := h1 k (List.mem_range.2 h')
        have hnm : ¬ i < m := by omega
        simp only [hnm, decide_false, Bool.false_and, Bool.or_false] at h2
        exact Mix.table_down ht hdown i i oi (Nat.le_refl _) hoi (preds_of_ready ht hs hl hall) k h' h2 hkm
    have hkr : k ∈ Region.ready md ops listed := by
      refine mem_ready.2 ⟨(hl k).1 hkm, _, hkk, fun e he hb => ?_⟩
      have hlt : e.on < k := by
        have h1 := List.all_eq_true.1 (by unfold Mix.tableOk at ht; exact ht) k (List.mem_range.2 (by omega))
        simp only [hkk, Bool.and_eq_true, List.all_eq_true] at h1
        simpa using h1.1 e.on (Mix.mem_preds.2 ⟨e, he, hb, rfl⟩)
      have hno : e.on ∉ List.range' k (n + 1) := by simp; omega
      have : listed.getD e.on true ≠ false := fun hf => hno ((hl _).2 hf)
      have hes : e.on < listed.size := by omega
      simp only [Array.getD_eq_getD_getElem?, Array.getElem?_eq_getElem hes, Option.getD_some] at this ⊢
      simpa using this
    refine ⟨fun h0 => absurd (h0 ▸ hkr) (by simp), fun i hi => ?_⟩
    obtain rfl := only i hi
    rw [List.range'_succ] at h
    simp only [tmix, hkk] at h
    have go : ∀ a' w', tmix P ops Q' (List.range' (i + 1) n) a' w' → wpAny P md ops Q' n (listed.setIfInBounds i true) a' w' := by
      intro a' w' h'
      refine ih (i + 1) _ a' w' (by omega) (by omega) (by simpa using hs) ?_ ?_ h'
      · intro j
        by_cases hji : j = i
        · subst hji
          have his : j < listed.size := by omega
          constructor
          · intro hm; simp at hm; omega
          · intro hm; simp [Array.getElem?_setIfInBounds_self_of_lt his] at hm
        · rw [getD_set_ne true (Ne.symm hji), ← hl j, List.range'_succ]
          simp [hji]
      · intro j o p hjo hjn hpm hpin
        have hpin' : p ∈ List.range' i (n + 1) := by simp at hpin ⊢; omega
        by_cases hji : j = i
        · subst hji
          rw [hkk] at hjo
          cases hjo
          have h1 := List.all_eq_true.1 (by unfold Mix.tableOk at ht; exact ht) j (List.mem_range.2 (by omega))
          simp only [hkk, Bool.and_eq_true, List.all_eq_true] at h1
          have : p < j := by simpa using h1.1 p hpm
          simp at hpin
          omega
        · refine hdown j o p hjo ?_ hpm hpin'
          intro hm
          simp at hm hjn
          omega
    unfold wpOp
    simp only [hkk]
    unfold tOp at h
    split
    · rename_i hw
      simp only [hw, if_true] at h
      exact .inl (Oper.wp_mono go h)
    · rename_i hw
      simp only [hw] at h
      exact go _ _ h

/-- **ONE WALK SERVES EVERY ORDER.** -/
theorem any_of_mix {Q' : Exit → Act → World → Prop} (hC : ∀ w w', C w → Below w.heap.size w w' → C w') (hB : ok md ops m = true) (hm : m ≤ ops.size) {Q : Act → Facts → Used → Prop}
    (hQ : ∀ a F G w, Q a F G → At C F G w → tmix P ops Q' (List.range' m (ops.size - m)) a w) :
    ∀ (n : Nat) (rem : List Nat) (listed : Array Bool) (a : Act) (F : Facts) (G : Used) (w : World), rem.length = n → rem.Pairwise (· < ·) → (∀ i ∈ rem, i < m) → listed.size = ops.size →
      (∀ j, j ∈ rem ++ List.range' m (ops.size - m) ↔ listed.getD j true = false) →
      (∀ (j : Nat) (o : Oper) p, ops[j]? = some o → j ∉ rem ++ List.range' m (ops.size - m) → p ∈ Mix.preds md o → p ∉ rem ++ List.range' m (ops.size - m)) → At C F G w →
      fmix P ops C S Q rem a F G → wpAny P md ops Q' (n + (ops.size - m)) listed a w := by
  have hB' := hB
  unfold ok at hB
  simp only [Bool.and_eq_true] at hB
  obtain ⟨⟨hns, ht⟩, hp⟩ := hB
  intro n
  induction n with
  | zero =>
    intro rem listed a F G w hn _ _ hs hl hdown hw h
    obtain rfl : rem = [] := List.length_eq_zero_iff.1 hn
    rw [Nat.zero_add]
    simp only [List.nil_append] at hl hdown
    exact any_tail hB' (ops.size - m) m listed a w (by omega) (Nat.le_refl _) hs hl hdown (hQ _ _ _ _ h hw)
  | succ n ih =>
    intro rem listed a F G w hn hpw hlt hs hl hdown hw h
    obtain ⟨k, rem', rfl⟩ : ∃ k rem', rem = k :: rem' := by
      cases rem with
      | nil => simp at hn
      | cons k rem' => exact ⟨k, rem', rfl⟩
    have hkm : k < m := hlt k (by simp)
    have hks : k < ops.size := by omega
    have hko : ops[k]? = some ops[k] := Array.getElem?_eq_getElem hks
    have hkr : k ∈ Region.ready md ops listed := by
      refine mem_ready.2 ⟨(hl k).1 (by simp), _, hko, fun e he hb => ?_⟩
      have hlt' : e.on < k := by
        have h1 := List.all_eq_true.1 (by unfold Mix.tableOk at ht; exact ht) k (List.mem_range.2 hks)
        simp only [hko, Bool.and_eq_true, List.all_eq_true] at h1
        simpa using h1.1 e.on (Mix.mem_preds.2 ⟨e, he, hb, rfl⟩)
      have hno : e.on ∉ k :: rem' ++ List.range' m (ops.size - m) := by
        intro hmm
        rcases List.mem_append.1 hmm with hmm | hmm
        · rcases List.mem_cons.1 hmm with h' | h'
          · omega
          · have := (List.pairwise_cons.1 hpw).1 _ h'
            omega
        · simp at hmm; omega
      have : listed.getD e.on true ≠ false := fun hf => hno ((hl _).2 hf)
      have hes : e.on < listed.size := by omega
      simp only [Array.getD_eq_getD_getElem?, Array.getElem?_eq_getElem hes, Option.getD_some] at this ⊢
      simpa using this
    rw [show n + 1 + (ops.size - m) = (n + (ops.size - m)) + 1 by omega]
    refine ⟨fun h0 => absurd (h0 ▸ hkr) (by simp), fun i hi => ?_⟩
    obtain ⟨hi0, oi, hoi, hall⟩ := mem_ready.1 hi
    have him' := (hl i).2 hi0
    have hpreds := preds_of_ready (rem := k :: rem' ++ List.range' m (ops.size - m)) ht hs hl hall
    have his : i < ops.size := (Array.getElem?_eq_some_iff.1 hoi).1
    have hpi := List.all_eq_true.1 (by unfold pairsOk at hp; exact hp) i (List.mem_range.2 his)
    simp only [hoi, List.all_eq_true] at hpi
    have him : i ∈ k :: rem' := by
      rcases List.mem_append.1 him' with h' | h'
      · exact h'
      · exfalso
        have him2 : m ≤ i := by simp at h'; omega
        have h2 := hpi k (List.mem_range.2 (by omega))
        have hnm : ¬ i < m := by omega
        simp only [hnm, decide_false, Bool.false_and, Bool.or_false] at h2
        exact Mix.table_down ht hdown i i oi (Nat.le_refl _) hoi hpreds k (by omega) h2 (by simp)
    have himm : i < m := hlt i him
    obtain ⟨l1, l2, hsplit⟩ := List.append_of_mem him
    rw [hsplit] at hpw h hn hlt
    have hfree : ∀ q ∈ l1, ∀ oq, ops[q]? = some oq → oq.apart ops oi = true ∧ oi.apart ops oq = true := by
      intro q hq oq hoq
      have hqi : q < i := (List.pairwise_append.1 hpw).2.2 q hq i (by simp)
      have hqm : q ∈ k :: rem' ++ List.range' m (ops.size - m) := by rw [hsplit]; simp [hq]
      have h2 := hpi q (List.mem_range.2 hqi)
      simp only [hoq, himm, decide_true, Bool.true_and, Bool.or_eq_true, Bool.and_eq_true] at h2
      rcases h2 with h2 | h2
      · exact absurd hqm (Mix.table_down ht hdown i i oi (Nat.le_refl _) hoi hpreds q hqi h2)
      · exact h2
    have h1 := mix_front hC hoi hns l2 l1 a F G hfree hw.1 hw.good h
    unfold fOp at h1
    simp only [hoi] at h1
    refine wpOp_mono (fun a' w' h' => ?_) (one_wp (Q := Q') hC hoi hw h1)
    obtain ⟨F', G', hw', h'⟩ := h'
    have hnot : i ∉ l1 ++ l2 := by
      intro hm
      rcases List.mem_append.1 hm with h | h
      · have := (List.pairwise_append.1 hpw).2.2 i h i (by simp)
        omega
      · have := (List.pairwise_cons.1 (List.pairwise_append.1 hpw).2.1).1 i h
        omega
    refine ih (l1 ++ l2) _ a' F' G' w' ?_ ?_ ?_ (by simpa using hs) ?_ ?_ hw' h'
    · simp at hn ⊢; omega
    · exact hpw.sublist (List.Sublist.append (List.Sublist.refl _) (List.sublist_cons_self _ _))
    · intro j hj
      refine hlt j ?_
      simp at hj ⊢
      rcases hj with h | h <;> simp [h]
    · intro j
      by_cases hji : j = i
      · subst hji
        have his : j < listed.size := by omega
        constructor
        · intro hm'
          exfalso
          rcases List.mem_append.1 hm' with h | h
          · exact hnot h
          · simp at h; omega
        · intro hm'; simp [Array.getElem?_setIfInBounds_self_of_lt his] at hm'
      · rw [getD_set_ne true (Ne.symm hji), ← hl j, hsplit]
        simp [hji]
    · intro j o p hjo hjn hpm hpin
      have hpin' : p ∈ k :: rem' ++ List.range' m (ops.size - m) := by rw [hsplit]; simp at hpin ⊢; rcases hpin with h | h | h <;> simp [h]
      by_cases hji : j = i
      · subst hji
        rw [hoi] at hjo
        cases hjo
        exact hpreds p hpm hpin'
      · refine hdown j o p hjo ?_ hpm hpin'
        rw [hsplit]
        simp only [List.mem_append, List.mem_cons] at hjn ⊢
        intro hh
        apply hjn
        rcases hh with (h | h | h) | h
        · exact .inl (.inl h)
        · exact absurd h hji
        · exact .inl (.inr h)
        · exact .inr h
end

/-- The specs laid beside the loud operations. -/
def dflt : Spec := ⟨fun _ _ => True, fun _ _ _ _ _ => trivial⟩
def pair : List Oper → List Spec → List (Oper × Spec)
  | [], _ => []
  | o :: l, ss => if Mix.calm o then (o, dflt) :: pair l ss else match ss with
    | s :: ss => (o, s) :: pair l ss
    | [] => (o, dflt) :: pair l []
theorem pair_map : ∀ (l : List Oper) (ss : List Spec), (pair l ss).map (·.1) = l
  | [], _ => rfl
  | o :: l, ss => by
    unfold pair
    split
    · simp [pair_map l]
    · cases ss <;> simp [pair_map l]
theorem pair_len (l : List Oper) (ss : List Spec) : (pair l ss).length = l.length := by
  have := congrArg List.length (pair_map l ss)
  simpa using this

theorem fwalk_mix {Q : Act → Facts → Used → Prop} : ∀ (l : List (Oper × Spec)) (k : Nat) (a : Act) (F : Facts) (G : Used), (∀ j os, l[j]? = some os → ops[k + j]? = some os.1 ∧ S (k + j) = os.2) → fwalk P ops C Q l a F G → fmix P ops C S Q (List.range' k l.length) a F G
  | [], _, _, _, _, _, h => h
  | os :: l, k, a, F, G, hl, h => by
    obtain ⟨h0, h1⟩ := hl 0 os rfl
    rw [Nat.add_zero] at h0 h1
    simp only [List.length_cons, List.range'_succ, fmix]
    unfold fOp
    simp only [h0]
    rw [h1]
    refine oneF_mono (fun a' F' G' h' => fwalk_mix l (k + 1) a' F' G' (fun j os' hj => ?_) h') h
    have := hl (j + 1) os' (by simpa using hj)
    rw [show k + (j + 1) = k + 1 + j from by omega] at this
    exact this
theorem twalk_mix {Q' : Exit → Act → World → Prop} : ∀ (l : List Oper) (k : Nat) (a : Act) (w : World), (∀ j o, l[j]? = some o → ops[k + j]? = some o) → twalk P ops Q' l a w → tmix P ops Q' (List.range' k l.length) a w
  | [], _, _, _, _, h => h
  | o :: l, k, a, w, hl, h => by
    have h0 := hl 0 o rfl
    rw [Nat.add_zero] at h0
    simp only [List.length_cons, List.range'_succ, tmix, h0]
    have next : ∀ a' w', twalk P ops Q' l a' w' → tmix P ops Q' (List.range' (k + 1) l.length) a' w' := fun a' w' h' => twalk_mix l (k + 1) a' w' (fun j o' hj => by
      have := hl (j + 1) o' (by simpa using hj)
      rw [show k + (j + 1) = k + 1 + j from by omega] at this
      exact this) h'
    unfold twalk tOp at h
    unfold tOp
    split
    · rename_i hw
      simp only [hw, if_true] at h
      exact Oper.wp_mono next h
    · rename_i hw
      simp only [hw] at h
      exact next _ _ h

theorem wp_region {id : Nat} {Q : Exit → Act → World → Prop} {a : Act} {w : World} (C : World → Prop) (m : Nat) (specs : List Spec) (hf : P.follows .mixedOrders = true) (hB : ok .any ops m = true) (hm : m ≤ ops.size)
    (hC : ∀ w w', C w → Below w.heap.size w w' → C w') (hw : C { w with drawn := w.drawn + 1 })
    (h : fwalk P ops C (fun a F G => ∀ w, C w → (∀ t, F t w) → (∀ x, G x → x < w.heap.size) → twalk P ops Q (ops.toList.drop m) a w) (pair (ops.toList.take m) specs) a Facts.none_ Used.none_) : (Code.region id ops true).wp P Q a w := by
  have hlen : (pair (ops.toList.take m) specs).length = m := by rw [pair_len]; simp; omega
  have hdl : (ops.toList.drop m).length = ops.size - m := by simp
  let S : Nat → Spec := fun i => (((pair (ops.toList.take m) specs)[i]?).map (·.2)).getD dflt
  have hmix := fwalk_mix (P := P) (ops := ops) (C := C) (S := S) (pair (ops.toList.take m) specs) 0 a Facts.none_ Used.none_ (fun j os hj => by
    rw [Nat.zero_add]
    constructor
    · have h1 := congrArg (fun l => l[j]?) (pair_map (ops.toList.take m) specs)
      simp only [List.getElem?_map, hj, Option.map_some] at h1
      have hjm : j < m := by
        have := (List.getElem?_eq_some_iff.1 hj).1
        omega
      rw [List.getElem?_take, if_pos hjm] at h1
      simpa using h1.symm
    · show (((pair (ops.toList.take m) specs)[j]?).map (·.2)).getD dflt = os.2
      rw [hj]; rfl) h
  rw [hlen] at hmix
  have hsplit : List.range' 0 m ++ List.range' m (ops.size - m) = List.range' 0 ops.size := by
    have := List.range'_append (s := 0) (m := m) (n := ops.size - m) (step := 1)
    rw [show 0 + 1 * m = m by omega, show m + (ops.size - m) = ops.size by omega] at this
    exact this
  refine wp_region_any hf ?_
  have := any_of_mix (P := P) (ops := ops) (C := C) (S := S) (md := .any) (m := m) (Q' := Q) hC hB hm (Q := fun a F G => ∀ w, C w → (∀ t, F t w) → (∀ x, G x → x < w.heap.size) → twalk P ops Q (ops.toList.drop m) a w)
    (fun a F G w hq ha => by
      have h1 := twalk_mix (P := P) (ops := ops) (ops.toList.drop m) m a w (fun j o hj => by simpa using hj) (hq w ha.2.1 ha.2.2.1 ha.2.2.2)
      rw [hdl] at h1
      exact h1)
    m (List.range' 0 m) (Array.replicate ops.size false) a Facts.none_ Used.none_ { w with drawn := w.drawn + 1 } (by simp) List.pairwise_lt_range' (fun i hi => by simp at hi; exact hi) (by simp)
    (fun j => by
      rw [hsplit]
      simp only [List.mem_range'_1, Array.getD_eq_getD_getElem?]
      by_cases hj : j < ops.size
      · simp [hj]
      · simp [hj])
    (fun j o p ho hj _ => by
      exfalso
      apply hj
      rw [hsplit]
      simp [(Array.getElem?_eq_some_iff.1 ho).1])
    ⟨fun _ _ _ _ _ => trivial, hw, fun _ => trivial, fun _ h => h.elim⟩ hmix
  rw [show m + (ops.size - m) = ops.size by omega] at this
  exact this

/-! ### The steps -/
theorem tw_nil {Q' : Exit → Act → World → Prop} {a : Act} {w : World} (h : Q' .normal a w) : twalk P ops Q' [] a w := h
theorem fw_nil {Q : Act → Facts → Used → Prop} {a : Act} {F : Facts} {G : Used} (h : Q a F G) : fwalk P ops C Q [] a F G := h
theorem fw_calm {Q : Act → Facts → Used → Prop} {a : Act} {F : Facts} {G : Used} {o : Oper} {s : Spec} {rest : List (Oper × Spec)} (hp : Mix.plain o = true) (hwt : Region.wanted o (yielded ops a.tmps) = true)
    (h : ∀ K : Act → Prop, (∀ a', fwalk P ops C Q rest a' (F.add o.dst (avail ops o F)) G → K a') → o.quiet P a C K) : fwalk P ops C Q ((o, s) :: rest) a F G := by
  obtain ⟨v, hv, hk⟩ := h (fun a' => fwalk P ops C Q rest a' (F.add o.dst (avail ops o F)) G) (fun _ h => h)
  refine .inl ⟨.inl (Mix.plain_calm hp), v, ?_, hk⟩
  unfold Sure
  rw [if_pos hwt]
  intro i
  have h1 := hv i.val i.property
  unfold Oper.quietAt at h1
  cases hr : (execOp a.eval o).run P i.val with
  | ok n w' =>
    obtain ⟨u, rfl⟩ := Mix.plain_value hp hr
    rw [hr] at h1
    exact h1
  | halt x w' => rw [hr] at h1; exact h1
/-- A calm operation that is no plain one (len, min, ..). -/
theorem fw_any {Q : Act → Facts → Used → Prop} {a : Act} {F : Facts} {G : Used} {o : Oper} {s : Spec} {rest : List (Oper × Spec)} (hc : Mix.calm o = true) (hwt : Region.wanted o (yielded ops a.tmps) = true)
    (h : ∀ K : Act → Prop, (∀ a', fwalk P ops C Q rest a' (F.add o.dst (avail ops o F)) G → K a') → ∃ v, (∀ i : { w : World // C w }, (match (execOp a.eval o).run P i.val with
      | .ok (.value u) w' => w' = i.val ∧ u = v
      | _ => False)) ∧ K (a.put o.dst v)) : fwalk P ops C Q ((o, s) :: rest) a F G := by
  obtain ⟨v, hv, hk⟩ := h (fun a' => fwalk P ops C Q rest a' (F.add o.dst (avail ops o F)) G) (fun _ h => h)
  refine .inl ⟨.inl hc, v, ?_, hk⟩
  unfold Sure
  rw [if_pos hwt]
  exact hv
theorem fw_skip {Q : Act → Facts → Used → Prop} {a : Act} {F : Facts} {G : Used} {o : Oper} {s : Spec} {rest : List (Oper × Spec)} (hwt : Region.wanted o (yielded ops a.tmps) = false)
    (h : ∀ K : Act → Prop, (∀ a', fwalk P ops C Q rest a' (F.add o.dst (avail ops o F)) G → K a') → K (a.put o.dst undef)) : fwalk P ops C Q ((o, s) :: rest) a F G := by
  refine .inl ⟨.inr hwt, undef, ?_, h _ (fun _ h => h)⟩
  unfold Sure
  rw [if_neg (by simp [hwt])]
theorem fw_loud {Q : Act → Facts → Used → Prop} {a : Act} {F : Facts} {G : Used} {o : Oper} {s : Spec} {rest : List (Oper × Spec)} {d : Tmp} (hc : Mix.calm o = false) (hwt : Region.wanted o (yielded ops a.tmps) = true) (hd : o.dst = some d) (hs : d < a.tmps.size)
    (h1 : ∀ w, C w → avail ops o F w → ∀ K : Act → World → Prop, (∀ v w', owes o s w v w' → K (a.put o.dst v) w') → o.wp P a w K (fun _ _ _ => False))
    (h2 : ∀ v, Ex C o s F G v → ∀ K : Act → Prop, (∀ a', fwalk P ops C Q rest a' (F.add o.dst fun w => s.says v w ∧ avail ops o F w) (G.add (ownOf o v)) → K a') → K (a.put o.dst v)) : fwalk P ops C Q ((o, s) :: rest) a F G := by
  refine .inr ⟨fun h => ?_, fun w hw ha => ?_, fun v hv => h2 v hv _ (fun _ h => h)⟩
  · rcases h with h | h
    · rw [hc] at h; cases h
    · rw [hwt] at h; cases h
  · have h3 := h1 w hw ha (fun a' w' => ∃ v, a' = a.put o.dst v ∧ owes o s w v w') (fun v w' h => ⟨v, rfl, h⟩)
    have inj : ∀ (b : Act) (u v : Value), b.tmps = a.tmps → b.put o.dst u = a.put o.dst v → u = v := by
      intro b u v hb hh
      rw [hd] at hh
      have e1 : (b.put (some d) u).tmps[d]? = some u := by simp [Act.put, hb, hs]
      have e2 : (a.put (some d) v).tmps[d]? = some v := by simp [Act.put, hs]
      rw [hh, e2] at e1
      injection e1 with e1
      exact e1.symm
    unfold resAt
    unfold Oper.wp at h3
    cases hr : (execOp a.eval o).run P w with
    | ok n w' =>
      rw [hr] at h3
      cases n <;> simp only [Oper.upon] at h3 <;> simp only [resUpon]
      case value u =>
        obtain ⟨v, he, ho⟩ := h3
        rw [inj a u v rfl he]; exact ho
      case enter f args =>
        refine Calls.mono h3 fun e w'' he => ?_
        cases e with
        | returned u =>
          obtain ⟨v, he, ho⟩ := he
          rw [inj a u v rfl he]; exact ho
        | panicked c => exact he
        | outgrown => obtain ⟨_, _, hf⟩ := he; exact hf
      case row row args =>
        refine Rows.mono h3 fun u w'' he => ?_
        obtain ⟨v, he, ho⟩ := he
        rw [inj a u v rfl he]; exact ho
      case skip =>
        obtain ⟨v, he, ho⟩ := h3
        rw [inj a undef v rfl he]; exact ho
      case defer d =>
        obtain ⟨v, he, ho⟩ := h3
        have e1 := congrArg Act.defers he
        rw [hd] at e1
        simp [Act.put] at e1
    | halt x w' =>
      rw [hr] at h3
      cases x <;> simp only [Oper.upon] at h3

/-- The result is this value. -/
def Spec.is (c : Value) : Spec := ⟨fun v _ => v = c, fun _ _ _ _ h => h⟩
/-- A new block, of this make. -/
def Spec.row (n0 : Nat) (k : Nat) (cs : Array Value) (t : TypeId) : Spec :=
  ⟨fun v w => ∃ g, n0 ≤ g ∧ v = .slice (some ⟨g, 0, none⟩) k k ∧ w.heap[g]? = some (.cells cs t (0, 0)), fun v w w' hb ⟨g, h0, hv, h⟩ => ⟨g, h0, hv, by
    have hg : g < w.heap.size := by
      rcases Nat.lt_or_ge g w.heap.size with h' | h'
      · exact h'
      · rw [Array.getElem?_eq_none h'] at h; cases h
    exact (hb.block g hg).trans h⟩⟩
def Spec.ptr (n0 : Nat) (cs : Array Value) (t : TypeId) : Spec :=
  ⟨fun v w => ∃ g, n0 ≤ g ∧ v = .pointer (some ⟨g, 0, none⟩) ∧ w.heap[g]? = some (.cells cs t (0, 0)), fun v w w' hb ⟨g, h0, hv, h⟩ => ⟨g, h0, hv, by
    have hg : g < w.heap.size := by
      rcases Nat.lt_or_ge g w.heap.size with h' | h'
      · exact h'
      · rw [Array.getElem?_eq_none h'] at h; cases h
    exact (hb.block g hg).trans h⟩⟩
theorem owes_is {o : Oper} {w w' : World} (v : Value) (hm : makes o = false) (hb : Below w.heap.size w w') : owes o (Spec.is v) w v w' := ⟨rfl, hb, fun g hg => by simp [ownOf, hm] at hg⟩
theorem owes_row {o : Oper} {w : World} {n0 k : Nat} {cs : Array Value} {t : TypeId} (h0 : n0 ≤ w.heap.size) : owes o (Spec.row n0 k cs t) w (.slice (some ⟨w.heap.size, 0, none⟩) k k) (w.alloc (.cells cs t)) :=
  ⟨⟨w.heap.size, h0, rfl, heap_alloc_new w _⟩, (Below.refl _ _).alloc (Nat.le_refl _) _, fun g hg => by
    unfold ownOf at hg
    split at hg
    · simp [blockOf] at hg; subst hg; simp
    · cases hg⟩
theorem owes_ptr {o : Oper} {w : World} {n0 : Nat} {cs : Array Value} {t : TypeId} (h0 : n0 ≤ w.heap.size) : owes o (Spec.ptr n0 cs t) w (.pointer (some ⟨w.heap.size, 0, none⟩)) (w.alloc (.cells cs t)) :=
  ⟨⟨w.heap.size, h0, rfl, heap_alloc_new w _⟩, (Below.refl _ _).alloc (Nat.le_refl _) _, fun g hg => by
    unfold ownOf at hg
    split at hg
    · simp [blockOf] at hg; subst hg; simp
    · cases hg⟩
/-- A whole array out of a block. -/
theorem quiet_load_row {o : Oper} {a : Act} {K : Act → Prop} (ty : TypeId) (x : Operand) (ho : o.op = .load ty x) (g : Nat) (hx : a.eval x = .pointer (some ⟨g, 0, none⟩)) (t : TypeId) (cs : Array Value) (d : TypeDesc)
    (hg : ∀ w, C w → w.heap[g]? = some (.cells cs t (0, 0))) (hu : P.underlying ty = some d) (hd : (match d with | .struct _ | .array _ _ => true | _ => false) = true) (hi : (P.info? ty).map (·.size) = some cs.size)
    (h : K (a.put o.dst (.agg cs))) : o.quiet P a C K := by
  refine ⟨.agg cs, fun w hw => ?_, h⟩
  unfold Oper.quietAt execOp
  simp only [ho, hx, Instr.loadAt, Instr.sureAddr, Sem.run_bind, Sem.run_pure, Result.andThen_ok, run_loadVar_row w g t ty cs (0, 0) d (hg w hw) hu hd hi]
  exact ⟨rfl, rfl⟩
end
theorem tw_step {P : Program} {ops : Array Oper} {Q' : Exit → Act → World → Prop} {a : Act} {w : World} {o : Oper} {rest : List Oper} (hwt : Region.wanted o (yielded ops a.tmps) = true)
    (h : ∀ K : Act → World → Prop, (∀ a' w', twalk P ops Q' rest a' w' → K a' w') → o.wp P a w K Q') : twalk P ops Q' (o :: rest) a w := by
  unfold twalk tOp
  rw [if_pos hwt]
  exact h _ (fun _ _ h => h)
attribute [irreducible] fwalk twalk
theorem Ex.ptr {C : World → Prop} {o : Oper} {n0 : Nat} {cs : Array Value} {t : TypeId} {v : Value} {F : Facts} {G : Used} (h : Ex C o (Spec.ptr n0 cs t) F G v) (hm : makes o = true) : ∃ g, n0 ≤ g ∧ v = .pointer (some ⟨g, 0, none⟩) ∧ ¬ G g := by
  obtain ⟨w, _, _, ⟨g, h0, h1, _⟩, _, h5⟩ := h
  refine ⟨g, h0, h1, (h5 g ?_).1⟩
  rw [h1]
  unfold ownOf
  rw [if_pos hm]
  rfl
theorem says_ptr {n0 g : Nat} {cs : Array Value} {t : TypeId} {w : World} (h : (Spec.ptr n0 cs t).says (.pointer (some ⟨g, 0, none⟩)) w) : w.heap[g]? = some (.cells cs t (0, 0)) := by
  obtain ⟨g', _, h1, h2⟩ := h
  injection h1 with h1
  injection h1 with h1
  injection h1 with h1
  rw [h1]; exact h2
theorem Ex.is {C : World → Prop} {o : Oper} {c v : Value} {F : Facts} {G : Used} (h : Ex C o (Spec.is c) F G v) : v = c := by
  obtain ⟨w, _, _, h, _⟩ := h
  exact h
theorem Ex.row {C : World → Prop} {o : Oper} {n0 k : Nat} {cs : Array Value} {t : TypeId} {v : Value} {F : Facts} {G : Used} (h : Ex C o (Spec.row n0 k cs t) F G v) : ∃ g, n0 ≤ g ∧ v = .slice (some ⟨g, 0, none⟩) k k := by
  obtain ⟨w, _, _, ⟨g, h0, h1, _⟩, _⟩ := h
  exact ⟨g, h0, h1⟩
theorem says_row {n0 k g : Nat} {cs : Array Value} {t : TypeId} {w : World} (h : (Spec.row n0 k cs t).says (.slice (some ⟨g, 0, none⟩) k k) w) : w.heap[g]? = some (.cells cs t (0, 0)) := by
  obtain ⟨g', _, h1, h2⟩ := h
  injection h1 with h1
  injection h1 with h1
  injection h1 with h1
  rw [h1]; exact h2
end Go.Flo
