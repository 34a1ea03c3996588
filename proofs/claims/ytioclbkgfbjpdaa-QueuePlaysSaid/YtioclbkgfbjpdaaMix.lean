/- A region that draws its order, whose operations either yield one value in every world of a class C ('calm'), or stand in one forced order ('loud'): one walk of the lexical order serves every order. Of whatever program. -/
import Derived.Deep.Quiet
namespace Go.Mix
set_option linter.unusedVariables false

/-- The operations that are taken as calm: each owes one value in every world of the class. -/
def calm (o : Oper) : Bool :=
  match o.op with
  | .move _ | .assign _ | .pick _ _ _ | .load _ _ | .binOp _ _ _ _ _ | .unOp _ _ _ | .convert _ _ _ | .field _ _ _ | .index _ _ _ | .extract _ _ | .fieldAddr _ _ _ | .indexAddr _ _ _ | .nilCheck _ | .build _ _ | .slice _ _ _ _ _ => true
  | .call c => match c.callee with
    | .builtin .len | .builtin .cap | .builtin .min | .builtin .max => true
    | _ => false
  | _ => false

section
variable {P : Program} {ops : Array Oper} {md : Region.Mode} {C : World → Prop}

/-- What a calm operation owes. -/
def Sure (P : Program) (C : World → Prop) (o : Oper) (a : Act) (v : Value) : Prop :=
  ∀ i : { w : World // C w }, match (execOp a.eval o).run P i.val with
    | .ok (.value u) w' => w' = i.val ∧ u = v
    | _ => False

/-- What a loud operation owes: it is carried out in the world at hand, and leaves a world of the class. -/
def loudUpon (P : Program) (C : World → Prop) (o : Oper) (a : Act) (K : Act → World → Prop) : Result Next → Prop
  | .ok (.value v) w' => C w' ∧ K (a.put o.dst v) w'
  | .ok .skip w' => C w' ∧ K (a.put o.dst undef) w'
  | .ok (.enter f args) w' => Calls P f args w' fun
      | .returned v, w'' => C w'' ∧ K (a.put o.dst v) w''
      | _, _ => False
  | .ok (.defer d) w' => C w' ∧ K ({ a with defers := d :: a.defers }.put o.dst undef) w'
  | .ok (.row row args) w' => Rows P row args w' fun v w'' => C w'' ∧ K (a.put o.dst v) w''
  | _ => False

def loudAt (P : Program) (C : World → Prop) (o : Oper) (a : Act) (w : World) (K : Act → World → Prop) : Prop := loudUpon P C o a K ((execOp a.eval o).run P w)

/-- One operation. -/
def oneOp (P : Program) (ops : Array Oper) (C : World → Prop) (o : Oper) (K : Act → World → Prop) (a : Act) (w : World) : Prop :=
  if Region.wanted o (yielded ops a.tmps) then
    (if calm o then ∃ v, Sure P C o a v ∧ K (a.put o.dst v) w else loudAt P C o a w K)
  else K (a.put o.dst undef) w

def mixOp (P : Program) (ops : Array Oper) (C : World → Prop) (i : Nat) (K : Act → World → Prop) (a : Act) (w : World) : Prop :=
  match ops[i]? with
  | none => K a w
  | some o => oneOp P ops C o K a w

def mix (P : Program) (ops : Array Oper) (C : World → Prop) (Q : Act → World → Prop) : List Nat → Act → World → Prop
  | [], a, w => Q a w
  | i :: rest, a, w => mixOp P ops C i (mix P ops C Q rest) a w

/-- The lexical walk, over the operations themselves. -/
def walk (P : Program) (ops : Array Oper) (C : World → Prop) (Q : Act → World → Prop) : List Oper → Act → World → Prop
  | [], a, w => Q a w
  | o :: rest, a, w => oneOp P ops C o (walk P ops C Q rest) a w

theorem Calls_some {f : FuncId} {args : Array Value} {w : World} {R : Ending → World → Prop} (h : Calls P f args w R) : ∃ e w', R e w' :=
  let ⟨e, w', _, r, _⟩ := h []; ⟨e, w', r⟩

theorem loud_mono {o : Oper} {a : Act} {w : World} {K K' : Act → World → Prop} (h : ∀ a w, C w → K a w → K' a w) (hh : loudAt P C o a w K) : loudAt P C o a w K' := by
  unfold loudAt at *
  generalize (execOp a.eval o).run P w = r at *
  cases r with
  | ok n w' =>
    cases n <;> simp only [loudUpon] at hh ⊢ <;> first | exact ⟨hh.1, h _ _ hh.1 hh.2⟩ | skip
    case enter f args =>
      refine Calls.mono hh fun e w'' he => ?_
      cases e with
      | returned u => exact ⟨he.1, h _ _ he.1 he.2⟩
      | _ => exact he
    case row row args => exact Rows.mono hh fun v w'' he => ⟨he.1, h _ _ he.1 he.2⟩
  | halt x w' => exact hh

theorem one_mono {o : Oper} {a : Act} {w : World} {K K' : Act → World → Prop} (hw : C w) (h : ∀ a w, C w → K a w → K' a w) (hh : oneOp P ops C o K a w) : oneOp P ops C o K' a w := by
  unfold oneOp at *
  split
  · rename_i h1
    simp only [h1, if_true] at hh
    split
    · rename_i h2
      simp only [h2, if_true] at hh
      obtain ⟨v, hv, hk⟩ := hh
      exact ⟨v, hv, h _ _ hw hk⟩
    · rename_i h2
      simp only [h2] at hh
      exact loud_mono h hh
  · rename_i h1
    simp only [h1] at hh
    exact h _ _ hw hh

theorem mixOp_mono {i : Nat} {a : Act} {w : World} {K K' : Act → World → Prop} (hw : C w) (h : ∀ a w, C w → K a w → K' a w) (hh : mixOp P ops C i K a w) : mixOp P ops C i K' a w := by
  unfold mixOp at *
  split
  · rename_i ho; simp only [ho] at hh; exact h _ _ hw hh
  · rename_i o ho; simp only [ho] at hh; exact one_mono hw h hh

/-- Soundness of one operation. -/
theorem one_wp {o : Oper} {i : Nat} {Q : Exit → Act → World → Prop} {a : Act} {w : World} {K : Act → World → Prop} (hi : ops[i]? = some o) (hw : C w) (hh : oneOp P ops C o K a w) :
    wpOp P ops Q i (fun a' w' => C w' ∧ K a' w') a w := by
  unfold wpOp
  simp only [hi]
  unfold oneOp at hh
  split
  · rename_i h1
    simp only [h1, if_true] at hh
    left
    unfold Oper.wp
    split at hh
    · obtain ⟨v, hv, hk⟩ := hh
      have := hv ⟨w, hw⟩
      simp only at this
      generalize (execOp a.eval o).run P w = r at *
      cases r with
      | ok n w' =>
        cases n <;> simp only at this
        obtain ⟨rfl, rfl⟩ := this
        exact ⟨hw, hk⟩
      | halt x w' => simp only at this
    · unfold loudAt at hh
      generalize (execOp a.eval o).run P w = r at *
      cases r with
      | ok n w' =>
        cases n <;> simp only [loudUpon] at hh <;> simp only [Oper.upon] <;> first | exact hh | skip
        case enter f args =>
          refine Calls.mono hh fun e w'' he => ?_
          cases e with
          | returned u => exact he
          | _ => exact he.elim
      | halt x w' => simp only [loudUpon] at hh
  · rename_i h1
    simp only [h1] at hh
    exact ⟨hw, hh⟩

theorem mixOp_wp {i : Nat} {Q : Exit → Act → World → Prop} {a : Act} {w : World} {K : Act → World → Prop} (hw : C w) (hh : mixOp P ops C i K a w) :
    wpOp P ops Q i (fun a' w' => C w' ∧ K a' w') a w := by
  cases hi : ops[i]? with
  | none => unfold wpOp; simp only [hi]; unfold mixOp at hh; simp only [hi] at hh; exact ⟨hw, hh⟩
  | some o => unfold mixOp at hh; simp only [hi] at hh; exact one_wp hi hw hh

/-- The value of an operation that is calm, or not wanted. -/
def Gives (P : Program) (ops : Array Oper) (C : World → Prop) (o : Oper) (v : Value) (a : Act) : Prop :=
  (Region.wanted o (yielded ops a.tmps) = true ∧ calm o = true ∧ Sure P C o a v) ∨ (Region.wanted o (yielded ops a.tmps) = false ∧ v = undef)

theorem Gives.one {o : Oper} {v : Value} {a : Act} {w : World} {K : Act → World → Prop} (h : Gives P ops C o v a) (hk : K (a.put o.dst v) w) : oneOp P ops C o K a w := by
  unfold oneOp
  rcases h with ⟨h1, h2, h3⟩ | ⟨h1, rfl⟩
  · simp only [h1, h2, if_true]; exact ⟨v, h3, hk⟩
  · simp only [h1]; exact hk

theorem gives_of_one {o : Oper} {a : Act} {w : World} {K : Act → World → Prop} (hc : calm o = true ∨ Region.wanted o (yielded ops a.tmps) = false) (h : oneOp P ops C o K a w) :
    ∃ v, Gives P ops C o v a ∧ K (a.put o.dst v) w := by
  unfold oneOp at h
  by_cases h1 : Region.wanted o (yielded ops a.tmps) = true
  · rcases hc with h2 | h2
    · simp only [h1, h2, if_true] at h
      obtain ⟨v, hv, hk⟩ := h
      exact ⟨v, .inl ⟨h1, h2, hv⟩, hk⟩
    · rw [h1] at h2; cases h2
  · simp only [h1] at h
    exact ⟨undef, .inr ⟨by simpa using h1, rfl⟩, h⟩

theorem Gives.of_same {o : Oper} {v : Value} {a a' : Act} (hy : Gives P ops C o v a) (he : execOp a'.eval o = execOp a.eval o)
    (hw : Region.wanted o (yielded ops a'.tmps) = Region.wanted o (yielded ops a.tmps)) : Gives P ops C o v a' := by
  unfold Gives Sure at *
  rw [he, hw]
  exact hy

theorem Gives.unique {o : Oper} {v v' : Value} {a : Act} {w : World} (hw : C w) (h : Gives P ops C o v a) (h' : Gives P ops C o v' a) : v = v' := by
  rcases h with ⟨h1, h2, h3⟩ | ⟨h1, h2⟩ <;> rcases h' with ⟨k1, k2, k3⟩ | ⟨k1, k2⟩
  · have e1 := h3 ⟨w, hw⟩
    have e2 := k3 ⟨w, hw⟩
    generalize (execOp a.eval o).run P (⟨w, hw⟩ : { w : World // C w }).val = r at *
    cases r with
    | ok n w' =>
      cases n <;> simp only at e1 e2
      rw [← e1.2, ← e2.2]
    | halt x w' => simp only at e1
  · rw [h1] at k1; cases k1
  · rw [h1] at k1; cases k1
  · rw [h2, k2]

/-- One operation 'oj', apart from 'oi' whose value is known: whether that value is already in its temporary makes no difference. -/
theorem one_put {oi oj : Oper} {v : Value} (hap : oi.apart ops oj = true)
    (hsi : ∀ cs b, oi.op ≠ .select cs b) (hsj : ∀ cs b, oj.op ≠ .select cs b) {K : Act → World → Prop} {a : Act} {w : World}
    (hy : Gives P ops C oi v a) (h : oneOp P ops C oj K (a.put oi.dst v) w) :
    oneOp P ops C oj (fun a' w' => Gives P ops C oi v a' ∧ K (a'.put oi.dst v) w') a w := by
  obtain ⟨h1, h2, h3⟩ := Oper.apart_spec hap
  have keep : ∀ u, Gives P ops C oi v (a.put oj.dst u) := fun u =>
    hy.of_same (execOp_put oi hsi a oj.dst u h3) (wanted_put oi a oj.dst u h3)
  have keepD : ∀ d, Gives P ops C oi v ({ a with defers := d :: a.defers }.put oj.dst undef) := fun d =>
    (hy.of_same (a' := { a with defers := d :: a.defers }) rfl rfl).of_same (execOp_put oi hsi _ oj.dst undef h3) (wanted_put oi _ oj.dst undef h3)
  unfold oneOp at *
  rw [wanted_put oj a oi.dst v h1] at h
  split
  · rename_i hw
    simp only [hw, if_true] at h
    split
    · rename_i hc
      simp only [hc, if_true] at h
      obtain ⟨u, hu, hn⟩ := h
      refine ⟨u, ?_, keep u, by rw [← Act.put_comm a v u h2]; exact hn⟩
      unfold Sure at *
      rwa [execOp_put oj hsj a oi.dst v h1] at hu
    · rename_i hc
      simp only [hc, Bool.false_eq_true, if_false] at h
      unfold loudAt at *
      rw [execOp_put oj hsj a oi.dst v h1] at h
      generalize (execOp a.eval oj).run P w = r at *
      cases r with
      | ok n w' =>
        cases n <;> simp only [loudUpon] at h ⊢ <;> first | exact ⟨h.1, keep _, by rw [← Act.put_comm a v _ h2]; exact h.2⟩ | exact ⟨h.1, keepD _, by rw [← Act.put_comm _ v undef h2, ← Act.put_defers]; exact h.2⟩ | exact h | skip
        case enter f args =>
          refine Calls.mono h fun e w'' he => ?_
          cases e with
          | returned u => exact ⟨he.1, keep _, by rw [← Act.put_comm a v _ h2]; exact he.2⟩
          | _ => exact he
        case row row args => exact Rows.mono h fun u w'' he => ⟨he.1, keep _, by rw [← Act.put_comm a v _ h2]; exact he.2⟩
      | halt x w' => exact h
  · rename_i hw
    simp only [hw] at h
    exact ⟨keep _, by rw [← Act.put_comm a v undef h2]; exact h⟩

/-- A loud operation leads somewhere. -/
theorem loud_some {o : Oper} {a : Act} {w : World} {K : Act → World → Prop} (h : loudAt P C o a w K) : ∃ (a1 : Act) (u : Value) (w' : World), (a1 = a ∨ ∃ d, a1 = { a with defers := d :: a.defers }) ∧ C w' ∧ K (a1.put o.dst u) w' := by
  unfold loudAt at h
  generalize (execOp a.eval o).run P w = r at *
  cases r with
  | ok n w' =>
    cases n <;> simp only [loudUpon] at h <;> first | exact ⟨_, _, _, .inl rfl, h⟩ | exact ⟨_, _, _, .inr ⟨_, rfl⟩, h⟩ | skip
    case enter f args =>
      obtain ⟨e, w'', he⟩ := Calls_some h
      cases e with
      | returned u => exact ⟨_, _, _, .inl rfl, he⟩
      | _ => exact he.elim
    case row row args =>
      obtain ⟨v, w'', he, _⟩ := h default []
      exact ⟨_, _, _, .inl rfl, he⟩
  | halt x w' => simp only [loudUpon] at h

/-- THE SWAP. -/
theorem one_swap {oi oq : Oper} (hap : oq.apart ops oi = true) (hap' : oi.apart ops oq = true) (hc : calm oq = true ∨ calm oi = true)
    (hsi : ∀ cs b, oi.op ≠ .select cs b) (hsq : ∀ cs b, oq.op ≠ .select cs b) {K : Act → World → Prop} {a : Act} {w : World} (hw : C w)
    (h : oneOp P ops C oq (oneOp P ops C oi K) a w) : oneOp P ops C oi (oneOp P ops C oq K) a w := by
  by_cases hq : calm oq = true ∨ Region.wanted oq (yielded ops a.tmps) = false
  · obtain ⟨vq, hvq, hk⟩ := gives_of_one hq h
    exact one_mono hw (fun a' w' _ h' => h'.1.one h'.2) (one_put hap hsq hsi hvq hk)
  · have hci : calm oi = true := hc.resolve_left fun h => hq (.inl h)
    have hqc : calm oq = false := by
      cases hx : calm oq
      · rfl
      · exact absurd (.inl hx) hq
    have hqw : Region.wanted oq (yielded ops a.tmps) = true := by
      cases hx : Region.wanted oq (yielded ops a.tmps)
      · exact absurd (.inr hx) hq
      · rfl
    obtain ⟨h1, h2, h3⟩ := Oper.apart_spec hap'
    have hl : loudAt P C oq a w (oneOp P ops C oi K) := by
      have h' := h
      rw [oneOp, if_pos hqw, if_neg (by simp [hqc])] at h'
      exact h'
    obtain ⟨a1, u, w', ha1, hw', hx⟩ := loud_some hl
    obtain ⟨v, hv, _⟩ := gives_of_one (.inl hci) hx
    have hv1 : Gives P ops C oi v a1 := hv.of_same (execOp_put oi hsi a1 oq.dst u h3).symm (wanted_put oi a1 oq.dst u h3).symm
    have hva : Gives P ops C oi v a := by
      rcases ha1 with rfl | ⟨d, rfl⟩
      · exact hv1
      · exact hv1.of_same rfl rfl
    refine hva.one ?_
    unfold oneOp
    rw [wanted_put oq a oi.dst v h1]
    simp only [hqw, hqc, if_true, Bool.false_eq_true, if_false]
    have hl2 := loud_mono (P := P) (C := C) (K' := fun a'' w'' => ∃ v', Gives P ops C oi v' a'' ∧ K (a''.put oi.dst v') w'') (fun a'' w'' _ h' => gives_of_one (.inl hci) h') hl
    clear hl hx
    unfold loudAt at *
    rw [execOp_put oq hsq a oi.dst v h1]
    have fin : ∀ (b : Act) (u : Value) (w'' : World), Gives P ops C oi v b → C w'' → (∃ v', Gives P ops C oi v' (b.put oq.dst u) ∧ K ((b.put oq.dst u).put oi.dst v') w'') → K ((b.put oi.dst v).put oq.dst u) w'' := by
      rintro b u w'' hb hw'' ⟨v', g, hk⟩
      have g2 : Gives P ops C oi v (b.put oq.dst u) := hb.of_same (execOp_put oi hsi b oq.dst u h3) (wanted_put oi b oq.dst u h3)
      have := Gives.unique hw'' g g2
      subst this
      rw [Act.put_comm b v' u h2]
      exact hk
    generalize (execOp a.eval oq).run P w = r at *
    cases r with
    | ok n w' =>
      cases n <;> simp only [loudUpon] at hl2 ⊢ <;> first | exact ⟨hl2.1, fin _ _ _ hva hl2.1 hl2.2⟩ | exact hl2 | skip
      case enter f args =>
        refine Calls.mono hl2 fun e w'' he => ?_
        cases e with
        | returned u => exact ⟨he.1, fin _ _ _ hva he.1 he.2⟩
        | _ => exact he
      case defer d =>
        refine ⟨hl2.1, ?_⟩
        rw [Act.put_defers]
        exact fin _ _ _ (hva.of_same rfl rfl) hl2.1 hl2.2
      case row row args => exact Rows.mono hl2 fun u w'' he => ⟨he.1, fin _ _ _ hva he.1 he.2⟩
    | halt x w' => exact hl2

/-! ### The check on the edges -/

def preds (md : Region.Mode) (o : Oper) : List Nat := o.after.toList.filterMap fun e => if Region.binds md e then some e.on else none

/-- For each operation, all that it waits for, as bits. -/
def table (md : Region.Mode) : List Oper → List Nat → List Nat
  | [], acc => acc
  | o :: rest, acc => table md rest (acc ++ [(preds md o).foldl (fun m p => m ||| (1 <<< p) ||| acc.getD p 0) 0])

def tableOk (md : Region.Mode) (ops : Array Oper) (tab : List Nat) : Bool :=
  (List.range ops.size).all fun j => match ops[j]? with
    | none => true
    | some o => (preds md o).all (fun p => decide (p < j)) && (List.range j).all fun q => !(tab.getD j 0).testBit q || (preds md o).any fun p => p == q || (decide (q < p) && (tab.getD p 0).testBit q)

def pairsOk (ops : Array Oper) (tab : List Nat) : Bool :=
  (List.range ops.size).all fun j => match ops[j]? with
    | none => true
    | some oj => (List.range j).all fun q => (tab.getD j 0).testBit q || match ops[q]? with
      | none => true
      | some oq => oq.apart ops oj && oj.apart ops oq && (calm oq || calm oj)

def ok (md : Region.Mode) (ops : Array Oper) : Bool :=
  Region.noSelect ops && tableOk md ops (table md ops.toList []) && pairsOk ops (table md ops.toList [])

theorem mem_preds {o : Oper} {p : Nat} : p ∈ preds md o ↔ ∃ e ∈ o.after, Region.binds md e = true ∧ e.on = p := by
  unfold preds
  simp only [List.mem_filterMap, Array.mem_toList_iff]
  constructor
  · rintro ⟨e, he, h⟩
    by_cases hb : Region.binds md e = true
    · simp only [hb, if_true, Option.some.injEq] at h; exact ⟨e, he, hb, h⟩
    · simp [hb] at h
  · rintro ⟨e, he, hb, h⟩
    exact ⟨e, he, by simp [hb, h]⟩

/-- What an operation that may come up waits for has come up. -/
theorem table_down {tab : List Nat} (ht : tableOk md ops tab = true) {rem : List Nat}
    (hdown : ∀ (j : Nat) (o : Oper) p, ops[j]? = some o → j ∉ rem → p ∈ preds md o → p ∉ rem) :
    ∀ (n j : Nat) (o : Oper), j ≤ n → ops[j]? = some o → (∀ p ∈ preds md o, p ∉ rem) → ∀ q, q < j → (tab.getD j 0).testBit q = true → q ∉ rem := by
  intro n
  induction n with
  | zero => intro j o hj _ _ q hq; omega
  | succ n ih =>
    intro j o hj ho hp q hq hb
    unfold tableOk at ht
    have hjs : j < ops.size := (Array.getElem?_eq_some_iff.1 ho).1
    have h1 := List.all_eq_true.1 ht j (List.mem_range.2 hjs)
    simp only [ho, Bool.and_eq_true, List.all_eq_true] at h1
    have h2 := h1.2 q (List.mem_range.2 hq)
    simp only [hb, Bool.not_true, Bool.false_or, List.any_eq_true, Bool.or_eq_true, beq_iff_eq, Bool.and_eq_true, decide_eq_true_eq] at h2
    obtain ⟨p, hpm, hpq⟩ := h2
    have hpj : p < j := by simpa using h1.1 p hpm
    rcases hpq with rfl | ⟨hqp, hpq⟩
    · exact hp _ hpm
    · have hps : p < ops.size := by omega
      have hpo : ops[p]? = some ops[p] := Array.getElem?_eq_getElem hps
      exact ih p _ (by omega) hpo (fun r hr => hdown p _ r hpo (hp p hpm) hr) q hqp hpq

/-- Number i may be moved to the front. -/
theorem mix_front {Q : Act → World → Prop} {i : Nat} {oi : Oper} (ho : ops[i]? = some oi) (hns : Region.noSelect ops = true) (l2 : List Nat) :
    ∀ (l1 : List Nat) (a : Act) (w : World), (∀ q ∈ l1, ∀ oq, ops[q]? = some oq → oq.apart ops oi = true ∧ oi.apart ops oq = true ∧ (calm oq = true ∨ calm oi = true)) → C w →
      mix P ops C Q (l1 ++ i :: l2) a w → mixOp P ops C i (mix P ops C Q (l1 ++ l2)) a w
  | [], a, w, _, _, h => h
  | q :: l1, a, w, hl, hw, h => by
    simp only [List.cons_append, mix] at h
    have h2 : mixOp P ops C q (mixOp P ops C i (mix P ops C Q (l1 ++ l2))) a w :=
      mixOp_mono hw (fun a' w' hw' h' => mix_front ho hns l2 l1 a' w' (fun q' hq' => hl q' (by simp [hq'])) hw' h') h
    cases hq : ops[q]? with
    | none =>
      unfold mixOp at h2
      simp only [hq] at h2
      unfold mixOp
      simp only [ho]
      simp only [ho] at h2
      refine one_mono hw (fun a' w' _ h' => ?_) h2
      show mixOp P ops C q (mix P ops C Q (l1 ++ l2)) a' w'
      unfold mixOp
      simp only [hq]
      exact h'
    | some oq =>
      obtain ⟨e1, e2, e3⟩ := hl q (by simp) oq hq
      have e4 := one_swap (P := P) (C := C) (oi := oi) (oq := oq) e1 e2 e3 (fun cs b => Region.noSelect_spec hns i oi cs b ho) (fun cs b => Region.noSelect_spec hns q oq cs b hq) (K := mix P ops C Q (l1 ++ l2)) (a := a) (w := w) hw
      have h3 : oneOp P ops C oq (oneOp P ops C oi (mix P ops C Q (l1 ++ l2))) a w := by
        unfold mixOp at h2
        simp only [hq] at h2
        refine one_mono hw (fun a' w' _ h' => ?_) h2
        unfold mixOp at h'
        simpa only [ho] using h'
      have h4 := e4 h3
      unfold mixOp
      simp only [ho]
      refine one_mono hw (fun a' w' _ h' => ?_) h4
      show mixOp P ops C q (mix P ops C Q (l1 ++ l2)) a' w'
      unfold mixOp
      simp only [hq]
      exact h'

/-- **ONE LEXICAL WALK SERVES EVERY ORDER.** -/
theorem any_of_mix {Q : Act → World → Prop} {Q' : Exit → Act → World → Prop} (hQ : ∀ a w, C w → Q a w → Q' .normal a w) (hB : ok md ops = true) :
    ∀ (n : Nat) (rem : List Nat) (listed : Array Bool) (a : Act) (w : World), rem.length = n → rem.Pairwise (· < ·) → listed.size = ops.size →
      (∀ j, j ∈ rem ↔ listed.getD j true = false) → (∀ (j : Nat) (o : Oper) p, ops[j]? = some o → j ∉ rem → p ∈ preds md o → p ∉ rem) → C w →
      mix P ops C Q rem a w → wpAny P md ops Q' n listed a w := by
  unfold ok at hB
  simp only [Bool.and_eq_true] at hB
  obtain ⟨⟨hns, ht⟩, hp⟩ := hB
  have lt_of : ∀ {listed : Array Bool} {j : Nat}, listed.size = ops.size → listed.getD j true = false → j < ops.size := fun {listed j} hs h => by
    rcases Nat.lt_or_ge j listed.size with h' | h'
    · omega
    · simp [Array.getElem?_eq_none h'] at h
  intro n
  induction n with
  | zero =>
    intro rem listed a w hn _ hs hl _ hw h
    obtain rfl : rem = [] := List.length_eq_zero_iff.1 hn
    refine ⟨?_, hQ _ _ hw h⟩
    apply List.eq_nil_iff_forall_not_mem.2
    intro j hj
    have := (hl j).2 (mem_ready.1 hj).1
    cases this
  | succ n ih =>
    intro rem listed a w hn hpw hs hl hdown hw h
    obtain ⟨k, rem', rfl⟩ : ∃ k rem', rem = k :: rem' := by
      cases rem with
      | nil => simp at hn
      | cons k rem' => exact ⟨k, rem', rfl⟩
    have hk0 := (hl k).1 (by simp)
    have hks : k < ops.size := lt_of hs hk0
    have hko : ops[k]? = some ops[k] := Array.getElem?_eq_getElem hks
    have hkr : k ∈ Region.ready md ops listed := by
      refine mem_ready.2 ⟨hk0, _, hko, fun e he hb => ?_⟩
      have hlt : e.on < k := by
        have h1 := List.all_eq_true.1 (by unfold tableOk at ht; exact ht) k (List.mem_range.2 hks)
        simp only [hko, Bool.and_eq_true, List.all_eq_true] at h1
        simpa using h1.1 e.on (mem_preds.2 ⟨e, he, hb, rfl⟩)
      have hno : e.on ∉ k :: rem' := by
        intro hm
        rcases List.mem_cons.1 hm with h' | h'
        · omega
        · have := (List.pairwise_cons.1 hpw).1 _ h'
          omega
      have : listed.getD e.on true ≠ false := fun hf => hno ((hl _).2 hf)
      have hes : e.on < listed.size := by omega
      simp only [Array.getD_eq_getD_getElem?, Array.getElem?_eq_getElem hes, Option.getD_some] at this ⊢
      simpa using this
    refine ⟨fun h0 => absurd (h0 ▸ hkr) (by simp), fun i hi => ?_⟩
    obtain ⟨hi0, oi, hoi, hall⟩ := mem_ready.1 hi
    have him := (hl i).2 hi0
    obtain ⟨l1, l2, hsplit⟩ := List.append_of_mem him
    rw [hsplit] at hpw h hn
    have hpreds : ∀ p ∈ preds md oi, p ∉ k :: rem' := by
      intro p hpm hm
      obtain ⟨e, he, hb, rfl⟩ := mem_preds.1 hpm
      have h1 := hall e he hb
      have h2 := (hl _).1 hm
      have h3 := lt_of hs h2
      have hes : e.on < listed.size := by omega
      simp only [Array.getD_eq_getD_getElem?, Array.getElem?_eq_getElem hes, Option.getD_some] at h1 h2
      rw [h1] at h2
      cases h2
    have hfree : ∀ q ∈ l1, ∀ oq, ops[q]? = some oq → oq.apart ops oi = true ∧ oi.apart ops oq = true ∧ (calm oq = true ∨ calm oi = true) := by
      intro q hq oq hoq
      have hqi : q < i := (List.pairwise_append.1 hpw).2.2 q hq i (by simp)
      have hqm : q ∈ k :: rem' := by rw [hsplit]; simp [hq]
      have his : i < ops.size := (Array.getElem?_eq_some_iff.1 hoi).1
      have h1 := List.all_eq_true.1 (by unfold pairsOk at hp; exact hp) i (List.mem_range.2 his)
      simp only [hoi, List.all_eq_true] at h1
      have h2 := h1 q (List.mem_range.2 hqi)
      simp only [hoq, Bool.or_eq_true, Bool.and_eq_true] at h2
      rcases h2 with h2 | h2
      · exact absurd hqm (table_down ht hdown i i oi (Nat.le_refl _) hoi hpreds q hqi h2)
      · exact ⟨h2.1.1, h2.1.2, h2.2⟩
    have h1 := mix_front hoi hns l2 l1 a w hfree hw h
    refine wpOp_mono (fun a' w' h' => ?_) (mixOp_wp hw h1)
    have hnot : i ∉ l1 ++ l2 := by
      intro hm
      rcases List.mem_append.1 hm with h | h
      · have := (List.pairwise_append.1 hpw).2.2 i h i (by simp)
        omega
      · have := (List.pairwise_cons.1 (List.pairwise_append.1 hpw).2.1).1 i h
        omega
    refine ih (l1 ++ l2) _ a' w' ?_ ?_ (by simpa using hs) ?_ ?_ h'.1 h'.2
    · simp at hn ⊢; omega
    · exact hpw.sublist (List.Sublist.append (List.Sublist.refl _) (List.sublist_cons_self _ _))
    · intro j
      by_cases hji : j = i
      · subst hji
        have his : j < listed.size := by have := lt_of hs hi0; omega
        constructor
        · intro hm; exact absurd hm hnot
        · intro hm; simp [Array.getElem?_setIfInBounds_self_of_lt his] at hm
      · rw [getD_set_ne true (Ne.symm hji), ← hl j, hsplit]
        simp [hji]
    · intro j o p hjo hjn hpm hpin
      have hpin' : p ∈ k :: rem' := by rw [hsplit]; simp at hpin ⊢; rcases hpin with h | h <;> simp [h]
      by_cases hji : j = i
      · subst hji
        rw [hoi] at hjo
        cases hjo
        exact hpreds p hpm hpin'
      · refine hdown j o p hjo ?_ hpm hpin'
        rw [hsplit]
        simp at hjn ⊢
        exact ⟨hjn.1, hji, hjn.2⟩

theorem walk_mix {Q : Act → World → Prop} : ∀ (l : List Oper) (k : Nat) (a : Act) (w : World), C w → (∀ j, l[j]? = if j < l.length then ops[k + j]? else none) → walk P ops C Q l a w → mix P ops C Q (List.range' k l.length) a w
  | [], _, _, _, _, _, h => h
  | o :: l, k, a, w, hw, hl, h => by
    have h0 : ops[k]? = some o := by simpa using (hl 0).symm
    simp only [List.length_cons, List.range'_succ, mix]
    unfold mixOp
    simp only [h0]
    refine one_mono hw (fun a' w' hw' h' => ?_) h
    refine walk_mix l (k + 1) a' w' hw' (fun j => ?_) h'
    have := hl (j + 1)
    simp only [List.getElem?_cons_succ, List.length_cons, Nat.add_lt_add_iff_right] at this
    rw [this, show k + (j + 1) = k + 1 + j from by omega]

theorem wp_region {id : Nat} {Q : Exit → Act → World → Prop} {a : Act} {w : World} (C : World → Prop) (hm : P.follows .mixedOrders = true) (hB : ok .any ops = true) (hC : C { w with drawn := w.drawn + 1 })
    (h : walk P ops C (fun a' w' => Q .normal a' w') ops.toList a { w with drawn := w.drawn + 1 }) : (Code.region id ops true).wp P Q a w := by
  refine wp_region_any hm (any_of_mix (C := C) (Q := fun a' w' => Q .normal a' w') (fun _ _ _ h => h) hB ops.size (List.range' 0 ops.size) _ a _ (by simp) List.pairwise_lt_range' (by simp) (fun j => ?_) (fun j o p ho hj _ => ?_) hC ?_)
  · simp only [List.mem_range'_1, Array.getD_eq_getD_getElem?]
    by_cases hj : j < ops.size
    · simp [hj]
    · simp [hj]
  · exfalso
    apply hj
    simp [(Array.getElem?_eq_some_iff.1 ho).1]
  · have := walk_mix (P := P) (C := C) (Q := fun a' w' => Q .normal a' w') ops.toList 0 a _ hC (fun j => by
      by_cases hj : j < ops.size
      · simp [hj]
      · simp [hj]) h
    simpa using this

/-- A class of worlds as a family. -/
theorem family (S : World → Prop) {w : World} (hw : S w) : ∃ (I : Type) (W : I → World), Nonempty I ∧ (∀ i, S (W i)) ∧ (∀ v, S v → ∃ i, v = W i) :=
  ⟨{ v : World // S v }, Subtype.val, ⟨⟨w, hw⟩⟩, fun i => i.property, fun v h => ⟨⟨v, h⟩, rfl⟩⟩

theorem walk_nil {Q : Act → World → Prop} {a : Act} {w : World} (h : Q a w) : walk P ops C Q [] a w := h
theorem walk_step {Q : Act → World → Prop} {a : Act} {w : World} {o : Oper} {rest : List Oper}
    (h : ∀ K : Act → World → Prop, (∀ a w, walk P ops C Q rest a w → K a w) → oneOp P ops C o K a w) : walk P ops C Q (o :: rest) a w := h _ (fun _ _ h => h)

theorem wanted_none {o : Oper} {tmps : Array Value} (h : o.guard = none) : Region.wanted o (yielded ops tmps) = true := by
  unfold Region.wanted; rw [h]
theorem yielded_of {g d : Nat} {v : Bool} {tmps : Array Value} (h2 : (ops[g]?).bind (·.dst) = some d) (h3 : tmps[d]? = some (.bool v)) : yielded ops tmps g = some v := by
  unfold yielded; rw [h2]; simp only [Option.bind_some, h3]
theorem wanted_tt {o : Oper} {g d : Nat} {tmps : Array Value} (h : o.guard = some (g, true)) (h2 : (ops[g]?).bind (·.dst) = some d) (h3 : tmps[d]? = some (.bool true)) : Region.wanted o (yielded ops tmps) = true := by
  unfold Region.wanted; rw [h]; simp only [yielded_of h2 h3]; rfl
theorem wanted_ff {o : Oper} {g d : Nat} {tmps : Array Value} (h : o.guard = some (g, false)) (h2 : (ops[g]?).bind (·.dst) = some d) (h3 : tmps[d]? = some (.bool false)) : Region.wanted o (yielded ops tmps) = true := by
  unfold Region.wanted; rw [h]; simp only [yielded_of h2 h3]; rfl
theorem wanted_tf {o : Oper} {g d : Nat} {tmps : Array Value} (h : o.guard = some (g, true)) (h2 : (ops[g]?).bind (·.dst) = some d) (h3 : tmps[d]? = some (.bool false)) : Region.wanted o (yielded ops tmps) = false := by
  unfold Region.wanted; rw [h]; simp only [yielded_of h2 h3]; rfl
theorem wanted_ft {o : Oper} {g d : Nat} {tmps : Array Value} (h : o.guard = some (g, false)) (h2 : (ops[g]?).bind (·.dst) = some d) (h3 : tmps[d]? = some (.bool true)) : Region.wanted o (yielded ops tmps) = false := by
  unfold Region.wanted; rw [h]; simp only [yielded_of h2 h3]; rfl

/-- The operations that yield a value and never enter a function. -/
def plain (o : Oper) : Bool :=
  match o.op with
  | .move _ | .assign _ | .pick _ _ _ | .load _ _ | .binOp _ _ _ _ _ | .unOp _ _ _ | .convert _ _ _ | .field _ _ _ | .index _ _ _ | .extract _ _ | .fieldAddr _ _ _ | .indexAddr _ _ _ | .build _ _ | .slice _ _ _ _ _ => true
  | _ => false

theorem plain_calm {o : Oper} (h : plain o = true) : calm o = true := by
  obtain ⟨dst, op, type, pos, after, guard⟩ := o
  cases op <;> simp [plain, calm] at h ⊢

theorem value_of {s : Sem Value} {P : Program} {w w' : World} {n : Next} (h : (do let x ← s; pure (Next.value x) : Sem Next).run P w = .ok n w') : ∃ u, n = .value u := by
  change (Sem.bind s fun x => Sem.pure (Next.value x)).run P w = .ok n w' at h
  have e : (Sem.bind s fun x => Sem.pure (Next.value x)).run P w = (s.run P w).andThen fun x w => (Sem.pure (Next.value x) : Sem Next).run P w := Sem.run_bind ..
  rw [e] at h
  cases hs : s.run P w with
  | ok x w1 => rw [hs] at h; simp only [Result.andThen, Sem.run, Result.ok.injEq] at h; exact ⟨x, h.1.symm⟩
  | halt x w1 => rw [hs] at h; simp only [Result.andThen] at h; cases h

theorem plain_value {ρ : Operand → Value} {o : Oper} (hp : plain o = true) {P : Program} {w w' : World} {n : Next} (h : (execOp ρ o).run P w = .ok n w') : ∃ u, n = .value u := by
  obtain ⟨dst, op, type, pos, after, guard⟩ := o
  cases op <;> simp only [plain, Bool.false_eq_true] at hp <;> simp only [execOp] at h <;> first
    | exact value_of h
    | (simp only [Sem.run, pure, Result.ok.injEq] at h; exact ⟨_, h.1.symm⟩)
    | skip
  case pick c x y =>
    rw [Sem.run_bind] at h
    cases hs : (asBool (ρ c)).run P w with
    | ok b w1 => rw [hs] at h; simp only [Result.andThen] at h; change (Sem.pure _ : Sem Next).run P w1 = _ at h; simp only [Sem.run, Result.ok.injEq] at h; exact ⟨_, h.1.symm⟩
    | halt b w1 => rw [hs] at h; simp only [Result.andThen] at h; cases h

theorem walk_calm {Q : Act → World → Prop} {a : Act} {w : World} {o : Oper} {rest : List Oper} (hp : plain o = true) (hwt : Region.wanted o (yielded ops a.tmps) = true)
    (h : ∀ K : Act → Prop, (∀ a', walk P ops C Q rest a' w → K a') → o.quiet P a C K) : walk P ops C Q (o :: rest) a w := by
  obtain ⟨v, hv, hk⟩ := h (fun a' => walk P ops C Q rest a' w) (fun _ h => h)
  unfold walk oneOp
  rw [if_pos hwt, if_pos (plain_calm hp)]
  refine ⟨v, fun i => ?_, hk⟩
  have h1 := hv i.val i.property
  unfold Oper.quietAt at h1
  cases hr : (execOp a.eval o).run P i.val with
  | ok n w' =>
    obtain ⟨u, rfl⟩ := plain_value hp hr
    rw [hr] at h1
    exact h1
  | halt x w' => rw [hr] at h1; exact h1

theorem walk_loud {Q : Act → World → Prop} {a : Act} {w : World} {o : Oper} {rest : List Oper} (hc : calm o = false) (hwt : Region.wanted o (yielded ops a.tmps) = true)
    (h : ∀ K : Act → World → Prop, (∀ a' w', C w' → walk P ops C Q rest a' w' → K a' w') → o.wp P a w K (fun _ _ _ => False)) : walk P ops C Q (o :: rest) a w := by
  have h1 := h (fun a' w' => C w' ∧ walk P ops C Q rest a' w') (fun _ _ h h' => ⟨h, h'⟩)
  unfold walk oneOp
  rw [if_pos hwt, if_neg (by simp [hc])]
  unfold loudAt
  unfold Oper.wp at h1
  cases hr : (execOp a.eval o).run P w with
  | ok n w' =>
    rw [hr] at h1
    cases n <;> simp only [Oper.upon] at h1 <;> simp only [loudUpon] <;> first | exact h1 | skip
    case enter f args =>
      refine Calls.mono h1 fun e w'' he => ?_
      cases e with
      | returned u => exact he
      | panicked c => exact he
      | outgrown => obtain ⟨_, _, hf⟩ := he; exact hf
  | halt x w' =>
    rw [hr] at h1
    cases x <;> simp only [Oper.upon] at h1

theorem walk_skip {Q : Act → World → Prop} {a : Act} {w : World} {o : Oper} {rest : List Oper} (hwt : Region.wanted o (yielded ops a.tmps) = false)
    (h : ∀ K : Act → Prop, (∀ a', walk P ops C Q rest a' w → K a') → K (a.put o.dst undef)) : walk P ops C Q (o :: rest) a w := by
  unfold walk oneOp
  rw [if_neg (by simp [hwt])]
  exact h (fun a' => walk P ops C Q rest a' w) (fun _ h => h)

end
attribute [irreducible] walk
attribute [go_sem] oneOp calm Sure loudAt loudUpon
end Go.Mix
