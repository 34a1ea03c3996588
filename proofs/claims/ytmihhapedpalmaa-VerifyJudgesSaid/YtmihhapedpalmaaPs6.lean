/- Commands and reports: the document's bytes. -/
import Derived.Test.YtmihhapedpalmaaPs3
import Derived.Test.YtmihhapedpalmaaSpR
import Derived.Test.YtmihhapedpalmaaPk7
namespace Go.Proofs.Ytmihhapedpalmaa
open Go.RowKit Go.Own
set_option linter.unusedVariables false
set_option linter.unusedSimpArgs false

/-- What the document's bytes of a command, of a report, are. -/
def CmTold (w : World) (a s u c len : Nat) (d : List Nat) (e : Ending) (w' : World) : Prop :=
  Below w.heap.size w w' ∧ ((cmBad a len ≠ 0 ∧ e = .returned (.tuple #[.slice none 0 0, .int .i64 (cmBad a len : Nat)])) ∨
    (cmBad a len = 0 ∧ ∃ v, e = .returned (.tuple #[v, .int .i64 0]) ∧ w'.ownsRow w.heap.size 5 1 v (len + 5) (bl (cmB a s u c d))))
def RpTold (w : World) (s u c t len : Nat) (d : List Nat) (e : Ending) (w' : World) : Prop :=
  Below w.heap.size w w' ∧ ((rpBad len ≠ 0 ∧ e = .returned (.tuple #[.slice none 0 0, .int .i64 (rpBad len : Nat)])) ∨
    (rpBad len = 0 ∧ ∃ v, e = .returned (.tuple #[v, .int .i64 0]) ∧ w'.ownsRow w.heap.size 5 1 v (len + 11) (bl (rpB s u c t d))))
def at3 {α : Type} (a b c : α) : Nat → α := fun i => if i = 0 then a else if i = 1 then b else c
def at5 {α : Type} (a b c d e : α) : Nat → α := fun i => if i = 0 then a else if i = 1 then b else if i = 2 then c else if i = 3 then d else e
theorem all3 {p : Nat → Prop} (h0 : p 0) (h1 : p 1) (h2 : p 2) : ∀ i, i < 3 → p i := fun i hi => by
  have : i = 0 ∨ i = 1 ∨ i = 2 := by omega
  rcases this with rfl | rfl | rfl
  · exact h0
  · exact h1
  · exact h2
theorem all5 {p : Nat → Prop} (h0 : p 0) (h1 : p 1) (h2 : p 2) (h3 : p 3) (h4 : p 4) : ∀ i, i < 5 → p i := fun i hi => by
  have : i = 0 ∨ i = 1 ∨ i = 2 ∨ i = 3 ∨ i = 4 := by omega
  rcases this with rfl | rfl | rfl | rfl | rfl
  · exact h0
  · exact h1
  · exact h2
  · exact h3
  · exact h4
end Go.Proofs.Ytmihhapedpalmaa
