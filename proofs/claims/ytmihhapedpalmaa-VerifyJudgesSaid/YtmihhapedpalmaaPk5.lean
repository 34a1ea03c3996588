/- Space packets: the helpers of the statements. -/
import Derived.Test.YtmihhapedpalmaaPk4
import Derived.Test.YtmihhapedpalmaaLaw05
namespace Go.Proofs.Ytmihhapedpalmaa
open Go.RowKit Go.Own
set_option linter.unusedVariables false
set_option linter.unusedSimpArgs false

/-- A packet's value. -/
def pkV (k : Bool) (a c : Nat) (s : Value) : Value := .agg #[.bool k, .int .u16 (a : Nat), .int .u16 (c : Nat), s]
theorem zero_rp (w : World) : (zeroValue 129).run Try.prog w = .ok (.agg #[.bool false, .int .u16 0, .int .u16 0, .slice none 0 0]) w := by kernel_rfl
theorem size_rp : (Try.prog.info? 129).map (·.size) = some 4 := by kernel_rfl
theorem pk_alloc2_new (w : World) (A : Obj) (c c' : Array Value) (t : TypeId) : ((w.alloc A).alloc (.cells c t)).setRow (w.heap.size + 1) c' = (w.alloc A).alloc (.cells c' t) := by
  have e : (w.alloc A).heap.size = w.heap.size + 1 := by simp
  rw [← e]
  exact World.setRow_alloc_new _ _ _ _
theorem neI {a b : Nat} (h : ¬ a = b) : ((a : Int) == (b : Int)) = false := by rw [beq_eq_false_iff_ne]; omega
end Go.Proofs.Ytmihhapedpalmaa
