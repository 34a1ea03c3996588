/- Plants: contracts of layer 14: asked. -/
import Derived.Test.YtkgeeohgfbacaaaPl
namespace Go.Proofs.Ytkgeeohgfbacaaa
open Go.RowKit Go.Own
set_option linter.unusedVariables false
set_option linter.unusedSimpArgs false
theorem PlB.new (w : World) (p : Pl) : PlB (w.alloc (.cells p.cs 95)) w.heap.size p := heap_alloc_new _ _
theorem PlB.alloc {w : World} {g : Nat} {p : Pl} (h : PlB w g p) (o : Obj) : PlB (w.alloc o) g p := (Below.heap_alloc w o _ (box_lt h)).trans h
def Pl.has (p : Pl) (i : Int) : Bool := decide (0 ≤ i) && decide (i < (p.n : Int))
set_option maxRecDepth 100000 in
set_option maxHeartbeats 1000000 in
theorem pHas (p : Pl) (i : Int) (w : World) : Calls Try.prog 93 #[.agg p.cs, .int .i64 i] w fun e w' => e = .returned (.bool (p.has i)) ∧ Below w.heap.size w w' := by
  have c0 := (PlB.new w p).cellC
  by_cases h0 : 0 ≤ i
  · by_cases h1 : i < (p.n : Int)
    · rw [show p.has i = true by simp [Pl.has, h0, h1]]
      go_enter Try.func93, Try.ntmps93
      go_wp2
      go_ret
      exact ⟨rfl, (Below.refl _ _).alloc (Nat.le_refl _) _⟩
    · rw [show p.has i = false by simp [Pl.has, h0, h1]]
      go_enter Try.func93, Try.ntmps93
      go_wp2
      go_ret
      exact ⟨rfl, (Below.refl _ _).alloc (Nat.le_refl _) _⟩
  · rw [show p.has i = false by simp [Pl.has, h0]]
    go_enter Try.func93, Try.ntmps93
    go_wp2
    go_ret
    exact ⟨rfl, (Below.refl _ _).alloc (Nat.le_refl _) _⟩
/-- What lies at a place; nothing where there is none. -/
def Pl.at (p : Pl) (i : Int) : Un := if p.has i = true then p.u i.toNat else ⟨0, 0, 0⟩
def Pl.atW (p : Pl) (i : Int) : Int := if p.has i = true then p.wt i.toNat else 0
def Pl.atT (p : Pl) (i : Int) : Int := if p.has i = true then p.tol i.toNat else 0
theorem size_pos : (Try.prog.info? 92).map (·.size) = some 5 := by kernel_rfl
theorem size_rl : (Try.prog.info? 90).map (·.size) = some 2 := by kernel_rfl
@[go_sem] theorem fld_un (w : World) (s l b wt tol : Int) : (Instr.field 92 (.agg #[.int .u8 s, .int .u8 l, .int .u8 b, .int .u8 wt, .int .u8 tol]) 0).run Try.prog w = .ok (.agg #[.int .u8 s, .int .u8 l, .int .u8 b]) w := by kernel_rfl
@[go_sem] theorem fld_rl (w : World) (s l b wt tol : Int) : (Instr.field 92 (.agg #[.int .u8 s, .int .u8 l, .int .u8 b, .int .u8 wt, .int .u8 tol]) 1).run Try.prog w = .ok (.agg #[.int .u8 wt, .int .u8 tol]) w := by kernel_rfl
/- #1 the function, #2 the result's type, #3 its zero, #4 its cells, #5 its size's rule -/
end Go.Proofs.Ytkgeeohgfbacaaa
