/-
  No cell of these rows narrows 'for every input' (looked for: loops, veiled, ifaces, maps, wideKeys, modest, calm, conditions, laid).
  DERIVED. THE GIVEN ROWS OF THIS SEAT. 12 by the template 'for every input the law returns true; each argument reads behind the call as it read before'; 0 by the template 'total and deterministic' (their statements: YtleodnnkdkgeeaaTotals.lean).
  GIVEN WITH THE SEED: the statements are not yours to turn. If you find one false, say at which input.
  Laid BY PROGRAM, IN A SANDBOX (cutbox-rows.mjs): the forced cells as the released guide's own fill.sh prints them over the translation 39d3ed47a4f93b58… (all of the seat's roots in one cut). By AI agents, Wed Nov 11 2026. No macro, syntax, notation, axiom, sorry.
-/
import Derived.Test.YtleodnnkdkgeeaaChecked
import GoSem.Claim
import GoSem.ClaimJoined
import GoSem.ClaimMapViews
import Derived.JoinedTies
import Derived.KernelRfl
namespace Go.Proofs.Ytleodnnkdkgeeaa
/- THE CELL 'sum', in the pinned program and in every row, IS THE sha256 OF THE DUMP (.gsa) THAT YtleodnnkdkgeeaaProg.lean LOADS. Nothing in Lean hashes anything: it is a label: what it is worth is what the hold of that sum in a sandbox is worth. -/
noncomputable def Try.pinned : Pinned := { name := "ytleodnnkdkgeeaa", sum := "39d3ed47a4f93b584adb42ccc6f885573949ce3f68c66f4c1c6d6c6ce8105c07", checked := Try.checked }
namespace Rows
def none {H : Type} : Left H := { results := [], args := [] }

/-- 'aerielaw01.FixqAdds': WHATEVER THE INPUT: true; the input reads as it did. -/
def fixqAddsSpec : ChangeSpec := { name := "fixqAdds", fn := fun _ => fun
  | [d1, d2, d3, d4] => { results := [.lit (.bool true)], args := [d1, d2, d3, d4] }
  | _ => none }
def fixqAddsRow : OpenClaim := { program := "ytleodnnkdkgeeaa", sum := "39d3ed47a4f93b584adb42ccc6f885573949ce3f68c66f4c1c6d6c6ce8105c07", func := "aerie/aerielaw01.FixqAdds", spec := "fixqAdds", apart := false }
def FixqAddsSaid : Prop := fixqAddsRow.holds Try.pinned (OpenSpec.ofChange fixqAddsSpec)

/-- ITS FALSE NEIGHBOUR: 'it returns false'. Refute it at one input. -/
def fixqAddsWrong : ChangeSpec := { name := "fixqAdds", fn := fun _ => fun
  | [d1, d2, d3, d4] => { results := [.lit (.bool false)], args := [d1, d2, d3, d4] }
  | _ => none }
def FixqAddsWrongFalsely : Prop := fixqAddsRow.holds Try.pinned (OpenSpec.ofChange fixqAddsWrong)

/-- 'aerielaw01.FixqTimes': WHATEVER THE INPUT: true; the input reads as it did. -/
def fixqTimesSpec : ChangeSpec := { name := "fixqTimes", fn := fun _ => fun
  | [d1, d2, d3] => { results := [.lit (.bool true)], args := [d1, d2, d3] }
  | _ => none }
def fixqTimesRow : OpenClaim := { program := "ytleodnnkdkgeeaa", sum := "39d3ed47a4f93b584adb42ccc6f885573949ce3f68c66f4c1c6d6c6ce8105c07", func := "aerie/aerielaw01.FixqTimes", spec := "fixqTimes", apart := false }
def FixqTimesSaid : Prop := fixqTimesRow.holds Try.pinned (OpenSpec.ofChange fixqTimesSpec)

/-- ITS FALSE NEIGHBOUR: 'it returns false'. Refute it at one input. -/
def fixqTimesWrong : ChangeSpec := { name := "fixqTimes", fn := fun _ => fun
  | [d1, d2, d3] => { results := [.lit (.bool false)], args := [d1, d2, d3] }
  | _ => none }
def FixqTimesWrongFalsely : Prop := fixqTimesRow.holds Try.pinned (OpenSpec.ofChange fixqTimesWrong)

/-- 'aerielaw01.FixqShifts': WHATEVER THE INPUT: true; the input reads as it did. -/
def fixqShiftsSpec : ChangeSpec := { name := "fixqShifts", fn := fun _ => fun
  | [d1, d2] => { results := [.lit (.bool true)], args := [d1, d2] }
  | _ => none }
def fixqShiftsRow : OpenClaim := { program := "ytleodnnkdkgeeaa", sum := "39d3ed47a4f93b584adb42ccc6f885573949ce3f68c66f4c1c6d6c6ce8105c07", func := "aerie/aerielaw01.FixqShifts", spec := "fixqShifts", apart := false }
def FixqShiftsSaid : Prop := fixqShiftsRow.holds Try.pinned (OpenSpec.ofChange fixqShiftsSpec)

/-- ITS FALSE NEIGHBOUR: 'it returns false'. Refute it at one input. -/
def fixqShiftsWrong : ChangeSpec := { name := "fixqShifts", fn := fun _ => fun
  | [d1, d2] => { results := [.lit (.bool false)], args := [d1, d2] }
  | _ => none }
def FixqShiftsWrongFalsely : Prop := fixqShiftsRow.holds Try.pinned (OpenSpec.ofChange fixqShiftsWrong)

/-- 'aerielaw01.FixqClamps': WHATEVER THE INPUT: true; the input reads as it did. -/
def fixqClampsSpec : ChangeSpec := { name := "fixqClamps", fn := fun _ => fun
  | [d1, d2, d3] => { results := [.lit (.bool true)], args := [d1, d2, d3] }
  | _ => none }
def fixqClampsRow : OpenClaim := { program := "ytleodnnkdkgeeaa", sum := "39d3ed47a4f93b584adb42ccc6f885573949ce3f68c66f4c1c6d6c6ce8105c07", func := "aerie/aerielaw01.FixqClamps", spec := "fixqClamps", apart := false }
def FixqClampsSaid : Prop := fixqClampsRow.holds Try.pinned (OpenSpec.ofChange fixqClampsSpec)

/-- ITS FALSE NEIGHBOUR: 'it returns false'. Refute it at one input. -/
def fixqClampsWrong : ChangeSpec := { name := "fixqClamps", fn := fun _ => fun
  | [d1, d2, d3] => { results := [.lit (.bool false)], args := [d1, d2, d3] }
  | _ => none }
def FixqClampsWrongFalsely : Prop := fixqClampsRow.holds Try.pinned (OpenSpec.ofChange fixqClampsWrong)

/-- 'aerielaw01.FixqSums': WHATEVER THE INPUT: true; the input reads as it did. -/
def fixqSumsSpec : ChangeSpec := { name := "fixqSums", fn := fun _ => fun
  | [d] => { results := [.lit (.bool true)], args := [d] }
  | _ => none }
def fixqSumsRow : OpenClaim := { program := "ytleodnnkdkgeeaa", sum := "39d3ed47a4f93b584adb42ccc6f885573949ce3f68c66f4c1c6d6c6ce8105c07", func := "aerie/aerielaw01.FixqSums", spec := "fixqSums", apart := false }
def FixqSumsSaid : Prop := fixqSumsRow.holds Try.pinned (OpenSpec.ofChange fixqSumsSpec)

/-- ITS FALSE NEIGHBOUR: 'it returns false'. Refute it at one input. -/
def fixqSumsWrong : ChangeSpec := { name := "fixqSums", fn := fun _ => fun
  | [d] => { results := [.lit (.bool false)], args := [d] }
  | _ => none }
def FixqSumsWrongFalsely : Prop := fixqSumsRow.holds Try.pinned (OpenSpec.ofChange fixqSumsWrong)

/-- 'aerielaw01.FixqRoots': WHATEVER THE INPUT: true; the input reads as it did. -/
def fixqRootsSpec : ChangeSpec := { name := "fixqRoots", fn := fun _ => fun
  | [d] => { results := [.lit (.bool true)], args := [d] }
  | _ => none }
def fixqRootsRow : OpenClaim := { program := "ytleodnnkdkgeeaa", sum := "39d3ed47a4f93b584adb42ccc6f885573949ce3f68c66f4c1c6d6c6ce8105c07", func := "aerie/aerielaw01.FixqRoots", spec := "fixqRoots", apart := false }
def FixqRootsSaid : Prop := fixqRootsRow.holds Try.pinned (OpenSpec.ofChange fixqRootsSpec)

/-- ITS FALSE NEIGHBOUR: 'it returns false'. Refute it at one input. -/
def fixqRootsWrong : ChangeSpec := { name := "fixqRoots", fn := fun _ => fun
  | [d] => { results := [.lit (.bool false)], args := [d] }
  | _ => none }
def FixqRootsWrongFalsely : Prop := fixqRootsRow.holds Try.pinned (OpenSpec.ofChange fixqRootsWrong)

/-- 'aerielaw01.FixqOrders': WHATEVER THE INPUT: true; the input reads as it did. -/
def fixqOrdersSpec : ChangeSpec := { name := "fixqOrders", fn := fun _ => fun
  | [d1, d2, d3, d4, d5, d6] => { results := [.lit (.bool true)], args := [d1, d2, d3, d4, d5, d6] }
  | _ => none }
def fixqOrdersRow : OpenClaim := { program := "ytleodnnkdkgeeaa", sum := "39d3ed47a4f93b584adb42ccc6f885573949ce3f68c66f4c1c6d6c6ce8105c07", func := "aerie/aerielaw01.FixqOrders", spec := "fixqOrders", apart := false }
def FixqOrdersSaid : Prop := fixqOrdersRow.holds Try.pinned (OpenSpec.ofChange fixqOrdersSpec)

/-- ITS FALSE NEIGHBOUR: 'it returns false'. Refute it at one input. -/
def fixqOrdersWrong : ChangeSpec := { name := "fixqOrders", fn := fun _ => fun
  | [d1, d2, d3, d4, d5, d6] => { results := [.lit (.bool false)], args := [d1, d2, d3, d4, d5, d6] }
  | _ => none }
def FixqOrdersWrongFalsely : Prop := fixqOrdersRow.holds Try.pinned (OpenSpec.ofChange fixqOrdersWrong)

/-- 'aerielaw01.FixqSmall': WHATEVER THE INPUT: true; the input reads as it did. -/
def fixqSmallSpec : ChangeSpec := { name := "fixqSmall", fn := fun _ => fun
  | [d1, d2, d3] => { results := [.lit (.bool true)], args := [d1, d2, d3] }
  | _ => none }
def fixqSmallRow : OpenClaim := { program := "ytleodnnkdkgeeaa", sum := "39d3ed47a4f93b584adb42ccc6f885573949ce3f68c66f4c1c6d6c6ce8105c07", func := "aerie/aerielaw01.FixqSmall", spec := "fixqSmall", apart := false }
def FixqSmallSaid : Prop := fixqSmallRow.holds Try.pinned (OpenSpec.ofChange fixqSmallSpec)

/-- ITS FALSE NEIGHBOUR: 'it returns false'. Refute it at one input. -/
def fixqSmallWrong : ChangeSpec := { name := "fixqSmall", fn := fun _ => fun
  | [d1, d2, d3] => { results := [.lit (.bool false)], args := [d1, d2, d3] }
  | _ => none }
def FixqSmallWrongFalsely : Prop := fixqSmallRow.holds Try.pinned (OpenSpec.ofChange fixqSmallWrong)

/-- 'aerielaw02.VecParts': WHATEVER THE INPUT: true; the input reads as it did. -/
def vecPartsSpec : ChangeSpec := { name := "vecParts", fn := fun _ => fun
  | [d1, d2, d3, d4, d5] => { results := [.lit (.bool true)], args := [d1, d2, d3, d4, d5] }
  | _ => none }
def vecPartsRow : OpenClaim := { program := "ytleodnnkdkgeeaa", sum := "39d3ed47a4f93b584adb42ccc6f885573949ce3f68c66f4c1c6d6c6ce8105c07", func := "aerie/aerielaw02.VecParts", spec := "vecParts", unfollowed := true, recurses := true, apart := false }
def VecPartsSaid : Prop := vecPartsRow.holds Try.pinned (OpenSpec.ofChange vecPartsSpec)

/-- ITS FALSE NEIGHBOUR: 'it returns false'. Refute it at one input. -/
def vecPartsWrong : ChangeSpec := { name := "vecParts", fn := fun _ => fun
  | [d1, d2, d3, d4, d5] => { results := [.lit (.bool false)], args := [d1, d2, d3, d4, d5] }
  | _ => none }
def VecPartsWrongFalsely : Prop := vecPartsRow.holds Try.pinned (OpenSpec.ofChange vecPartsWrong)

/-- 'aerielaw02.VecProducts': WHATEVER THE INPUT: true; the input reads as it did. -/
def vecProductsSpec : ChangeSpec := { name := "vecProducts", fn := fun _ => fun
  | [d1, d2, d3] => { results := [.lit (.bool true)], args := [d1, d2, d3] }
  | _ => none }
def vecProductsRow : OpenClaim := { program := "ytleodnnkdkgeeaa", sum := "39d3ed47a4f93b584adb42ccc6f885573949ce3f68c66f4c1c6d6c6ce8105c07", func := "aerie/aerielaw02.VecProducts", spec := "vecProducts", unfollowed := true, recurses := true, apart := false }
def VecProductsSaid : Prop := vecProductsRow.holds Try.pinned (OpenSpec.ofChange vecProductsSpec)

/-- ITS FALSE NEIGHBOUR: 'it returns false'. Refute it at one input. -/
def vecProductsWrong : ChangeSpec := { name := "vecProducts", fn := fun _ => fun
  | [d1, d2, d3] => { results := [.lit (.bool false)], args := [d1, d2, d3] }
  | _ => none }
def VecProductsWrongFalsely : Prop := vecProductsRow.holds Try.pinned (OpenSpec.ofChange vecProductsWrong)

/-- 'aerielaw02.VecSizes': WHATEVER THE INPUT: true; the input reads as it did. -/
def vecSizesSpec : ChangeSpec := { name := "vecSizes", fn := fun _ => fun
  | [d] => { results := [.lit (.bool true)], args := [d] }
  | _ => none }
def vecSizesRow : OpenClaim := { program := "ytleodnnkdkgeeaa", sum := "39d3ed47a4f93b584adb42ccc6f885573949ce3f68c66f4c1c6d6c6ce8105c07", func := "aerie/aerielaw02.VecSizes", spec := "vecSizes", unfollowed := true, recurses := true, apart := false }
def VecSizesSaid : Prop := vecSizesRow.holds Try.pinned (OpenSpec.ofChange vecSizesSpec)

/-- ITS FALSE NEIGHBOUR: 'it returns false'. Refute it at one input. -/
def vecSizesWrong : ChangeSpec := { name := "vecSizes", fn := fun _ => fun
  | [d] => { results := [.lit (.bool false)], args := [d] }
  | _ => none }
def VecSizesWrongFalsely : Prop := vecSizesRow.holds Try.pinned (OpenSpec.ofChange vecSizesWrong)

/-- 'aerielaw02.VecClamps': WHATEVER THE INPUT: true; the input reads as it did. -/
def vecClampsSpec : ChangeSpec := { name := "vecClamps", fn := fun _ => fun
  | [d1, d2, d3] => { results := [.lit (.bool true)], args := [d1, d2, d3] }
  | _ => none }
def vecClampsRow : OpenClaim := { program := "ytleodnnkdkgeeaa", sum := "39d3ed47a4f93b584adb42ccc6f885573949ce3f68c66f4c1c6d6c6ce8105c07", func := "aerie/aerielaw02.VecClamps", spec := "vecClamps", unfollowed := true, recurses := true, apart := false }
def VecClampsSaid : Prop := vecClampsRow.holds Try.pinned (OpenSpec.ofChange vecClampsSpec)

/-- ITS FALSE NEIGHBOUR: 'it returns false'. Refute it at one input. -/
def vecClampsWrong : ChangeSpec := { name := "vecClamps", fn := fun _ => fun
  | [d1, d2, d3] => { results := [.lit (.bool false)], args := [d1, d2, d3] }
  | _ => none }
def VecClampsWrongFalsely : Prop := vecClampsRow.holds Try.pinned (OpenSpec.ofChange vecClampsWrong)

/- THE SECOND FORM. 'bulk': how many values and letters a reading holds, each counted each time it is reached (what is shared counts as often as it is met; a slice's spare places count too). A statement '..UptoSaid' is the law's where the arguments, and the package variables that the reading takes, are together of bulk at most 1048576: NARROWER than '..Said'. Prove '..Said' where nothing that the law and all that it calls make is longer than what came in: it says more and counts as full. Else prove '..UptoSaid'. A law counts once. -/
mutual
def uptoBulk {H : Type} : DataW H → Nat
  | .lit (.string bytes) => bytes.length + 1
  | .lit _ => 1
  | .nil => 1
  | .ptr d => uptoBulk d + 1
  | .slice elems spare => uptoBulkAll elems + uptoBulkAll spare + 1
  | .agg parts => uptoBulkAll parts + 1
  | .iface _ d => uptoBulk d + 1
  | .map entries => uptoBulkEntries entries + 1
  | .held _ => 1
def uptoBulkAll {H : Type} : List (DataW H) → Nat
  | [] => 0
  | d :: r => uptoBulk d + uptoBulkAll r
def uptoBulkEntries {H : Type} : List (Lit × DataW H) → Nat
  | [] => 0
  | x :: r => uptoBulkEntry x + uptoBulkEntries r
def uptoBulkEntry {H : Type} : Lit × DataW H → Nat
  | (.string bytes, d) => bytes.length + uptoBulk d + 1
  | (_, d) => uptoBulk d + 1
 end
def uptoSmall : (H : Type) → List (DataW H) → Bool := fun _ ds => decide (uptoBulkAll ds ≤ 1048576)
def OpenSpec.upto (s : _root_.Go.ChangeSpec) : _root_.Go.OpenSpec := { _root_.Go.OpenSpec.ofChange s with cond := some uptoSmall }

/-- 'aerielaw01.FixqAdds', WHERE WHAT IT READS IS OF BULK AT MOST 1048576: true; the input reads as it did. -/
def fixqAddsUptoRow : OpenClaim := { program := "ytleodnnkdkgeeaa", sum := "39d3ed47a4f93b584adb42ccc6f885573949ce3f68c66f4c1c6d6c6ce8105c07", func := "aerie/aerielaw01.FixqAdds", spec := "fixqAdds", apart := false, narrowed := true }
def FixqAddsUptoSaid : Prop := fixqAddsUptoRow.holds Try.pinned (OpenSpec.upto fixqAddsSpec)

/-- 'aerielaw01.FixqTimes', WHERE WHAT IT READS IS OF BULK AT MOST 1048576: true; the input reads as it did. -/
def fixqTimesUptoRow : OpenClaim := { program := "ytleodnnkdkgeeaa", sum := "39d3ed47a4f93b584adb42ccc6f885573949ce3f68c66f4c1c6d6c6ce8105c07", func := "aerie/aerielaw01.FixqTimes", spec := "fixqTimes", apart := false, narrowed := true }
def FixqTimesUptoSaid : Prop := fixqTimesUptoRow.holds Try.pinned (OpenSpec.upto fixqTimesSpec)

/-- 'aerielaw01.FixqShifts', WHERE WHAT IT READS IS OF BULK AT MOST 1048576: true; the input reads as it did. -/
def fixqShiftsUptoRow : OpenClaim := { program := "ytleodnnkdkgeeaa", sum := "39d3ed47a4f93b584adb42ccc6f885573949ce3f68c66f4c1c6d6c6ce8105c07", func := "aerie/aerielaw01.FixqShifts", spec := "fixqShifts", apart := false, narrowed := true }
def FixqShiftsUptoSaid : Prop := fixqShiftsUptoRow.holds Try.pinned (OpenSpec.upto fixqShiftsSpec)

/-- 'aerielaw01.FixqClamps', WHERE WHAT IT READS IS OF BULK AT MOST 1048576: true; the input reads as it did. -/
def fixqClampsUptoRow : OpenClaim := { program := "ytleodnnkdkgeeaa", sum := "39d3ed47a4f93b584adb42ccc6f885573949ce3f68c66f4c1c6d6c6ce8105c07", func := "aerie/aerielaw01.FixqClamps", spec := "fixqClamps", apart := false, narrowed := true }
def FixqClampsUptoSaid : Prop := fixqClampsUptoRow.holds Try.pinned (OpenSpec.upto fixqClampsSpec)

/-- 'aerielaw01.FixqSums', WHERE WHAT IT READS IS OF BULK AT MOST 1048576: true; the input reads as it did. -/
def fixqSumsUptoRow : OpenClaim := { program := "ytleodnnkdkgeeaa", sum := "39d3ed47a4f93b584adb42ccc6f885573949ce3f68c66f4c1c6d6c6ce8105c07", func := "aerie/aerielaw01.FixqSums", spec := "fixqSums", apart := false, narrowed := true }
def FixqSumsUptoSaid : Prop := fixqSumsUptoRow.holds Try.pinned (OpenSpec.upto fixqSumsSpec)

/-- 'aerielaw01.FixqRoots', WHERE WHAT IT READS IS OF BULK AT MOST 1048576: true; the input reads as it did. -/
def fixqRootsUptoRow : OpenClaim := { program := "ytleodnnkdkgeeaa", sum := "39d3ed47a4f93b584adb42ccc6f885573949ce3f68c66f4c1c6d6c6ce8105c07", func := "aerie/aerielaw01.FixqRoots", spec := "fixqRoots", apart := false, narrowed := true }
def FixqRootsUptoSaid : Prop := fixqRootsUptoRow.holds Try.pinned (OpenSpec.upto fixqRootsSpec)

/-- 'aerielaw01.FixqOrders', WHERE WHAT IT READS IS OF BULK AT MOST 1048576: true; the input reads as it did. -/
def fixqOrdersUptoRow : OpenClaim := { program := "ytleodnnkdkgeeaa", sum := "39d3ed47a4f93b584adb42ccc6f885573949ce3f68c66f4c1c6d6c6ce8105c07", func := "aerie/aerielaw01.FixqOrders", spec := "fixqOrders", apart := false, narrowed := true }
def FixqOrdersUptoSaid : Prop := fixqOrdersUptoRow.holds Try.pinned (OpenSpec.upto fixqOrdersSpec)

/-- 'aerielaw01.FixqSmall', WHERE WHAT IT READS IS OF BULK AT MOST 1048576: true; the input reads as it did. -/
def fixqSmallUptoRow : OpenClaim := { program := "ytleodnnkdkgeeaa", sum := "39d3ed47a4f93b584adb42ccc6f885573949ce3f68c66f4c1c6d6c6ce8105c07", func := "aerie/aerielaw01.FixqSmall", spec := "fixqSmall", apart := false, narrowed := true }
def FixqSmallUptoSaid : Prop := fixqSmallUptoRow.holds Try.pinned (OpenSpec.upto fixqSmallSpec)

/-- 'aerielaw02.VecParts', WHERE WHAT IT READS IS OF BULK AT MOST 1048576: true; the input reads as it did. -/
def vecPartsUptoRow : OpenClaim := { program := "ytleodnnkdkgeeaa", sum := "39d3ed47a4f93b584adb42ccc6f885573949ce3f68c66f4c1c6d6c6ce8105c07", func := "aerie/aerielaw02.VecParts", spec := "vecParts", unfollowed := true, recurses := true, apart := false, narrowed := true }
def VecPartsUptoSaid : Prop := vecPartsUptoRow.holds Try.pinned (OpenSpec.upto vecPartsSpec)

/-- 'aerielaw02.VecProducts', WHERE WHAT IT READS IS OF BULK AT MOST 1048576: true; the input reads as it did. -/
def vecProductsUptoRow : OpenClaim := { program := "ytleodnnkdkgeeaa", sum := "39d3ed47a4f93b584adb42ccc6f885573949ce3f68c66f4c1c6d6c6ce8105c07", func := "aerie/aerielaw02.VecProducts", spec := "vecProducts", unfollowed := true, recurses := true, apart := false, narrowed := true }
def VecProductsUptoSaid : Prop := vecProductsUptoRow.holds Try.pinned (OpenSpec.upto vecProductsSpec)

/-- 'aerielaw02.VecSizes', WHERE WHAT IT READS IS OF BULK AT MOST 1048576: true; the input reads as it did. -/
def vecSizesUptoRow : OpenClaim := { program := "ytleodnnkdkgeeaa", sum := "39d3ed47a4f93b584adb42ccc6f885573949ce3f68c66f4c1c6d6c6ce8105c07", func := "aerie/aerielaw02.VecSizes", spec := "vecSizes", unfollowed := true, recurses := true, apart := false, narrowed := true }
def VecSizesUptoSaid : Prop := vecSizesUptoRow.holds Try.pinned (OpenSpec.upto vecSizesSpec)

/-- 'aerielaw02.VecClamps', WHERE WHAT IT READS IS OF BULK AT MOST 1048576: true; the input reads as it did. -/
def vecClampsUptoRow : OpenClaim := { program := "ytleodnnkdkgeeaa", sum := "39d3ed47a4f93b584adb42ccc6f885573949ce3f68c66f4c1c6d6c6ce8105c07", func := "aerie/aerielaw02.VecClamps", spec := "vecClamps", unfollowed := true, recurses := true, apart := false, narrowed := true }
def VecClampsUptoSaid : Prop := vecClampsUptoRow.holds Try.pinned (OpenSpec.upto vecClampsSpec)

end Rows
end Go.Proofs.Ytleodnnkdkgeeaa
