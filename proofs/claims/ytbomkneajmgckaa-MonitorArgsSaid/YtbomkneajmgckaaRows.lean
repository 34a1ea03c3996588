/-
  No cell of these rows narrows 'for every input' (looked for: loops, veiled, ifaces, maps, wideKeys, modest, calm, conditions, laid).
  DERIVED. THE GIVEN ROWS OF THIS SEAT. 12 by the template 'for every input the law returns true; each argument reads behind the call as it read before'; 0 by the template 'total and deterministic' (their statements: YtbomkneajmgckaaTotals.lean).
  GIVEN WITH THE SEED: the statements are not yours to turn. If you find one false, say at which input.
  Laid BY PROGRAM, IN A SANDBOX (cutbox-rows.mjs): the forced cells as the released guide's own fill.sh prints them over the translation 88b77581461ee7e7… (all of the seat's roots in one cut). By AI agents, Wed Nov 11 2026. No macro, syntax, notation, axiom, sorry.
-/
import Derived.Test.YtbomkneajmgckaaChecked
import GoSem.Claim
import GoSem.ClaimJoined
import GoSem.ClaimMapViews
import Derived.JoinedTies
import Derived.KernelRfl
namespace Go.Proofs.Ytbomkneajmgckaa
/- THE CELL 'sum', in the pinned program and in every row, IS THE sha256 OF THE DUMP (.gsa) THAT YtbomkneajmgckaaProg.lean LOADS. Nothing in Lean hashes anything: it is a label: what it is worth is what the hold of that sum in a sandbox is worth. -/
noncomputable def Try.pinned : Pinned := { name := "ytbomkneajmgckaa", sum := "88b77581461ee7e765ce063d5862b1eefa83e645e9cea4c8665b336ed077f66e", checked := Try.checked }
namespace Rows
def none {H : Type} : Left H := { results := [], args := [] }

/-- 'aerielaw11.QueuePlays': WHATEVER THE INPUT: true; the input reads as it did. -/
def queuePlaysSpec : ChangeSpec := { name := "queuePlays", fn := fun _ => fun
  | [d1, d2, d3, d4] => { results := [.lit (.bool true)], args := [d1, d2, d3, d4] }
  | _ => none }
def queuePlaysRow : OpenClaim := { program := "ytbomkneajmgckaa", sum := "88b77581461ee7e765ce063d5862b1eefa83e645e9cea4c8665b336ed077f66e", func := "aerie/aerielaw11.QueuePlays", spec := "queuePlays", plainKeys := false, apart := false }
def QueuePlaysSaid : Prop := queuePlaysRow.holds Try.pinned (OpenSpec.ofChange queuePlaysSpec)

/-- ITS FALSE NEIGHBOUR: 'it returns false'. Refute it at one input. -/
def queuePlaysWrong : ChangeSpec := { name := "queuePlays", fn := fun _ => fun
  | [d1, d2, d3, d4] => { results := [.lit (.bool false)], args := [d1, d2, d3, d4] }
  | _ => none }
def QueuePlaysWrongFalsely : Prop := queuePlaysRow.holds Try.pinned (OpenSpec.ofChange queuePlaysWrong)

/-- 'aerielaw12.VerifyFirst': WHATEVER THE INPUT: true; the input reads as it did. -/
def verifyFirstSpec : ChangeSpec := { name := "verifyFirst", fn := fun _ => fun
  | [d1, d2, d3] => { results := [.lit (.bool true)], args := [d1, d2, d3] }
  | _ => none }
def verifyFirstRow : OpenClaim := { program := "ytbomkneajmgckaa", sum := "88b77581461ee7e765ce063d5862b1eefa83e645e9cea4c8665b336ed077f66e", func := "aerie/aerielaw12.VerifyFirst", spec := "verifyFirst", plainKeys := false, apart := false }
def VerifyFirstSaid : Prop := verifyFirstRow.holds Try.pinned (OpenSpec.ofChange verifyFirstSpec)

/-- ITS FALSE NEIGHBOUR: 'it returns false'. Refute it at one input. -/
def verifyFirstWrong : ChangeSpec := { name := "verifyFirst", fn := fun _ => fun
  | [d1, d2, d3] => { results := [.lit (.bool false)], args := [d1, d2, d3] }
  | _ => none }
def VerifyFirstWrongFalsely : Prop := verifyFirstRow.holds Try.pinned (OpenSpec.ofChange verifyFirstWrong)

/-- 'aerielaw12.VerifyNone': WHATEVER THE INPUT: true; the input reads as it did. -/
def verifyNoneSpec : ChangeSpec := { name := "verifyNone", fn := fun _ => fun
  | [d1, d2, d3] => { results := [.lit (.bool true)], args := [d1, d2, d3] }
  | _ => none }
def verifyNoneRow : OpenClaim := { program := "ytbomkneajmgckaa", sum := "88b77581461ee7e765ce063d5862b1eefa83e645e9cea4c8665b336ed077f66e", func := "aerie/aerielaw12.VerifyNone", spec := "verifyNone", plainKeys := false, apart := false }
def VerifyNoneSaid : Prop := verifyNoneRow.holds Try.pinned (OpenSpec.ofChange verifyNoneSpec)

/-- ITS FALSE NEIGHBOUR: 'it returns false'. Refute it at one input. -/
def verifyNoneWrong : ChangeSpec := { name := "verifyNone", fn := fun _ => fun
  | [d1, d2, d3] => { results := [.lit (.bool false)], args := [d1, d2, d3] }
  | _ => none }
def VerifyNoneWrongFalsely : Prop := verifyNoneRow.holds Try.pinned (OpenSpec.ofChange verifyNoneWrong)

/-- 'aerielaw14.PlantLife': WHATEVER THE INPUT: true; the input reads as it did. -/
def plantLifeSpec : ChangeSpec := { name := "plantLife", fn := fun _ => fun
  | [d1, d2, d3] => { results := [.lit (.bool true)], args := [d1, d2, d3] }
  | _ => none }
def plantLifeRow : OpenClaim := { program := "ytbomkneajmgckaa", sum := "88b77581461ee7e765ce063d5862b1eefa83e645e9cea4c8665b336ed077f66e", func := "aerie/aerielaw14.PlantLife", spec := "plantLife", unfollowed := true, recurses := true, plainKeys := false, apart := false }
def PlantLifeSaid : Prop := plantLifeRow.holds Try.pinned (OpenSpec.ofChange plantLifeSpec)

/-- ITS FALSE NEIGHBOUR: 'it returns false'. Refute it at one input. -/
def plantLifeWrong : ChangeSpec := { name := "plantLife", fn := fun _ => fun
  | [d1, d2, d3] => { results := [.lit (.bool false)], args := [d1, d2, d3] }
  | _ => none }
def PlantLifeWrongFalsely : Prop := plantLifeRow.holds Try.pinned (OpenSpec.ofChange plantLifeWrong)

/-- 'aerielaw15.CheckLooks': WHATEVER THE INPUT: true; the input reads as it did. -/
def checkLooksSpec : ChangeSpec := { name := "checkLooks", fn := fun _ => fun
  | [d1, d2, d3, d4, d5] => { results := [.lit (.bool true)], args := [d1, d2, d3, d4, d5] }
  | _ => none }
def checkLooksRow : OpenClaim := { program := "ytbomkneajmgckaa", sum := "88b77581461ee7e765ce063d5862b1eefa83e645e9cea4c8665b336ed077f66e", func := "aerie/aerielaw15.CheckLooks", spec := "checkLooks", plainKeys := false, apart := false }
def CheckLooksSaid : Prop := checkLooksRow.holds Try.pinned (OpenSpec.ofChange checkLooksSpec)

/-- ITS FALSE NEIGHBOUR: 'it returns false'. Refute it at one input. -/
def checkLooksWrong : ChangeSpec := { name := "checkLooks", fn := fun _ => fun
  | [d1, d2, d3, d4, d5] => { results := [.lit (.bool false)], args := [d1, d2, d3, d4, d5] }
  | _ => none }
def CheckLooksWrongFalsely : Prop := checkLooksRow.holds Try.pinned (OpenSpec.ofChange checkLooksWrong)

/-- 'aerielaw15.CheckForms': WHATEVER THE INPUT: true; the input reads as it did. -/
def checkFormsSpec : ChangeSpec := { name := "checkForms", fn := fun _ => fun
  | [d1, d2, d3, d4] => { results := [.lit (.bool true)], args := [d1, d2, d3, d4] }
  | _ => none }
def checkFormsRow : OpenClaim := { program := "ytbomkneajmgckaa", sum := "88b77581461ee7e765ce063d5862b1eefa83e645e9cea4c8665b336ed077f66e", func := "aerie/aerielaw15.CheckForms", spec := "checkForms", plainKeys := false, apart := false }
def CheckFormsSaid : Prop := checkFormsRow.holds Try.pinned (OpenSpec.ofChange checkFormsSpec)

/-- ITS FALSE NEIGHBOUR: 'it returns false'. Refute it at one input. -/
def checkFormsWrong : ChangeSpec := { name := "checkForms", fn := fun _ => fun
  | [d1, d2, d3, d4] => { results := [.lit (.bool false)], args := [d1, d2, d3, d4] }
  | _ => none }
def CheckFormsWrongFalsely : Prop := checkFormsRow.holds Try.pinned (OpenSpec.ofChange checkFormsWrong)

/-- 'aerielaw15.CheckBounds': WHATEVER THE INPUT: true; the input reads as it did. -/
def checkBoundsSpec : ChangeSpec := { name := "checkBounds", fn := fun _ => fun
  | [d1, d2, d3, d4, d5] => { results := [.lit (.bool true)], args := [d1, d2, d3, d4, d5] }
  | _ => none }
def checkBoundsRow : OpenClaim := { program := "ytbomkneajmgckaa", sum := "88b77581461ee7e765ce063d5862b1eefa83e645e9cea4c8665b336ed077f66e", func := "aerie/aerielaw15.CheckBounds", spec := "checkBounds", plainKeys := false, apart := false }
def CheckBoundsSaid : Prop := checkBoundsRow.holds Try.pinned (OpenSpec.ofChange checkBoundsSpec)

/-- ITS FALSE NEIGHBOUR: 'it returns false'. Refute it at one input. -/
def checkBoundsWrong : ChangeSpec := { name := "checkBounds", fn := fun _ => fun
  | [d1, d2, d3, d4, d5] => { results := [.lit (.bool false)], args := [d1, d2, d3, d4, d5] }
  | _ => none }
def CheckBoundsWrongFalsely : Prop := checkBoundsRow.holds Try.pinned (OpenSpec.ofChange checkBoundsWrong)

/-- 'aerielaw15.CheckMasks': WHATEVER THE INPUT: true; the input reads as it did. -/
def checkMasksSpec : ChangeSpec := { name := "checkMasks", fn := fun _ => fun
  | [d1, d2, d3, d4, d5] => { results := [.lit (.bool true)], args := [d1, d2, d3, d4, d5] }
  | _ => none }
def checkMasksRow : OpenClaim := { program := "ytbomkneajmgckaa", sum := "88b77581461ee7e765ce063d5862b1eefa83e645e9cea4c8665b336ed077f66e", func := "aerie/aerielaw15.CheckMasks", spec := "checkMasks", plainKeys := false, apart := false }
def CheckMasksSaid : Prop := checkMasksRow.holds Try.pinned (OpenSpec.ofChange checkMasksSpec)

/-- ITS FALSE NEIGHBOUR: 'it returns false'. Refute it at one input. -/
def checkMasksWrong : ChangeSpec := { name := "checkMasks", fn := fun _ => fun
  | [d1, d2, d3, d4, d5] => { results := [.lit (.bool false)], args := [d1, d2, d3, d4, d5] }
  | _ => none }
def CheckMasksWrongFalsely : Prop := checkMasksRow.holds Try.pinned (OpenSpec.ofChange checkMasksWrong)

/-- 'aerielaw15.CheckWide': WHATEVER THE INPUT: true; the input reads as it did. -/
def checkWideSpec : ChangeSpec := { name := "checkWide", fn := fun _ => fun
  | [d1, d2, d3, d4, d5, d6] => { results := [.lit (.bool true)], args := [d1, d2, d3, d4, d5, d6] }
  | _ => none }
def checkWideRow : OpenClaim := { program := "ytbomkneajmgckaa", sum := "88b77581461ee7e765ce063d5862b1eefa83e645e9cea4c8665b336ed077f66e", func := "aerie/aerielaw15.CheckWide", spec := "checkWide", plainKeys := false, apart := false }
def CheckWideSaid : Prop := checkWideRow.holds Try.pinned (OpenSpec.ofChange checkWideSpec)

/-- ITS FALSE NEIGHBOUR: 'it returns false'. Refute it at one input. -/
def checkWideWrong : ChangeSpec := { name := "checkWide", fn := fun _ => fun
  | [d1, d2, d3, d4, d5, d6] => { results := [.lit (.bool false)], args := [d1, d2, d3, d4, d5, d6] }
  | _ => none }
def CheckWideWrongFalsely : Prop := checkWideRow.holds Try.pinned (OpenSpec.ofChange checkWideWrong)

/-- 'aerielaw16.MonitorFilters': WHATEVER THE INPUT: true; the input reads as it did. -/
def monitorFiltersSpec : ChangeSpec := { name := "monitorFilters", fn := fun _ => fun
  | [d1, d2, d3, d4] => { results := [.lit (.bool true)], args := [d1, d2, d3, d4] }
  | _ => none }
def monitorFiltersRow : OpenClaim := { program := "ytbomkneajmgckaa", sum := "88b77581461ee7e765ce063d5862b1eefa83e645e9cea4c8665b336ed077f66e", func := "aerie/aerielaw16.MonitorFilters", spec := "monitorFilters", plainKeys := false, apart := false }
def MonitorFiltersSaid : Prop := monitorFiltersRow.holds Try.pinned (OpenSpec.ofChange monitorFiltersSpec)

/-- ITS FALSE NEIGHBOUR: 'it returns false'. Refute it at one input. -/
def monitorFiltersWrong : ChangeSpec := { name := "monitorFilters", fn := fun _ => fun
  | [d1, d2, d3, d4] => { results := [.lit (.bool false)], args := [d1, d2, d3, d4] }
  | _ => none }
def MonitorFiltersWrongFalsely : Prop := monitorFiltersRow.holds Try.pinned (OpenSpec.ofChange monitorFiltersWrong)

/-- 'aerielaw16.MonitorArgs': WHATEVER THE INPUT: true; the input reads as it did. -/
def monitorArgsSpec : ChangeSpec := { name := "monitorArgs", fn := fun _ => fun
  | [d1, d2, d3] => { results := [.lit (.bool true)], args := [d1, d2, d3] }
  | _ => none }
def monitorArgsRow : OpenClaim := { program := "ytbomkneajmgckaa", sum := "88b77581461ee7e765ce063d5862b1eefa83e645e9cea4c8665b336ed077f66e", func := "aerie/aerielaw16.MonitorArgs", spec := "monitorArgs", plainKeys := false, apart := false }
def MonitorArgsSaid : Prop := monitorArgsRow.holds Try.pinned (OpenSpec.ofChange monitorArgsSpec)

/-- ITS FALSE NEIGHBOUR: 'it returns false'. Refute it at one input. -/
def monitorArgsWrong : ChangeSpec := { name := "monitorArgs", fn := fun _ => fun
  | [d1, d2, d3] => { results := [.lit (.bool false)], args := [d1, d2, d3] }
  | _ => none }
def MonitorArgsWrongFalsely : Prop := monitorArgsRow.holds Try.pinned (OpenSpec.ofChange monitorArgsWrong)

/-- 'aerielaw16.MonitorSleeps': WHATEVER THE INPUT: true; the input reads as it did. -/
def monitorSleepsSpec : ChangeSpec := { name := "monitorSleeps", fn := fun _ => fun
  | [d1, d2] => { results := [.lit (.bool true)], args := [d1, d2] }
  | _ => none }
def monitorSleepsRow : OpenClaim := { program := "ytbomkneajmgckaa", sum := "88b77581461ee7e765ce063d5862b1eefa83e645e9cea4c8665b336ed077f66e", func := "aerie/aerielaw16.MonitorSleeps", spec := "monitorSleeps", plainKeys := false, apart := false }
def MonitorSleepsSaid : Prop := monitorSleepsRow.holds Try.pinned (OpenSpec.ofChange monitorSleepsSpec)

/-- ITS FALSE NEIGHBOUR: 'it returns false'. Refute it at one input. -/
def monitorSleepsWrong : ChangeSpec := { name := "monitorSleeps", fn := fun _ => fun
  | [d1, d2] => { results := [.lit (.bool false)], args := [d1, d2] }
  | _ => none }
def MonitorSleepsWrongFalsely : Prop := monitorSleepsRow.holds Try.pinned (OpenSpec.ofChange monitorSleepsWrong)

/- THE SECOND FORM. 'bulk': how many values and letters a reading holds, each counted each time it is reached (what is shared counts as often as it is met; a slice's spare places count too). A statement '..UptoSaid' is the law's where the arguments, and the package variables that the reading takes, are together of bulk at most 1048576: NARROWER than '..Said'. Prove '..Said' where nothing that the law and all that it calls make is longer than what came in: it says more and counts as full. Else prove '..UptoSaid'. A law counts once. -/
mutual
def uptoBulk {H : Type} : DataW H → Nat
  | .lit (.string bytes) => bytes.length + 1
  | .lit _ => 1
  | .nil => 1
  | .ptr d => uptoBulk d + 1
  | .slice elems spare => uptoBulkAll elems + uptoBulkAll spare + 1
  | .agg parts => uptoBulkAll parts + 1
  | .iface _ d => uptoBulk d + 1
  | .map entries => uptoBulkEntries entries + 1
  | .held _ => 1
def uptoBulkAll {H : Type} : List (DataW H) → Nat
  | [] => 0
  | d :: r => uptoBulk d + uptoBulkAll r
def uptoBulkEntries {H : Type} : List (Lit × DataW H) → Nat
  | [] => 0
  | x :: r => uptoBulkEntry x + uptoBulkEntries r
def uptoBulkEntry {H : Type} : Lit × DataW H → Nat
  | (.string bytes, d) => bytes.length + uptoBulk d + 1
  | (_, d) => uptoBulk d + 1
 end
def uptoSmall : (H : Type) → List (DataW H) → Bool := fun _ ds => decide (uptoBulkAll ds ≤ 1048576)
def OpenSpec.upto (s : _root_.Go.ChangeSpec) : _root_.Go.OpenSpec := { _root_.Go.OpenSpec.ofChange s with cond := some uptoSmall }

/-- 'aerielaw11.QueuePlays', WHERE WHAT IT READS IS OF BULK AT MOST 1048576: true; the input reads as it did. -/
def queuePlaysUptoRow : OpenClaim := { program := "ytbomkneajmgckaa", sum := "88b77581461ee7e765ce063d5862b1eefa83e645e9cea4c8665b336ed077f66e", func := "aerie/aerielaw11.QueuePlays", spec := "queuePlays", plainKeys := false, apart := false, narrowed := true }
def QueuePlaysUptoSaid : Prop := queuePlaysUptoRow.holds Try.pinned (OpenSpec.upto queuePlaysSpec)

/-- 'aerielaw12.VerifyFirst', WHERE WHAT IT READS IS OF BULK AT MOST 1048576: true; the input reads as it did. -/
def verifyFirstUptoRow : OpenClaim := { program := "ytbomkneajmgckaa", sum := "88b77581461ee7e765ce063d5862b1eefa83e645e9cea4c8665b336ed077f66e", func := "aerie/aerielaw12.VerifyFirst", spec := "verifyFirst", plainKeys := false, apart := false, narrowed := true }
def VerifyFirstUptoSaid : Prop := verifyFirstUptoRow.holds Try.pinned (OpenSpec.upto verifyFirstSpec)

/-- 'aerielaw12.VerifyNone', WHERE WHAT IT READS IS OF BULK AT MOST 1048576: true; the input reads as it did. -/
def verifyNoneUptoRow : OpenClaim := { program := "ytbomkneajmgckaa", sum := "88b77581461ee7e765ce063d5862b1eefa83e645e9cea4c8665b336ed077f66e", func := "aerie/aerielaw12.VerifyNone", spec := "verifyNone", plainKeys := false, apart := false, narrowed := true }
def VerifyNoneUptoSaid : Prop := verifyNoneUptoRow.holds Try.pinned (OpenSpec.upto verifyNoneSpec)

/-- 'aerielaw14.PlantLife', WHERE WHAT IT READS IS OF BULK AT MOST 1048576: true; the input reads as it did. -/
def plantLifeUptoRow : OpenClaim := { program := "ytbomkneajmgckaa", sum := "88b77581461ee7e765ce063d5862b1eefa83e645e9cea4c8665b336ed077f66e", func := "aerie/aerielaw14.PlantLife", spec := "plantLife", unfollowed := true, recurses := true, plainKeys := false, apart := false, narrowed := true }
def PlantLifeUptoSaid : Prop := plantLifeUptoRow.holds Try.pinned (OpenSpec.upto plantLifeSpec)

/-- 'aerielaw15.CheckLooks', WHERE WHAT IT READS IS OF BULK AT MOST 1048576: true; the input reads as it did. -/
def checkLooksUptoRow : OpenClaim := { program := "ytbomkneajmgckaa", sum := "88b77581461ee7e765ce063d5862b1eefa83e645e9cea4c8665b336ed077f66e", func := "aerie/aerielaw15.CheckLooks", spec := "checkLooks", plainKeys := false, apart := false, narrowed := true }
def CheckLooksUptoSaid : Prop := checkLooksUptoRow.holds Try.pinned (OpenSpec.upto checkLooksSpec)

/-- 'aerielaw15.CheckForms', WHERE WHAT IT READS IS OF BULK AT MOST 1048576: true; the input reads as it did. -/
def checkFormsUptoRow : OpenClaim := { program := "ytbomkneajmgckaa", sum := "88b77581461ee7e765ce063d5862b1eefa83e645e9cea4c8665b336ed077f66e", func := "aerie/aerielaw15.CheckForms", spec := "checkForms", plainKeys := false, apart := false, narrowed := true }
def CheckFormsUptoSaid : Prop := checkFormsUptoRow.holds Try.pinned (OpenSpec.upto checkFormsSpec)

/-- 'aerielaw15.CheckBounds', WHERE WHAT IT READS IS OF BULK AT MOST 1048576: true; the input reads as it did. -/
def checkBoundsUptoRow : OpenClaim := { program := "ytbomkneajmgckaa", sum := "88b77581461ee7e765ce063d5862b1eefa83e645e9cea4c8665b336ed077f66e", func := "aerie/aerielaw15.CheckBounds", spec := "checkBounds", plainKeys := false, apart := false, narrowed := true }
def CheckBoundsUptoSaid : Prop := checkBoundsUptoRow.holds Try.pinned (OpenSpec.upto checkBoundsSpec)

/-- 'aerielaw15.CheckMasks', WHERE WHAT IT READS IS OF BULK AT MOST 1048576: true; the input reads as it did. -/
def checkMasksUptoRow : OpenClaim := { program := "ytbomkneajmgckaa", sum := "88b77581461ee7e765ce063d5862b1eefa83e645e9cea4c8665b336ed077f66e", func := "aerie/aerielaw15.CheckMasks", spec := "checkMasks", plainKeys := false, apart := false, narrowed := true }
def CheckMasksUptoSaid : Prop := checkMasksUptoRow.holds Try.pinned (OpenSpec.upto checkMasksSpec)

/-- 'aerielaw15.CheckWide', WHERE WHAT IT READS IS OF BULK AT MOST 1048576: true; the input reads as it did. -/
def checkWideUptoRow : OpenClaim := { program := "ytbomkneajmgckaa", sum := "88b77581461ee7e765ce063d5862b1eefa83e645e9cea4c8665b336ed077f66e", func := "aerie/aerielaw15.CheckWide", spec := "checkWide", plainKeys := false, apart := false, narrowed := true }
def CheckWideUptoSaid : Prop := checkWideUptoRow.holds Try.pinned (OpenSpec.upto checkWideSpec)

/-- 'aerielaw16.MonitorFilters', WHERE WHAT IT READS IS OF BULK AT MOST 1048576: true; the input reads as it did. -/
def monitorFiltersUptoRow : OpenClaim := { program := "ytbomkneajmgckaa", sum := "88b77581461ee7e765ce063d5862b1eefa83e645e9cea4c8665b336ed077f66e", func := "aerie/aerielaw16.MonitorFilters", spec := "monitorFilters", plainKeys := false, apart := false, narrowed := true }
def MonitorFiltersUptoSaid : Prop := monitorFiltersUptoRow.holds Try.pinned (OpenSpec.upto monitorFiltersSpec)

/-- 'aerielaw16.MonitorArgs', WHERE WHAT IT READS IS OF BULK AT MOST 1048576: true; the input reads as it did. -/
def monitorArgsUptoRow : OpenClaim := { program := "ytbomkneajmgckaa", sum := "88b77581461ee7e765ce063d5862b1eefa83e645e9cea4c8665b336ed077f66e", func := "aerie/aerielaw16.MonitorArgs", spec := "monitorArgs", plainKeys := false, apart := false, narrowed := true }
def MonitorArgsUptoSaid : Prop := monitorArgsUptoRow.holds Try.pinned (OpenSpec.upto monitorArgsSpec)

/-- 'aerielaw16.MonitorSleeps', WHERE WHAT IT READS IS OF BULK AT MOST 1048576: true; the input reads as it did. -/
def monitorSleepsUptoRow : OpenClaim := { program := "ytbomkneajmgckaa", sum := "88b77581461ee7e765ce063d5862b1eefa83e645e9cea4c8665b336ed077f66e", func := "aerie/aerielaw16.MonitorSleeps", spec := "monitorSleeps", plainKeys := false, apart := false, narrowed := true }
def MonitorSleepsUptoSaid : Prop := monitorSleepsUptoRow.holds Try.pinned (OpenSpec.upto monitorSleepsSpec)

end Rows
end Go.Proofs.Ytbomkneajmgckaa
