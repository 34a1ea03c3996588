/-
  No cell of these rows narrows 'for every input' (looked for: loops, veiled, ifaces, maps, wideKeys, modest, calm, conditions, laid).
  DERIVED. THE GIVEN ROWS OF THIS SEAT. 11 by the template 'for every input the law returns true; each argument reads behind the call as it read before'; 0 by the template 'total and deterministic' (their statements: YtboojcahflkkmaaTotals.lean).
  GIVEN WITH THE SEED: the statements are not yours to turn. If you find one false, say at which input.
  Laid BY PROGRAM, IN A SANDBOX (cutbox-rows.mjs): the forced cells as the released guide's own fill.sh prints them over the translation e644287c610f4c1c… (all of the seat's roots in one cut). By AI agents, Wed Nov 11 2026. No macro, syntax, notation, axiom, sorry.
-/
import Derived.Test.YtboojcahflkkmaaChecked
import GoSem.Claim
import GoSem.ClaimJoined
import GoSem.ClaimMapViews
import Derived.JoinedTies
import Derived.KernelRfl
namespace Go.Proofs.Ytboojcahflkkmaa
/- THE CELL 'sum', in the pinned program and in every row, IS THE sha256 OF THE DUMP (.gsa) THAT YtboojcahflkkmaaProg.lean LOADS. Nothing in Lean hashes anything: it is a label: what it is worth is what the hold of that sum in a sandbox is worth. -/
noncomputable def Try.pinned : Pinned := { name := "ytboojcahflkkmaa", sum := "e644287c610f4c1c98618cf6242ba31d44377166adb04ab6b857fddbf696fec0", checked := Try.checked }
namespace Rows
def none {H : Type} : Left H := { results := [], args := [] }

/-- 'aerielaw11.QueuePlays': WHATEVER THE INPUT: true; the input reads as it did. -/
def queuePlaysSpec : ChangeSpec := { name := "queuePlays", fn := fun _ => fun
  | [d1, d2, d3, d4] => { results := [.lit (.bool true)], args := [d1, d2, d3, d4] }
  | _ => none }
def queuePlaysRow : OpenClaim := { program := "ytboojcahflkkmaa", sum := "e644287c610f4c1c98618cf6242ba31d44377166adb04ab6b857fddbf696fec0", func := "aerie/aerielaw11.QueuePlays", spec := "queuePlays", plainKeys := false, apart := false }
def QueuePlaysSaid : Prop := queuePlaysRow.holds Try.pinned (OpenSpec.ofChange queuePlaysSpec)

/-- ITS FALSE NEIGHBOUR: 'it returns false'. Refute it at one input. -/
def queuePlaysWrong : ChangeSpec := { name := "queuePlays", fn := fun _ => fun
  | [d1, d2, d3, d4] => { results := [.lit (.bool false)], args := [d1, d2, d3, d4] }
  | _ => none }
def QueuePlaysWrongFalsely : Prop := queuePlaysRow.holds Try.pinned (OpenSpec.ofChange queuePlaysWrong)

/-- 'aerielaw18.StrapSearches': WHATEVER THE INPUT: true; the input reads as it did. -/
def strapSearchesSpec : ChangeSpec := { name := "strapSearches", fn := fun _ => fun
  | [d1, d2, d3] => { results := [.lit (.bool true)], args := [d1, d2, d3] }
  | _ => none }
def strapSearchesRow : OpenClaim := { program := "ytboojcahflkkmaa", sum := "e644287c610f4c1c98618cf6242ba31d44377166adb04ab6b857fddbf696fec0", func := "aerie/aerielaw18.StrapSearches", spec := "strapSearches", unfollowed := true, recurses := true, plainKeys := false, apart := false }
def StrapSearchesSaid : Prop := strapSearchesRow.holds Try.pinned (OpenSpec.ofChange strapSearchesSpec)

/-- ITS FALSE NEIGHBOUR: 'it returns false'. Refute it at one input. -/
def strapSearchesWrong : ChangeSpec := { name := "strapSearches", fn := fun _ => fun
  | [d1, d2, d3] => { results := [.lit (.bool false)], args := [d1, d2, d3] }
  | _ => none }
def StrapSearchesWrongFalsely : Prop := strapSearchesRow.holds Try.pinned (OpenSpec.ofChange strapSearchesWrong)

/-- 'aerielaw18.StrapNears': WHATEVER THE INPUT: true; the input reads as it did. -/
def strapNearsSpec : ChangeSpec := { name := "strapNears", fn := fun _ => fun
  | [d1, d2, d3, d4, d5] => { results := [.lit (.bool true)], args := [d1, d2, d3, d4, d5] }
  | _ => none }
def strapNearsRow : OpenClaim := { program := "ytboojcahflkkmaa", sum := "e644287c610f4c1c98618cf6242ba31d44377166adb04ab6b857fddbf696fec0", func := "aerie/aerielaw18.StrapNears", spec := "strapNears", unfollowed := true, recurses := true, plainKeys := false, apart := false }
def StrapNearsSaid : Prop := strapNearsRow.holds Try.pinned (OpenSpec.ofChange strapNearsSpec)

/-- ITS FALSE NEIGHBOUR: 'it returns false'. Refute it at one input. -/
def strapNearsWrong : ChangeSpec := { name := "strapNears", fn := fun _ => fun
  | [d1, d2, d3, d4, d5] => { results := [.lit (.bool false)], args := [d1, d2, d3, d4, d5] }
  | _ => none }
def StrapNearsWrongFalsely : Prop := strapNearsRow.holds Try.pinned (OpenSpec.ofChange strapNearsWrong)

/-- 'aerielaw18.StrapAdmits': WHATEVER THE INPUT: true; the input reads as it did. -/
def strapAdmitsSpec : ChangeSpec := { name := "strapAdmits", fn := fun _ => fun
  | [d1, d2, d3, d4, d5] => { results := [.lit (.bool true)], args := [d1, d2, d3, d4, d5] }
  | _ => none }
def strapAdmitsRow : OpenClaim := { program := "ytboojcahflkkmaa", sum := "e644287c610f4c1c98618cf6242ba31d44377166adb04ab6b857fddbf696fec0", func := "aerie/aerielaw18.StrapAdmits", spec := "strapAdmits", unfollowed := true, recurses := true, plainKeys := false, apart := false }
def StrapAdmitsSaid : Prop := strapAdmitsRow.holds Try.pinned (OpenSpec.ofChange strapAdmitsSpec)

/-- ITS FALSE NEIGHBOUR: 'it returns false'. Refute it at one input. -/
def strapAdmitsWrong : ChangeSpec := { name := "strapAdmits", fn := fun _ => fun
  | [d1, d2, d3, d4, d5] => { results := [.lit (.bool false)], args := [d1, d2, d3, d4, d5] }
  | _ => none }
def StrapAdmitsWrongFalsely : Prop := strapAdmitsRow.holds Try.pinned (OpenSpec.ofChange strapAdmitsWrong)

/-- 'aerielaw18.StrapChooses': WHATEVER THE INPUT: true; the input reads as it did. -/
def strapChoosesSpec : ChangeSpec := { name := "strapChooses", fn := fun _ => fun
  | [d1, d2, d3, d4, d5] => { results := [.lit (.bool true)], args := [d1, d2, d3, d4, d5] }
  | _ => none }
def strapChoosesRow : OpenClaim := { program := "ytboojcahflkkmaa", sum := "e644287c610f4c1c98618cf6242ba31d44377166adb04ab6b857fddbf696fec0", func := "aerie/aerielaw18.StrapChooses", spec := "strapChooses", unfollowed := true, recurses := true, plainKeys := false, apart := false }
def StrapChoosesSaid : Prop := strapChoosesRow.holds Try.pinned (OpenSpec.ofChange strapChoosesSpec)

/-- ITS FALSE NEIGHBOUR: 'it returns false'. Refute it at one input. -/
def strapChoosesWrong : ChangeSpec := { name := "strapChooses", fn := fun _ => fun
  | [d1, d2, d3, d4, d5] => { results := [.lit (.bool false)], args := [d1, d2, d3, d4, d5] }
  | _ => none }
def StrapChoosesWrongFalsely : Prop := strapChoosesRow.holds Try.pinned (OpenSpec.ofChange strapChoosesWrong)

/-- 'aerielaw18.StrapGrows': WHATEVER THE INPUT: true; the input reads as it did. -/
def strapGrowsSpec : ChangeSpec := { name := "strapGrows", fn := fun _ => fun
  | [d1, d2, d3, d4] => { results := [.lit (.bool true)], args := [d1, d2, d3, d4] }
  | _ => none }
def strapGrowsRow : OpenClaim := { program := "ytboojcahflkkmaa", sum := "e644287c610f4c1c98618cf6242ba31d44377166adb04ab6b857fddbf696fec0", func := "aerie/aerielaw18.StrapGrows", spec := "strapGrows", unfollowed := true, recurses := true, plainKeys := false, apart := false }
def StrapGrowsSaid : Prop := strapGrowsRow.holds Try.pinned (OpenSpec.ofChange strapGrowsSpec)

/-- ITS FALSE NEIGHBOUR: 'it returns false'. Refute it at one input. -/
def strapGrowsWrong : ChangeSpec := { name := "strapGrows", fn := fun _ => fun
  | [d1, d2, d3, d4] => { results := [.lit (.bool false)], args := [d1, d2, d3, d4] }
  | _ => none }
def StrapGrowsWrongFalsely : Prop := strapGrowsRow.holds Try.pinned (OpenSpec.ofChange strapGrowsWrong)

/-- 'aerielaw20.TurnSteps': WHATEVER THE INPUT: true; the input reads as it did. -/
def turnStepsSpec : ChangeSpec := { name := "turnSteps", fn := fun _ => fun
  | [d1, d2, d3, d4, d5] => { results := [.lit (.bool true)], args := [d1, d2, d3, d4, d5] }
  | _ => none }
def turnStepsRow : OpenClaim := { program := "ytboojcahflkkmaa", sum := "e644287c610f4c1c98618cf6242ba31d44377166adb04ab6b857fddbf696fec0", func := "aerie/aerielaw20.TurnSteps", spec := "turnSteps", unfollowed := true, recurses := true, plainKeys := false, apart := false }
def TurnStepsSaid : Prop := turnStepsRow.holds Try.pinned (OpenSpec.ofChange turnStepsSpec)

/-- ITS FALSE NEIGHBOUR: 'it returns false'. Refute it at one input. -/
def turnStepsWrong : ChangeSpec := { name := "turnSteps", fn := fun _ => fun
  | [d1, d2, d3, d4, d5] => { results := [.lit (.bool false)], args := [d1, d2, d3, d4, d5] }
  | _ => none }
def TurnStepsWrongFalsely : Prop := turnStepsRow.holds Try.pinned (OpenSpec.ofChange turnStepsWrong)

/-- 'aerielaw20.TurnHolds': WHATEVER THE INPUT: true; the input reads as it did. -/
def turnHoldsSpec : ChangeSpec := { name := "turnHolds", fn := fun _ => fun
  | [d1, d2, d3, d4, d5] => { results := [.lit (.bool true)], args := [d1, d2, d3, d4, d5] }
  | _ => none }
def turnHoldsRow : OpenClaim := { program := "ytboojcahflkkmaa", sum := "e644287c610f4c1c98618cf6242ba31d44377166adb04ab6b857fddbf696fec0", func := "aerie/aerielaw20.TurnHolds", spec := "turnHolds", unfollowed := true, recurses := true, plainKeys := false, apart := false }
def TurnHoldsSaid : Prop := turnHoldsRow.holds Try.pinned (OpenSpec.ofChange turnHoldsSpec)

/-- ITS FALSE NEIGHBOUR: 'it returns false'. Refute it at one input. -/
def turnHoldsWrong : ChangeSpec := { name := "turnHolds", fn := fun _ => fun
  | [d1, d2, d3, d4, d5] => { results := [.lit (.bool false)], args := [d1, d2, d3, d4, d5] }
  | _ => none }
def TurnHoldsWrongFalsely : Prop := turnHoldsRow.holds Try.pinned (OpenSpec.ofChange turnHoldsWrong)

/-- 'aerielaw20.TurnEnds': WHATEVER THE INPUT: true; the input reads as it did. -/
def turnEndsSpec : ChangeSpec := { name := "turnEnds", fn := fun _ => fun
  | [d1, d2, d3, d4] => { results := [.lit (.bool true)], args := [d1, d2, d3, d4] }
  | _ => none }
def turnEndsRow : OpenClaim := { program := "ytboojcahflkkmaa", sum := "e644287c610f4c1c98618cf6242ba31d44377166adb04ab6b857fddbf696fec0", func := "aerie/aerielaw20.TurnEnds", spec := "turnEnds", unfollowed := true, recurses := true, plainKeys := false, apart := false }
def TurnEndsSaid : Prop := turnEndsRow.holds Try.pinned (OpenSpec.ofChange turnEndsSpec)

/-- ITS FALSE NEIGHBOUR: 'it returns false'. Refute it at one input. -/
def turnEndsWrong : ChangeSpec := { name := "turnEnds", fn := fun _ => fun
  | [d1, d2, d3, d4] => { results := [.lit (.bool false)], args := [d1, d2, d3, d4] }
  | _ => none }
def TurnEndsWrongFalsely : Prop := turnEndsRow.holds Try.pinned (OpenSpec.ofChange turnEndsWrong)

/-- 'aerielaw20.TurnAgain': WHATEVER THE INPUT: true; the input reads as it did. -/
def turnAgainSpec : ChangeSpec := { name := "turnAgain", fn := fun _ => fun
  | [d1, d2, d3, d4, d5] => { results := [.lit (.bool true)], args := [d1, d2, d3, d4, d5] }
  | _ => none }
def turnAgainRow : OpenClaim := { program := "ytboojcahflkkmaa", sum := "e644287c610f4c1c98618cf6242ba31d44377166adb04ab6b857fddbf696fec0", func := "aerie/aerielaw20.TurnAgain", spec := "turnAgain", unfollowed := true, recurses := true, plainKeys := false, apart := false }
def TurnAgainSaid : Prop := turnAgainRow.holds Try.pinned (OpenSpec.ofChange turnAgainSpec)

/-- ITS FALSE NEIGHBOUR: 'it returns false'. Refute it at one input. -/
def turnAgainWrong : ChangeSpec := { name := "turnAgain", fn := fun _ => fun
  | [d1, d2, d3, d4, d5] => { results := [.lit (.bool false)], args := [d1, d2, d3, d4, d5] }
  | _ => none }
def TurnAgainWrongFalsely : Prop := turnAgainRow.holds Try.pinned (OpenSpec.ofChange turnAgainWrong)

/-- 'aerielaw20.TurnNone': WHATEVER THE INPUT: true; the input reads as it did. -/
def turnNoneSpec : ChangeSpec := { name := "turnNone", fn := fun _ => fun
  | [d1, d2] => { results := [.lit (.bool true)], args := [d1, d2] }
  | _ => none }
def turnNoneRow : OpenClaim := { program := "ytboojcahflkkmaa", sum := "e644287c610f4c1c98618cf6242ba31d44377166adb04ab6b857fddbf696fec0", func := "aerie/aerielaw20.TurnNone", spec := "turnNone", unfollowed := true, recurses := true, plainKeys := false, apart := false }
def TurnNoneSaid : Prop := turnNoneRow.holds Try.pinned (OpenSpec.ofChange turnNoneSpec)

/-- ITS FALSE NEIGHBOUR: 'it returns false'. Refute it at one input. -/
def turnNoneWrong : ChangeSpec := { name := "turnNone", fn := fun _ => fun
  | [d1, d2] => { results := [.lit (.bool false)], args := [d1, d2] }
  | _ => none }
def TurnNoneWrongFalsely : Prop := turnNoneRow.holds Try.pinned (OpenSpec.ofChange turnNoneWrong)

/- THE SECOND FORM. 'bulk': how many values and letters a reading holds, each counted each time it is reached (what is shared counts as often as it is met; a slice's spare places count too). A statement '..UptoSaid' is the law's where the arguments, and the package variables that the reading takes, are together of bulk at most 1048576: NARROWER than '..Said'. Prove '..Said' where nothing that the law and all that it calls make is longer than what came in: it says more and counts as full. Else prove '..UptoSaid'. A law counts once. -/
mutual
def uptoBulk {H : Type} : DataW H → Nat
  | .lit (.string bytes) => bytes.length + 1
  | .lit _ => 1
  | .nil => 1
  | .ptr d => uptoBulk d + 1
  | .slice elems spare => uptoBulkAll elems + uptoBulkAll spare + 1
  | .agg parts => uptoBulkAll parts + 1
  | .iface _ d => uptoBulk d + 1
  | .map entries => uptoBulkEntries entries + 1
  | .held _ => 1
def uptoBulkAll {H : Type} : List (DataW H) → Nat
  | [] => 0
  | d :: r => uptoBulk d + uptoBulkAll r
def uptoBulkEntries {H : Type} : List (Lit × DataW H) → Nat
  | [] => 0
  | x :: r => uptoBulkEntry x + uptoBulkEntries r
def uptoBulkEntry {H : Type} : Lit × DataW H → Nat
  | (.string bytes, d) => bytes.length + uptoBulk d + 1
  | (_, d) => uptoBulk d + 1
 end
def uptoSmall : (H : Type) → List (DataW H) → Bool := fun _ ds => decide (uptoBulkAll ds ≤ 1048576)
def OpenSpec.upto (s : _root_.Go.ChangeSpec) : _root_.Go.OpenSpec := { _root_.Go.OpenSpec.ofChange s with cond := some uptoSmall }

/-- 'aerielaw11.QueuePlays', WHERE WHAT IT READS IS OF BULK AT MOST 1048576: true; the input reads as it did. -/
def queuePlaysUptoRow : OpenClaim := { program := "ytboojcahflkkmaa", sum := "e644287c610f4c1c98618cf6242ba31d44377166adb04ab6b857fddbf696fec0", func := "aerie/aerielaw11.QueuePlays", spec := "queuePlays", plainKeys := false, apart := false, narrowed := true }
def QueuePlaysUptoSaid : Prop := queuePlaysUptoRow.holds Try.pinned (OpenSpec.upto queuePlaysSpec)

/-- 'aerielaw18.StrapSearches', WHERE WHAT IT READS IS OF BULK AT MOST 1048576: true; the input reads as it did. -/
def strapSearchesUptoRow : OpenClaim := { program := "ytboojcahflkkmaa", sum := "e644287c610f4c1c98618cf6242ba31d44377166adb04ab6b857fddbf696fec0", func := "aerie/aerielaw18.StrapSearches", spec := "strapSearches", unfollowed := true, recurses := true, plainKeys := false, apart := false, narrowed := true }
def StrapSearchesUptoSaid : Prop := strapSearchesUptoRow.holds Try.pinned (OpenSpec.upto strapSearchesSpec)

/-- 'aerielaw18.StrapNears', WHERE WHAT IT READS IS OF BULK AT MOST 1048576: true; the input reads as it did. -/
def strapNearsUptoRow : OpenClaim := { program := "ytboojcahflkkmaa", sum := "e644287c610f4c1c98618cf6242ba31d44377166adb04ab6b857fddbf696fec0", func := "aerie/aerielaw18.StrapNears", spec := "strapNears", unfollowed := true, recurses := true, plainKeys := false, apart := false, narrowed := true }
def StrapNearsUptoSaid : Prop := strapNearsUptoRow.holds Try.pinned (OpenSpec.upto strapNearsSpec)

/-- 'aerielaw18.StrapAdmits', WHERE WHAT IT READS IS OF BULK AT MOST 1048576: true; the input reads as it did. -/
def strapAdmitsUptoRow : OpenClaim := { program := "ytboojcahflkkmaa", sum := "e644287c610f4c1c98618cf6242ba31d44377166adb04ab6b857fddbf696fec0", func := "aerie/aerielaw18.StrapAdmits", spec := "strapAdmits", unfollowed := true, recurses := true, plainKeys := false, apart := false, narrowed := true }
def StrapAdmitsUptoSaid : Prop := strapAdmitsUptoRow.holds Try.pinned (OpenSpec.upto strapAdmitsSpec)

/-- 'aerielaw18.StrapChooses', WHERE WHAT IT READS IS OF BULK AT MOST 1048576: true; the input reads as it did. -/
def strapChoosesUptoRow : OpenClaim := { program := "ytboojcahflkkmaa", sum := "e644287c610f4c1c98618cf6242ba31d44377166adb04ab6b857fddbf696fec0", func := "aerie/aerielaw18.StrapChooses", spec := "strapChooses", unfollowed := true, recurses := true, plainKeys := false, apart := false, narrowed := true }
def StrapChoosesUptoSaid : Prop := strapChoosesUptoRow.holds Try.pinned (OpenSpec.upto strapChoosesSpec)

/-- 'aerielaw18.StrapGrows', WHERE WHAT IT READS IS OF BULK AT MOST 1048576: true; the input reads as it did. -/
def strapGrowsUptoRow : OpenClaim := { program := "ytboojcahflkkmaa", sum := "e644287c610f4c1c98618cf6242ba31d44377166adb04ab6b857fddbf696fec0", func := "aerie/aerielaw18.StrapGrows", spec := "strapGrows", unfollowed := true, recurses := true, plainKeys := false, apart := false, narrowed := true }
def StrapGrowsUptoSaid : Prop := strapGrowsUptoRow.holds Try.pinned (OpenSpec.upto strapGrowsSpec)

/-- 'aerielaw20.TurnSteps', WHERE WHAT IT READS IS OF BULK AT MOST 1048576: true; the input reads as it did. -/
def turnStepsUptoRow : OpenClaim := { program := "ytboojcahflkkmaa", sum := "e644287c610f4c1c98618cf6242ba31d44377166adb04ab6b857fddbf696fec0", func := "aerie/aerielaw20.TurnSteps", spec := "turnSteps", unfollowed := true, recurses := true, plainKeys := false, apart := false, narrowed := true }
def TurnStepsUptoSaid : Prop := turnStepsUptoRow.holds Try.pinned (OpenSpec.upto turnStepsSpec)

/-- 'aerielaw20.TurnHolds', WHERE WHAT IT READS IS OF BULK AT MOST 1048576: true; the input reads as it did. -/
def turnHoldsUptoRow : OpenClaim := { program := "ytboojcahflkkmaa", sum := "e644287c610f4c1c98618cf6242ba31d44377166adb04ab6b857fddbf696fec0", func := "aerie/aerielaw20.TurnHolds", spec := "turnHolds", unfollowed := true, recurses := true, plainKeys := false, apart := false, narrowed := true }
def TurnHoldsUptoSaid : Prop := turnHoldsUptoRow.holds Try.pinned (OpenSpec.upto turnHoldsSpec)

/-- 'aerielaw20.TurnEnds', WHERE WHAT IT READS IS OF BULK AT MOST 1048576: true; the input reads as it did. -/
def turnEndsUptoRow : OpenClaim := { program := "ytboojcahflkkmaa", sum := "e644287c610f4c1c98618cf6242ba31d44377166adb04ab6b857fddbf696fec0", func := "aerie/aerielaw20.TurnEnds", spec := "turnEnds", unfollowed := true, recurses := true, plainKeys := false, apart := false, narrowed := true }
def TurnEndsUptoSaid : Prop := turnEndsUptoRow.holds Try.pinned (OpenSpec.upto turnEndsSpec)

/-- 'aerielaw20.TurnAgain', WHERE WHAT IT READS IS OF BULK AT MOST 1048576: true; the input reads as it did. -/
def turnAgainUptoRow : OpenClaim := { program := "ytboojcahflkkmaa", sum := "e644287c610f4c1c98618cf6242ba31d44377166adb04ab6b857fddbf696fec0", func := "aerie/aerielaw20.TurnAgain", spec := "turnAgain", unfollowed := true, recurses := true, plainKeys := false, apart := false, narrowed := true }
def TurnAgainUptoSaid : Prop := turnAgainUptoRow.holds Try.pinned (OpenSpec.upto turnAgainSpec)

/-- 'aerielaw20.TurnNone', WHERE WHAT IT READS IS OF BULK AT MOST 1048576: true; the input reads as it did. -/
def turnNoneUptoRow : OpenClaim := { program := "ytboojcahflkkmaa", sum := "e644287c610f4c1c98618cf6242ba31d44377166adb04ab6b857fddbf696fec0", func := "aerie/aerielaw20.TurnNone", spec := "turnNone", unfollowed := true, recurses := true, plainKeys := false, apart := false, narrowed := true }
def TurnNoneUptoSaid : Prop := turnNoneUptoRow.holds Try.pinned (OpenSpec.upto turnNoneSpec)

end Rows
end Go.Proofs.Ytboojcahflkkmaa
