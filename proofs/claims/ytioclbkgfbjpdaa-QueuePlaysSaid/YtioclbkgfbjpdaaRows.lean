/-
  No cell of these rows narrows 'for every input' (looked for: loops, veiled, ifaces, maps, wideKeys, modest, calm, conditions, laid).
  DERIVED. THE GIVEN ROWS OF THIS SEAT. 7 by the template 'for every input the law returns true; each argument reads behind the call as it read before'; 0 by the template 'total and deterministic' (their statements: YtioclbkgfbjpdaaTotals.lean).
  GIVEN WITH THE SEED: the statements are not yours to turn. If you find one false, say at which input.
  Laid BY PROGRAM, IN A SANDBOX (cutbox-rows.mjs): the forced cells as the released guide's own fill.sh prints them over the translation d1b62aad066f91b7… (all of the seat's roots in one cut). By AI agents, Wed Nov 11 2026. No macro, syntax, notation, axiom, sorry.
-/
import Derived.Test.YtioclbkgfbjpdaaChecked
import GoSem.Claim
import GoSem.ClaimJoined
import GoSem.ClaimMapViews
import Derived.JoinedTies
import Derived.KernelRfl
namespace Go.Proofs.Ytioclbkgfbjpdaa
/- THE CELL 'sum', in the pinned program and in every row, IS THE sha256 OF THE DUMP (.gsa) THAT YtioclbkgfbjpdaaProg.lean LOADS. Nothing in Lean hashes anything: it is a label: what it is worth is what the hold of that sum in a sandbox is worth. -/
noncomputable def Try.pinned : Pinned := { name := "ytioclbkgfbjpdaa", sum := "d1b62aad066f91b7fb3091a996aefee09119fe68e02209c19ed91f41b398a19e", checked := Try.checked }
namespace Rows
def none {H : Type} : Left H := { results := [], args := [] }

/-- 'aerielaw02.VecLines': WHATEVER THE INPUT: true; the input reads as it did. -/
def vecLinesSpec : ChangeSpec := { name := "vecLines", fn := fun _ => fun
  | [d1, d2, d3] => { results := [.lit (.bool true)], args := [d1, d2, d3] }
  | _ => none }
def vecLinesRow : OpenClaim := { program := "ytioclbkgfbjpdaa", sum := "d1b62aad066f91b7fb3091a996aefee09119fe68e02209c19ed91f41b398a19e", func := "aerie/aerielaw02.VecLines", spec := "vecLines", unfollowed := true, recurses := true, plainKeys := false, apart := false }
def VecLinesSaid : Prop := vecLinesRow.holds Try.pinned (OpenSpec.ofChange vecLinesSpec)

/-- ITS FALSE NEIGHBOUR: 'it returns false'. Refute it at one input. -/
def vecLinesWrong : ChangeSpec := { name := "vecLines", fn := fun _ => fun
  | [d1, d2, d3] => { results := [.lit (.bool false)], args := [d1, d2, d3] }
  | _ => none }
def VecLinesWrongFalsely : Prop := vecLinesRow.holds Try.pinned (OpenSpec.ofChange vecLinesWrong)

/-- 'aerielaw11.QueuePlays': WHATEVER THE INPUT: true; the input reads as it did. -/
def queuePlaysSpec : ChangeSpec := { name := "queuePlays", fn := fun _ => fun
  | [d1, d2, d3, d4] => { results := [.lit (.bool true)], args := [d1, d2, d3, d4] }
  | _ => none }
def queuePlaysRow : OpenClaim := { program := "ytioclbkgfbjpdaa", sum := "d1b62aad066f91b7fb3091a996aefee09119fe68e02209c19ed91f41b398a19e", func := "aerie/aerielaw11.QueuePlays", spec := "queuePlays", plainKeys := false, apart := false }
def QueuePlaysSaid : Prop := queuePlaysRow.holds Try.pinned (OpenSpec.ofChange queuePlaysSpec)

/-- ITS FALSE NEIGHBOUR: 'it returns false'. Refute it at one input. -/
def queuePlaysWrong : ChangeSpec := { name := "queuePlays", fn := fun _ => fun
  | [d1, d2, d3, d4] => { results := [.lit (.bool false)], args := [d1, d2, d3, d4] }
  | _ => none }
def QueuePlaysWrongFalsely : Prop := queuePlaysRow.holds Try.pinned (OpenSpec.ofChange queuePlaysWrong)

/-- 'aerielaw18.StrapSearches': WHATEVER THE INPUT: true; the input reads as it did. -/
def strapSearchesSpec : ChangeSpec := { name := "strapSearches", fn := fun _ => fun
  | [d1, d2, d3] => { results := [.lit (.bool true)], args := [d1, d2, d3] }
  | _ => none }
def strapSearchesRow : OpenClaim := { program := "ytioclbkgfbjpdaa", sum := "d1b62aad066f91b7fb3091a996aefee09119fe68e02209c19ed91f41b398a19e", func := "aerie/aerielaw18.StrapSearches", spec := "strapSearches", unfollowed := true, recurses := true, plainKeys := false, apart := false }
def StrapSearchesSaid : Prop := strapSearchesRow.holds Try.pinned (OpenSpec.ofChange strapSearchesSpec)

/-- ITS FALSE NEIGHBOUR: 'it returns false'. Refute it at one input. -/
def strapSearchesWrong : ChangeSpec := { name := "strapSearches", fn := fun _ => fun
  | [d1, d2, d3] => { results := [.lit (.bool false)], args := [d1, d2, d3] }
  | _ => none }
def StrapSearchesWrongFalsely : Prop := strapSearchesRow.holds Try.pinned (OpenSpec.ofChange strapSearchesWrong)

/-- 'aerielaw18.StrapNears': WHATEVER THE INPUT: true; the input reads as it did. -/
def strapNearsSpec : ChangeSpec := { name := "strapNears", fn := fun _ => fun
  | [d1, d2, d3, d4, d5] => { results := [.lit (.bool true)], args := [d1, d2, d3, d4, d5] }
  | _ => none }
def strapNearsRow : OpenClaim := { program := "ytioclbkgfbjpdaa", sum := "d1b62aad066f91b7fb3091a996aefee09119fe68e02209c19ed91f41b398a19e", func := "aerie/aerielaw18.StrapNears", spec := "strapNears", unfollowed := true, recurses := true, plainKeys := false, apart := false }
def StrapNearsSaid : Prop := strapNearsRow.holds Try.pinned (OpenSpec.ofChange strapNearsSpec)

/-- ITS FALSE NEIGHBOUR: 'it returns false'. Refute it at one input. -/
def strapNearsWrong : ChangeSpec := { name := "strapNears", fn := fun _ => fun
  | [d1, d2, d3, d4, d5] => { results := [.lit (.bool false)], args := [d1, d2, d3, d4, d5] }
  | _ => none }
def StrapNearsWrongFalsely : Prop := strapNearsRow.holds Try.pinned (OpenSpec.ofChange strapNearsWrong)

/-- 'aerielaw18.StrapAdmits': WHATEVER THE INPUT: true; the input reads as it did. -/
def strapAdmitsSpec : ChangeSpec := { name := "strapAdmits", fn := fun _ => fun
  | [d1, d2, d3, d4, d5] => { results := [.lit (.bool true)], args := [d1, d2, d3, d4, d5] }
  | _ => none }
def strapAdmitsRow : OpenClaim := { program := "ytioclbkgfbjpdaa", sum := "d1b62aad066f91b7fb3091a996aefee09119fe68e02209c19ed91f41b398a19e", func := "aerie/aerielaw18.StrapAdmits", spec := "strapAdmits", unfollowed := true, recurses := true, plainKeys := false, apart := false }
def StrapAdmitsSaid : Prop := strapAdmitsRow.holds Try.pinned (OpenSpec.ofChange strapAdmitsSpec)

/-- ITS FALSE NEIGHBOUR: 'it returns false'. Refute it at one input. -/
def strapAdmitsWrong : ChangeSpec := { name := "strapAdmits", fn := fun _ => fun
  | [d1, d2, d3, d4, d5] => { results := [.lit (.bool false)], args := [d1, d2, d3, d4, d5] }
  | _ => none }
def StrapAdmitsWrongFalsely : Prop := strapAdmitsRow.holds Try.pinned (OpenSpec.ofChange strapAdmitsWrong)

/-- 'aerielaw18.StrapChooses': WHATEVER THE INPUT: true; the input reads as it did. -/
def strapChoosesSpec : ChangeSpec := { name := "strapChooses", fn := fun _ => fun
  | [d1, d2, d3, d4, d5] => { results := [.lit (.bool true)], args := [d1, d2, d3, d4, d5] }
  | _ => none }
def strapChoosesRow : OpenClaim := { program := "ytioclbkgfbjpdaa", sum := "d1b62aad066f91b7fb3091a996aefee09119fe68e02209c19ed91f41b398a19e", func := "aerie/aerielaw18.StrapChooses", spec := "strapChooses", unfollowed := true, recurses := true, plainKeys := false, apart := false }
def StrapChoosesSaid : Prop := strapChoosesRow.holds Try.pinned (OpenSpec.ofChange strapChoosesSpec)

/-- ITS FALSE NEIGHBOUR: 'it returns false'. Refute it at one input. -/
def strapChoosesWrong : ChangeSpec := { name := "strapChooses", fn := fun _ => fun
  | [d1, d2, d3, d4, d5] => { results := [.lit (.bool false)], args := [d1, d2, d3, d4, d5] }
  | _ => none }
def StrapChoosesWrongFalsely : Prop := strapChoosesRow.holds Try.pinned (OpenSpec.ofChange strapChoosesWrong)

/-- 'aerielaw18.StrapGrows': WHATEVER THE INPUT: true; the input reads as it did. -/
def strapGrowsSpec : ChangeSpec := { name := "strapGrows", fn := fun _ => fun
  | [d1, d2, d3, d4] => { results := [.lit (.bool true)], args := [d1, d2, d3, d4] }
  | _ => none }
def strapGrowsRow : OpenClaim := { program := "ytioclbkgfbjpdaa", sum := "d1b62aad066f91b7fb3091a996aefee09119fe68e02209c19ed91f41b398a19e", func := "aerie/aerielaw18.StrapGrows", spec := "strapGrows", unfollowed := true, recurses := true, plainKeys := false, apart := false }
def StrapGrowsSaid : Prop := strapGrowsRow.holds Try.pinned (OpenSpec.ofChange strapGrowsSpec)

/-- ITS FALSE NEIGHBOUR: 'it returns false'. Refute it at one input. -/
def strapGrowsWrong : ChangeSpec := { name := "strapGrows", fn := fun _ => fun
  | [d1, d2, d3, d4] => { results := [.lit (.bool false)], args := [d1, d2, d3, d4] }
  | _ => none }
def StrapGrowsWrongFalsely : Prop := strapGrowsRow.holds Try.pinned (OpenSpec.ofChange strapGrowsWrong)

/- THE SECOND FORM. 'bulk': how many values and letters a reading holds, each counted each time it is reached (what is shared counts as often as it is met; a slice's spare places count too). A statement '..UptoSaid' is the law's where the arguments, and the package variables that the reading takes, are together of bulk at most 1048576: NARROWER than '..Said'. Prove '..Said' where nothing that the law and all that it calls make is longer than what came in: it says more and counts as full. Else prove '..UptoSaid'. A law counts once. -/
mutual
def uptoBulk {H : Type} : DataW H → Nat
  | .lit (.string bytes) => bytes.length + 1
  | .lit _ => 1
  | .nil => 1
  | .ptr d => uptoBulk d + 1
  | .slice elems spare => uptoBulkAll elems + uptoBulkAll spare + 1
  | .agg parts => uptoBulkAll parts + 1
  | .iface _ d => uptoBulk d + 1
  | .map entries => uptoBulkEntries entries + 1
  | .held _ => 1
def uptoBulkAll {H : Type} : List (DataW H) → Nat
  | [] => 0
  | d :: r => uptoBulk d + uptoBulkAll r
def uptoBulkEntries {H : Type} : List (Lit × DataW H) → Nat
  | [] => 0
  | x :: r => uptoBulkEntry x + uptoBulkEntries r
def uptoBulkEntry {H : Type} : Lit × DataW H → Nat
  | (.string bytes, d) => bytes.length + uptoBulk d + 1
  | (_, d) => uptoBulk d + 1
 end
def uptoSmall : (H : Type) → List (DataW H) → Bool := fun _ ds => decide (uptoBulkAll ds ≤ 1048576)
def OpenSpec.upto (s : _root_.Go.ChangeSpec) : _root_.Go.OpenSpec := { _root_.Go.OpenSpec.ofChange s with cond := some uptoSmall }

/-- 'aerielaw02.VecLines', WHERE WHAT IT READS IS OF BULK AT MOST 1048576: true; the input reads as it did. -/
def vecLinesUptoRow : OpenClaim := { program := "ytioclbkgfbjpdaa", sum := "d1b62aad066f91b7fb3091a996aefee09119fe68e02209c19ed91f41b398a19e", func := "aerie/aerielaw02.VecLines", spec := "vecLines", unfollowed := true, recurses := true, plainKeys := false, apart := false, narrowed := true }
def VecLinesUptoSaid : Prop := vecLinesUptoRow.holds Try.pinned (OpenSpec.upto vecLinesSpec)

/-- 'aerielaw11.QueuePlays', WHERE WHAT IT READS IS OF BULK AT MOST 1048576: true; the input reads as it did. -/
def queuePlaysUptoRow : OpenClaim := { program := "ytioclbkgfbjpdaa", sum := "d1b62aad066f91b7fb3091a996aefee09119fe68e02209c19ed91f41b398a19e", func := "aerie/aerielaw11.QueuePlays", spec := "queuePlays", plainKeys := false, apart := false, narrowed := true }
def QueuePlaysUptoSaid : Prop := queuePlaysUptoRow.holds Try.pinned (OpenSpec.upto queuePlaysSpec)

/-- 'aerielaw18.StrapSearches', WHERE WHAT IT READS IS OF BULK AT MOST 1048576: true; the input reads as it did. -/
def strapSearchesUptoRow : OpenClaim := { program := "ytioclbkgfbjpdaa", sum := "d1b62aad066f91b7fb3091a996aefee09119fe68e02209c19ed91f41b398a19e", func := "aerie/aerielaw18.StrapSearches", spec := "strapSearches", unfollowed := true, recurses := true, plainKeys := false, apart := false, narrowed := true }
def StrapSearchesUptoSaid : Prop := strapSearchesUptoRow.holds Try.pinned (OpenSpec.upto strapSearchesSpec)

/-- 'aerielaw18.StrapNears', WHERE WHAT IT READS IS OF BULK AT MOST 1048576: true; the input reads as it did. -/
def strapNearsUptoRow : OpenClaim := { program := "ytioclbkgfbjpdaa", sum := "d1b62aad066f91b7fb3091a996aefee09119fe68e02209c19ed91f41b398a19e", func := "aerie/aerielaw18.StrapNears", spec := "strapNears", unfollowed := true, recurses := true, plainKeys := false, apart := false, narrowed := true }
def StrapNearsUptoSaid : Prop := strapNearsUptoRow.holds Try.pinned (OpenSpec.upto strapNearsSpec)

/-- 'aerielaw18.StrapAdmits', WHERE WHAT IT READS IS OF BULK AT MOST 1048576: true; the input reads as it did. -/
def strapAdmitsUptoRow : OpenClaim := { program := "ytioclbkgfbjpdaa", sum := "d1b62aad066f91b7fb3091a996aefee09119fe68e02209c19ed91f41b398a19e", func := "aerie/aerielaw18.StrapAdmits", spec := "strapAdmits", unfollowed := true, recurses := true, plainKeys := false, apart := false, narrowed := true }
def StrapAdmitsUptoSaid : Prop := strapAdmitsUptoRow.holds Try.pinned (OpenSpec.upto strapAdmitsSpec)

/-- 'aerielaw18.StrapChooses', WHERE WHAT IT READS IS OF BULK AT MOST 1048576: true; the input reads as it did. -/
def strapChoosesUptoRow : OpenClaim := { program := "ytioclbkgfbjpdaa", sum := "d1b62aad066f91b7fb3091a996aefee09119fe68e02209c19ed91f41b398a19e", func := "aerie/aerielaw18.StrapChooses", spec := "strapChooses", unfollowed := true, recurses := true, plainKeys := false, apart := false, narrowed := true }
def StrapChoosesUptoSaid : Prop := strapChoosesUptoRow.holds Try.pinned (OpenSpec.upto strapChoosesSpec)

/-- 'aerielaw18.StrapGrows', WHERE WHAT IT READS IS OF BULK AT MOST 1048576: true; the input reads as it did. -/
def strapGrowsUptoRow : OpenClaim := { program := "ytioclbkgfbjpdaa", sum := "d1b62aad066f91b7fb3091a996aefee09119fe68e02209c19ed91f41b398a19e", func := "aerie/aerielaw18.StrapGrows", spec := "strapGrows", unfollowed := true, recurses := true, plainKeys := false, apart := false, narrowed := true }
def StrapGrowsUptoSaid : Prop := strapGrowsUptoRow.holds Try.pinned (OpenSpec.upto strapGrowsSpec)

end Rows
end Go.Proofs.Ytioclbkgfbjpdaa
