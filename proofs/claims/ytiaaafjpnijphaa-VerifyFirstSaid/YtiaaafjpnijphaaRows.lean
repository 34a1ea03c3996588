/-
  No cell of these rows narrows 'for every input' (looked for: loops, veiled, ifaces, maps, wideKeys, modest, calm, conditions, laid).
  DERIVED. THE GIVEN ROWS OF THIS SEAT. 12 by the template 'for every input the law returns true; each argument reads behind the call as it read before'; 0 by the template 'total and deterministic' (their statements: YtiaaafjpnijphaaTotals.lean).
  GIVEN WITH THE SEED: the statements are not yours to turn. If you find one false, say at which input.
  Laid BY PROGRAM, IN A SANDBOX (cutbox-rows.mjs): the forced cells as the released guide's own fill.sh prints them over the translation f8e987e15f8bb6fd… (all of the seat's roots in one cut). By AI agents, Wed Nov 11 2026. No macro, syntax, notation, axiom, sorry.
-/
import Derived.Test.YtiaaafjpnijphaaChecked
import GoSem.Claim
import GoSem.ClaimJoined
import GoSem.ClaimMapViews
import Derived.JoinedTies
import Derived.KernelRfl
namespace Go.Proofs.Ytiaaafjpnijphaa
/- THE CELL 'sum', in the pinned program and in every row, IS THE sha256 OF THE DUMP (.gsa) THAT YtiaaafjpnijphaaProg.lean LOADS. Nothing in Lean hashes anything: it is a label: what it is worth is what the hold of that sum in a sandbox is worth. -/
noncomputable def Try.pinned : Pinned := { name := "ytiaaafjpnijphaa", sum := "f8e987e15f8bb6fd260d3390b0172016df8d7e101951c92a920e42e1a269dbe0", checked := Try.checked }
namespace Rows
def none {H : Type} : Left H := { results := [], args := [] }

/-- 'aerielaw03.RingPlays': WHATEVER THE INPUT: true; the input reads as it did. -/
def ringPlaysSpec : ChangeSpec := { name := "ringPlays", fn := fun _ => fun
  | [d1, d2, d3, d4] => { results := [.lit (.bool true)], args := [d1, d2, d3, d4] }
  | _ => none }
def ringPlaysRow : OpenClaim := { program := "ytiaaafjpnijphaa", sum := "f8e987e15f8bb6fd260d3390b0172016df8d7e101951c92a920e42e1a269dbe0", func := "aerie/aerielaw03.RingPlays", spec := "ringPlays", unfollowed := true, recurses := true, plainKeys := false, apart := false }
def RingPlaysSaid : Prop := ringPlaysRow.holds Try.pinned (OpenSpec.ofChange ringPlaysSpec)

/-- ITS FALSE NEIGHBOUR: 'it returns false'. Refute it at one input. -/
def ringPlaysWrong : ChangeSpec := { name := "ringPlays", fn := fun _ => fun
  | [d1, d2, d3, d4] => { results := [.lit (.bool false)], args := [d1, d2, d3, d4] }
  | _ => none }
def RingPlaysWrongFalsely : Prop := ringPlaysRow.holds Try.pinned (OpenSpec.ofChange ringPlaysWrong)

/-- 'aerielaw11.QueuePlays': WHATEVER THE INPUT: true; the input reads as it did. -/
def queuePlaysSpec : ChangeSpec := { name := "queuePlays", fn := fun _ => fun
  | [d1, d2, d3, d4] => { results := [.lit (.bool true)], args := [d1, d2, d3, d4] }
  | _ => none }
def queuePlaysRow : OpenClaim := { program := "ytiaaafjpnijphaa", sum := "f8e987e15f8bb6fd260d3390b0172016df8d7e101951c92a920e42e1a269dbe0", func := "aerie/aerielaw11.QueuePlays", spec := "queuePlays", plainKeys := false, apart := false }
def QueuePlaysSaid : Prop := queuePlaysRow.holds Try.pinned (OpenSpec.ofChange queuePlaysSpec)

/-- ITS FALSE NEIGHBOUR: 'it returns false'. Refute it at one input. -/
def queuePlaysWrong : ChangeSpec := { name := "queuePlays", fn := fun _ => fun
  | [d1, d2, d3, d4] => { results := [.lit (.bool false)], args := [d1, d2, d3, d4] }
  | _ => none }
def QueuePlaysWrongFalsely : Prop := queuePlaysRow.holds Try.pinned (OpenSpec.ofChange queuePlaysWrong)

/-- 'aerielaw12.VerifyFirst': WHATEVER THE INPUT: true; the input reads as it did. -/
def verifyFirstSpec : ChangeSpec := { name := "verifyFirst", fn := fun _ => fun
  | [d1, d2, d3] => { results := [.lit (.bool true)], args := [d1, d2, d3] }
  | _ => none }
def verifyFirstRow : OpenClaim := { program := "ytiaaafjpnijphaa", sum := "f8e987e15f8bb6fd260d3390b0172016df8d7e101951c92a920e42e1a269dbe0", func := "aerie/aerielaw12.VerifyFirst", spec := "verifyFirst", plainKeys := false, apart := false }
def VerifyFirstSaid : Prop := verifyFirstRow.holds Try.pinned (OpenSpec.ofChange verifyFirstSpec)

/-- ITS FALSE NEIGHBOUR: 'it returns false'. Refute it at one input. -/
def verifyFirstWrong : ChangeSpec := { name := "verifyFirst", fn := fun _ => fun
  | [d1, d2, d3] => { results := [.lit (.bool false)], args := [d1, d2, d3] }
  | _ => none }
def VerifyFirstWrongFalsely : Prop := verifyFirstRow.holds Try.pinned (OpenSpec.ofChange verifyFirstWrong)

/-- 'aerielaw18.StrapSearches': WHATEVER THE INPUT: true; the input reads as it did. -/
def strapSearchesSpec : ChangeSpec := { name := "strapSearches", fn := fun _ => fun
  | [d1, d2, d3] => { results := [.lit (.bool true)], args := [d1, d2, d3] }
  | _ => none }
def strapSearchesRow : OpenClaim := { program := "ytiaaafjpnijphaa", sum := "f8e987e15f8bb6fd260d3390b0172016df8d7e101951c92a920e42e1a269dbe0", func := "aerie/aerielaw18.StrapSearches", spec := "strapSearches", unfollowed := true, recurses := true, plainKeys := false, apart := false }
def StrapSearchesSaid : Prop := strapSearchesRow.holds Try.pinned (OpenSpec.ofChange strapSearchesSpec)

/-- ITS FALSE NEIGHBOUR: 'it returns false'. Refute it at one input. -/
def strapSearchesWrong : ChangeSpec := { name := "strapSearches", fn := fun _ => fun
  | [d1, d2, d3] => { results := [.lit (.bool false)], args := [d1, d2, d3] }
  | _ => none }
def StrapSearchesWrongFalsely : Prop := strapSearchesRow.holds Try.pinned (OpenSpec.ofChange strapSearchesWrong)

/-- 'aerielaw18.StrapNears': WHATEVER THE INPUT: true; the input reads as it did. -/
def strapNearsSpec : ChangeSpec := { name := "strapNears", fn := fun _ => fun
  | [d1, d2, d3, d4, d5] => { results := [.lit (.bool true)], args := [d1, d2, d3, d4, d5] }
  | _ => none }
def strapNearsRow : OpenClaim := { program := "ytiaaafjpnijphaa", sum := "f8e987e15f8bb6fd260d3390b0172016df8d7e101951c92a920e42e1a269dbe0", func := "aerie/aerielaw18.StrapNears", spec := "strapNears", unfollowed := true, recurses := true, plainKeys := false, apart := false }
def StrapNearsSaid : Prop := strapNearsRow.holds Try.pinned (OpenSpec.ofChange strapNearsSpec)

/-- ITS FALSE NEIGHBOUR: 'it returns false'. Refute it at one input. -/
def strapNearsWrong : ChangeSpec := { name := "strapNears", fn := fun _ => fun
  | [d1, d2, d3, d4, d5] => { results := [.lit (.bool false)], args := [d1, d2, d3, d4, d5] }
  | _ => none }
def StrapNearsWrongFalsely : Prop := strapNearsRow.holds Try.pinned (OpenSpec.ofChange strapNearsWrong)

/-- 'aerielaw18.StrapAdmits': WHATEVER THE INPUT: true; the input reads as it did. -/
def strapAdmitsSpec : ChangeSpec := { name := "strapAdmits", fn := fun _ => fun
  | [d1, d2, d3, d4, d5] => { results := [.lit (.bool true)], args := [d1, d2, d3, d4, d5] }
  | _ => none }
def strapAdmitsRow : OpenClaim := { program := "ytiaaafjpnijphaa", sum := "f8e987e15f8bb6fd260d3390b0172016df8d7e101951c92a920e42e1a269dbe0", func := "aerie/aerielaw18.StrapAdmits", spec := "strapAdmits", unfollowed := true, recurses := true, plainKeys := false, apart := false }
def StrapAdmitsSaid : Prop := strapAdmitsRow.holds Try.pinned (OpenSpec.ofChange strapAdmitsSpec)

/-- ITS FALSE NEIGHBOUR: 'it returns false'. Refute it at one input. -/
def strapAdmitsWrong : ChangeSpec := { name := "strapAdmits", fn := fun _ => fun
  | [d1, d2, d3, d4, d5] => { results := [.lit (.bool false)], args := [d1, d2, d3, d4, d5] }
  | _ => none }
def StrapAdmitsWrongFalsely : Prop := strapAdmitsRow.holds Try.pinned (OpenSpec.ofChange strapAdmitsWrong)

/-- 'aerielaw18.StrapChooses': WHATEVER THE INPUT: true; the input reads as it did. -/
def strapChoosesSpec : ChangeSpec := { name := "strapChooses", fn := fun _ => fun
  | [d1, d2, d3, d4, d5] => { results := [.lit (.bool true)], args := [d1, d2, d3, d4, d5] }
  | _ => none }
def strapChoosesRow : OpenClaim := { program := "ytiaaafjpnijphaa", sum := "f8e987e15f8bb6fd260d3390b0172016df8d7e101951c92a920e42e1a269dbe0", func := "aerie/aerielaw18.StrapChooses", spec := "strapChooses", unfollowed := true, recurses := true, plainKeys := false, apart := false }
def StrapChoosesSaid : Prop := strapChoosesRow.holds Try.pinned (OpenSpec.ofChange strapChoosesSpec)

/-- ITS FALSE NEIGHBOUR: 'it returns false'. Refute it at one input. -/
def strapChoosesWrong : ChangeSpec := { name := "strapChooses", fn := fun _ => fun
  | [d1, d2, d3, d4, d5] => { results := [.lit (.bool false)], args := [d1, d2, d3, d4, d5] }
  | _ => none }
def StrapChoosesWrongFalsely : Prop := strapChoosesRow.holds Try.pinned (OpenSpec.ofChange strapChoosesWrong)

/-- 'aerielaw18.StrapGrows': WHATEVER THE INPUT: true; the input reads as it did. -/
def strapGrowsSpec : ChangeSpec := { name := "strapGrows", fn := fun _ => fun
  | [d1, d2, d3, d4] => { results := [.lit (.bool true)], args := [d1, d2, d3, d4] }
  | _ => none }
def strapGrowsRow : OpenClaim := { program := "ytiaaafjpnijphaa", sum := "f8e987e15f8bb6fd260d3390b0172016df8d7e101951c92a920e42e1a269dbe0", func := "aerie/aerielaw18.StrapGrows", spec := "strapGrows", unfollowed := true, recurses := true, plainKeys := false, apart := false }
def StrapGrowsSaid : Prop := strapGrowsRow.holds Try.pinned (OpenSpec.ofChange strapGrowsSpec)

/-- ITS FALSE NEIGHBOUR: 'it returns false'. Refute it at one input. -/
def strapGrowsWrong : ChangeSpec := { name := "strapGrows", fn := fun _ => fun
  | [d1, d2, d3, d4] => { results := [.lit (.bool false)], args := [d1, d2, d3, d4] }
  | _ => none }
def StrapGrowsWrongFalsely : Prop := strapGrowsRow.holds Try.pinned (OpenSpec.ofChange strapGrowsWrong)

/-- 'aerielaw19.RetrySpends': WHATEVER THE INPUT: true; the input reads as it did. -/
def retrySpendsSpec : ChangeSpec := { name := "retrySpends", fn := fun _ => fun
  | [d1, d2, d3] => { results := [.lit (.bool true)], args := [d1, d2, d3] }
  | _ => none }
def retrySpendsRow : OpenClaim := { program := "ytiaaafjpnijphaa", sum := "f8e987e15f8bb6fd260d3390b0172016df8d7e101951c92a920e42e1a269dbe0", func := "aerie/aerielaw19.RetrySpends", spec := "retrySpends", plainKeys := false, apart := false }
def RetrySpendsSaid : Prop := retrySpendsRow.holds Try.pinned (OpenSpec.ofChange retrySpendsSpec)

/-- ITS FALSE NEIGHBOUR: 'it returns false'. Refute it at one input. -/
def retrySpendsWrong : ChangeSpec := { name := "retrySpends", fn := fun _ => fun
  | [d1, d2, d3] => { results := [.lit (.bool false)], args := [d1, d2, d3] }
  | _ => none }
def RetrySpendsWrongFalsely : Prop := retrySpendsRow.holds Try.pinned (OpenSpec.ofChange retrySpendsWrong)

/-- 'aerielaw19.RetryBounds': WHATEVER THE INPUT: true; the input reads as it did. -/
def retryBoundsSpec : ChangeSpec := { name := "retryBounds", fn := fun _ => fun
  | [d1, d2, d3] => { results := [.lit (.bool true)], args := [d1, d2, d3] }
  | _ => none }
def retryBoundsRow : OpenClaim := { program := "ytiaaafjpnijphaa", sum := "f8e987e15f8bb6fd260d3390b0172016df8d7e101951c92a920e42e1a269dbe0", func := "aerie/aerielaw19.RetryBounds", spec := "retryBounds", plainKeys := false, apart := false }
def RetryBoundsSaid : Prop := retryBoundsRow.holds Try.pinned (OpenSpec.ofChange retryBoundsSpec)

/-- ITS FALSE NEIGHBOUR: 'it returns false'. Refute it at one input. -/
def retryBoundsWrong : ChangeSpec := { name := "retryBounds", fn := fun _ => fun
  | [d1, d2, d3] => { results := [.lit (.bool false)], args := [d1, d2, d3] }
  | _ => none }
def RetryBoundsWrongFalsely : Prop := retryBoundsRow.holds Try.pinned (OpenSpec.ofChange retryBoundsWrong)

/-- 'aerielaw19.RetryTells': WHATEVER THE INPUT: true; the input reads as it did. -/
def retryTellsSpec : ChangeSpec := { name := "retryTells", fn := fun _ => fun
  | [d1, d2, d3] => { results := [.lit (.bool true)], args := [d1, d2, d3] }
  | _ => none }
def retryTellsRow : OpenClaim := { program := "ytiaaafjpnijphaa", sum := "f8e987e15f8bb6fd260d3390b0172016df8d7e101951c92a920e42e1a269dbe0", func := "aerie/aerielaw19.RetryTells", spec := "retryTells", plainKeys := false, apart := false }
def RetryTellsSaid : Prop := retryTellsRow.holds Try.pinned (OpenSpec.ofChange retryTellsSpec)

/-- ITS FALSE NEIGHBOUR: 'it returns false'. Refute it at one input. -/
def retryTellsWrong : ChangeSpec := { name := "retryTells", fn := fun _ => fun
  | [d1, d2, d3] => { results := [.lit (.bool false)], args := [d1, d2, d3] }
  | _ => none }
def RetryTellsWrongFalsely : Prop := retryTellsRow.holds Try.pinned (OpenSpec.ofChange retryTellsWrong)

/-- 'aerielaw19.RetryOnce': WHATEVER THE INPUT: true; the input reads as it did. -/
def retryOnceSpec : ChangeSpec := { name := "retryOnce", fn := fun _ => fun
  | [d1, d2, d3] => { results := [.lit (.bool true)], args := [d1, d2, d3] }
  | _ => none }
def retryOnceRow : OpenClaim := { program := "ytiaaafjpnijphaa", sum := "f8e987e15f8bb6fd260d3390b0172016df8d7e101951c92a920e42e1a269dbe0", func := "aerie/aerielaw19.RetryOnce", spec := "retryOnce", plainKeys := false, apart := false }
def RetryOnceSaid : Prop := retryOnceRow.holds Try.pinned (OpenSpec.ofChange retryOnceSpec)

/-- ITS FALSE NEIGHBOUR: 'it returns false'. Refute it at one input. -/
def retryOnceWrong : ChangeSpec := { name := "retryOnce", fn := fun _ => fun
  | [d1, d2, d3] => { results := [.lit (.bool false)], args := [d1, d2, d3] }
  | _ => none }
def RetryOnceWrongFalsely : Prop := retryOnceRow.holds Try.pinned (OpenSpec.ofChange retryOnceWrong)

/- THE SECOND FORM. 'bulk': how many values and letters a reading holds, each counted each time it is reached (what is shared counts as often as it is met; a slice's spare places count too). A statement '..UptoSaid' is the law's where the arguments, and the package variables that the reading takes, are together of bulk at most 1048576: NARROWER than '..Said'. Prove '..Said' where nothing that the law and all that it calls make is longer than what came in: it says more and counts as full. Else prove '..UptoSaid'. A law counts once. -/
mutual
def uptoBulk {H : Type} : DataW H → Nat
  | .lit (.string bytes) => bytes.length + 1
  | .lit _ => 1
  | .nil => 1
  | .ptr d => uptoBulk d + 1
  | .slice elems spare => uptoBulkAll elems + uptoBulkAll spare + 1
  | .agg parts => uptoBulkAll parts + 1
  | .iface _ d => uptoBulk d + 1
  | .map entries => uptoBulkEntries entries + 1
  | .held _ => 1
def uptoBulkAll {H : Type} : List (DataW H) → Nat
  | [] => 0
  | d :: r => uptoBulk d + uptoBulkAll r
def uptoBulkEntries {H : Type} : List (Lit × DataW H) → Nat
  | [] => 0
  | x :: r => uptoBulkEntry x + uptoBulkEntries r
def uptoBulkEntry {H : Type} : Lit × DataW H → Nat
  | (.string bytes, d) => bytes.length + uptoBulk d + 1
  | (_, d) => uptoBulk d + 1
 end
def uptoSmall : (H : Type) → List (DataW H) → Bool := fun _ ds => decide (uptoBulkAll ds ≤ 1048576)
def OpenSpec.upto (s : _root_.Go.ChangeSpec) : _root_.Go.OpenSpec := { _root_.Go.OpenSpec.ofChange s with cond := some uptoSmall }

/-- 'aerielaw03.RingPlays', WHERE WHAT IT READS IS OF BULK AT MOST 1048576: true; the input reads as it did. -/
def ringPlaysUptoRow : OpenClaim := { program := "ytiaaafjpnijphaa", sum := "f8e987e15f8bb6fd260d3390b0172016df8d7e101951c92a920e42e1a269dbe0", func := "aerie/aerielaw03.RingPlays", spec := "ringPlays", unfollowed := true, recurses := true, plainKeys := false, apart := false, narrowed := true }
def RingPlaysUptoSaid : Prop := ringPlaysUptoRow.holds Try.pinned (OpenSpec.upto ringPlaysSpec)

/-- 'aerielaw11.QueuePlays', WHERE WHAT IT READS IS OF BULK AT MOST 1048576: true; the input reads as it did. -/
def queuePlaysUptoRow : OpenClaim := { program := "ytiaaafjpnijphaa", sum := "f8e987e15f8bb6fd260d3390b0172016df8d7e101951c92a920e42e1a269dbe0", func := "aerie/aerielaw11.QueuePlays", spec := "queuePlays", plainKeys := false, apart := false, narrowed := true }
def QueuePlaysUptoSaid : Prop := queuePlaysUptoRow.holds Try.pinned (OpenSpec.upto queuePlaysSpec)

/-- 'aerielaw12.VerifyFirst', WHERE WHAT IT READS IS OF BULK AT MOST 1048576: true; the input reads as it did. -/
def verifyFirstUptoRow : OpenClaim := { program := "ytiaaafjpnijphaa", sum := "f8e987e15f8bb6fd260d3390b0172016df8d7e101951c92a920e42e1a269dbe0", func := "aerie/aerielaw12.VerifyFirst", spec := "verifyFirst", plainKeys := false, apart := false, narrowed := true }
def VerifyFirstUptoSaid : Prop := verifyFirstUptoRow.holds Try.pinned (OpenSpec.upto verifyFirstSpec)

/-- 'aerielaw18.StrapSearches', WHERE WHAT IT READS IS OF BULK AT MOST 1048576: true; the input reads as it did. -/
def strapSearchesUptoRow : OpenClaim := { program := "ytiaaafjpnijphaa", sum := "f8e987e15f8bb6fd260d3390b0172016df8d7e101951c92a920e42e1a269dbe0", func := "aerie/aerielaw18.StrapSearches", spec := "strapSearches", unfollowed := true, recurses := true, plainKeys := false, apart := false, narrowed := true }
def StrapSearchesUptoSaid : Prop := strapSearchesUptoRow.holds Try.pinned (OpenSpec.upto strapSearchesSpec)

/-- 'aerielaw18.StrapNears', WHERE WHAT IT READS IS OF BULK AT MOST 1048576: true; the input reads as it did. -/
def strapNearsUptoRow : OpenClaim := { program := "ytiaaafjpnijphaa", sum := "f8e987e15f8bb6fd260d3390b0172016df8d7e101951c92a920e42e1a269dbe0", func := "aerie/aerielaw18.StrapNears", spec := "strapNears", unfollowed := true, recurses := true, plainKeys := false, apart := false, narrowed := true }
def StrapNearsUptoSaid : Prop := strapNearsUptoRow.holds Try.pinned (OpenSpec.upto strapNearsSpec)

/-- 'aerielaw18.StrapAdmits', WHERE WHAT IT READS IS OF BULK AT MOST 1048576: true; the input reads as it did. -/
def strapAdmitsUptoRow : OpenClaim := { program := "ytiaaafjpnijphaa", sum := "f8e987e15f8bb6fd260d3390b0172016df8d7e101951c92a920e42e1a269dbe0", func := "aerie/aerielaw18.StrapAdmits", spec := "strapAdmits", unfollowed := true, recurses := true, plainKeys := false, apart := false, narrowed := true }
def StrapAdmitsUptoSaid : Prop := strapAdmitsUptoRow.holds Try.pinned (OpenSpec.upto strapAdmitsSpec)

/-- 'aerielaw18.StrapChooses', WHERE WHAT IT READS IS OF BULK AT MOST 1048576: true; the input reads as it did. -/
def strapChoosesUptoRow : OpenClaim := { program := "ytiaaafjpnijphaa", sum := "f8e987e15f8bb6fd260d3390b0172016df8d7e101951c92a920e42e1a269dbe0", func := "aerie/aerielaw18.StrapChooses", spec := "strapChooses", unfollowed := true, recurses := true, plainKeys := false, apart := false, narrowed := true }
def StrapChoosesUptoSaid : Prop := strapChoosesUptoRow.holds Try.pinned (OpenSpec.upto strapChoosesSpec)

/-- 'aerielaw18.StrapGrows', WHERE WHAT IT READS IS OF BULK AT MOST 1048576: true; the input reads as it did. -/
def strapGrowsUptoRow : OpenClaim := { program := "ytiaaafjpnijphaa", sum := "f8e987e15f8bb6fd260d3390b0172016df8d7e101951c92a920e42e1a269dbe0", func := "aerie/aerielaw18.StrapGrows", spec := "strapGrows", unfollowed := true, recurses := true, plainKeys := false, apart := false, narrowed := true }
def StrapGrowsUptoSaid : Prop := strapGrowsUptoRow.holds Try.pinned (OpenSpec.upto strapGrowsSpec)

/-- 'aerielaw19.RetrySpends', WHERE WHAT IT READS IS OF BULK AT MOST 1048576: true; the input reads as it did. -/
def retrySpendsUptoRow : OpenClaim := { program := "ytiaaafjpnijphaa", sum := "f8e987e15f8bb6fd260d3390b0172016df8d7e101951c92a920e42e1a269dbe0", func := "aerie/aerielaw19.RetrySpends", spec := "retrySpends", plainKeys := false, apart := false, narrowed := true }
def RetrySpendsUptoSaid : Prop := retrySpendsUptoRow.holds Try.pinned (OpenSpec.upto retrySpendsSpec)

/-- 'aerielaw19.RetryBounds', WHERE WHAT IT READS IS OF BULK AT MOST 1048576: true; the input reads as it did. -/
def retryBoundsUptoRow : OpenClaim := { program := "ytiaaafjpnijphaa", sum := "f8e987e15f8bb6fd260d3390b0172016df8d7e101951c92a920e42e1a269dbe0", func := "aerie/aerielaw19.RetryBounds", spec := "retryBounds", plainKeys := false, apart := false, narrowed := true }
def RetryBoundsUptoSaid : Prop := retryBoundsUptoRow.holds Try.pinned (OpenSpec.upto retryBoundsSpec)

/-- 'aerielaw19.RetryTells', WHERE WHAT IT READS IS OF BULK AT MOST 1048576: true; the input reads as it did. -/
def retryTellsUptoRow : OpenClaim := { program := "ytiaaafjpnijphaa", sum := "f8e987e15f8bb6fd260d3390b0172016df8d7e101951c92a920e42e1a269dbe0", func := "aerie/aerielaw19.RetryTells", spec := "retryTells", plainKeys := false, apart := false, narrowed := true }
def RetryTellsUptoSaid : Prop := retryTellsUptoRow.holds Try.pinned (OpenSpec.upto retryTellsSpec)

/-- 'aerielaw19.RetryOnce', WHERE WHAT IT READS IS OF BULK AT MOST 1048576: true; the input reads as it did. -/
def retryOnceUptoRow : OpenClaim := { program := "ytiaaafjpnijphaa", sum := "f8e987e15f8bb6fd260d3390b0172016df8d7e101951c92a920e42e1a269dbe0", func := "aerie/aerielaw19.RetryOnce", spec := "retryOnce", plainKeys := false, apart := false, narrowed := true }
def RetryOnceUptoSaid : Prop := retryOnceUptoRow.holds Try.pinned (OpenSpec.upto retryOnceSpec)

end Rows
end Go.Proofs.Ytiaaafjpnijphaa
