/-
  No cell of these rows narrows 'for every input' (looked for: loops, veiled, ifaces, maps, wideKeys, modest, calm, conditions, laid).
  DERIVED. THE GIVEN ROWS OF THIS SEAT. 12 by the template 'for every input the law returns true; each argument reads behind the call as it read before'; 0 by the template 'total and deterministic' (their statements: YtpgophkegjeheaaTotals.lean).
  GIVEN WITH THE SEED: the statements are not yours to turn. If you find one false, say at which input.
  Laid BY PROGRAM, IN A SANDBOX (cutbox-rows.mjs): the forced cells as the released guide's own fill.sh prints them over the translation ca927c9348ebefc6… (all of the seat's roots in one cut). By AI agents, Wed Nov 11 2026. No macro, syntax, notation, axiom, sorry.
-/
import Derived.Test.YtpgophkegjeheaaChecked
import GoSem.Claim
import GoSem.ClaimJoined
import GoSem.ClaimMapViews
import Derived.JoinedTies
import Derived.KernelRfl
namespace Go.Proofs.Ytpgophkegjeheaa
/- THE CELL 'sum', in the pinned program and in every row, IS THE sha256 OF THE DUMP (.gsa) THAT YtpgophkegjeheaaProg.lean LOADS. Nothing in Lean hashes anything: it is a label: what it is worth is what the hold of that sum in a sandbox is worth. -/
noncomputable def Try.pinned : Pinned := { name := "ytpgophkegjeheaa", sum := "ca927c9348ebefc6c6bd2578666dd57b5c92ef341b2c8b02ef882b16bba9ccf1", checked := Try.checked }
namespace Rows
def none {H : Type} : Left H := { results := [], args := [] }

/-- 'aerielaw08.ContextForms': WHATEVER THE INPUT: true; the input reads as it did. -/
def contextFormsSpec : ChangeSpec := { name := "contextForms", fn := fun _ => fun
  | [d1, d2, d3, d4, d5] => { results := [.lit (.bool true)], args := [d1, d2, d3, d4, d5] }
  | _ => none }
def contextFormsRow : OpenClaim := { program := "ytpgophkegjeheaa", sum := "ca927c9348ebefc6c6bd2578666dd57b5c92ef341b2c8b02ef882b16bba9ccf1", func := "aerie/aerielaw08.ContextForms", spec := "contextForms", plainKeys := false, apart := false }
def ContextFormsSaid : Prop := contextFormsRow.holds Try.pinned (OpenSpec.ofChange contextFormsSpec)

/-- ITS FALSE NEIGHBOUR: 'it returns false'. Refute it at one input. -/
def contextFormsWrong : ChangeSpec := { name := "contextForms", fn := fun _ => fun
  | [d1, d2, d3, d4, d5] => { results := [.lit (.bool false)], args := [d1, d2, d3, d4, d5] }
  | _ => none }
def ContextFormsWrongFalsely : Prop := contextFormsRow.holds Try.pinned (OpenSpec.ofChange contextFormsWrong)

/-- 'aerielaw08.ContextBoots': WHATEVER THE INPUT: true; the input reads as it did. -/
def contextBootsSpec : ChangeSpec := { name := "contextBoots", fn := fun _ => fun
  | [d1, d2, d3, d4, d5] => { results := [.lit (.bool true)], args := [d1, d2, d3, d4, d5] }
  | _ => none }
def contextBootsRow : OpenClaim := { program := "ytpgophkegjeheaa", sum := "ca927c9348ebefc6c6bd2578666dd57b5c92ef341b2c8b02ef882b16bba9ccf1", func := "aerie/aerielaw08.ContextBoots", spec := "contextBoots", plainKeys := false, apart := false }
def ContextBootsSaid : Prop := contextBootsRow.holds Try.pinned (OpenSpec.ofChange contextBootsSpec)

/-- ITS FALSE NEIGHBOUR: 'it returns false'. Refute it at one input. -/
def contextBootsWrong : ChangeSpec := { name := "contextBoots", fn := fun _ => fun
  | [d1, d2, d3, d4, d5] => { results := [.lit (.bool false)], args := [d1, d2, d3, d4, d5] }
  | _ => none }
def ContextBootsWrongFalsely : Prop := contextBootsRow.holds Try.pinned (OpenSpec.ofChange contextBootsWrong)

/-- 'aerielaw08.ContextLimits': WHATEVER THE INPUT: true; the input reads as it did. -/
def contextLimitsSpec : ChangeSpec := { name := "contextLimits", fn := fun _ => fun
  | [d1, d2, d3] => { results := [.lit (.bool true)], args := [d1, d2, d3] }
  | _ => none }
def contextLimitsRow : OpenClaim := { program := "ytpgophkegjeheaa", sum := "ca927c9348ebefc6c6bd2578666dd57b5c92ef341b2c8b02ef882b16bba9ccf1", func := "aerie/aerielaw08.ContextLimits", spec := "contextLimits", plainKeys := false, apart := false }
def ContextLimitsSaid : Prop := contextLimitsRow.holds Try.pinned (OpenSpec.ofChange contextLimitsSpec)

/-- ITS FALSE NEIGHBOUR: 'it returns false'. Refute it at one input. -/
def contextLimitsWrong : ChangeSpec := { name := "contextLimits", fn := fun _ => fun
  | [d1, d2, d3] => { results := [.lit (.bool false)], args := [d1, d2, d3] }
  | _ => none }
def ContextLimitsWrongFalsely : Prop := contextLimitsRow.holds Try.pinned (OpenSpec.ofChange contextLimitsWrong)

/-- 'aerielaw08.ContextCounts': WHATEVER THE INPUT: true; the input reads as it did. -/
def contextCountsSpec : ChangeSpec := { name := "contextCounts", fn := fun _ => fun
  | [d1, d2] => { results := [.lit (.bool true)], args := [d1, d2] }
  | _ => none }
def contextCountsRow : OpenClaim := { program := "ytpgophkegjeheaa", sum := "ca927c9348ebefc6c6bd2578666dd57b5c92ef341b2c8b02ef882b16bba9ccf1", func := "aerie/aerielaw08.ContextCounts", spec := "contextCounts", plainKeys := false, apart := false }
def ContextCountsSaid : Prop := contextCountsRow.holds Try.pinned (OpenSpec.ofChange contextCountsSpec)

/-- ITS FALSE NEIGHBOUR: 'it returns false'. Refute it at one input. -/
def contextCountsWrong : ChangeSpec := { name := "contextCounts", fn := fun _ => fun
  | [d1, d2] => { results := [.lit (.bool false)], args := [d1, d2] }
  | _ => none }
def ContextCountsWrongFalsely : Prop := contextCountsRow.holds Try.pinned (OpenSpec.ofChange contextCountsWrong)

/-- 'aerielaw11.QueuePlays': WHATEVER THE INPUT: true; the input reads as it did. -/
def queuePlaysSpec : ChangeSpec := { name := "queuePlays", fn := fun _ => fun
  | [d1, d2, d3, d4] => { results := [.lit (.bool true)], args := [d1, d2, d3, d4] }
  | _ => none }
def queuePlaysRow : OpenClaim := { program := "ytpgophkegjeheaa", sum := "ca927c9348ebefc6c6bd2578666dd57b5c92ef341b2c8b02ef882b16bba9ccf1", func := "aerie/aerielaw11.QueuePlays", spec := "queuePlays", plainKeys := false, apart := false }
def QueuePlaysSaid : Prop := queuePlaysRow.holds Try.pinned (OpenSpec.ofChange queuePlaysSpec)

/-- ITS FALSE NEIGHBOUR: 'it returns false'. Refute it at one input. -/
def queuePlaysWrong : ChangeSpec := { name := "queuePlays", fn := fun _ => fun
  | [d1, d2, d3, d4] => { results := [.lit (.bool false)], args := [d1, d2, d3, d4] }
  | _ => none }
def QueuePlaysWrongFalsely : Prop := queuePlaysRow.holds Try.pinned (OpenSpec.ofChange queuePlaysWrong)

/-- 'aerielaw11.QueueOwns': WHATEVER THE INPUT: true; the input reads as it did. -/
def queueOwnsSpec : ChangeSpec := { name := "queueOwns", fn := fun _ => fun
  | [d1, d2, d3] => { results := [.lit (.bool true)], args := [d1, d2, d3] }
  | _ => none }
def queueOwnsRow : OpenClaim := { program := "ytpgophkegjeheaa", sum := "ca927c9348ebefc6c6bd2578666dd57b5c92ef341b2c8b02ef882b16bba9ccf1", func := "aerie/aerielaw11.QueueOwns", spec := "queueOwns", plainKeys := false, apart := false }
def QueueOwnsSaid : Prop := queueOwnsRow.holds Try.pinned (OpenSpec.ofChange queueOwnsSpec)

/-- ITS FALSE NEIGHBOUR: 'it returns false'. Refute it at one input. -/
def queueOwnsWrong : ChangeSpec := { name := "queueOwns", fn := fun _ => fun
  | [d1, d2, d3] => { results := [.lit (.bool false)], args := [d1, d2, d3] }
  | _ => none }
def QueueOwnsWrongFalsely : Prop := queueOwnsRow.holds Try.pinned (OpenSpec.ofChange queueOwnsWrong)

/-- 'aerielaw11.QueueArgs': WHATEVER THE INPUT: true; the input reads as it did. -/
def queueArgsSpec : ChangeSpec := { name := "queueArgs", fn := fun _ => fun
  | [d1, d2, d3] => { results := [.lit (.bool true)], args := [d1, d2, d3] }
  | _ => none }
def queueArgsRow : OpenClaim := { program := "ytpgophkegjeheaa", sum := "ca927c9348ebefc6c6bd2578666dd57b5c92ef341b2c8b02ef882b16bba9ccf1", func := "aerie/aerielaw11.QueueArgs", spec := "queueArgs", plainKeys := false, apart := false }
def QueueArgsSaid : Prop := queueArgsRow.holds Try.pinned (OpenSpec.ofChange queueArgsSpec)

/-- ITS FALSE NEIGHBOUR: 'it returns false'. Refute it at one input. -/
def queueArgsWrong : ChangeSpec := { name := "queueArgs", fn := fun _ => fun
  | [d1, d2, d3] => { results := [.lit (.bool false)], args := [d1, d2, d3] }
  | _ => none }
def QueueArgsWrongFalsely : Prop := queueArgsRow.holds Try.pinned (OpenSpec.ofChange queueArgsWrong)

/-- 'aerielaw11.QueueCounts': WHATEVER THE INPUT: true; the input reads as it did. -/
def queueCountsSpec : ChangeSpec := { name := "queueCounts", fn := fun _ => fun
  | [d1, d2, d3] => { results := [.lit (.bool true)], args := [d1, d2, d3] }
  | _ => none }
def queueCountsRow : OpenClaim := { program := "ytpgophkegjeheaa", sum := "ca927c9348ebefc6c6bd2578666dd57b5c92ef341b2c8b02ef882b16bba9ccf1", func := "aerie/aerielaw11.QueueCounts", spec := "queueCounts", plainKeys := false, apart := false }
def QueueCountsSaid : Prop := queueCountsRow.holds Try.pinned (OpenSpec.ofChange queueCountsSpec)

/-- ITS FALSE NEIGHBOUR: 'it returns false'. Refute it at one input. -/
def queueCountsWrong : ChangeSpec := { name := "queueCounts", fn := fun _ => fun
  | [d1, d2, d3] => { results := [.lit (.bool false)], args := [d1, d2, d3] }
  | _ => none }
def QueueCountsWrongFalsely : Prop := queueCountsRow.holds Try.pinned (OpenSpec.ofChange queueCountsWrong)

/-- 'aerielaw12.VerifyJudges': WHATEVER THE INPUT: true; the input reads as it did. -/
def verifyJudgesSpec : ChangeSpec := { name := "verifyJudges", fn := fun _ => fun
  | [d1, d2, d3, d4, d5, d6, d7, d8, d9, d10] => { results := [.lit (.bool true)], args := [d1, d2, d3, d4, d5, d6, d7, d8, d9, d10] }
  | _ => none }
def verifyJudgesRow : OpenClaim := { program := "ytpgophkegjeheaa", sum := "ca927c9348ebefc6c6bd2578666dd57b5c92ef341b2c8b02ef882b16bba9ccf1", func := "aerie/aerielaw12.VerifyJudges", spec := "verifyJudges", plainKeys := false, apart := false }
def VerifyJudgesSaid : Prop := verifyJudgesRow.holds Try.pinned (OpenSpec.ofChange verifyJudgesSpec)

/-- ITS FALSE NEIGHBOUR: 'it returns false'. Refute it at one input. -/
def verifyJudgesWrong : ChangeSpec := { name := "verifyJudges", fn := fun _ => fun
  | [d1, d2, d3, d4, d5, d6, d7, d8, d9, d10] => { results := [.lit (.bool false)], args := [d1, d2, d3, d4, d5, d6, d7, d8, d9, d10] }
  | _ => none }
def VerifyJudgesWrongFalsely : Prop := verifyJudgesRow.holds Try.pinned (OpenSpec.ofChange verifyJudgesWrong)

/-- 'aerielaw12.VerifyTells': WHATEVER THE INPUT: true; the input reads as it did. -/
def verifyTellsSpec : ChangeSpec := { name := "verifyTells", fn := fun _ => fun
  | [d1, d2, d3, d4, d5, d6] => { results := [.lit (.bool true)], args := [d1, d2, d3, d4, d5, d6] }
  | _ => none }
def verifyTellsRow : OpenClaim := { program := "ytpgophkegjeheaa", sum := "ca927c9348ebefc6c6bd2578666dd57b5c92ef341b2c8b02ef882b16bba9ccf1", func := "aerie/aerielaw12.VerifyTells", spec := "verifyTells", plainKeys := false, apart := false }
def VerifyTellsSaid : Prop := verifyTellsRow.holds Try.pinned (OpenSpec.ofChange verifyTellsSpec)

/-- ITS FALSE NEIGHBOUR: 'it returns false'. Refute it at one input. -/
def verifyTellsWrong : ChangeSpec := { name := "verifyTells", fn := fun _ => fun
  | [d1, d2, d3, d4, d5, d6] => { results := [.lit (.bool false)], args := [d1, d2, d3, d4, d5, d6] }
  | _ => none }
def VerifyTellsWrongFalsely : Prop := verifyTellsRow.holds Try.pinned (OpenSpec.ofChange verifyTellsWrong)

/-- 'aerielaw12.VerifyFirst': WHATEVER THE INPUT: true; the input reads as it did. -/
def verifyFirstSpec : ChangeSpec := { name := "verifyFirst", fn := fun _ => fun
  | [d1, d2, d3] => { results := [.lit (.bool true)], args := [d1, d2, d3] }
  | _ => none }
def verifyFirstRow : OpenClaim := { program := "ytpgophkegjeheaa", sum := "ca927c9348ebefc6c6bd2578666dd57b5c92ef341b2c8b02ef882b16bba9ccf1", func := "aerie/aerielaw12.VerifyFirst", spec := "verifyFirst", plainKeys := false, apart := false }
def VerifyFirstSaid : Prop := verifyFirstRow.holds Try.pinned (OpenSpec.ofChange verifyFirstSpec)

/-- ITS FALSE NEIGHBOUR: 'it returns false'. Refute it at one input. -/
def verifyFirstWrong : ChangeSpec := { name := "verifyFirst", fn := fun _ => fun
  | [d1, d2, d3] => { results := [.lit (.bool false)], args := [d1, d2, d3] }
  | _ => none }
def VerifyFirstWrongFalsely : Prop := verifyFirstRow.holds Try.pinned (OpenSpec.ofChange verifyFirstWrong)

/-- 'aerielaw12.VerifyNone': WHATEVER THE INPUT: true; the input reads as it did. -/
def verifyNoneSpec : ChangeSpec := { name := "verifyNone", fn := fun _ => fun
  | [d1, d2, d3] => { results := [.lit (.bool true)], args := [d1, d2, d3] }
  | _ => none }
def verifyNoneRow : OpenClaim := { program := "ytpgophkegjeheaa", sum := "ca927c9348ebefc6c6bd2578666dd57b5c92ef341b2c8b02ef882b16bba9ccf1", func := "aerie/aerielaw12.VerifyNone", spec := "verifyNone", plainKeys := false, apart := false }
def VerifyNoneSaid : Prop := verifyNoneRow.holds Try.pinned (OpenSpec.ofChange verifyNoneSpec)

/-- ITS FALSE NEIGHBOUR: 'it returns false'. Refute it at one input. -/
def verifyNoneWrong : ChangeSpec := { name := "verifyNone", fn := fun _ => fun
  | [d1, d2, d3] => { results := [.lit (.bool false)], args := [d1, d2, d3] }
  | _ => none }
def VerifyNoneWrongFalsely : Prop := verifyNoneRow.holds Try.pinned (OpenSpec.ofChange verifyNoneWrong)

/- THE SECOND FORM. 'bulk': how many values and letters a reading holds, each counted each time it is reached (what is shared counts as often as it is met; a slice's spare places count too). A statement '..UptoSaid' is the law's where the arguments, and the package variables that the reading takes, are together of bulk at most 1048576: NARROWER than '..Said'. Prove '..Said' where nothing that the law and all that it calls make is longer than what came in: it says more and counts as full. Else prove '..UptoSaid'. A law counts once. -/
mutual
def uptoBulk {H : Type} : DataW H → Nat
  | .lit (.string bytes) => bytes.length + 1
  | .lit _ => 1
  | .nil => 1
  | .ptr d => uptoBulk d + 1
  | .slice elems spare => uptoBulkAll elems + uptoBulkAll spare + 1
  | .agg parts => uptoBulkAll parts + 1
  | .iface _ d => uptoBulk d + 1
  | .map entries => uptoBulkEntries entries + 1
  | .held _ => 1
def uptoBulkAll {H : Type} : List (DataW H) → Nat
  | [] => 0
  | d :: r => uptoBulk d + uptoBulkAll r
def uptoBulkEntries {H : Type} : List (Lit × DataW H) → Nat
  | [] => 0
  | x :: r => uptoBulkEntry x + uptoBulkEntries r
def uptoBulkEntry {H : Type} : Lit × DataW H → Nat
  | (.string bytes, d) => bytes.length + uptoBulk d + 1
  | (_, d) => uptoBulk d + 1
 end
def uptoSmall : (H : Type) → List (DataW H) → Bool := fun _ ds => decide (uptoBulkAll ds ≤ 1048576)
def OpenSpec.upto (s : _root_.Go.ChangeSpec) : _root_.Go.OpenSpec := { _root_.Go.OpenSpec.ofChange s with cond := some uptoSmall }

/-- 'aerielaw08.ContextForms', WHERE WHAT IT READS IS OF BULK AT MOST 1048576: true; the input reads as it did. -/
def contextFormsUptoRow : OpenClaim := { program := "ytpgophkegjeheaa", sum := "ca927c9348ebefc6c6bd2578666dd57b5c92ef341b2c8b02ef882b16bba9ccf1", func := "aerie/aerielaw08.ContextForms", spec := "contextForms", plainKeys := false, apart := false, narrowed := true }
def ContextFormsUptoSaid : Prop := contextFormsUptoRow.holds Try.pinned (OpenSpec.upto contextFormsSpec)

/-- 'aerielaw08.ContextBoots', WHERE WHAT IT READS IS OF BULK AT MOST 1048576: true; the input reads as it did. -/
def contextBootsUptoRow : OpenClaim := { program := "ytpgophkegjeheaa", sum := "ca927c9348ebefc6c6bd2578666dd57b5c92ef341b2c8b02ef882b16bba9ccf1", func := "aerie/aerielaw08.ContextBoots", spec := "contextBoots", plainKeys := false, apart := false, narrowed := true }
def ContextBootsUptoSaid : Prop := contextBootsUptoRow.holds Try.pinned (OpenSpec.upto contextBootsSpec)

/-- 'aerielaw08.ContextLimits', WHERE WHAT IT READS IS OF BULK AT MOST 1048576: true; the input reads as it did. -/
def contextLimitsUptoRow : OpenClaim := { program := "ytpgophkegjeheaa", sum := "ca927c9348ebefc6c6bd2578666dd57b5c92ef341b2c8b02ef882b16bba9ccf1", func := "aerie/aerielaw08.ContextLimits", spec := "contextLimits", plainKeys := false, apart := false, narrowed := true }
def ContextLimitsUptoSaid : Prop := contextLimitsUptoRow.holds Try.pinned (OpenSpec.upto contextLimitsSpec)

/-- 'aerielaw08.ContextCounts', WHERE WHAT IT READS IS OF BULK AT MOST 1048576: true; the input reads as it did. -/
def contextCountsUptoRow : OpenClaim := { program := "ytpgophkegjeheaa", sum := "ca927c9348ebefc6c6bd2578666dd57b5c92ef341b2c8b02ef882b16bba9ccf1", func := "aerie/aerielaw08.ContextCounts", spec := "contextCounts", plainKeys := false, apart := false, narrowed := true }
def ContextCountsUptoSaid : Prop := contextCountsUptoRow.holds Try.pinned (OpenSpec.upto contextCountsSpec)

/-- 'aerielaw11.QueuePlays', WHERE WHAT IT READS IS OF BULK AT MOST 1048576: true; the input reads as it did. -/
def queuePlaysUptoRow : OpenClaim := { program := "ytpgophkegjeheaa", sum := "ca927c9348ebefc6c6bd2578666dd57b5c92ef341b2c8b02ef882b16bba9ccf1", func := "aerie/aerielaw11.QueuePlays", spec := "queuePlays", plainKeys := false, apart := false, narrowed := true }
def QueuePlaysUptoSaid : Prop := queuePlaysUptoRow.holds Try.pinned (OpenSpec.upto queuePlaysSpec)

/-- 'aerielaw11.QueueOwns', WHERE WHAT IT READS IS OF BULK AT MOST 1048576: true; the input reads as it did. -/
def queueOwnsUptoRow : OpenClaim := { program := "ytpgophkegjeheaa", sum := "ca927c9348ebefc6c6bd2578666dd57b5c92ef341b2c8b02ef882b16bba9ccf1", func := "aerie/aerielaw11.QueueOwns", spec := "queueOwns", plainKeys := false, apart := false, narrowed := true }
def QueueOwnsUptoSaid : Prop := queueOwnsUptoRow.holds Try.pinned (OpenSpec.upto queueOwnsSpec)

/-- 'aerielaw11.QueueArgs', WHERE WHAT IT READS IS OF BULK AT MOST 1048576: true; the input reads as it did. -/
def queueArgsUptoRow : OpenClaim := { program := "ytpgophkegjeheaa", sum := "ca927c9348ebefc6c6bd2578666dd57b5c92ef341b2c8b02ef882b16bba9ccf1", func := "aerie/aerielaw11.QueueArgs", spec := "queueArgs", plainKeys := false, apart := false, narrowed := true }
def QueueArgsUptoSaid : Prop := queueArgsUptoRow.holds Try.pinned (OpenSpec.upto queueArgsSpec)

/-- 'aerielaw11.QueueCounts', WHERE WHAT IT READS IS OF BULK AT MOST 1048576: true; the input reads as it did. -/
def queueCountsUptoRow : OpenClaim := { program := "ytpgophkegjeheaa", sum := "ca927c9348ebefc6c6bd2578666dd57b5c92ef341b2c8b02ef882b16bba9ccf1", func := "aerie/aerielaw11.QueueCounts", spec := "queueCounts", plainKeys := false, apart := false, narrowed := true }
def QueueCountsUptoSaid : Prop := queueCountsUptoRow.holds Try.pinned (OpenSpec.upto queueCountsSpec)

/-- 'aerielaw12.VerifyJudges', WHERE WHAT IT READS IS OF BULK AT MOST 1048576: true; the input reads as it did. -/
def verifyJudgesUptoRow : OpenClaim := { program := "ytpgophkegjeheaa", sum := "ca927c9348ebefc6c6bd2578666dd57b5c92ef341b2c8b02ef882b16bba9ccf1", func := "aerie/aerielaw12.VerifyJudges", spec := "verifyJudges", plainKeys := false, apart := false, narrowed := true }
def VerifyJudgesUptoSaid : Prop := verifyJudgesUptoRow.holds Try.pinned (OpenSpec.upto verifyJudgesSpec)

/-- 'aerielaw12.VerifyTells', WHERE WHAT IT READS IS OF BULK AT MOST 1048576: true; the input reads as it did. -/
def verifyTellsUptoRow : OpenClaim := { program := "ytpgophkegjeheaa", sum := "ca927c9348ebefc6c6bd2578666dd57b5c92ef341b2c8b02ef882b16bba9ccf1", func := "aerie/aerielaw12.VerifyTells", spec := "verifyTells", plainKeys := false, apart := false, narrowed := true }
def VerifyTellsUptoSaid : Prop := verifyTellsUptoRow.holds Try.pinned (OpenSpec.upto verifyTellsSpec)

/-- 'aerielaw12.VerifyFirst', WHERE WHAT IT READS IS OF BULK AT MOST 1048576: true; the input reads as it did. -/
def verifyFirstUptoRow : OpenClaim := { program := "ytpgophkegjeheaa", sum := "ca927c9348ebefc6c6bd2578666dd57b5c92ef341b2c8b02ef882b16bba9ccf1", func := "aerie/aerielaw12.VerifyFirst", spec := "verifyFirst", plainKeys := false, apart := false, narrowed := true }
def VerifyFirstUptoSaid : Prop := verifyFirstUptoRow.holds Try.pinned (OpenSpec.upto verifyFirstSpec)

/-- 'aerielaw12.VerifyNone', WHERE WHAT IT READS IS OF BULK AT MOST 1048576: true; the input reads as it did. -/
def verifyNoneUptoRow : OpenClaim := { program := "ytpgophkegjeheaa", sum := "ca927c9348ebefc6c6bd2578666dd57b5c92ef341b2c8b02ef882b16bba9ccf1", func := "aerie/aerielaw12.VerifyNone", spec := "verifyNone", plainKeys := false, apart := false, narrowed := true }
def VerifyNoneUptoSaid : Prop := verifyNoneUptoRow.holds Try.pinned (OpenSpec.upto verifyNoneSpec)

end Rows
end Go.Proofs.Ytpgophkegjeheaa
