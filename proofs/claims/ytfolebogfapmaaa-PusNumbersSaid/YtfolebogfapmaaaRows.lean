/-
  No cell of these rows narrows 'for every input' (looked for: loops, veiled, ifaces, maps, wideKeys, modest, calm, conditions, laid).
  DERIVED. THE GIVEN ROWS OF THIS SEAT. 12 by the template 'for every input the law returns true; each argument reads behind the call as it read before'; 0 by the template 'total and deterministic' (their statements: YtfolebogfapmaaaTotals.lean).
  GIVEN WITH THE SEED: the statements are not yours to turn. If you find one false, say at which input.
  Laid BY PROGRAM, IN A SANDBOX (cutbox-rows.mjs): the forced cells as the released guide's own fill.sh prints them over the translation 59de30dcad14150e… (all of the seat's roots in one cut). By AI agents, Wed Nov 11 2026. No macro, syntax, notation, axiom, sorry.
-/
import Derived.Test.YtfolebogfapmaaaChecked
import GoSem.Claim
import GoSem.ClaimJoined
import GoSem.ClaimMapViews
import Derived.JoinedTies
import Derived.KernelRfl
namespace Go.Proofs.Ytfolebogfapmaaa
/- THE CELL 'sum', in the pinned program and in every row, IS THE sha256 OF THE DUMP (.gsa) THAT YtfolebogfapmaaaProg.lean LOADS. Nothing in Lean hashes anything: it is a label: what it is worth is what the hold of that sum in a sandbox is worth. -/
noncomputable def Try.pinned : Pinned := { name := "ytfolebogfapmaaa", sum := "59de30dcad14150ec30ed304e2ffd1b26e33230484356266a2c4a72cfd4603d8", checked := Try.checked }
namespace Rows
def none {H : Type} : Left H := { results := [], args := [] }

/-- 'aerielaw09.PacketSplits': WHATEVER THE INPUT: true; the input reads as it did. -/
def packetSplitsSpec : ChangeSpec := { name := "packetSplits", fn := fun _ => fun
  | [d1, d2] => { results := [.lit (.bool true)], args := [d1, d2] }
  | _ => none }
def packetSplitsRow : OpenClaim := { program := "ytfolebogfapmaaa", sum := "59de30dcad14150ec30ed304e2ffd1b26e33230484356266a2c4a72cfd4603d8", func := "aerie/aerielaw09.PacketSplits", spec := "packetSplits", apart := false }
def PacketSplitsSaid : Prop := packetSplitsRow.holds Try.pinned (OpenSpec.ofChange packetSplitsSpec)

/-- ITS FALSE NEIGHBOUR: 'it returns false'. Refute it at one input. -/
def packetSplitsWrong : ChangeSpec := { name := "packetSplits", fn := fun _ => fun
  | [d1, d2] => { results := [.lit (.bool false)], args := [d1, d2] }
  | _ => none }
def PacketSplitsWrongFalsely : Prop := packetSplitsRow.holds Try.pinned (OpenSpec.ofChange packetSplitsWrong)

/-- 'aerielaw10.PusCommands': WHATEVER THE INPUT: true; the input reads as it did. -/
def pusCommandsSpec : ChangeSpec := { name := "pusCommands", fn := fun _ => fun
  | [d1, d2, d3, d4] => { results := [.lit (.bool true)], args := [d1, d2, d3, d4] }
  | _ => none }
def pusCommandsRow : OpenClaim := { program := "ytfolebogfapmaaa", sum := "59de30dcad14150ec30ed304e2ffd1b26e33230484356266a2c4a72cfd4603d8", func := "aerie/aerielaw10.PusCommands", spec := "pusCommands", apart := false }
def PusCommandsSaid : Prop := pusCommandsRow.holds Try.pinned (OpenSpec.ofChange pusCommandsSpec)

/-- ITS FALSE NEIGHBOUR: 'it returns false'. Refute it at one input. -/
def pusCommandsWrong : ChangeSpec := { name := "pusCommands", fn := fun _ => fun
  | [d1, d2, d3, d4] => { results := [.lit (.bool false)], args := [d1, d2, d3, d4] }
  | _ => none }
def PusCommandsWrongFalsely : Prop := pusCommandsRow.holds Try.pinned (OpenSpec.ofChange pusCommandsWrong)

/-- 'aerielaw10.PusReports': WHATEVER THE INPUT: true; the input reads as it did. -/
def pusReportsSpec : ChangeSpec := { name := "pusReports", fn := fun _ => fun
  | [d1, d2, d3, d4] => { results := [.lit (.bool true)], args := [d1, d2, d3, d4] }
  | _ => none }
def pusReportsRow : OpenClaim := { program := "ytfolebogfapmaaa", sum := "59de30dcad14150ec30ed304e2ffd1b26e33230484356266a2c4a72cfd4603d8", func := "aerie/aerielaw10.PusReports", spec := "pusReports", apart := false }
def PusReportsSaid : Prop := pusReportsRow.holds Try.pinned (OpenSpec.ofChange pusReportsSpec)

/-- ITS FALSE NEIGHBOUR: 'it returns false'. Refute it at one input. -/
def pusReportsWrong : ChangeSpec := { name := "pusReports", fn := fun _ => fun
  | [d1, d2, d3, d4] => { results := [.lit (.bool false)], args := [d1, d2, d3, d4] }
  | _ => none }
def PusReportsWrongFalsely : Prop := pusReportsRow.holds Try.pinned (OpenSpec.ofChange pusReportsWrong)

/-- 'aerielaw10.PusNumbers': WHATEVER THE INPUT: true; the input reads as it did. -/
def pusNumbersSpec : ChangeSpec := { name := "pusNumbers", fn := fun _ => fun
  | [d1, d2, d3] => { results := [.lit (.bool true)], args := [d1, d2, d3] }
  | _ => none }
def pusNumbersRow : OpenClaim := { program := "ytfolebogfapmaaa", sum := "59de30dcad14150ec30ed304e2ffd1b26e33230484356266a2c4a72cfd4603d8", func := "aerie/aerielaw10.PusNumbers", spec := "pusNumbers", apart := false }
def PusNumbersSaid : Prop := pusNumbersRow.holds Try.pinned (OpenSpec.ofChange pusNumbersSpec)

/-- ITS FALSE NEIGHBOUR: 'it returns false'. Refute it at one input. -/
def pusNumbersWrong : ChangeSpec := { name := "pusNumbers", fn := fun _ => fun
  | [d1, d2, d3] => { results := [.lit (.bool false)], args := [d1, d2, d3] }
  | _ => none }
def PusNumbersWrongFalsely : Prop := pusNumbersRow.holds Try.pinned (OpenSpec.ofChange pusNumbersWrong)

/-- 'aerielaw10.PusPackets': WHATEVER THE INPUT: true; the input reads as it did. -/
def pusPacketsSpec : ChangeSpec := { name := "pusPackets", fn := fun _ => fun
  | [d1, d2, d3, d4] => { results := [.lit (.bool true)], args := [d1, d2, d3, d4] }
  | _ => none }
def pusPacketsRow : OpenClaim := { program := "ytfolebogfapmaaa", sum := "59de30dcad14150ec30ed304e2ffd1b26e33230484356266a2c4a72cfd4603d8", func := "aerie/aerielaw10.PusPackets", spec := "pusPackets", apart := false }
def PusPacketsSaid : Prop := pusPacketsRow.holds Try.pinned (OpenSpec.ofChange pusPacketsSpec)

/-- ITS FALSE NEIGHBOUR: 'it returns false'. Refute it at one input. -/
def pusPacketsWrong : ChangeSpec := { name := "pusPackets", fn := fun _ => fun
  | [d1, d2, d3, d4] => { results := [.lit (.bool false)], args := [d1, d2, d3, d4] }
  | _ => none }
def PusPacketsWrongFalsely : Prop := pusPacketsRow.holds Try.pinned (OpenSpec.ofChange pusPacketsWrong)

/-- 'aerielaw10.PusShort': WHATEVER THE INPUT: true; the input reads as it did. -/
def pusShortSpec : ChangeSpec := { name := "pusShort", fn := fun _ => fun
  | [d1, d2, d3] => { results := [.lit (.bool true)], args := [d1, d2, d3] }
  | _ => none }
def pusShortRow : OpenClaim := { program := "ytfolebogfapmaaa", sum := "59de30dcad14150ec30ed304e2ffd1b26e33230484356266a2c4a72cfd4603d8", func := "aerie/aerielaw10.PusShort", spec := "pusShort", apart := false }
def PusShortSaid : Prop := pusShortRow.holds Try.pinned (OpenSpec.ofChange pusShortSpec)

/-- ITS FALSE NEIGHBOUR: 'it returns false'. Refute it at one input. -/
def pusShortWrong : ChangeSpec := { name := "pusShort", fn := fun _ => fun
  | [d1, d2, d3] => { results := [.lit (.bool false)], args := [d1, d2, d3] }
  | _ => none }
def PusShortWrongFalsely : Prop := pusShortRow.holds Try.pinned (OpenSpec.ofChange pusShortWrong)

/-- 'aerielaw08.ContextForms': WHATEVER THE INPUT: true; the input reads as it did. -/
def contextFormsSpec : ChangeSpec := { name := "contextForms", fn := fun _ => fun
  | [d1, d2, d3, d4, d5] => { results := [.lit (.bool true)], args := [d1, d2, d3, d4, d5] }
  | _ => none }
def contextFormsRow : OpenClaim := { program := "ytfolebogfapmaaa", sum := "59de30dcad14150ec30ed304e2ffd1b26e33230484356266a2c4a72cfd4603d8", func := "aerie/aerielaw08.ContextForms", spec := "contextForms", apart := false }
def ContextFormsSaid : Prop := contextFormsRow.holds Try.pinned (OpenSpec.ofChange contextFormsSpec)

/-- ITS FALSE NEIGHBOUR: 'it returns false'. Refute it at one input. -/
def contextFormsWrong : ChangeSpec := { name := "contextForms", fn := fun _ => fun
  | [d1, d2, d3, d4, d5] => { results := [.lit (.bool false)], args := [d1, d2, d3, d4, d5] }
  | _ => none }
def ContextFormsWrongFalsely : Prop := contextFormsRow.holds Try.pinned (OpenSpec.ofChange contextFormsWrong)

/-- 'aerielaw08.ContextBoots': WHATEVER THE INPUT: true; the input reads as it did. -/
def contextBootsSpec : ChangeSpec := { name := "contextBoots", fn := fun _ => fun
  | [d1, d2, d3, d4, d5] => { results := [.lit (.bool true)], args := [d1, d2, d3, d4, d5] }
  | _ => none }
def contextBootsRow : OpenClaim := { program := "ytfolebogfapmaaa", sum := "59de30dcad14150ec30ed304e2ffd1b26e33230484356266a2c4a72cfd4603d8", func := "aerie/aerielaw08.ContextBoots", spec := "contextBoots", apart := false }
def ContextBootsSaid : Prop := contextBootsRow.holds Try.pinned (OpenSpec.ofChange contextBootsSpec)

/-- ITS FALSE NEIGHBOUR: 'it returns false'. Refute it at one input. -/
def contextBootsWrong : ChangeSpec := { name := "contextBoots", fn := fun _ => fun
  | [d1, d2, d3, d4, d5] => { results := [.lit (.bool false)], args := [d1, d2, d3, d4, d5] }
  | _ => none }
def ContextBootsWrongFalsely : Prop := contextBootsRow.holds Try.pinned (OpenSpec.ofChange contextBootsWrong)

/-- 'aerielaw08.ContextLimits': WHATEVER THE INPUT: true; the input reads as it did. -/
def contextLimitsSpec : ChangeSpec := { name := "contextLimits", fn := fun _ => fun
  | [d1, d2, d3] => { results := [.lit (.bool true)], args := [d1, d2, d3] }
  | _ => none }
def contextLimitsRow : OpenClaim := { program := "ytfolebogfapmaaa", sum := "59de30dcad14150ec30ed304e2ffd1b26e33230484356266a2c4a72cfd4603d8", func := "aerie/aerielaw08.ContextLimits", spec := "contextLimits", apart := false }
def ContextLimitsSaid : Prop := contextLimitsRow.holds Try.pinned (OpenSpec.ofChange contextLimitsSpec)

/-- ITS FALSE NEIGHBOUR: 'it returns false'. Refute it at one input. -/
def contextLimitsWrong : ChangeSpec := { name := "contextLimits", fn := fun _ => fun
  | [d1, d2, d3] => { results := [.lit (.bool false)], args := [d1, d2, d3] }
  | _ => none }
def ContextLimitsWrongFalsely : Prop := contextLimitsRow.holds Try.pinned (OpenSpec.ofChange contextLimitsWrong)

/-- 'aerielaw08.ContextCounts': WHATEVER THE INPUT: true; the input reads as it did. -/
def contextCountsSpec : ChangeSpec := { name := "contextCounts", fn := fun _ => fun
  | [d1, d2] => { results := [.lit (.bool true)], args := [d1, d2] }
  | _ => none }
def contextCountsRow : OpenClaim := { program := "ytfolebogfapmaaa", sum := "59de30dcad14150ec30ed304e2ffd1b26e33230484356266a2c4a72cfd4603d8", func := "aerie/aerielaw08.ContextCounts", spec := "contextCounts", apart := false }
def ContextCountsSaid : Prop := contextCountsRow.holds Try.pinned (OpenSpec.ofChange contextCountsSpec)

/-- ITS FALSE NEIGHBOUR: 'it returns false'. Refute it at one input. -/
def contextCountsWrong : ChangeSpec := { name := "contextCounts", fn := fun _ => fun
  | [d1, d2] => { results := [.lit (.bool false)], args := [d1, d2] }
  | _ => none }
def ContextCountsWrongFalsely : Prop := contextCountsRow.holds Try.pinned (OpenSpec.ofChange contextCountsWrong)

/-- 'aerielaw03.RingPlays': WHATEVER THE INPUT: true; the input reads as it did. -/
def ringPlaysSpec : ChangeSpec := { name := "ringPlays", fn := fun _ => fun
  | [d1, d2, d3, d4] => { results := [.lit (.bool true)], args := [d1, d2, d3, d4] }
  | _ => none }
def ringPlaysRow : OpenClaim := { program := "ytfolebogfapmaaa", sum := "59de30dcad14150ec30ed304e2ffd1b26e33230484356266a2c4a72cfd4603d8", func := "aerie/aerielaw03.RingPlays", spec := "ringPlays", unfollowed := true, recurses := true, apart := false }
def RingPlaysSaid : Prop := ringPlaysRow.holds Try.pinned (OpenSpec.ofChange ringPlaysSpec)

/-- ITS FALSE NEIGHBOUR: 'it returns false'. Refute it at one input. -/
def ringPlaysWrong : ChangeSpec := { name := "ringPlays", fn := fun _ => fun
  | [d1, d2, d3, d4] => { results := [.lit (.bool false)], args := [d1, d2, d3, d4] }
  | _ => none }
def RingPlaysWrongFalsely : Prop := ringPlaysRow.holds Try.pinned (OpenSpec.ofChange ringPlaysWrong)

/-- 'aerielaw02.VecLines': WHATEVER THE INPUT: true; the input reads as it did. -/
def vecLinesSpec : ChangeSpec := { name := "vecLines", fn := fun _ => fun
  | [d1, d2, d3] => { results := [.lit (.bool true)], args := [d1, d2, d3] }
  | _ => none }
def vecLinesRow : OpenClaim := { program := "ytfolebogfapmaaa", sum := "59de30dcad14150ec30ed304e2ffd1b26e33230484356266a2c4a72cfd4603d8", func := "aerie/aerielaw02.VecLines", spec := "vecLines", unfollowed := true, recurses := true, apart := false }
def VecLinesSaid : Prop := vecLinesRow.holds Try.pinned (OpenSpec.ofChange vecLinesSpec)

/-- ITS FALSE NEIGHBOUR: 'it returns false'. Refute it at one input. -/
def vecLinesWrong : ChangeSpec := { name := "vecLines", fn := fun _ => fun
  | [d1, d2, d3] => { results := [.lit (.bool false)], args := [d1, d2, d3] }
  | _ => none }
def VecLinesWrongFalsely : Prop := vecLinesRow.holds Try.pinned (OpenSpec.ofChange vecLinesWrong)

/- THE SECOND FORM. 'bulk': how many values and letters a reading holds, each counted each time it is reached (what is shared counts as often as it is met; a slice's spare places count too). A statement '..UptoSaid' is the law's where the arguments, and the package variables that the reading takes, are together of bulk at most 1048576: NARROWER than '..Said'. Prove '..Said' where nothing that the law and all that it calls make is longer than what came in: it says more and counts as full. Else prove '..UptoSaid'. A law counts once. -/
mutual
def uptoBulk {H : Type} : DataW H → Nat
  | .lit (.string bytes) => bytes.length + 1
  | .lit _ => 1
  | .nil => 1
  | .ptr d => uptoBulk d + 1
  | .slice elems spare => uptoBulkAll elems + uptoBulkAll spare + 1
  | .agg parts => uptoBulkAll parts + 1
  | .iface _ d => uptoBulk d + 1
  | .map entries => uptoBulkEntries entries + 1
  | .held _ => 1
def uptoBulkAll {H : Type} : List (DataW H) → Nat
  | [] => 0
  | d :: r => uptoBulk d + uptoBulkAll r
def uptoBulkEntries {H : Type} : List (Lit × DataW H) → Nat
  | [] => 0
  | x :: r => uptoBulkEntry x + uptoBulkEntries r
def uptoBulkEntry {H : Type} : Lit × DataW H → Nat
  | (.string bytes, d) => bytes.length + uptoBulk d + 1
  | (_, d) => uptoBulk d + 1
 end
def uptoSmall : (H : Type) → List (DataW H) → Bool := fun _ ds => decide (uptoBulkAll ds ≤ 1048576)
def OpenSpec.upto (s : _root_.Go.ChangeSpec) : _root_.Go.OpenSpec := { _root_.Go.OpenSpec.ofChange s with cond := some uptoSmall }

/-- 'aerielaw09.PacketSplits', WHERE WHAT IT READS IS OF BULK AT MOST 1048576: true; the input reads as it did. -/
def packetSplitsUptoRow : OpenClaim := { program := "ytfolebogfapmaaa", sum := "59de30dcad14150ec30ed304e2ffd1b26e33230484356266a2c4a72cfd4603d8", func := "aerie/aerielaw09.PacketSplits", spec := "packetSplits", apart := false, narrowed := true }
def PacketSplitsUptoSaid : Prop := packetSplitsUptoRow.holds Try.pinned (OpenSpec.upto packetSplitsSpec)

/-- 'aerielaw10.PusCommands', WHERE WHAT IT READS IS OF BULK AT MOST 1048576: true; the input reads as it did. -/
def pusCommandsUptoRow : OpenClaim := { program := "ytfolebogfapmaaa", sum := "59de30dcad14150ec30ed304e2ffd1b26e33230484356266a2c4a72cfd4603d8", func := "aerie/aerielaw10.PusCommands", spec := "pusCommands", apart := false, narrowed := true }
def PusCommandsUptoSaid : Prop := pusCommandsUptoRow.holds Try.pinned (OpenSpec.upto pusCommandsSpec)

/-- 'aerielaw10.PusReports', WHERE WHAT IT READS IS OF BULK AT MOST 1048576: true; the input reads as it did. -/
def pusReportsUptoRow : OpenClaim := { program := "ytfolebogfapmaaa", sum := "59de30dcad14150ec30ed304e2ffd1b26e33230484356266a2c4a72cfd4603d8", func := "aerie/aerielaw10.PusReports", spec := "pusReports", apart := false, narrowed := true }
def PusReportsUptoSaid : Prop := pusReportsUptoRow.holds Try.pinned (OpenSpec.upto pusReportsSpec)

/-- 'aerielaw10.PusNumbers', WHERE WHAT IT READS IS OF BULK AT MOST 1048576: true; the input reads as it did. -/
def pusNumbersUptoRow : OpenClaim := { program := "ytfolebogfapmaaa", sum := "59de30dcad14150ec30ed304e2ffd1b26e33230484356266a2c4a72cfd4603d8", func := "aerie/aerielaw10.PusNumbers", spec := "pusNumbers", apart := false, narrowed := true }
def PusNumbersUptoSaid : Prop := pusNumbersUptoRow.holds Try.pinned (OpenSpec.upto pusNumbersSpec)

/-- 'aerielaw10.PusPackets', WHERE WHAT IT READS IS OF BULK AT MOST 1048576: true; the input reads as it did. -/
def pusPacketsUptoRow : OpenClaim := { program := "ytfolebogfapmaaa", sum := "59de30dcad14150ec30ed304e2ffd1b26e33230484356266a2c4a72cfd4603d8", func := "aerie/aerielaw10.PusPackets", spec := "pusPackets", apart := false, narrowed := true }
def PusPacketsUptoSaid : Prop := pusPacketsUptoRow.holds Try.pinned (OpenSpec.upto pusPacketsSpec)

/-- 'aerielaw10.PusShort', WHERE WHAT IT READS IS OF BULK AT MOST 1048576: true; the input reads as it did. -/
def pusShortUptoRow : OpenClaim := { program := "ytfolebogfapmaaa", sum := "59de30dcad14150ec30ed304e2ffd1b26e33230484356266a2c4a72cfd4603d8", func := "aerie/aerielaw10.PusShort", spec := "pusShort", apart := false, narrowed := true }
def PusShortUptoSaid : Prop := pusShortUptoRow.holds Try.pinned (OpenSpec.upto pusShortSpec)

/-- 'aerielaw08.ContextForms', WHERE WHAT IT READS IS OF BULK AT MOST 1048576: true; the input reads as it did. -/
def contextFormsUptoRow : OpenClaim := { program := "ytfolebogfapmaaa", sum := "59de30dcad14150ec30ed304e2ffd1b26e33230484356266a2c4a72cfd4603d8", func := "aerie/aerielaw08.ContextForms", spec := "contextForms", apart := false, narrowed := true }
def ContextFormsUptoSaid : Prop := contextFormsUptoRow.holds Try.pinned (OpenSpec.upto contextFormsSpec)

/-- 'aerielaw08.ContextBoots', WHERE WHAT IT READS IS OF BULK AT MOST 1048576: true; the input reads as it did. -/
def contextBootsUptoRow : OpenClaim := { program := "ytfolebogfapmaaa", sum := "59de30dcad14150ec30ed304e2ffd1b26e33230484356266a2c4a72cfd4603d8", func := "aerie/aerielaw08.ContextBoots", spec := "contextBoots", apart := false, narrowed := true }
def ContextBootsUptoSaid : Prop := contextBootsUptoRow.holds Try.pinned (OpenSpec.upto contextBootsSpec)

/-- 'aerielaw08.ContextLimits', WHERE WHAT IT READS IS OF BULK AT MOST 1048576: true; the input reads as it did. -/
def contextLimitsUptoRow : OpenClaim := { program := "ytfolebogfapmaaa", sum := "59de30dcad14150ec30ed304e2ffd1b26e33230484356266a2c4a72cfd4603d8", func := "aerie/aerielaw08.ContextLimits", spec := "contextLimits", apart := false, narrowed := true }
def ContextLimitsUptoSaid : Prop := contextLimitsUptoRow.holds Try.pinned (OpenSpec.upto contextLimitsSpec)

/-- 'aerielaw08.ContextCounts', WHERE WHAT IT READS IS OF BULK AT MOST 1048576: true; the input reads as it did. -/
def contextCountsUptoRow : OpenClaim := { program := "ytfolebogfapmaaa", sum := "59de30dcad14150ec30ed304e2ffd1b26e33230484356266a2c4a72cfd4603d8", func := "aerie/aerielaw08.ContextCounts", spec := "contextCounts", apart := false, narrowed := true }
def ContextCountsUptoSaid : Prop := contextCountsUptoRow.holds Try.pinned (OpenSpec.upto contextCountsSpec)

/-- 'aerielaw03.RingPlays', WHERE WHAT IT READS IS OF BULK AT MOST 1048576: true; the input reads as it did. -/
def ringPlaysUptoRow : OpenClaim := { program := "ytfolebogfapmaaa", sum := "59de30dcad14150ec30ed304e2ffd1b26e33230484356266a2c4a72cfd4603d8", func := "aerie/aerielaw03.RingPlays", spec := "ringPlays", unfollowed := true, recurses := true, apart := false, narrowed := true }
def RingPlaysUptoSaid : Prop := ringPlaysUptoRow.holds Try.pinned (OpenSpec.upto ringPlaysSpec)

/-- 'aerielaw02.VecLines', WHERE WHAT IT READS IS OF BULK AT MOST 1048576: true; the input reads as it did. -/
def vecLinesUptoRow : OpenClaim := { program := "ytfolebogfapmaaa", sum := "59de30dcad14150ec30ed304e2ffd1b26e33230484356266a2c4a72cfd4603d8", func := "aerie/aerielaw02.VecLines", spec := "vecLines", unfollowed := true, recurses := true, apart := false, narrowed := true }
def VecLinesUptoSaid : Prop := vecLinesUptoRow.holds Try.pinned (OpenSpec.upto vecLinesSpec)

end Rows
end Go.Proofs.Ytfolebogfapmaaa
