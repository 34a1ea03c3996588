/-
  No cell of these rows narrows 'for every input' (looked for: loops, veiled, ifaces, maps, wideKeys, modest, calm, conditions, laid).
  DERIVED. THE GIVEN ROWS OF THIS SEAT. 12 by the template 'for every input the law returns true; each argument reads behind the call as it read before'; 0 by the template 'total and deterministic' (their statements: YtdlkonbjmmepoaaTotals.lean).
  GIVEN WITH THE SEED: the statements are not yours to turn. If you find one false, say at which input.
  Laid BY PROGRAM, IN A SANDBOX (cutbox-rows.mjs): the forced cells as the released guide's own fill.sh prints them over the translation fac36aae79fc44d1… (all of the seat's roots in one cut). By AI agents, Wed Nov 11 2026. No macro, syntax, notation, axiom, sorry.
-/
import Derived.Test.YtdlkonbjmmepoaaChecked
import GoSem.Claim
import GoSem.ClaimJoined
import GoSem.ClaimMapViews
import Derived.JoinedTies
import Derived.KernelRfl
namespace Go.Proofs.Ytdlkonbjmmepoaa
/- THE CELL 'sum', in the pinned program and in every row, IS THE sha256 OF THE DUMP (.gsa) THAT YtdlkonbjmmepoaaProg.lean LOADS. Nothing in Lean hashes anything: it is a label: what it is worth is what the hold of that sum in a sandbox is worth. -/
noncomputable def Try.pinned : Pinned := { name := "ytdlkonbjmmepoaa", sum := "fac36aae79fc44d12a1d3503064fad181cdcdff8c86c1ce2f849090aee985d4d", checked := Try.checked }
namespace Rows
def none {H : Type} : Left H := { results := [], args := [] }

/-- 'aerielaw07.GuardHolds': WHATEVER THE INPUT: true; the input reads as it did. -/
def guardHoldsSpec : ChangeSpec := { name := "guardHolds", fn := fun _ => fun
  | [d1, d2, d3, d4] => { results := [.lit (.bool true)], args := [d1, d2, d3, d4] }
  | _ => none }
def guardHoldsRow : OpenClaim := { program := "ytdlkonbjmmepoaa", sum := "fac36aae79fc44d12a1d3503064fad181cdcdff8c86c1ce2f849090aee985d4d", func := "aerie/aerielaw07.GuardHolds", spec := "guardHolds", unfollowed := true, recurses := true, apart := false }
def GuardHoldsSaid : Prop := guardHoldsRow.holds Try.pinned (OpenSpec.ofChange guardHoldsSpec)

/-- ITS FALSE NEIGHBOUR: 'it returns false'. Refute it at one input. -/
def guardHoldsWrong : ChangeSpec := { name := "guardHolds", fn := fun _ => fun
  | [d1, d2, d3, d4] => { results := [.lit (.bool false)], args := [d1, d2, d3, d4] }
  | _ => none }
def GuardHoldsWrongFalsely : Prop := guardHoldsRow.holds Try.pinned (OpenSpec.ofChange guardHoldsWrong)

/-- 'aerielaw07.GuardScrubs': WHATEVER THE INPUT: true; the input reads as it did. -/
def guardScrubsSpec : ChangeSpec := { name := "guardScrubs", fn := fun _ => fun
  | [d1, d2, d3, d4, d5] => { results := [.lit (.bool true)], args := [d1, d2, d3, d4, d5] }
  | _ => none }
def guardScrubsRow : OpenClaim := { program := "ytdlkonbjmmepoaa", sum := "fac36aae79fc44d12a1d3503064fad181cdcdff8c86c1ce2f849090aee985d4d", func := "aerie/aerielaw07.GuardScrubs", spec := "guardScrubs", apart := false }
def GuardScrubsSaid : Prop := guardScrubsRow.holds Try.pinned (OpenSpec.ofChange guardScrubsSpec)

/-- ITS FALSE NEIGHBOUR: 'it returns false'. Refute it at one input. -/
def guardScrubsWrong : ChangeSpec := { name := "guardScrubs", fn := fun _ => fun
  | [d1, d2, d3, d4, d5] => { results := [.lit (.bool false)], args := [d1, d2, d3, d4, d5] }
  | _ => none }
def GuardScrubsWrongFalsely : Prop := guardScrubsRow.holds Try.pinned (OpenSpec.ofChange guardScrubsWrong)

/-- 'aerielaw07.GuardNil': WHATEVER THE INPUT: true; the input reads as it did. -/
def guardNilSpec : ChangeSpec := { name := "guardNil", fn := fun _ => fun
  | [d1, d2, d3, d4] => { results := [.lit (.bool true)], args := [d1, d2, d3, d4] }
  | _ => none }
def guardNilRow : OpenClaim := { program := "ytdlkonbjmmepoaa", sum := "fac36aae79fc44d12a1d3503064fad181cdcdff8c86c1ce2f849090aee985d4d", func := "aerie/aerielaw07.GuardNil", spec := "guardNil", apart := false }
def GuardNilSaid : Prop := guardNilRow.holds Try.pinned (OpenSpec.ofChange guardNilSpec)

/-- ITS FALSE NEIGHBOUR: 'it returns false'. Refute it at one input. -/
def guardNilWrong : ChangeSpec := { name := "guardNil", fn := fun _ => fun
  | [d1, d2, d3, d4] => { results := [.lit (.bool false)], args := [d1, d2, d3, d4] }
  | _ => none }
def GuardNilWrongFalsely : Prop := guardNilRow.holds Try.pinned (OpenSpec.ofChange guardNilWrong)

/-- 'aerielaw07.GuardNumbers': WHATEVER THE INPUT: true; the input reads as it did. -/
def guardNumbersSpec : ChangeSpec := { name := "guardNumbers", fn := fun _ => fun
  | [d1, d2] => { results := [.lit (.bool true)], args := [d1, d2] }
  | _ => none }
def guardNumbersRow : OpenClaim := { program := "ytdlkonbjmmepoaa", sum := "fac36aae79fc44d12a1d3503064fad181cdcdff8c86c1ce2f849090aee985d4d", func := "aerie/aerielaw07.GuardNumbers", spec := "guardNumbers", apart := false }
def GuardNumbersSaid : Prop := guardNumbersRow.holds Try.pinned (OpenSpec.ofChange guardNumbersSpec)

/-- ITS FALSE NEIGHBOUR: 'it returns false'. Refute it at one input. -/
def guardNumbersWrong : ChangeSpec := { name := "guardNumbers", fn := fun _ => fun
  | [d1, d2] => { results := [.lit (.bool false)], args := [d1, d2] }
  | _ => none }
def GuardNumbersWrongFalsely : Prop := guardNumbersRow.holds Try.pinned (OpenSpec.ofChange guardNumbersWrong)

/-- 'aerielaw07.GuardFills': WHATEVER THE INPUT: true; the input reads as it did. -/
def guardFillsSpec : ChangeSpec := { name := "guardFills", fn := fun _ => fun
  | [d1, d2, d3] => { results := [.lit (.bool true)], args := [d1, d2, d3] }
  | _ => none }
def guardFillsRow : OpenClaim := { program := "ytdlkonbjmmepoaa", sum := "fac36aae79fc44d12a1d3503064fad181cdcdff8c86c1ce2f849090aee985d4d", func := "aerie/aerielaw07.GuardFills", spec := "guardFills", apart := false }
def GuardFillsSaid : Prop := guardFillsRow.holds Try.pinned (OpenSpec.ofChange guardFillsSpec)

/-- ITS FALSE NEIGHBOUR: 'it returns false'. Refute it at one input. -/
def guardFillsWrong : ChangeSpec := { name := "guardFills", fn := fun _ => fun
  | [d1, d2, d3] => { results := [.lit (.bool false)], args := [d1, d2, d3] }
  | _ => none }
def GuardFillsWrongFalsely : Prop := guardFillsRow.holds Try.pinned (OpenSpec.ofChange guardFillsWrong)

/-- 'aerielaw08.ContextForms': WHATEVER THE INPUT: true; the input reads as it did. -/
def contextFormsSpec : ChangeSpec := { name := "contextForms", fn := fun _ => fun
  | [d1, d2, d3, d4, d5] => { results := [.lit (.bool true)], args := [d1, d2, d3, d4, d5] }
  | _ => none }
def contextFormsRow : OpenClaim := { program := "ytdlkonbjmmepoaa", sum := "fac36aae79fc44d12a1d3503064fad181cdcdff8c86c1ce2f849090aee985d4d", func := "aerie/aerielaw08.ContextForms", spec := "contextForms", apart := false }
def ContextFormsSaid : Prop := contextFormsRow.holds Try.pinned (OpenSpec.ofChange contextFormsSpec)

/-- ITS FALSE NEIGHBOUR: 'it returns false'. Refute it at one input. -/
def contextFormsWrong : ChangeSpec := { name := "contextForms", fn := fun _ => fun
  | [d1, d2, d3, d4, d5] => { results := [.lit (.bool false)], args := [d1, d2, d3, d4, d5] }
  | _ => none }
def ContextFormsWrongFalsely : Prop := contextFormsRow.holds Try.pinned (OpenSpec.ofChange contextFormsWrong)

/-- 'aerielaw08.ContextBoots': WHATEVER THE INPUT: true; the input reads as it did. -/
def contextBootsSpec : ChangeSpec := { name := "contextBoots", fn := fun _ => fun
  | [d1, d2, d3, d4, d5] => { results := [.lit (.bool true)], args := [d1, d2, d3, d4, d5] }
  | _ => none }
def contextBootsRow : OpenClaim := { program := "ytdlkonbjmmepoaa", sum := "fac36aae79fc44d12a1d3503064fad181cdcdff8c86c1ce2f849090aee985d4d", func := "aerie/aerielaw08.ContextBoots", spec := "contextBoots", apart := false }
def ContextBootsSaid : Prop := contextBootsRow.holds Try.pinned (OpenSpec.ofChange contextBootsSpec)

/-- ITS FALSE NEIGHBOUR: 'it returns false'. Refute it at one input. -/
def contextBootsWrong : ChangeSpec := { name := "contextBoots", fn := fun _ => fun
  | [d1, d2, d3, d4, d5] => { results := [.lit (.bool false)], args := [d1, d2, d3, d4, d5] }
  | _ => none }
def ContextBootsWrongFalsely : Prop := contextBootsRow.holds Try.pinned (OpenSpec.ofChange contextBootsWrong)

/-- 'aerielaw08.ContextLimits': WHATEVER THE INPUT: true; the input reads as it did. -/
def contextLimitsSpec : ChangeSpec := { name := "contextLimits", fn := fun _ => fun
  | [d1, d2, d3] => { results := [.lit (.bool true)], args := [d1, d2, d3] }
  | _ => none }
def contextLimitsRow : OpenClaim := { program := "ytdlkonbjmmepoaa", sum := "fac36aae79fc44d12a1d3503064fad181cdcdff8c86c1ce2f849090aee985d4d", func := "aerie/aerielaw08.ContextLimits", spec := "contextLimits", apart := false }
def ContextLimitsSaid : Prop := contextLimitsRow.holds Try.pinned (OpenSpec.ofChange contextLimitsSpec)

/-- ITS FALSE NEIGHBOUR: 'it returns false'. Refute it at one input. -/
def contextLimitsWrong : ChangeSpec := { name := "contextLimits", fn := fun _ => fun
  | [d1, d2, d3] => { results := [.lit (.bool false)], args := [d1, d2, d3] }
  | _ => none }
def ContextLimitsWrongFalsely : Prop := contextLimitsRow.holds Try.pinned (OpenSpec.ofChange contextLimitsWrong)

/-- 'aerielaw08.ContextCounts': WHATEVER THE INPUT: true; the input reads as it did. -/
def contextCountsSpec : ChangeSpec := { name := "contextCounts", fn := fun _ => fun
  | [d1, d2] => { results := [.lit (.bool true)], args := [d1, d2] }
  | _ => none }
def contextCountsRow : OpenClaim := { program := "ytdlkonbjmmepoaa", sum := "fac36aae79fc44d12a1d3503064fad181cdcdff8c86c1ce2f849090aee985d4d", func := "aerie/aerielaw08.ContextCounts", spec := "contextCounts", apart := false }
def ContextCountsSaid : Prop := contextCountsRow.holds Try.pinned (OpenSpec.ofChange contextCountsSpec)

/-- ITS FALSE NEIGHBOUR: 'it returns false'. Refute it at one input. -/
def contextCountsWrong : ChangeSpec := { name := "contextCounts", fn := fun _ => fun
  | [d1, d2] => { results := [.lit (.bool false)], args := [d1, d2] }
  | _ => none }
def ContextCountsWrongFalsely : Prop := contextCountsRow.holds Try.pinned (OpenSpec.ofChange contextCountsWrong)

/-- 'aerielaw02.VecLines': WHATEVER THE INPUT: true; the input reads as it did. -/
def vecLinesSpec : ChangeSpec := { name := "vecLines", fn := fun _ => fun
  | [d1, d2, d3] => { results := [.lit (.bool true)], args := [d1, d2, d3] }
  | _ => none }
def vecLinesRow : OpenClaim := { program := "ytdlkonbjmmepoaa", sum := "fac36aae79fc44d12a1d3503064fad181cdcdff8c86c1ce2f849090aee985d4d", func := "aerie/aerielaw02.VecLines", spec := "vecLines", unfollowed := true, recurses := true, apart := false }
def VecLinesSaid : Prop := vecLinesRow.holds Try.pinned (OpenSpec.ofChange vecLinesSpec)

/-- ITS FALSE NEIGHBOUR: 'it returns false'. Refute it at one input. -/
def vecLinesWrong : ChangeSpec := { name := "vecLines", fn := fun _ => fun
  | [d1, d2, d3] => { results := [.lit (.bool false)], args := [d1, d2, d3] }
  | _ => none }
def VecLinesWrongFalsely : Prop := vecLinesRow.holds Try.pinned (OpenSpec.ofChange vecLinesWrong)

/-- 'aerielaw03.RingPlays': WHATEVER THE INPUT: true; the input reads as it did. -/
def ringPlaysSpec : ChangeSpec := { name := "ringPlays", fn := fun _ => fun
  | [d1, d2, d3, d4] => { results := [.lit (.bool true)], args := [d1, d2, d3, d4] }
  | _ => none }
def ringPlaysRow : OpenClaim := { program := "ytdlkonbjmmepoaa", sum := "fac36aae79fc44d12a1d3503064fad181cdcdff8c86c1ce2f849090aee985d4d", func := "aerie/aerielaw03.RingPlays", spec := "ringPlays", unfollowed := true, recurses := true, apart := false }
def RingPlaysSaid : Prop := ringPlaysRow.holds Try.pinned (OpenSpec.ofChange ringPlaysSpec)

/-- ITS FALSE NEIGHBOUR: 'it returns false'. Refute it at one input. -/
def ringPlaysWrong : ChangeSpec := { name := "ringPlays", fn := fun _ => fun
  | [d1, d2, d3, d4] => { results := [.lit (.bool false)], args := [d1, d2, d3, d4] }
  | _ => none }
def RingPlaysWrongFalsely : Prop := ringPlaysRow.holds Try.pinned (OpenSpec.ofChange ringPlaysWrong)

/-- 'aerielaw03.RingArgs': WHATEVER THE INPUT: true; the input reads as it did. -/
def ringArgsSpec : ChangeSpec := { name := "ringArgs", fn := fun _ => fun
  | [d1, d2, d3] => { results := [.lit (.bool true)], args := [d1, d2, d3] }
  | _ => none }
def ringArgsRow : OpenClaim := { program := "ytdlkonbjmmepoaa", sum := "fac36aae79fc44d12a1d3503064fad181cdcdff8c86c1ce2f849090aee985d4d", func := "aerie/aerielaw03.RingArgs", spec := "ringArgs", unfollowed := true, recurses := true, apart := false }
def RingArgsSaid : Prop := ringArgsRow.holds Try.pinned (OpenSpec.ofChange ringArgsSpec)

/-- ITS FALSE NEIGHBOUR: 'it returns false'. Refute it at one input. -/
def ringArgsWrong : ChangeSpec := { name := "ringArgs", fn := fun _ => fun
  | [d1, d2, d3] => { results := [.lit (.bool false)], args := [d1, d2, d3] }
  | _ => none }
def RingArgsWrongFalsely : Prop := ringArgsRow.holds Try.pinned (OpenSpec.ofChange ringArgsWrong)

/- THE SECOND FORM. 'bulk': how many values and letters a reading holds, each counted each time it is reached (what is shared counts as often as it is met; a slice's spare places count too). A statement '..UptoSaid' is the law's where the arguments, and the package variables that the reading takes, are together of bulk at most 1048576: NARROWER than '..Said'. Prove '..Said' where nothing that the law and all that it calls make is longer than what came in: it says more and counts as full. Else prove '..UptoSaid'. A law counts once. -/
mutual
def uptoBulk {H : Type} : DataW H → Nat
  | .lit (.string bytes) => bytes.length + 1
  | .lit _ => 1
  | .nil => 1
  | .ptr d => uptoBulk d + 1
  | .slice elems spare => uptoBulkAll elems + uptoBulkAll spare + 1
  | .agg parts => uptoBulkAll parts + 1
  | .iface _ d => uptoBulk d + 1
  | .map entries => uptoBulkEntries entries + 1
  | .held _ => 1
def uptoBulkAll {H : Type} : List (DataW H) → Nat
  | [] => 0
  | d :: r => uptoBulk d + uptoBulkAll r
def uptoBulkEntries {H : Type} : List (Lit × DataW H) → Nat
  | [] => 0
  | x :: r => uptoBulkEntry x + uptoBulkEntries r
def uptoBulkEntry {H : Type} : Lit × DataW H → Nat
  | (.string bytes, d) => bytes.length + uptoBulk d + 1
  | (_, d) => uptoBulk d + 1
 end
def uptoSmall : (H : Type) → List (DataW H) → Bool := fun _ ds => decide (uptoBulkAll ds ≤ 1048576)
def OpenSpec.upto (s : _root_.Go.ChangeSpec) : _root_.Go.OpenSpec := { _root_.Go.OpenSpec.ofChange s with cond := some uptoSmall }

/-- 'aerielaw07.GuardHolds', WHERE WHAT IT READS IS OF BULK AT MOST 1048576: true; the input reads as it did. -/
def guardHoldsUptoRow : OpenClaim := { program := "ytdlkonbjmmepoaa", sum := "fac36aae79fc44d12a1d3503064fad181cdcdff8c86c1ce2f849090aee985d4d", func := "aerie/aerielaw07.GuardHolds", spec := "guardHolds", unfollowed := true, recurses := true, apart := false, narrowed := true }
def GuardHoldsUptoSaid : Prop := guardHoldsUptoRow.holds Try.pinned (OpenSpec.upto guardHoldsSpec)

/-- 'aerielaw07.GuardScrubs', WHERE WHAT IT READS IS OF BULK AT MOST 1048576: true; the input reads as it did. -/
def guardScrubsUptoRow : OpenClaim := { program := "ytdlkonbjmmepoaa", sum := "fac36aae79fc44d12a1d3503064fad181cdcdff8c86c1ce2f849090aee985d4d", func := "aerie/aerielaw07.GuardScrubs", spec := "guardScrubs", apart := false, narrowed := true }
def GuardScrubsUptoSaid : Prop := guardScrubsUptoRow.holds Try.pinned (OpenSpec.upto guardScrubsSpec)

/-- 'aerielaw07.GuardNil', WHERE WHAT IT READS IS OF BULK AT MOST 1048576: true; the input reads as it did. -/
def guardNilUptoRow : OpenClaim := { program := "ytdlkonbjmmepoaa", sum := "fac36aae79fc44d12a1d3503064fad181cdcdff8c86c1ce2f849090aee985d4d", func := "aerie/aerielaw07.GuardNil", spec := "guardNil", apart := false, narrowed := true }
def GuardNilUptoSaid : Prop := guardNilUptoRow.holds Try.pinned (OpenSpec.upto guardNilSpec)

/-- 'aerielaw07.GuardNumbers', WHERE WHAT IT READS IS OF BULK AT MOST 1048576: true; the input reads as it did. -/
def guardNumbersUptoRow : OpenClaim := { program := "ytdlkonbjmmepoaa", sum := "fac36aae79fc44d12a1d3503064fad181cdcdff8c86c1ce2f849090aee985d4d", func := "aerie/aerielaw07.GuardNumbers", spec := "guardNumbers", apart := false, narrowed := true }
def GuardNumbersUptoSaid : Prop := guardNumbersUptoRow.holds Try.pinned (OpenSpec.upto guardNumbersSpec)

/-- 'aerielaw07.GuardFills', WHERE WHAT IT READS IS OF BULK AT MOST 1048576: true; the input reads as it did. -/
def guardFillsUptoRow : OpenClaim := { program := "ytdlkonbjmmepoaa", sum := "fac36aae79fc44d12a1d3503064fad181cdcdff8c86c1ce2f849090aee985d4d", func := "aerie/aerielaw07.GuardFills", spec := "guardFills", apart := false, narrowed := true }
def GuardFillsUptoSaid : Prop := guardFillsUptoRow.holds Try.pinned (OpenSpec.upto guardFillsSpec)

/-- 'aerielaw08.ContextForms', WHERE WHAT IT READS IS OF BULK AT MOST 1048576: true; the input reads as it did. -/
def contextFormsUptoRow : OpenClaim := { program := "ytdlkonbjmmepoaa", sum := "fac36aae79fc44d12a1d3503064fad181cdcdff8c86c1ce2f849090aee985d4d", func := "aerie/aerielaw08.ContextForms", spec := "contextForms", apart := false, narrowed := true }
def ContextFormsUptoSaid : Prop := contextFormsUptoRow.holds Try.pinned (OpenSpec.upto contextFormsSpec)

/-- 'aerielaw08.ContextBoots', WHERE WHAT IT READS IS OF BULK AT MOST 1048576: true; the input reads as it did. -/
def contextBootsUptoRow : OpenClaim := { program := "ytdlkonbjmmepoaa", sum := "fac36aae79fc44d12a1d3503064fad181cdcdff8c86c1ce2f849090aee985d4d", func := "aerie/aerielaw08.ContextBoots", spec := "contextBoots", apart := false, narrowed := true }
def ContextBootsUptoSaid : Prop := contextBootsUptoRow.holds Try.pinned (OpenSpec.upto contextBootsSpec)

/-- 'aerielaw08.ContextLimits', WHERE WHAT IT READS IS OF BULK AT MOST 1048576: true; the input reads as it did. -/
def contextLimitsUptoRow : OpenClaim := { program := "ytdlkonbjmmepoaa", sum := "fac36aae79fc44d12a1d3503064fad181cdcdff8c86c1ce2f849090aee985d4d", func := "aerie/aerielaw08.ContextLimits", spec := "contextLimits", apart := false, narrowed := true }
def ContextLimitsUptoSaid : Prop := contextLimitsUptoRow.holds Try.pinned (OpenSpec.upto contextLimitsSpec)

/-- 'aerielaw08.ContextCounts', WHERE WHAT IT READS IS OF BULK AT MOST 1048576: true; the input reads as it did. -/
def contextCountsUptoRow : OpenClaim := { program := "ytdlkonbjmmepoaa", sum := "fac36aae79fc44d12a1d3503064fad181cdcdff8c86c1ce2f849090aee985d4d", func := "aerie/aerielaw08.ContextCounts", spec := "contextCounts", apart := false, narrowed := true }
def ContextCountsUptoSaid : Prop := contextCountsUptoRow.holds Try.pinned (OpenSpec.upto contextCountsSpec)

/-- 'aerielaw02.VecLines', WHERE WHAT IT READS IS OF BULK AT MOST 1048576: true; the input reads as it did. -/
def vecLinesUptoRow : OpenClaim := { program := "ytdlkonbjmmepoaa", sum := "fac36aae79fc44d12a1d3503064fad181cdcdff8c86c1ce2f849090aee985d4d", func := "aerie/aerielaw02.VecLines", spec := "vecLines", unfollowed := true, recurses := true, apart := false, narrowed := true }
def VecLinesUptoSaid : Prop := vecLinesUptoRow.holds Try.pinned (OpenSpec.upto vecLinesSpec)

/-- 'aerielaw03.RingPlays', WHERE WHAT IT READS IS OF BULK AT MOST 1048576: true; the input reads as it did. -/
def ringPlaysUptoRow : OpenClaim := { program := "ytdlkonbjmmepoaa", sum := "fac36aae79fc44d12a1d3503064fad181cdcdff8c86c1ce2f849090aee985d4d", func := "aerie/aerielaw03.RingPlays", spec := "ringPlays", unfollowed := true, recurses := true, apart := false, narrowed := true }
def RingPlaysUptoSaid : Prop := ringPlaysUptoRow.holds Try.pinned (OpenSpec.upto ringPlaysSpec)

/-- 'aerielaw03.RingArgs', WHERE WHAT IT READS IS OF BULK AT MOST 1048576: true; the input reads as it did. -/
def ringArgsUptoRow : OpenClaim := { program := "ytdlkonbjmmepoaa", sum := "fac36aae79fc44d12a1d3503064fad181cdcdff8c86c1ce2f849090aee985d4d", func := "aerie/aerielaw03.RingArgs", spec := "ringArgs", unfollowed := true, recurses := true, apart := false, narrowed := true }
def RingArgsUptoSaid : Prop := ringArgsUptoRow.holds Try.pinned (OpenSpec.upto ringArgsSpec)

end Rows
end Go.Proofs.Ytdlkonbjmmepoaa
