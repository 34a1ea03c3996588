/-
  No cell of these rows narrows 'for every input' (looked for: loops, veiled, ifaces, maps, wideKeys, modest, calm, conditions, laid).
  DERIVED. THE GIVEN ROWS OF THIS SEAT. 11 by the template 'for every input the law returns true; each argument reads behind the call as it read before'; 0 by the template 'total and deterministic' (their statements: YtifjnpmkcgbniaaTotals.lean).
  GIVEN WITH THE SEED: the statements are not yours to turn. If you find one false, say at which input.
  Laid BY PROGRAM, IN A SANDBOX (cutbox-rows.mjs): the forced cells as the released guide's own fill.sh prints them over the translation 6aaf673f279ad5c4… (all of the seat's roots in one cut). By AI agents, Wed Nov 11 2026. No macro, syntax, notation, axiom, sorry.
-/
import Derived.Test.YtifjnpmkcgbniaaChecked
import GoSem.Claim
import GoSem.ClaimJoined
import GoSem.ClaimMapViews
import Derived.JoinedTies
import Derived.KernelRfl
namespace Go.Proofs.Ytifjnpmkcgbniaa
/- THE CELL 'sum', in the pinned program and in every row, IS THE sha256 OF THE DUMP (.gsa) THAT YtifjnpmkcgbniaaProg.lean LOADS. Nothing in Lean hashes anything: it is a label: what it is worth is what the hold of that sum in a sandbox is worth. -/
noncomputable def Try.pinned : Pinned := { name := "ytifjnpmkcgbniaa", sum := "6aaf673f279ad5c43ade900b9c8a4ba8d3db9179ea9273630a931396401a8cb0", checked := Try.checked }
namespace Rows
def none {H : Type} : Left H := { results := [], args := [] }

/-- 'aerielaw06.CellForms': WHATEVER THE INPUT: true; the input reads as it did. -/
def cellFormsSpec : ChangeSpec := { name := "cellForms", fn := fun _ => fun
  | [d1, d2, d3, d4, d5] => { results := [.lit (.bool true)], args := [d1, d2, d3, d4, d5] }
  | _ => none }
def cellFormsRow : OpenClaim := { program := "ytifjnpmkcgbniaa", sum := "6aaf673f279ad5c43ade900b9c8a4ba8d3db9179ea9273630a931396401a8cb0", func := "aerie/aerielaw06.CellForms", spec := "cellForms", apart := false }
def CellFormsSaid : Prop := cellFormsRow.holds Try.pinned (OpenSpec.ofChange cellFormsSpec)

/-- ITS FALSE NEIGHBOUR: 'it returns false'. Refute it at one input. -/
def cellFormsWrong : ChangeSpec := { name := "cellForms", fn := fun _ => fun
  | [d1, d2, d3, d4, d5] => { results := [.lit (.bool false)], args := [d1, d2, d3, d4, d5] }
  | _ => none }
def CellFormsWrongFalsely : Prop := cellFormsRow.holds Try.pinned (OpenSpec.ofChange cellFormsWrong)

/-- 'aerielaw06.CellVotes': WHATEVER THE INPUT: true; the input reads as it did. -/
def cellVotesSpec : ChangeSpec := { name := "cellVotes", fn := fun _ => fun
  | [d1, d2, d3, d4] => { results := [.lit (.bool true)], args := [d1, d2, d3, d4] }
  | _ => none }
def cellVotesRow : OpenClaim := { program := "ytifjnpmkcgbniaa", sum := "6aaf673f279ad5c43ade900b9c8a4ba8d3db9179ea9273630a931396401a8cb0", func := "aerie/aerielaw06.CellVotes", spec := "cellVotes", apart := false }
def CellVotesSaid : Prop := cellVotesRow.holds Try.pinned (OpenSpec.ofChange cellVotesSpec)

/-- ITS FALSE NEIGHBOUR: 'it returns false'. Refute it at one input. -/
def cellVotesWrong : ChangeSpec := { name := "cellVotes", fn := fun _ => fun
  | [d1, d2, d3, d4] => { results := [.lit (.bool false)], args := [d1, d2, d3, d4] }
  | _ => none }
def CellVotesWrongFalsely : Prop := cellVotesRow.holds Try.pinned (OpenSpec.ofChange cellVotesWrong)

/-- 'aerielaw06.CellShows': WHATEVER THE INPUT: true; the input reads as it did. -/
def cellShowsSpec : ChangeSpec := { name := "cellShows", fn := fun _ => fun
  | [d1, d2, d3, d4, d5, d6] => { results := [.lit (.bool true)], args := [d1, d2, d3, d4, d5, d6] }
  | _ => none }
def cellShowsRow : OpenClaim := { program := "ytifjnpmkcgbniaa", sum := "6aaf673f279ad5c43ade900b9c8a4ba8d3db9179ea9273630a931396401a8cb0", func := "aerie/aerielaw06.CellShows", spec := "cellShows", unfollowed := true, recurses := true, apart := false }
def CellShowsSaid : Prop := cellShowsRow.holds Try.pinned (OpenSpec.ofChange cellShowsSpec)

/-- ITS FALSE NEIGHBOUR: 'it returns false'. Refute it at one input. -/
def cellShowsWrong : ChangeSpec := { name := "cellShows", fn := fun _ => fun
  | [d1, d2, d3, d4, d5, d6] => { results := [.lit (.bool false)], args := [d1, d2, d3, d4, d5, d6] }
  | _ => none }
def CellShowsWrongFalsely : Prop := cellShowsRow.holds Try.pinned (OpenSpec.ofChange cellShowsWrong)

/-- 'aerielaw06.CellNewest': WHATEVER THE INPUT: true; the input reads as it did. -/
def cellNewestSpec : ChangeSpec := { name := "cellNewest", fn := fun _ => fun
  | [d1, d2, d3, d4, d5] => { results := [.lit (.bool true)], args := [d1, d2, d3, d4, d5] }
  | _ => none }
def cellNewestRow : OpenClaim := { program := "ytifjnpmkcgbniaa", sum := "6aaf673f279ad5c43ade900b9c8a4ba8d3db9179ea9273630a931396401a8cb0", func := "aerie/aerielaw06.CellNewest", spec := "cellNewest", apart := false }
def CellNewestSaid : Prop := cellNewestRow.holds Try.pinned (OpenSpec.ofChange cellNewestSpec)

/-- ITS FALSE NEIGHBOUR: 'it returns false'. Refute it at one input. -/
def cellNewestWrong : ChangeSpec := { name := "cellNewest", fn := fun _ => fun
  | [d1, d2, d3, d4, d5] => { results := [.lit (.bool false)], args := [d1, d2, d3, d4, d5] }
  | _ => none }
def CellNewestWrongFalsely : Prop := cellNewestRow.holds Try.pinned (OpenSpec.ofChange cellNewestWrong)

/-- 'aerielaw06.CellLong': WHATEVER THE INPUT: true; the input reads as it did. -/
def cellLongSpec : ChangeSpec := { name := "cellLong", fn := fun _ => fun
  | [d1, d2, d3] => { results := [.lit (.bool true)], args := [d1, d2, d3] }
  | _ => none }
def cellLongRow : OpenClaim := { program := "ytifjnpmkcgbniaa", sum := "6aaf673f279ad5c43ade900b9c8a4ba8d3db9179ea9273630a931396401a8cb0", func := "aerie/aerielaw06.CellLong", spec := "cellLong", apart := false }
def CellLongSaid : Prop := cellLongRow.holds Try.pinned (OpenSpec.ofChange cellLongSpec)

/-- ITS FALSE NEIGHBOUR: 'it returns false'. Refute it at one input. -/
def cellLongWrong : ChangeSpec := { name := "cellLong", fn := fun _ => fun
  | [d1, d2, d3] => { results := [.lit (.bool false)], args := [d1, d2, d3] }
  | _ => none }
def CellLongWrongFalsely : Prop := cellLongRow.holds Try.pinned (OpenSpec.ofChange cellLongWrong)

/-- 'aerielaw02.VecLines': WHATEVER THE INPUT: true; the input reads as it did. -/
def vecLinesSpec : ChangeSpec := { name := "vecLines", fn := fun _ => fun
  | [d1, d2, d3] => { results := [.lit (.bool true)], args := [d1, d2, d3] }
  | _ => none }
def vecLinesRow : OpenClaim := { program := "ytifjnpmkcgbniaa", sum := "6aaf673f279ad5c43ade900b9c8a4ba8d3db9179ea9273630a931396401a8cb0", func := "aerie/aerielaw02.VecLines", spec := "vecLines", unfollowed := true, recurses := true, apart := false }
def VecLinesSaid : Prop := vecLinesRow.holds Try.pinned (OpenSpec.ofChange vecLinesSpec)

/-- ITS FALSE NEIGHBOUR: 'it returns false'. Refute it at one input. -/
def vecLinesWrong : ChangeSpec := { name := "vecLines", fn := fun _ => fun
  | [d1, d2, d3] => { results := [.lit (.bool false)], args := [d1, d2, d3] }
  | _ => none }
def VecLinesWrongFalsely : Prop := vecLinesRow.holds Try.pinned (OpenSpec.ofChange vecLinesWrong)

/-- 'aerielaw03.RingPlays': WHATEVER THE INPUT: true; the input reads as it did. -/
def ringPlaysSpec : ChangeSpec := { name := "ringPlays", fn := fun _ => fun
  | [d1, d2, d3, d4] => { results := [.lit (.bool true)], args := [d1, d2, d3, d4] }
  | _ => none }
def ringPlaysRow : OpenClaim := { program := "ytifjnpmkcgbniaa", sum := "6aaf673f279ad5c43ade900b9c8a4ba8d3db9179ea9273630a931396401a8cb0", func := "aerie/aerielaw03.RingPlays", spec := "ringPlays", unfollowed := true, recurses := true, apart := false }
def RingPlaysSaid : Prop := ringPlaysRow.holds Try.pinned (OpenSpec.ofChange ringPlaysSpec)

/-- ITS FALSE NEIGHBOUR: 'it returns false'. Refute it at one input. -/
def ringPlaysWrong : ChangeSpec := { name := "ringPlays", fn := fun _ => fun
  | [d1, d2, d3, d4] => { results := [.lit (.bool false)], args := [d1, d2, d3, d4] }
  | _ => none }
def RingPlaysWrongFalsely : Prop := ringPlaysRow.holds Try.pinned (OpenSpec.ofChange ringPlaysWrong)

/-- 'aerielaw03.RingCounts': WHATEVER THE INPUT: true; the input reads as it did. -/
def ringCountsSpec : ChangeSpec := { name := "ringCounts", fn := fun _ => fun
  | [d] => { results := [.lit (.bool true)], args := [d] }
  | _ => none }
def ringCountsRow : OpenClaim := { program := "ytifjnpmkcgbniaa", sum := "6aaf673f279ad5c43ade900b9c8a4ba8d3db9179ea9273630a931396401a8cb0", func := "aerie/aerielaw03.RingCounts", spec := "ringCounts", apart := false }
def RingCountsSaid : Prop := ringCountsRow.holds Try.pinned (OpenSpec.ofChange ringCountsSpec)

/-- ITS FALSE NEIGHBOUR: 'it returns false'. Refute it at one input. -/
def ringCountsWrong : ChangeSpec := { name := "ringCounts", fn := fun _ => fun
  | [d] => { results := [.lit (.bool false)], args := [d] }
  | _ => none }
def RingCountsWrongFalsely : Prop := ringCountsRow.holds Try.pinned (OpenSpec.ofChange ringCountsWrong)

/-- 'aerielaw03.RingArgs': WHATEVER THE INPUT: true; the input reads as it did. -/
def ringArgsSpec : ChangeSpec := { name := "ringArgs", fn := fun _ => fun
  | [d1, d2, d3] => { results := [.lit (.bool true)], args := [d1, d2, d3] }
  | _ => none }
def ringArgsRow : OpenClaim := { program := "ytifjnpmkcgbniaa", sum := "6aaf673f279ad5c43ade900b9c8a4ba8d3db9179ea9273630a931396401a8cb0", func := "aerie/aerielaw03.RingArgs", spec := "ringArgs", unfollowed := true, recurses := true, apart := false }
def RingArgsSaid : Prop := ringArgsRow.holds Try.pinned (OpenSpec.ofChange ringArgsSpec)

/-- ITS FALSE NEIGHBOUR: 'it returns false'. Refute it at one input. -/
def ringArgsWrong : ChangeSpec := { name := "ringArgs", fn := fun _ => fun
  | [d1, d2, d3] => { results := [.lit (.bool false)], args := [d1, d2, d3] }
  | _ => none }
def RingArgsWrongFalsely : Prop := ringArgsRow.holds Try.pinned (OpenSpec.ofChange ringArgsWrong)

/-- 'aerielaw03.RingQueues': WHATEVER THE INPUT: true; the input reads as it did. -/
def ringQueuesSpec : ChangeSpec := { name := "ringQueues", fn := fun _ => fun
  | [d1, d2] => { results := [.lit (.bool true)], args := [d1, d2] }
  | _ => none }
def ringQueuesRow : OpenClaim := { program := "ytifjnpmkcgbniaa", sum := "6aaf673f279ad5c43ade900b9c8a4ba8d3db9179ea9273630a931396401a8cb0", func := "aerie/aerielaw03.RingQueues", spec := "ringQueues", apart := false }
def RingQueuesSaid : Prop := ringQueuesRow.holds Try.pinned (OpenSpec.ofChange ringQueuesSpec)

/-- ITS FALSE NEIGHBOUR: 'it returns false'. Refute it at one input. -/
def ringQueuesWrong : ChangeSpec := { name := "ringQueues", fn := fun _ => fun
  | [d1, d2] => { results := [.lit (.bool false)], args := [d1, d2] }
  | _ => none }
def RingQueuesWrongFalsely : Prop := ringQueuesRow.holds Try.pinned (OpenSpec.ofChange ringQueuesWrong)

/-- 'aerielaw03.RingMany': WHATEVER THE INPUT: true; the input reads as it did. -/
def ringManySpec : ChangeSpec := { name := "ringMany", fn := fun _ => fun
  | [d1, d2] => { results := [.lit (.bool true)], args := [d1, d2] }
  | _ => none }
def ringManyRow : OpenClaim := { program := "ytifjnpmkcgbniaa", sum := "6aaf673f279ad5c43ade900b9c8a4ba8d3db9179ea9273630a931396401a8cb0", func := "aerie/aerielaw03.RingMany", spec := "ringMany", unfollowed := true, recurses := true, apart := false }
def RingManySaid : Prop := ringManyRow.holds Try.pinned (OpenSpec.ofChange ringManySpec)

/-- ITS FALSE NEIGHBOUR: 'it returns false'. Refute it at one input. -/
def ringManyWrong : ChangeSpec := { name := "ringMany", fn := fun _ => fun
  | [d1, d2] => { results := [.lit (.bool false)], args := [d1, d2] }
  | _ => none }
def RingManyWrongFalsely : Prop := ringManyRow.holds Try.pinned (OpenSpec.ofChange ringManyWrong)

/- THE SECOND FORM. 'bulk': how many values and letters a reading holds, each counted each time it is reached (what is shared counts as often as it is met; a slice's spare places count too). A statement '..UptoSaid' is the law's where the arguments, and the package variables that the reading takes, are together of bulk at most 1048576: NARROWER than '..Said'. Prove '..Said' where nothing that the law and all that it calls make is longer than what came in: it says more and counts as full. Else prove '..UptoSaid'. A law counts once. -/
mutual
def uptoBulk {H : Type} : DataW H → Nat
  | .lit (.string bytes) => bytes.length + 1
  | .lit _ => 1
  | .nil => 1
  | .ptr d => uptoBulk d + 1
  | .slice elems spare => uptoBulkAll elems + uptoBulkAll spare + 1
  | .agg parts => uptoBulkAll parts + 1
  | .iface _ d => uptoBulk d + 1
  | .map entries => uptoBulkEntries entries + 1
  | .held _ => 1
def uptoBulkAll {H : Type} : List (DataW H) → Nat
  | [] => 0
  | d :: r => uptoBulk d + uptoBulkAll r
def uptoBulkEntries {H : Type} : List (Lit × DataW H) → Nat
  | [] => 0
  | x :: r => uptoBulkEntry x + uptoBulkEntries r
def uptoBulkEntry {H : Type} : Lit × DataW H → Nat
  | (.string bytes, d) => bytes.length + uptoBulk d + 1
  | (_, d) => uptoBulk d + 1
 end
def uptoSmall : (H : Type) → List (DataW H) → Bool := fun _ ds => decide (uptoBulkAll ds ≤ 1048576)
def OpenSpec.upto (s : _root_.Go.ChangeSpec) : _root_.Go.OpenSpec := { _root_.Go.OpenSpec.ofChange s with cond := some uptoSmall }

/-- 'aerielaw06.CellForms', WHERE WHAT IT READS IS OF BULK AT MOST 1048576: true; the input reads as it did. -/
def cellFormsUptoRow : OpenClaim := { program := "ytifjnpmkcgbniaa", sum := "6aaf673f279ad5c43ade900b9c8a4ba8d3db9179ea9273630a931396401a8cb0", func := "aerie/aerielaw06.CellForms", spec := "cellForms", apart := false, narrowed := true }
def CellFormsUptoSaid : Prop := cellFormsUptoRow.holds Try.pinned (OpenSpec.upto cellFormsSpec)

/-- 'aerielaw06.CellVotes', WHERE WHAT IT READS IS OF BULK AT MOST 1048576: true; the input reads as it did. -/
def cellVotesUptoRow : OpenClaim := { program := "ytifjnpmkcgbniaa", sum := "6aaf673f279ad5c43ade900b9c8a4ba8d3db9179ea9273630a931396401a8cb0", func := "aerie/aerielaw06.CellVotes", spec := "cellVotes", apart := false, narrowed := true }
def CellVotesUptoSaid : Prop := cellVotesUptoRow.holds Try.pinned (OpenSpec.upto cellVotesSpec)

/-- 'aerielaw06.CellShows', WHERE WHAT IT READS IS OF BULK AT MOST 1048576: true; the input reads as it did. -/
def cellShowsUptoRow : OpenClaim := { program := "ytifjnpmkcgbniaa", sum := "6aaf673f279ad5c43ade900b9c8a4ba8d3db9179ea9273630a931396401a8cb0", func := "aerie/aerielaw06.CellShows", spec := "cellShows", unfollowed := true, recurses := true, apart := false, narrowed := true }
def CellShowsUptoSaid : Prop := cellShowsUptoRow.holds Try.pinned (OpenSpec.upto cellShowsSpec)

/-- 'aerielaw06.CellNewest', WHERE WHAT IT READS IS OF BULK AT MOST 1048576: true; the input reads as it did. -/
def cellNewestUptoRow : OpenClaim := { program := "ytifjnpmkcgbniaa", sum := "6aaf673f279ad5c43ade900b9c8a4ba8d3db9179ea9273630a931396401a8cb0", func := "aerie/aerielaw06.CellNewest", spec := "cellNewest", apart := false, narrowed := true }
def CellNewestUptoSaid : Prop := cellNewestUptoRow.holds Try.pinned (OpenSpec.upto cellNewestSpec)

/-- 'aerielaw06.CellLong', WHERE WHAT IT READS IS OF BULK AT MOST 1048576: true; the input reads as it did. -/
def cellLongUptoRow : OpenClaim := { program := "ytifjnpmkcgbniaa", sum := "6aaf673f279ad5c43ade900b9c8a4ba8d3db9179ea9273630a931396401a8cb0", func := "aerie/aerielaw06.CellLong", spec := "cellLong", apart := false, narrowed := true }
def CellLongUptoSaid : Prop := cellLongUptoRow.holds Try.pinned (OpenSpec.upto cellLongSpec)

/-- 'aerielaw02.VecLines', WHERE WHAT IT READS IS OF BULK AT MOST 1048576: true; the input reads as it did. -/
def vecLinesUptoRow : OpenClaim := { program := "ytifjnpmkcgbniaa", sum := "6aaf673f279ad5c43ade900b9c8a4ba8d3db9179ea9273630a931396401a8cb0", func := "aerie/aerielaw02.VecLines", spec := "vecLines", unfollowed := true, recurses := true, apart := false, narrowed := true }
def VecLinesUptoSaid : Prop := vecLinesUptoRow.holds Try.pinned (OpenSpec.upto vecLinesSpec)

/-- 'aerielaw03.RingPlays', WHERE WHAT IT READS IS OF BULK AT MOST 1048576: true; the input reads as it did. -/
def ringPlaysUptoRow : OpenClaim := { program := "ytifjnpmkcgbniaa", sum := "6aaf673f279ad5c43ade900b9c8a4ba8d3db9179ea9273630a931396401a8cb0", func := "aerie/aerielaw03.RingPlays", spec := "ringPlays", unfollowed := true, recurses := true, apart := false, narrowed := true }
def RingPlaysUptoSaid : Prop := ringPlaysUptoRow.holds Try.pinned (OpenSpec.upto ringPlaysSpec)

/-- 'aerielaw03.RingCounts', WHERE WHAT IT READS IS OF BULK AT MOST 1048576: true; the input reads as it did. -/
def ringCountsUptoRow : OpenClaim := { program := "ytifjnpmkcgbniaa", sum := "6aaf673f279ad5c43ade900b9c8a4ba8d3db9179ea9273630a931396401a8cb0", func := "aerie/aerielaw03.RingCounts", spec := "ringCounts", apart := false, narrowed := true }
def RingCountsUptoSaid : Prop := ringCountsUptoRow.holds Try.pinned (OpenSpec.upto ringCountsSpec)

/-- 'aerielaw03.RingArgs', WHERE WHAT IT READS IS OF BULK AT MOST 1048576: true; the input reads as it did. -/
def ringArgsUptoRow : OpenClaim := { program := "ytifjnpmkcgbniaa", sum := "6aaf673f279ad5c43ade900b9c8a4ba8d3db9179ea9273630a931396401a8cb0", func := "aerie/aerielaw03.RingArgs", spec := "ringArgs", unfollowed := true, recurses := true, apart := false, narrowed := true }
def RingArgsUptoSaid : Prop := ringArgsUptoRow.holds Try.pinned (OpenSpec.upto ringArgsSpec)

/-- 'aerielaw03.RingQueues', WHERE WHAT IT READS IS OF BULK AT MOST 1048576: true; the input reads as it did. -/
def ringQueuesUptoRow : OpenClaim := { program := "ytifjnpmkcgbniaa", sum := "6aaf673f279ad5c43ade900b9c8a4ba8d3db9179ea9273630a931396401a8cb0", func := "aerie/aerielaw03.RingQueues", spec := "ringQueues", apart := false, narrowed := true }
def RingQueuesUptoSaid : Prop := ringQueuesUptoRow.holds Try.pinned (OpenSpec.upto ringQueuesSpec)

/-- 'aerielaw03.RingMany', WHERE WHAT IT READS IS OF BULK AT MOST 1048576: true; the input reads as it did. -/
def ringManyUptoRow : OpenClaim := { program := "ytifjnpmkcgbniaa", sum := "6aaf673f279ad5c43ade900b9c8a4ba8d3db9179ea9273630a931396401a8cb0", func := "aerie/aerielaw03.RingMany", spec := "ringMany", unfollowed := true, recurses := true, apart := false, narrowed := true }
def RingManyUptoSaid : Prop := ringManyUptoRow.holds Try.pinned (OpenSpec.upto ringManySpec)

end Rows
end Go.Proofs.Ytifjnpmkcgbniaa
