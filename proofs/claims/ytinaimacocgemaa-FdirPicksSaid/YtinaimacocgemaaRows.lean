/-
  No cell of these rows narrows 'for every input' (looked for: loops, veiled, ifaces, maps, wideKeys, modest, calm, conditions, laid).
  DERIVED. THE GIVEN ROWS OF THIS SEAT. 9 by the template 'for every input the law returns true; each argument reads behind the call as it read before'; 0 by the template 'total and deterministic' (their statements: YtinaimacocgemaaTotals.lean).
  GIVEN WITH THE SEED: the statements are not yours to turn. If you find one false, say at which input.
  Laid BY PROGRAM, IN A SANDBOX (cutbox-rows.mjs): the forced cells as the released guide's own fill.sh prints them over the translation 4516e4bbb7039047… (all of the seat's roots in one cut). By AI agents, Wed Nov 11 2026. No macro, syntax, notation, axiom, sorry.
-/
import Derived.Test.YtinaimacocgemaaChecked
import GoSem.Claim
import GoSem.ClaimJoined
import GoSem.ClaimMapViews
import Derived.JoinedTies
import Derived.KernelRfl
namespace Go.Proofs.Ytinaimacocgemaa
/- THE CELL 'sum', in the pinned program and in every row, IS THE sha256 OF THE DUMP (.gsa) THAT YtinaimacocgemaaProg.lean LOADS. Nothing in Lean hashes anything: it is a label: what it is worth is what the hold of that sum in a sandbox is worth. -/
noncomputable def Try.pinned : Pinned := { name := "ytinaimacocgemaa", sum := "4516e4bbb7039047597cb2f84bd59f64bb19fb11168bd3ebf80e4587e8b8d4a4", checked := Try.checked }
namespace Rows
def none {H : Type} : Left H := { results := [], args := [] }

/-- 'aerielaw02.VecLines': WHATEVER THE INPUT: true; the input reads as it did. -/
def vecLinesSpec : ChangeSpec := { name := "vecLines", fn := fun _ => fun
  | [d1, d2, d3] => { results := [.lit (.bool true)], args := [d1, d2, d3] }
  | _ => none }
def vecLinesRow : OpenClaim := { program := "ytinaimacocgemaa", sum := "4516e4bbb7039047597cb2f84bd59f64bb19fb11168bd3ebf80e4587e8b8d4a4", func := "aerie/aerielaw02.VecLines", spec := "vecLines", unfollowed := true, recurses := true, apart := false }
def VecLinesSaid : Prop := vecLinesRow.holds Try.pinned (OpenSpec.ofChange vecLinesSpec)

/-- ITS FALSE NEIGHBOUR: 'it returns false'. Refute it at one input. -/
def vecLinesWrong : ChangeSpec := { name := "vecLines", fn := fun _ => fun
  | [d1, d2, d3] => { results := [.lit (.bool false)], args := [d1, d2, d3] }
  | _ => none }
def VecLinesWrongFalsely : Prop := vecLinesRow.holds Try.pinned (OpenSpec.ofChange vecLinesWrong)

/-- 'aerielaw03.RingPlays': WHATEVER THE INPUT: true; the input reads as it did. -/
def ringPlaysSpec : ChangeSpec := { name := "ringPlays", fn := fun _ => fun
  | [d1, d2, d3, d4] => { results := [.lit (.bool true)], args := [d1, d2, d3, d4] }
  | _ => none }
def ringPlaysRow : OpenClaim := { program := "ytinaimacocgemaa", sum := "4516e4bbb7039047597cb2f84bd59f64bb19fb11168bd3ebf80e4587e8b8d4a4", func := "aerie/aerielaw03.RingPlays", spec := "ringPlays", unfollowed := true, recurses := true, apart := false }
def RingPlaysSaid : Prop := ringPlaysRow.holds Try.pinned (OpenSpec.ofChange ringPlaysSpec)

/-- ITS FALSE NEIGHBOUR: 'it returns false'. Refute it at one input. -/
def ringPlaysWrong : ChangeSpec := { name := "ringPlays", fn := fun _ => fun
  | [d1, d2, d3, d4] => { results := [.lit (.bool false)], args := [d1, d2, d3, d4] }
  | _ => none }
def RingPlaysWrongFalsely : Prop := ringPlaysRow.holds Try.pinned (OpenSpec.ofChange ringPlaysWrong)

/-- 'aerielaw11.QueuePlays': WHATEVER THE INPUT: true; the input reads as it did. -/
def queuePlaysSpec : ChangeSpec := { name := "queuePlays", fn := fun _ => fun
  | [d1, d2, d3, d4] => { results := [.lit (.bool true)], args := [d1, d2, d3, d4] }
  | _ => none }
def queuePlaysRow : OpenClaim := { program := "ytinaimacocgemaa", sum := "4516e4bbb7039047597cb2f84bd59f64bb19fb11168bd3ebf80e4587e8b8d4a4", func := "aerie/aerielaw11.QueuePlays", spec := "queuePlays", apart := false }
def QueuePlaysSaid : Prop := queuePlaysRow.holds Try.pinned (OpenSpec.ofChange queuePlaysSpec)

/-- ITS FALSE NEIGHBOUR: 'it returns false'. Refute it at one input. -/
def queuePlaysWrong : ChangeSpec := { name := "queuePlays", fn := fun _ => fun
  | [d1, d2, d3, d4] => { results := [.lit (.bool false)], args := [d1, d2, d3, d4] }
  | _ => none }
def QueuePlaysWrongFalsely : Prop := queuePlaysRow.holds Try.pinned (OpenSpec.ofChange queuePlaysWrong)

/-- 'aerielaw22.FdirPicks': WHATEVER THE INPUT: true; the input reads as it did. -/
def fdirPicksSpec : ChangeSpec := { name := "fdirPicks", fn := fun _ => fun
  | [d1, d2, d3] => { results := [.lit (.bool true)], args := [d1, d2, d3] }
  | _ => none }
def fdirPicksRow : OpenClaim := { program := "ytinaimacocgemaa", sum := "4516e4bbb7039047597cb2f84bd59f64bb19fb11168bd3ebf80e4587e8b8d4a4", func := "aerie/aerielaw22.FdirPicks", spec := "fdirPicks", unfollowed := true, recurses := true, apart := false }
def FdirPicksSaid : Prop := fdirPicksRow.holds Try.pinned (OpenSpec.ofChange fdirPicksSpec)

/-- ITS FALSE NEIGHBOUR: 'it returns false'. Refute it at one input. -/
def fdirPicksWrong : ChangeSpec := { name := "fdirPicks", fn := fun _ => fun
  | [d1, d2, d3] => { results := [.lit (.bool false)], args := [d1, d2, d3] }
  | _ => none }
def FdirPicksWrongFalsely : Prop := fdirPicksRow.holds Try.pinned (OpenSpec.ofChange fdirPicksWrong)

/-- 'aerielaw22.FdirRaises': WHATEVER THE INPUT: true; the input reads as it did. -/
def fdirRaisesSpec : ChangeSpec := { name := "fdirRaises", fn := fun _ => fun
  | [d1, d2, d3, d4] => { results := [.lit (.bool true)], args := [d1, d2, d3, d4] }
  | _ => none }
def fdirRaisesRow : OpenClaim := { program := "ytinaimacocgemaa", sum := "4516e4bbb7039047597cb2f84bd59f64bb19fb11168bd3ebf80e4587e8b8d4a4", func := "aerie/aerielaw22.FdirRaises", spec := "fdirRaises", apart := false }
def FdirRaisesSaid : Prop := fdirRaisesRow.holds Try.pinned (OpenSpec.ofChange fdirRaisesSpec)

/-- ITS FALSE NEIGHBOUR: 'it returns false'. Refute it at one input. -/
def fdirRaisesWrong : ChangeSpec := { name := "fdirRaises", fn := fun _ => fun
  | [d1, d2, d3, d4] => { results := [.lit (.bool false)], args := [d1, d2, d3, d4] }
  | _ => none }
def FdirRaisesWrongFalsely : Prop := fdirRaisesRow.holds Try.pinned (OpenSpec.ofChange fdirRaisesWrong)

/-- 'aerielaw22.FdirClimbs': WHATEVER THE INPUT: true; the input reads as it did. -/
def fdirClimbsSpec : ChangeSpec := { name := "fdirClimbs", fn := fun _ => fun
  | [d1, d2, d3, d4] => { results := [.lit (.bool true)], args := [d1, d2, d3, d4] }
  | _ => none }
def fdirClimbsRow : OpenClaim := { program := "ytinaimacocgemaa", sum := "4516e4bbb7039047597cb2f84bd59f64bb19fb11168bd3ebf80e4587e8b8d4a4", func := "aerie/aerielaw22.FdirClimbs", spec := "fdirClimbs", apart := false }
def FdirClimbsSaid : Prop := fdirClimbsRow.holds Try.pinned (OpenSpec.ofChange fdirClimbsSpec)

/-- ITS FALSE NEIGHBOUR: 'it returns false'. Refute it at one input. -/
def fdirClimbsWrong : ChangeSpec := { name := "fdirClimbs", fn := fun _ => fun
  | [d1, d2, d3, d4] => { results := [.lit (.bool false)], args := [d1, d2, d3, d4] }
  | _ => none }
def FdirClimbsWrongFalsely : Prop := fdirClimbsRow.holds Try.pinned (OpenSpec.ofChange fdirClimbsWrong)

/-- 'aerielaw22.FdirRests': WHATEVER THE INPUT: true; the input reads as it did. -/
def fdirRestsSpec : ChangeSpec := { name := "fdirRests", fn := fun _ => fun
  | [d1, d2, d3] => { results := [.lit (.bool true)], args := [d1, d2, d3] }
  | _ => none }
def fdirRestsRow : OpenClaim := { program := "ytinaimacocgemaa", sum := "4516e4bbb7039047597cb2f84bd59f64bb19fb11168bd3ebf80e4587e8b8d4a4", func := "aerie/aerielaw22.FdirRests", spec := "fdirRests", apart := false }
def FdirRestsSaid : Prop := fdirRestsRow.holds Try.pinned (OpenSpec.ofChange fdirRestsSpec)

/-- ITS FALSE NEIGHBOUR: 'it returns false'. Refute it at one input. -/
def fdirRestsWrong : ChangeSpec := { name := "fdirRests", fn := fun _ => fun
  | [d1, d2, d3] => { results := [.lit (.bool false)], args := [d1, d2, d3] }
  | _ => none }
def FdirRestsWrongFalsely : Prop := fdirRestsRow.holds Try.pinned (OpenSpec.ofChange fdirRestsWrong)

/-- 'aerielaw23.SteerDamps': WHATEVER THE INPUT: true; the input reads as it did. -/
def steerDampsSpec : ChangeSpec := { name := "steerDamps", fn := fun _ => fun
  | [d1, d2, d3, d4, d5] => { results := [.lit (.bool true)], args := [d1, d2, d3, d4, d5] }
  | _ => none }
def steerDampsRow : OpenClaim := { program := "ytinaimacocgemaa", sum := "4516e4bbb7039047597cb2f84bd59f64bb19fb11168bd3ebf80e4587e8b8d4a4", func := "aerie/aerielaw23.SteerDamps", spec := "steerDamps", unfollowed := true, recurses := true, apart := false }
def SteerDampsSaid : Prop := steerDampsRow.holds Try.pinned (OpenSpec.ofChange steerDampsSpec)

/-- ITS FALSE NEIGHBOUR: 'it returns false'. Refute it at one input. -/
def steerDampsWrong : ChangeSpec := { name := "steerDamps", fn := fun _ => fun
  | [d1, d2, d3, d4, d5] => { results := [.lit (.bool false)], args := [d1, d2, d3, d4, d5] }
  | _ => none }
def SteerDampsWrongFalsely : Prop := steerDampsRow.holds Try.pinned (OpenSpec.ofChange steerDampsWrong)

/-- 'aerielaw23.SteerSuns': WHATEVER THE INPUT: true; the input reads as it did. -/
def steerSunsSpec : ChangeSpec := { name := "steerSuns", fn := fun _ => fun
  | [d1, d2, d3, d4, d5, d6, d7] => { results := [.lit (.bool true)], args := [d1, d2, d3, d4, d5, d6, d7] }
  | _ => none }
def steerSunsRow : OpenClaim := { program := "ytinaimacocgemaa", sum := "4516e4bbb7039047597cb2f84bd59f64bb19fb11168bd3ebf80e4587e8b8d4a4", func := "aerie/aerielaw23.SteerSuns", spec := "steerSuns", unfollowed := true, recurses := true, apart := false }
def SteerSunsSaid : Prop := steerSunsRow.holds Try.pinned (OpenSpec.ofChange steerSunsSpec)

/-- ITS FALSE NEIGHBOUR: 'it returns false'. Refute it at one input. -/
def steerSunsWrong : ChangeSpec := { name := "steerSuns", fn := fun _ => fun
  | [d1, d2, d3, d4, d5, d6, d7] => { results := [.lit (.bool false)], args := [d1, d2, d3, d4, d5, d6, d7] }
  | _ => none }
def SteerSunsWrongFalsely : Prop := steerSunsRow.holds Try.pinned (OpenSpec.ofChange steerSunsWrong)

/- THE SECOND FORM. 'bulk': how many values and letters a reading holds, each counted each time it is reached (what is shared counts as often as it is met; a slice's spare places count too). A statement '..UptoSaid' is the law's where the arguments, and the package variables that the reading takes, are together of bulk at most 1048576: NARROWER than '..Said'. Prove '..Said' where nothing that the law and all that it calls make is longer than what came in: it says more and counts as full. Else prove '..UptoSaid'. A law counts once. -/
mutual
def uptoBulk {H : Type} : DataW H → Nat
  | .lit (.string bytes) => bytes.length + 1
  | .lit _ => 1
  | .nil => 1
  | .ptr d => uptoBulk d + 1
  | .slice elems spare => uptoBulkAll elems + uptoBulkAll spare + 1
  | .agg parts => uptoBulkAll parts + 1
  | .iface _ d => uptoBulk d + 1
  | .map entries => uptoBulkEntries entries + 1
  | .held _ => 1
def uptoBulkAll {H : Type} : List (DataW H) → Nat
  | [] => 0
  | d :: r => uptoBulk d + uptoBulkAll r
def uptoBulkEntries {H : Type} : List (Lit × DataW H) → Nat
  | [] => 0
  | x :: r => uptoBulkEntry x + uptoBulkEntries r
def uptoBulkEntry {H : Type} : Lit × DataW H → Nat
  | (.string bytes, d) => bytes.length + uptoBulk d + 1
  | (_, d) => uptoBulk d + 1
 end
def uptoSmall : (H : Type) → List (DataW H) → Bool := fun _ ds => decide (uptoBulkAll ds ≤ 1048576)
def OpenSpec.upto (s : _root_.Go.ChangeSpec) : _root_.Go.OpenSpec := { _root_.Go.OpenSpec.ofChange s with cond := some uptoSmall }

/-- 'aerielaw02.VecLines', WHERE WHAT IT READS IS OF BULK AT MOST 1048576: true; the input reads as it did. -/
def vecLinesUptoRow : OpenClaim := { program := "ytinaimacocgemaa", sum := "4516e4bbb7039047597cb2f84bd59f64bb19fb11168bd3ebf80e4587e8b8d4a4", func := "aerie/aerielaw02.VecLines", spec := "vecLines", unfollowed := true, recurses := true, apart := false, narrowed := true }
def VecLinesUptoSaid : Prop := vecLinesUptoRow.holds Try.pinned (OpenSpec.upto vecLinesSpec)

/-- 'aerielaw03.RingPlays', WHERE WHAT IT READS IS OF BULK AT MOST 1048576: true; the input reads as it did. -/
def ringPlaysUptoRow : OpenClaim := { program := "ytinaimacocgemaa", sum := "4516e4bbb7039047597cb2f84bd59f64bb19fb11168bd3ebf80e4587e8b8d4a4", func := "aerie/aerielaw03.RingPlays", spec := "ringPlays", unfollowed := true, recurses := true, apart := false, narrowed := true }
def RingPlaysUptoSaid : Prop := ringPlaysUptoRow.holds Try.pinned (OpenSpec.upto ringPlaysSpec)

/-- 'aerielaw11.QueuePlays', WHERE WHAT IT READS IS OF BULK AT MOST 1048576: true; the input reads as it did. -/
def queuePlaysUptoRow : OpenClaim := { program := "ytinaimacocgemaa", sum := "4516e4bbb7039047597cb2f84bd59f64bb19fb11168bd3ebf80e4587e8b8d4a4", func := "aerie/aerielaw11.QueuePlays", spec := "queuePlays", apart := false, narrowed := true }
def QueuePlaysUptoSaid : Prop := queuePlaysUptoRow.holds Try.pinned (OpenSpec.upto queuePlaysSpec)

/-- 'aerielaw22.FdirPicks', WHERE WHAT IT READS IS OF BULK AT MOST 1048576: true; the input reads as it did. -/
def fdirPicksUptoRow : OpenClaim := { program := "ytinaimacocgemaa", sum := "4516e4bbb7039047597cb2f84bd59f64bb19fb11168bd3ebf80e4587e8b8d4a4", func := "aerie/aerielaw22.FdirPicks", spec := "fdirPicks", unfollowed := true, recurses := true, apart := false, narrowed := true }
def FdirPicksUptoSaid : Prop := fdirPicksUptoRow.holds Try.pinned (OpenSpec.upto fdirPicksSpec)

/-- 'aerielaw22.FdirRaises', WHERE WHAT IT READS IS OF BULK AT MOST 1048576: true; the input reads as it did. -/
def fdirRaisesUptoRow : OpenClaim := { program := "ytinaimacocgemaa", sum := "4516e4bbb7039047597cb2f84bd59f64bb19fb11168bd3ebf80e4587e8b8d4a4", func := "aerie/aerielaw22.FdirRaises", spec := "fdirRaises", apart := false, narrowed := true }
def FdirRaisesUptoSaid : Prop := fdirRaisesUptoRow.holds Try.pinned (OpenSpec.upto fdirRaisesSpec)

/-- 'aerielaw22.FdirClimbs', WHERE WHAT IT READS IS OF BULK AT MOST 1048576: true; the input reads as it did. -/
def fdirClimbsUptoRow : OpenClaim := { program := "ytinaimacocgemaa", sum := "4516e4bbb7039047597cb2f84bd59f64bb19fb11168bd3ebf80e4587e8b8d4a4", func := "aerie/aerielaw22.FdirClimbs", spec := "fdirClimbs", apart := false, narrowed := true }
def FdirClimbsUptoSaid : Prop := fdirClimbsUptoRow.holds Try.pinned (OpenSpec.upto fdirClimbsSpec)

/-- 'aerielaw22.FdirRests', WHERE WHAT IT READS IS OF BULK AT MOST 1048576: true; the input reads as it did. -/
def fdirRestsUptoRow : OpenClaim := { program := "ytinaimacocgemaa", sum := "4516e4bbb7039047597cb2f84bd59f64bb19fb11168bd3ebf80e4587e8b8d4a4", func := "aerie/aerielaw22.FdirRests", spec := "fdirRests", apart := false, narrowed := true }
def FdirRestsUptoSaid : Prop := fdirRestsUptoRow.holds Try.pinned (OpenSpec.upto fdirRestsSpec)

/-- 'aerielaw23.SteerDamps', WHERE WHAT IT READS IS OF BULK AT MOST 1048576: true; the input reads as it did. -/
def steerDampsUptoRow : OpenClaim := { program := "ytinaimacocgemaa", sum := "4516e4bbb7039047597cb2f84bd59f64bb19fb11168bd3ebf80e4587e8b8d4a4", func := "aerie/aerielaw23.SteerDamps", spec := "steerDamps", unfollowed := true, recurses := true, apart := false, narrowed := true }
def SteerDampsUptoSaid : Prop := steerDampsUptoRow.holds Try.pinned (OpenSpec.upto steerDampsSpec)

/-- 'aerielaw23.SteerSuns', WHERE WHAT IT READS IS OF BULK AT MOST 1048576: true; the input reads as it did. -/
def steerSunsUptoRow : OpenClaim := { program := "ytinaimacocgemaa", sum := "4516e4bbb7039047597cb2f84bd59f64bb19fb11168bd3ebf80e4587e8b8d4a4", func := "aerie/aerielaw23.SteerSuns", spec := "steerSuns", unfollowed := true, recurses := true, apart := false, narrowed := true }
def SteerSunsUptoSaid : Prop := steerSunsUptoRow.holds Try.pinned (OpenSpec.upto steerSunsSpec)

end Rows
end Go.Proofs.Ytinaimacocgemaa
