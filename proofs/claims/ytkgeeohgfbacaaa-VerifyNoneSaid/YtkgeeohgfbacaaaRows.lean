/-
  No cell of these rows narrows 'for every input' (looked for: loops, veiled, ifaces, maps, wideKeys, modest, calm, conditions, laid).
  DERIVED. THE GIVEN ROWS OF THIS SEAT. 10 by the template 'for every input the law returns true; each argument reads behind the call as it read before'; 0 by the template 'total and deterministic' (their statements: YtkgeeohgfbacaaaTotals.lean).
  GIVEN WITH THE SEED: the statements are not yours to turn. If you find one false, say at which input.
  Laid BY PROGRAM, IN A SANDBOX (cutbox-rows.mjs): the forced cells as the released guide's own fill.sh prints them over the translation 695666a3a0fa970e… (all of the seat's roots in one cut). By AI agents, Wed Nov 11 2026. No macro, syntax, notation, axiom, sorry.
-/
import Derived.Test.YtkgeeohgfbacaaaChecked
import GoSem.Claim
import GoSem.ClaimJoined
import GoSem.ClaimMapViews
import Derived.JoinedTies
import Derived.KernelRfl
namespace Go.Proofs.Ytkgeeohgfbacaaa
/- THE CELL 'sum', in the pinned program and in every row, IS THE sha256 OF THE DUMP (.gsa) THAT YtkgeeohgfbacaaaProg.lean LOADS. Nothing in Lean hashes anything: it is a label: what it is worth is what the hold of that sum in a sandbox is worth. -/
noncomputable def Try.pinned : Pinned := { name := "ytkgeeohgfbacaaa", sum := "695666a3a0fa970ee6fab331b40933f7d818e545b5b26db809bacd2357f5ae23", checked := Try.checked }
namespace Rows
def none {H : Type} : Left H := { results := [], args := [] }

/-- 'aerielaw03.RingPlays': WHATEVER THE INPUT: true; the input reads as it did. -/
def ringPlaysSpec : ChangeSpec := { name := "ringPlays", fn := fun _ => fun
  | [d1, d2, d3, d4] => { results := [.lit (.bool true)], args := [d1, d2, d3, d4] }
  | _ => none }
def ringPlaysRow : OpenClaim := { program := "ytkgeeohgfbacaaa", sum := "695666a3a0fa970ee6fab331b40933f7d818e545b5b26db809bacd2357f5ae23", func := "aerie/aerielaw03.RingPlays", spec := "ringPlays", unfollowed := true, recurses := true, plainKeys := false, apart := false }
def RingPlaysSaid : Prop := ringPlaysRow.holds Try.pinned (OpenSpec.ofChange ringPlaysSpec)

/-- ITS FALSE NEIGHBOUR: 'it returns false'. Refute it at one input. -/
def ringPlaysWrong : ChangeSpec := { name := "ringPlays", fn := fun _ => fun
  | [d1, d2, d3, d4] => { results := [.lit (.bool false)], args := [d1, d2, d3, d4] }
  | _ => none }
def RingPlaysWrongFalsely : Prop := ringPlaysRow.holds Try.pinned (OpenSpec.ofChange ringPlaysWrong)

/-- 'aerielaw11.QueuePlays': WHATEVER THE INPUT: true; the input reads as it did. -/
def queuePlaysSpec : ChangeSpec := { name := "queuePlays", fn := fun _ => fun
  | [d1, d2, d3, d4] => { results := [.lit (.bool true)], args := [d1, d2, d3, d4] }
  | _ => none }
def queuePlaysRow : OpenClaim := { program := "ytkgeeohgfbacaaa", sum := "695666a3a0fa970ee6fab331b40933f7d818e545b5b26db809bacd2357f5ae23", func := "aerie/aerielaw11.QueuePlays", spec := "queuePlays", plainKeys := false, apart := false }
def QueuePlaysSaid : Prop := queuePlaysRow.holds Try.pinned (OpenSpec.ofChange queuePlaysSpec)

/-- ITS FALSE NEIGHBOUR: 'it returns false'. Refute it at one input. -/
def queuePlaysWrong : ChangeSpec := { name := "queuePlays", fn := fun _ => fun
  | [d1, d2, d3, d4] => { results := [.lit (.bool false)], args := [d1, d2, d3, d4] }
  | _ => none }
def QueuePlaysWrongFalsely : Prop := queuePlaysRow.holds Try.pinned (OpenSpec.ofChange queuePlaysWrong)

/-- 'aerielaw12.VerifyFirst': WHATEVER THE INPUT: true; the input reads as it did. -/
def verifyFirstSpec : ChangeSpec := { name := "verifyFirst", fn := fun _ => fun
  | [d1, d2, d3] => { results := [.lit (.bool true)], args := [d1, d2, d3] }
  | _ => none }
def verifyFirstRow : OpenClaim := { program := "ytkgeeohgfbacaaa", sum := "695666a3a0fa970ee6fab331b40933f7d818e545b5b26db809bacd2357f5ae23", func := "aerie/aerielaw12.VerifyFirst", spec := "verifyFirst", plainKeys := false, apart := false }
def VerifyFirstSaid : Prop := verifyFirstRow.holds Try.pinned (OpenSpec.ofChange verifyFirstSpec)

/-- ITS FALSE NEIGHBOUR: 'it returns false'. Refute it at one input. -/
def verifyFirstWrong : ChangeSpec := { name := "verifyFirst", fn := fun _ => fun
  | [d1, d2, d3] => { results := [.lit (.bool false)], args := [d1, d2, d3] }
  | _ => none }
def VerifyFirstWrongFalsely : Prop := verifyFirstRow.holds Try.pinned (OpenSpec.ofChange verifyFirstWrong)

/-- 'aerielaw12.VerifyNone': WHATEVER THE INPUT: true; the input reads as it did. -/
def verifyNoneSpec : ChangeSpec := { name := "verifyNone", fn := fun _ => fun
  | [d1, d2, d3] => { results := [.lit (.bool true)], args := [d1, d2, d3] }
  | _ => none }
def verifyNoneRow : OpenClaim := { program := "ytkgeeohgfbacaaa", sum := "695666a3a0fa970ee6fab331b40933f7d818e545b5b26db809bacd2357f5ae23", func := "aerie/aerielaw12.VerifyNone", spec := "verifyNone", plainKeys := false, apart := false }
def VerifyNoneSaid : Prop := verifyNoneRow.holds Try.pinned (OpenSpec.ofChange verifyNoneSpec)

/-- ITS FALSE NEIGHBOUR: 'it returns false'. Refute it at one input. -/
def verifyNoneWrong : ChangeSpec := { name := "verifyNone", fn := fun _ => fun
  | [d1, d2, d3] => { results := [.lit (.bool false)], args := [d1, d2, d3] }
  | _ => none }
def VerifyNoneWrongFalsely : Prop := verifyNoneRow.holds Try.pinned (OpenSpec.ofChange verifyNoneWrong)

/-- 'aerielaw14.PlantLife': WHATEVER THE INPUT: true; the input reads as it did. -/
def plantLifeSpec : ChangeSpec := { name := "plantLife", fn := fun _ => fun
  | [d1, d2, d3] => { results := [.lit (.bool true)], args := [d1, d2, d3] }
  | _ => none }
def plantLifeRow : OpenClaim := { program := "ytkgeeohgfbacaaa", sum := "695666a3a0fa970ee6fab331b40933f7d818e545b5b26db809bacd2357f5ae23", func := "aerie/aerielaw14.PlantLife", spec := "plantLife", unfollowed := true, recurses := true, plainKeys := false, apart := false }
def PlantLifeSaid : Prop := plantLifeRow.holds Try.pinned (OpenSpec.ofChange plantLifeSpec)

/-- ITS FALSE NEIGHBOUR: 'it returns false'. Refute it at one input. -/
def plantLifeWrong : ChangeSpec := { name := "plantLife", fn := fun _ => fun
  | [d1, d2, d3] => { results := [.lit (.bool false)], args := [d1, d2, d3] }
  | _ => none }
def PlantLifeWrongFalsely : Prop := plantLifeRow.holds Try.pinned (OpenSpec.ofChange plantLifeWrong)

/-- 'aerielaw16.MonitorSleeps': WHATEVER THE INPUT: true; the input reads as it did. -/
def monitorSleepsSpec : ChangeSpec := { name := "monitorSleeps", fn := fun _ => fun
  | [d1, d2] => { results := [.lit (.bool true)], args := [d1, d2] }
  | _ => none }
def monitorSleepsRow : OpenClaim := { program := "ytkgeeohgfbacaaa", sum := "695666a3a0fa970ee6fab331b40933f7d818e545b5b26db809bacd2357f5ae23", func := "aerie/aerielaw16.MonitorSleeps", spec := "monitorSleeps", plainKeys := false, apart := false }
def MonitorSleepsSaid : Prop := monitorSleepsRow.holds Try.pinned (OpenSpec.ofChange monitorSleepsSpec)

/-- ITS FALSE NEIGHBOUR: 'it returns false'. Refute it at one input. -/
def monitorSleepsWrong : ChangeSpec := { name := "monitorSleeps", fn := fun _ => fun
  | [d1, d2] => { results := [.lit (.bool false)], args := [d1, d2] }
  | _ => none }
def MonitorSleepsWrongFalsely : Prop := monitorSleepsRow.holds Try.pinned (OpenSpec.ofChange monitorSleepsWrong)

/-- 'aerielaw17.JournalKeeps': WHATEVER THE INPUT: true; the input reads as it did. -/
def journalKeepsSpec : ChangeSpec := { name := "journalKeeps", fn := fun _ => fun
  | [d1, d2, d3, d4] => { results := [.lit (.bool true)], args := [d1, d2, d3, d4] }
  | _ => none }
def journalKeepsRow : OpenClaim := { program := "ytkgeeohgfbacaaa", sum := "695666a3a0fa970ee6fab331b40933f7d818e545b5b26db809bacd2357f5ae23", func := "aerie/aerielaw17.JournalKeeps", spec := "journalKeeps", unfollowed := true, recurses := true, plainKeys := false, apart := false }
def JournalKeepsSaid : Prop := journalKeepsRow.holds Try.pinned (OpenSpec.ofChange journalKeepsSpec)

/-- ITS FALSE NEIGHBOUR: 'it returns false'. Refute it at one input. -/
def journalKeepsWrong : ChangeSpec := { name := "journalKeeps", fn := fun _ => fun
  | [d1, d2, d3, d4] => { results := [.lit (.bool false)], args := [d1, d2, d3, d4] }
  | _ => none }
def JournalKeepsWrongFalsely : Prop := journalKeepsRow.holds Try.pinned (OpenSpec.ofChange journalKeepsWrong)

/-- 'aerielaw17.JournalReports': WHATEVER THE INPUT: true; the input reads as it did. -/
def journalReportsSpec : ChangeSpec := { name := "journalReports", fn := fun _ => fun
  | [d1, d2, d3] => { results := [.lit (.bool true)], args := [d1, d2, d3] }
  | _ => none }
def journalReportsRow : OpenClaim := { program := "ytkgeeohgfbacaaa", sum := "695666a3a0fa970ee6fab331b40933f7d818e545b5b26db809bacd2357f5ae23", func := "aerie/aerielaw17.JournalReports", spec := "journalReports", unfollowed := true, recurses := true, plainKeys := false, apart := false }
def JournalReportsSaid : Prop := journalReportsRow.holds Try.pinned (OpenSpec.ofChange journalReportsSpec)

/-- ITS FALSE NEIGHBOUR: 'it returns false'. Refute it at one input. -/
def journalReportsWrong : ChangeSpec := { name := "journalReports", fn := fun _ => fun
  | [d1, d2, d3] => { results := [.lit (.bool false)], args := [d1, d2, d3] }
  | _ => none }
def JournalReportsWrongFalsely : Prop := journalReportsRow.holds Try.pinned (OpenSpec.ofChange journalReportsWrong)

/-- 'aerielaw17.JournalArgs': WHATEVER THE INPUT: true; the input reads as it did. -/
def journalArgsSpec : ChangeSpec := { name := "journalArgs", fn := fun _ => fun
  | [d1, d2] => { results := [.lit (.bool true)], args := [d1, d2] }
  | _ => none }
def journalArgsRow : OpenClaim := { program := "ytkgeeohgfbacaaa", sum := "695666a3a0fa970ee6fab331b40933f7d818e545b5b26db809bacd2357f5ae23", func := "aerie/aerielaw17.JournalArgs", spec := "journalArgs", unfollowed := true, recurses := true, plainKeys := false, apart := false }
def JournalArgsSaid : Prop := journalArgsRow.holds Try.pinned (OpenSpec.ofChange journalArgsSpec)

/-- ITS FALSE NEIGHBOUR: 'it returns false'. Refute it at one input. -/
def journalArgsWrong : ChangeSpec := { name := "journalArgs", fn := fun _ => fun
  | [d1, d2] => { results := [.lit (.bool false)], args := [d1, d2] }
  | _ => none }
def JournalArgsWrongFalsely : Prop := journalArgsRow.holds Try.pinned (OpenSpec.ofChange journalArgsWrong)

/-- 'aerielaw17.JournalAges': WHATEVER THE INPUT: true; the input reads as it did. -/
def journalAgesSpec : ChangeSpec := { name := "journalAges", fn := fun _ => fun
  | [d1, d2, d3] => { results := [.lit (.bool true)], args := [d1, d2, d3] }
  | _ => none }
def journalAgesRow : OpenClaim := { program := "ytkgeeohgfbacaaa", sum := "695666a3a0fa970ee6fab331b40933f7d818e545b5b26db809bacd2357f5ae23", func := "aerie/aerielaw17.JournalAges", spec := "journalAges", unfollowed := true, recurses := true, plainKeys := false, apart := false }
def JournalAgesSaid : Prop := journalAgesRow.holds Try.pinned (OpenSpec.ofChange journalAgesSpec)

/-- ITS FALSE NEIGHBOUR: 'it returns false'. Refute it at one input. -/
def journalAgesWrong : ChangeSpec := { name := "journalAges", fn := fun _ => fun
  | [d1, d2, d3] => { results := [.lit (.bool false)], args := [d1, d2, d3] }
  | _ => none }
def JournalAgesWrongFalsely : Prop := journalAgesRow.holds Try.pinned (OpenSpec.ofChange journalAgesWrong)

/- THE SECOND FORM. 'bulk': how many values and letters a reading holds, each counted each time it is reached (what is shared counts as often as it is met; a slice's spare places count too). A statement '..UptoSaid' is the law's where the arguments, and the package variables that the reading takes, are together of bulk at most 1048576: NARROWER than '..Said'. Prove '..Said' where nothing that the law and all that it calls make is longer than what came in: it says more and counts as full. Else prove '..UptoSaid'. A law counts once. -/
mutual
def uptoBulk {H : Type} : DataW H → Nat
  | .lit (.string bytes) => bytes.length + 1
  | .lit _ => 1
  | .nil => 1
  | .ptr d => uptoBulk d + 1
  | .slice elems spare => uptoBulkAll elems + uptoBulkAll spare + 1
  | .agg parts => uptoBulkAll parts + 1
  | .iface _ d => uptoBulk d + 1
  | .map entries => uptoBulkEntries entries + 1
  | .held _ => 1
def uptoBulkAll {H : Type} : List (DataW H) → Nat
  | [] => 0
  | d :: r => uptoBulk d + uptoBulkAll r
def uptoBulkEntries {H : Type} : List (Lit × DataW H) → Nat
  | [] => 0
  | x :: r => uptoBulkEntry x + uptoBulkEntries r
def uptoBulkEntry {H : Type} : Lit × DataW H → Nat
  | (.string bytes, d) => bytes.length + uptoBulk d + 1
  | (_, d) => uptoBulk d + 1
 end
def uptoSmall : (H : Type) → List (DataW H) → Bool := fun _ ds => decide (uptoBulkAll ds ≤ 1048576)
def OpenSpec.upto (s : _root_.Go.ChangeSpec) : _root_.Go.OpenSpec := { _root_.Go.OpenSpec.ofChange s with cond := some uptoSmall }

/-- 'aerielaw03.RingPlays', WHERE WHAT IT READS IS OF BULK AT MOST 1048576: true; the input reads as it did. -/
def ringPlaysUptoRow : OpenClaim := { program := "ytkgeeohgfbacaaa", sum := "695666a3a0fa970ee6fab331b40933f7d818e545b5b26db809bacd2357f5ae23", func := "aerie/aerielaw03.RingPlays", spec := "ringPlays", unfollowed := true, recurses := true, plainKeys := false, apart := false, narrowed := true }
def RingPlaysUptoSaid : Prop := ringPlaysUptoRow.holds Try.pinned (OpenSpec.upto ringPlaysSpec)

/-- 'aerielaw11.QueuePlays', WHERE WHAT IT READS IS OF BULK AT MOST 1048576: true; the input reads as it did. -/
def queuePlaysUptoRow : OpenClaim := { program := "ytkgeeohgfbacaaa", sum := "695666a3a0fa970ee6fab331b40933f7d818e545b5b26db809bacd2357f5ae23", func := "aerie/aerielaw11.QueuePlays", spec := "queuePlays", plainKeys := false, apart := false, narrowed := true }
def QueuePlaysUptoSaid : Prop := queuePlaysUptoRow.holds Try.pinned (OpenSpec.upto queuePlaysSpec)

/-- 'aerielaw12.VerifyFirst', WHERE WHAT IT READS IS OF BULK AT MOST 1048576: true; the input reads as it did. -/
def verifyFirstUptoRow : OpenClaim := { program := "ytkgeeohgfbacaaa", sum := "695666a3a0fa970ee6fab331b40933f7d818e545b5b26db809bacd2357f5ae23", func := "aerie/aerielaw12.VerifyFirst", spec := "verifyFirst", plainKeys := false, apart := false, narrowed := true }
def VerifyFirstUptoSaid : Prop := verifyFirstUptoRow.holds Try.pinned (OpenSpec.upto verifyFirstSpec)

/-- 'aerielaw12.VerifyNone', WHERE WHAT IT READS IS OF BULK AT MOST 1048576: true; the input reads as it did. -/
def verifyNoneUptoRow : OpenClaim := { program := "ytkgeeohgfbacaaa", sum := "695666a3a0fa970ee6fab331b40933f7d818e545b5b26db809bacd2357f5ae23", func := "aerie/aerielaw12.VerifyNone", spec := "verifyNone", plainKeys := false, apart := false, narrowed := true }
def VerifyNoneUptoSaid : Prop := verifyNoneUptoRow.holds Try.pinned (OpenSpec.upto verifyNoneSpec)

/-- 'aerielaw14.PlantLife', WHERE WHAT IT READS IS OF BULK AT MOST 1048576: true; the input reads as it did. -/
def plantLifeUptoRow : OpenClaim := { program := "ytkgeeohgfbacaaa", sum := "695666a3a0fa970ee6fab331b40933f7d818e545b5b26db809bacd2357f5ae23", func := "aerie/aerielaw14.PlantLife", spec := "plantLife", unfollowed := true, recurses := true, plainKeys := false, apart := false, narrowed := true }
def PlantLifeUptoSaid : Prop := plantLifeUptoRow.holds Try.pinned (OpenSpec.upto plantLifeSpec)

/-- 'aerielaw16.MonitorSleeps', WHERE WHAT IT READS IS OF BULK AT MOST 1048576: true; the input reads as it did. -/
def monitorSleepsUptoRow : OpenClaim := { program := "ytkgeeohgfbacaaa", sum := "695666a3a0fa970ee6fab331b40933f7d818e545b5b26db809bacd2357f5ae23", func := "aerie/aerielaw16.MonitorSleeps", spec := "monitorSleeps", plainKeys := false, apart := false, narrowed := true }
def MonitorSleepsUptoSaid : Prop := monitorSleepsUptoRow.holds Try.pinned (OpenSpec.upto monitorSleepsSpec)

/-- 'aerielaw17.JournalKeeps', WHERE WHAT IT READS IS OF BULK AT MOST 1048576: true; the input reads as it did. -/
def journalKeepsUptoRow : OpenClaim := { program := "ytkgeeohgfbacaaa", sum := "695666a3a0fa970ee6fab331b40933f7d818e545b5b26db809bacd2357f5ae23", func := "aerie/aerielaw17.JournalKeeps", spec := "journalKeeps", unfollowed := true, recurses := true, plainKeys := false, apart := false, narrowed := true }
def JournalKeepsUptoSaid : Prop := journalKeepsUptoRow.holds Try.pinned (OpenSpec.upto journalKeepsSpec)

/-- 'aerielaw17.JournalReports', WHERE WHAT IT READS IS OF BULK AT MOST 1048576: true; the input reads as it did. -/
def journalReportsUptoRow : OpenClaim := { program := "ytkgeeohgfbacaaa", sum := "695666a3a0fa970ee6fab331b40933f7d818e545b5b26db809bacd2357f5ae23", func := "aerie/aerielaw17.JournalReports", spec := "journalReports", unfollowed := true, recurses := true, plainKeys := false, apart := false, narrowed := true }
def JournalReportsUptoSaid : Prop := journalReportsUptoRow.holds Try.pinned (OpenSpec.upto journalReportsSpec)

/-- 'aerielaw17.JournalArgs', WHERE WHAT IT READS IS OF BULK AT MOST 1048576: true; the input reads as it did. -/
def journalArgsUptoRow : OpenClaim := { program := "ytkgeeohgfbacaaa", sum := "695666a3a0fa970ee6fab331b40933f7d818e545b5b26db809bacd2357f5ae23", func := "aerie/aerielaw17.JournalArgs", spec := "journalArgs", unfollowed := true, recurses := true, plainKeys := false, apart := false, narrowed := true }
def JournalArgsUptoSaid : Prop := journalArgsUptoRow.holds Try.pinned (OpenSpec.upto journalArgsSpec)

/-- 'aerielaw17.JournalAges', WHERE WHAT IT READS IS OF BULK AT MOST 1048576: true; the input reads as it did. -/
def journalAgesUptoRow : OpenClaim := { program := "ytkgeeohgfbacaaa", sum := "695666a3a0fa970ee6fab331b40933f7d818e545b5b26db809bacd2357f5ae23", func := "aerie/aerielaw17.JournalAges", spec := "journalAges", unfollowed := true, recurses := true, plainKeys := false, apart := false, narrowed := true }
def JournalAgesUptoSaid : Prop := journalAgesUptoRow.holds Try.pinned (OpenSpec.upto journalAgesSpec)

end Rows
end Go.Proofs.Ytkgeeohgfbacaaa
