/-
  No cell of these rows narrows 'for every input' (looked for: loops, veiled, ifaces, maps, wideKeys, modest, calm, conditions, laid).
  DERIVED. THE GIVEN ROWS OF THIS SEAT. 12 by the template 'for every input the law returns true; each argument reads behind the call as it read before'; 0 by the template 'total and deterministic' (their statements: YtkcpeefnlmmilaaTotals.lean).
  GIVEN WITH THE SEED: the statements are not yours to turn. If you find one false, say at which input.
  Laid BY PROGRAM, IN A SANDBOX (cutbox-rows.mjs): the forced cells as the released guide's own fill.sh prints them over the translation 483dc45c89bd8edc… (all of the seat's roots in one cut). By AI agents, Wed Nov 11 2026. No macro, syntax, notation, axiom, sorry.
-/
import Derived.Test.YtkcpeefnlmmilaaChecked
import GoSem.Claim
import GoSem.ClaimJoined
import GoSem.ClaimMapViews
import Derived.JoinedTies
import Derived.KernelRfl
namespace Go.Proofs.Ytkcpeefnlmmilaa
/- THE CELL 'sum', in the pinned program and in every row, IS THE sha256 OF THE DUMP (.gsa) THAT YtkcpeefnlmmilaaProg.lean LOADS. Nothing in Lean hashes anything: it is a label: what it is worth is what the hold of that sum in a sandbox is worth. -/
noncomputable def Try.pinned : Pinned := { name := "ytkcpeefnlmmilaa", sum := "483dc45c89bd8edcef368210d8dee488c5d771327f4333ca69775b166129ca68", checked := Try.checked }
namespace Rows
def none {H : Type} : Left H := { results := [], args := [] }

/-- 'aerielaw03.RingPlays': WHATEVER THE INPUT: true; the input reads as it did. -/
def ringPlaysSpec : ChangeSpec := { name := "ringPlays", fn := fun _ => fun
  | [d1, d2, d3, d4] => { results := [.lit (.bool true)], args := [d1, d2, d3, d4] }
  | _ => none }
def ringPlaysRow : OpenClaim := { program := "ytkcpeefnlmmilaa", sum := "483dc45c89bd8edcef368210d8dee488c5d771327f4333ca69775b166129ca68", func := "aerie/aerielaw03.RingPlays", spec := "ringPlays", unfollowed := true, recurses := true, plainKeys := false, apart := false }
def RingPlaysSaid : Prop := ringPlaysRow.holds Try.pinned (OpenSpec.ofChange ringPlaysSpec)

/-- ITS FALSE NEIGHBOUR: 'it returns false'. Refute it at one input. -/
def ringPlaysWrong : ChangeSpec := { name := "ringPlays", fn := fun _ => fun
  | [d1, d2, d3, d4] => { results := [.lit (.bool false)], args := [d1, d2, d3, d4] }
  | _ => none }
def RingPlaysWrongFalsely : Prop := ringPlaysRow.holds Try.pinned (OpenSpec.ofChange ringPlaysWrong)

/-- 'aerielaw11.QueuePlays': WHATEVER THE INPUT: true; the input reads as it did. -/
def queuePlaysSpec : ChangeSpec := { name := "queuePlays", fn := fun _ => fun
  | [d1, d2, d3, d4] => { results := [.lit (.bool true)], args := [d1, d2, d3, d4] }
  | _ => none }
def queuePlaysRow : OpenClaim := { program := "ytkcpeefnlmmilaa", sum := "483dc45c89bd8edcef368210d8dee488c5d771327f4333ca69775b166129ca68", func := "aerie/aerielaw11.QueuePlays", spec := "queuePlays", plainKeys := false, apart := false }
def QueuePlaysSaid : Prop := queuePlaysRow.holds Try.pinned (OpenSpec.ofChange queuePlaysSpec)

/-- ITS FALSE NEIGHBOUR: 'it returns false'. Refute it at one input. -/
def queuePlaysWrong : ChangeSpec := { name := "queuePlays", fn := fun _ => fun
  | [d1, d2, d3, d4] => { results := [.lit (.bool false)], args := [d1, d2, d3, d4] }
  | _ => none }
def QueuePlaysWrongFalsely : Prop := queuePlaysRow.holds Try.pinned (OpenSpec.ofChange queuePlaysWrong)

/-- 'aerielaw12.VerifyJudges': WHATEVER THE INPUT: true; the input reads as it did. -/
def verifyJudgesSpec : ChangeSpec := { name := "verifyJudges", fn := fun _ => fun
  | [d1, d2, d3, d4, d5, d6, d7, d8, d9, d10] => { results := [.lit (.bool true)], args := [d1, d2, d3, d4, d5, d6, d7, d8, d9, d10] }
  | _ => none }
def verifyJudgesRow : OpenClaim := { program := "ytkcpeefnlmmilaa", sum := "483dc45c89bd8edcef368210d8dee488c5d771327f4333ca69775b166129ca68", func := "aerie/aerielaw12.VerifyJudges", spec := "verifyJudges", plainKeys := false, apart := false }
def VerifyJudgesSaid : Prop := verifyJudgesRow.holds Try.pinned (OpenSpec.ofChange verifyJudgesSpec)

/-- ITS FALSE NEIGHBOUR: 'it returns false'. Refute it at one input. -/
def verifyJudgesWrong : ChangeSpec := { name := "verifyJudges", fn := fun _ => fun
  | [d1, d2, d3, d4, d5, d6, d7, d8, d9, d10] => { results := [.lit (.bool false)], args := [d1, d2, d3, d4, d5, d6, d7, d8, d9, d10] }
  | _ => none }
def VerifyJudgesWrongFalsely : Prop := verifyJudgesRow.holds Try.pinned (OpenSpec.ofChange verifyJudgesWrong)

/-- 'aerielaw12.VerifyTells': WHATEVER THE INPUT: true; the input reads as it did. -/
def verifyTellsSpec : ChangeSpec := { name := "verifyTells", fn := fun _ => fun
  | [d1, d2, d3, d4, d5, d6] => { results := [.lit (.bool true)], args := [d1, d2, d3, d4, d5, d6] }
  | _ => none }
def verifyTellsRow : OpenClaim := { program := "ytkcpeefnlmmilaa", sum := "483dc45c89bd8edcef368210d8dee488c5d771327f4333ca69775b166129ca68", func := "aerie/aerielaw12.VerifyTells", spec := "verifyTells", plainKeys := false, apart := false }
def VerifyTellsSaid : Prop := verifyTellsRow.holds Try.pinned (OpenSpec.ofChange verifyTellsSpec)

/-- ITS FALSE NEIGHBOUR: 'it returns false'. Refute it at one input. -/
def verifyTellsWrong : ChangeSpec := { name := "verifyTells", fn := fun _ => fun
  | [d1, d2, d3, d4, d5, d6] => { results := [.lit (.bool false)], args := [d1, d2, d3, d4, d5, d6] }
  | _ => none }
def VerifyTellsWrongFalsely : Prop := verifyTellsRow.holds Try.pinned (OpenSpec.ofChange verifyTellsWrong)

/-- 'aerielaw12.VerifyFirst': WHATEVER THE INPUT: true; the input reads as it did. -/
def verifyFirstSpec : ChangeSpec := { name := "verifyFirst", fn := fun _ => fun
  | [d1, d2, d3] => { results := [.lit (.bool true)], args := [d1, d2, d3] }
  | _ => none }
def verifyFirstRow : OpenClaim := { program := "ytkcpeefnlmmilaa", sum := "483dc45c89bd8edcef368210d8dee488c5d771327f4333ca69775b166129ca68", func := "aerie/aerielaw12.VerifyFirst", spec := "verifyFirst", plainKeys := false, apart := false }
def VerifyFirstSaid : Prop := verifyFirstRow.holds Try.pinned (OpenSpec.ofChange verifyFirstSpec)

/-- ITS FALSE NEIGHBOUR: 'it returns false'. Refute it at one input. -/
def verifyFirstWrong : ChangeSpec := { name := "verifyFirst", fn := fun _ => fun
  | [d1, d2, d3] => { results := [.lit (.bool false)], args := [d1, d2, d3] }
  | _ => none }
def VerifyFirstWrongFalsely : Prop := verifyFirstRow.holds Try.pinned (OpenSpec.ofChange verifyFirstWrong)

/-- 'aerielaw12.VerifyNone': WHATEVER THE INPUT: true; the input reads as it did. -/
def verifyNoneSpec : ChangeSpec := { name := "verifyNone", fn := fun _ => fun
  | [d1, d2, d3] => { results := [.lit (.bool true)], args := [d1, d2, d3] }
  | _ => none }
def verifyNoneRow : OpenClaim := { program := "ytkcpeefnlmmilaa", sum := "483dc45c89bd8edcef368210d8dee488c5d771327f4333ca69775b166129ca68", func := "aerie/aerielaw12.VerifyNone", spec := "verifyNone", plainKeys := false, apart := false }
def VerifyNoneSaid : Prop := verifyNoneRow.holds Try.pinned (OpenSpec.ofChange verifyNoneSpec)

/-- ITS FALSE NEIGHBOUR: 'it returns false'. Refute it at one input. -/
def verifyNoneWrong : ChangeSpec := { name := "verifyNone", fn := fun _ => fun
  | [d1, d2, d3] => { results := [.lit (.bool false)], args := [d1, d2, d3] }
  | _ => none }
def VerifyNoneWrongFalsely : Prop := verifyNoneRow.holds Try.pinned (OpenSpec.ofChange verifyNoneWrong)

/-- 'aerielaw13.UnitPlays': WHATEVER THE INPUT: true; the input reads as it did. -/
def unitPlaysSpec : ChangeSpec := { name := "unitPlays", fn := fun _ => fun
  | [d1, d2] => { results := [.lit (.bool true)], args := [d1, d2] }
  | _ => none }
def unitPlaysRow : OpenClaim := { program := "ytkcpeefnlmmilaa", sum := "483dc45c89bd8edcef368210d8dee488c5d771327f4333ca69775b166129ca68", func := "aerie/aerielaw13.UnitPlays", spec := "unitPlays", plainKeys := false, apart := false }
def UnitPlaysSaid : Prop := unitPlaysRow.holds Try.pinned (OpenSpec.ofChange unitPlaysSpec)

/-- ITS FALSE NEIGHBOUR: 'it returns false'. Refute it at one input. -/
def unitPlaysWrong : ChangeSpec := { name := "unitPlays", fn := fun _ => fun
  | [d1, d2] => { results := [.lit (.bool false)], args := [d1, d2] }
  | _ => none }
def UnitPlaysWrongFalsely : Prop := unitPlaysRow.holds Try.pinned (OpenSpec.ofChange unitPlaysWrong)

/-- 'aerielaw13.UnitBounds': WHATEVER THE INPUT: true; the input reads as it did. -/
def unitBoundsSpec : ChangeSpec := { name := "unitBounds", fn := fun _ => fun
  | [d1, d2, d3] => { results := [.lit (.bool true)], args := [d1, d2, d3] }
  | _ => none }
def unitBoundsRow : OpenClaim := { program := "ytkcpeefnlmmilaa", sum := "483dc45c89bd8edcef368210d8dee488c5d771327f4333ca69775b166129ca68", func := "aerie/aerielaw13.UnitBounds", spec := "unitBounds", plainKeys := false, apart := false }
def UnitBoundsSaid : Prop := unitBoundsRow.holds Try.pinned (OpenSpec.ofChange unitBoundsSpec)

/-- ITS FALSE NEIGHBOUR: 'it returns false'. Refute it at one input. -/
def unitBoundsWrong : ChangeSpec := { name := "unitBounds", fn := fun _ => fun
  | [d1, d2, d3] => { results := [.lit (.bool false)], args := [d1, d2, d3] }
  | _ => none }
def UnitBoundsWrongFalsely : Prop := unitBoundsRow.holds Try.pinned (OpenSpec.ofChange unitBoundsWrong)

/-- 'aerielaw13.UnitQuiet': WHATEVER THE INPUT: true; the input reads as it did. -/
def unitQuietSpec : ChangeSpec := { name := "unitQuiet", fn := fun _ => fun
  | [d1, d2] => { results := [.lit (.bool true)], args := [d1, d2] }
  | _ => none }
def unitQuietRow : OpenClaim := { program := "ytkcpeefnlmmilaa", sum := "483dc45c89bd8edcef368210d8dee488c5d771327f4333ca69775b166129ca68", func := "aerie/aerielaw13.UnitQuiet", spec := "unitQuiet", plainKeys := false, apart := false }
def UnitQuietSaid : Prop := unitQuietRow.holds Try.pinned (OpenSpec.ofChange unitQuietSpec)

/-- ITS FALSE NEIGHBOUR: 'it returns false'. Refute it at one input. -/
def unitQuietWrong : ChangeSpec := { name := "unitQuiet", fn := fun _ => fun
  | [d1, d2] => { results := [.lit (.bool false)], args := [d1, d2] }
  | _ => none }
def UnitQuietWrongFalsely : Prop := unitQuietRow.holds Try.pinned (OpenSpec.ofChange unitQuietWrong)

/-- 'aerielaw14.PlantArgs': WHATEVER THE INPUT: true; the input reads as it did. -/
def plantArgsSpec : ChangeSpec := { name := "plantArgs", fn := fun _ => fun
  | [d1, d2, d3] => { results := [.lit (.bool true)], args := [d1, d2, d3] }
  | _ => none }
def plantArgsRow : OpenClaim := { program := "ytkcpeefnlmmilaa", sum := "483dc45c89bd8edcef368210d8dee488c5d771327f4333ca69775b166129ca68", func := "aerie/aerielaw14.PlantArgs", spec := "plantArgs", unfollowed := true, recurses := true, plainKeys := false, apart := false }
def PlantArgsSaid : Prop := plantArgsRow.holds Try.pinned (OpenSpec.ofChange plantArgsSpec)

/-- ITS FALSE NEIGHBOUR: 'it returns false'. Refute it at one input. -/
def plantArgsWrong : ChangeSpec := { name := "plantArgs", fn := fun _ => fun
  | [d1, d2, d3] => { results := [.lit (.bool false)], args := [d1, d2, d3] }
  | _ => none }
def PlantArgsWrongFalsely : Prop := plantArgsRow.holds Try.pinned (OpenSpec.ofChange plantArgsWrong)

/-- 'aerielaw14.PlantApart': WHATEVER THE INPUT: true; the input reads as it did. -/
def plantApartSpec : ChangeSpec := { name := "plantApart", fn := fun _ => fun
  | [d1, d2, d3, d4, d5] => { results := [.lit (.bool true)], args := [d1, d2, d3, d4, d5] }
  | _ => none }
def plantApartRow : OpenClaim := { program := "ytkcpeefnlmmilaa", sum := "483dc45c89bd8edcef368210d8dee488c5d771327f4333ca69775b166129ca68", func := "aerie/aerielaw14.PlantApart", spec := "plantApart", unfollowed := true, recurses := true, plainKeys := false, apart := false }
def PlantApartSaid : Prop := plantApartRow.holds Try.pinned (OpenSpec.ofChange plantApartSpec)

/-- ITS FALSE NEIGHBOUR: 'it returns false'. Refute it at one input. -/
def plantApartWrong : ChangeSpec := { name := "plantApart", fn := fun _ => fun
  | [d1, d2, d3, d4, d5] => { results := [.lit (.bool false)], args := [d1, d2, d3, d4, d5] }
  | _ => none }
def PlantApartWrongFalsely : Prop := plantApartRow.holds Try.pinned (OpenSpec.ofChange plantApartWrong)

/-- 'aerielaw14.PlantLife': WHATEVER THE INPUT: true; the input reads as it did. -/
def plantLifeSpec : ChangeSpec := { name := "plantLife", fn := fun _ => fun
  | [d1, d2, d3] => { results := [.lit (.bool true)], args := [d1, d2, d3] }
  | _ => none }
def plantLifeRow : OpenClaim := { program := "ytkcpeefnlmmilaa", sum := "483dc45c89bd8edcef368210d8dee488c5d771327f4333ca69775b166129ca68", func := "aerie/aerielaw14.PlantLife", spec := "plantLife", unfollowed := true, recurses := true, plainKeys := false, apart := false }
def PlantLifeSaid : Prop := plantLifeRow.holds Try.pinned (OpenSpec.ofChange plantLifeSpec)

/-- ITS FALSE NEIGHBOUR: 'it returns false'. Refute it at one input. -/
def plantLifeWrong : ChangeSpec := { name := "plantLife", fn := fun _ => fun
  | [d1, d2, d3] => { results := [.lit (.bool false)], args := [d1, d2, d3] }
  | _ => none }
def PlantLifeWrongFalsely : Prop := plantLifeRow.holds Try.pinned (OpenSpec.ofChange plantLifeWrong)

/- THE SECOND FORM. 'bulk': how many values and letters a reading holds, each counted each time it is reached (what is shared counts as often as it is met; a slice's spare places count too). A statement '..UptoSaid' is the law's where the arguments, and the package variables that the reading takes, are together of bulk at most 1048576: NARROWER than '..Said'. Prove '..Said' where nothing that the law and all that it calls make is longer than what came in: it says more and counts as full. Else prove '..UptoSaid'. A law counts once. -/
mutual
def uptoBulk {H : Type} : DataW H → Nat
  | .lit (.string bytes) => bytes.length + 1
  | .lit _ => 1
  | .nil => 1
  | .ptr d => uptoBulk d + 1
  | .slice elems spare => uptoBulkAll elems + uptoBulkAll spare + 1
  | .agg parts => uptoBulkAll parts + 1
  | .iface _ d => uptoBulk d + 1
  | .map entries => uptoBulkEntries entries + 1
  | .held _ => 1
def uptoBulkAll {H : Type} : List (DataW H) → Nat
  | [] => 0
  | d :: r => uptoBulk d + uptoBulkAll r
def uptoBulkEntries {H : Type} : List (Lit × DataW H) → Nat
  | [] => 0
  | x :: r => uptoBulkEntry x + uptoBulkEntries r
def uptoBulkEntry {H : Type} : Lit × DataW H → Nat
  | (.string bytes, d) => bytes.length + uptoBulk d + 1
  | (_, d) => uptoBulk d + 1
 end
def uptoSmall : (H : Type) → List (DataW H) → Bool := fun _ ds => decide (uptoBulkAll ds ≤ 1048576)
def OpenSpec.upto (s : _root_.Go.ChangeSpec) : _root_.Go.OpenSpec := { _root_.Go.OpenSpec.ofChange s with cond := some uptoSmall }

/-- 'aerielaw03.RingPlays', WHERE WHAT IT READS IS OF BULK AT MOST 1048576: true; the input reads as it did. -/
def ringPlaysUptoRow : OpenClaim := { program := "ytkcpeefnlmmilaa", sum := "483dc45c89bd8edcef368210d8dee488c5d771327f4333ca69775b166129ca68", func := "aerie/aerielaw03.RingPlays", spec := "ringPlays", unfollowed := true, recurses := true, plainKeys := false, apart := false, narrowed := true }
def RingPlaysUptoSaid : Prop := ringPlaysUptoRow.holds Try.pinned (OpenSpec.upto ringPlaysSpec)

/-- 'aerielaw11.QueuePlays', WHERE WHAT IT READS IS OF BULK AT MOST 1048576: true; the input reads as it did. -/
def queuePlaysUptoRow : OpenClaim := { program := "ytkcpeefnlmmilaa", sum := "483dc45c89bd8edcef368210d8dee488c5d771327f4333ca69775b166129ca68", func := "aerie/aerielaw11.QueuePlays", spec := "queuePlays", plainKeys := false, apart := false, narrowed := true }
def QueuePlaysUptoSaid : Prop := queuePlaysUptoRow.holds Try.pinned (OpenSpec.upto queuePlaysSpec)

/-- 'aerielaw12.VerifyJudges', WHERE WHAT IT READS IS OF BULK AT MOST 1048576: true; the input reads as it did. -/
def verifyJudgesUptoRow : OpenClaim := { program := "ytkcpeefnlmmilaa", sum := "483dc45c89bd8edcef368210d8dee488c5d771327f4333ca69775b166129ca68", func := "aerie/aerielaw12.VerifyJudges", spec := "verifyJudges", plainKeys := false, apart := false, narrowed := true }
def VerifyJudgesUptoSaid : Prop := verifyJudgesUptoRow.holds Try.pinned (OpenSpec.upto verifyJudgesSpec)

/-- 'aerielaw12.VerifyTells', WHERE WHAT IT READS IS OF BULK AT MOST 1048576: true; the input reads as it did. -/
def verifyTellsUptoRow : OpenClaim := { program := "ytkcpeefnlmmilaa", sum := "483dc45c89bd8edcef368210d8dee488c5d771327f4333ca69775b166129ca68", func := "aerie/aerielaw12.VerifyTells", spec := "verifyTells", plainKeys := false, apart := false, narrowed := true }
def VerifyTellsUptoSaid : Prop := verifyTellsUptoRow.holds Try.pinned (OpenSpec.upto verifyTellsSpec)

/-- 'aerielaw12.VerifyFirst', WHERE WHAT IT READS IS OF BULK AT MOST 1048576: true; the input reads as it did. -/
def verifyFirstUptoRow : OpenClaim := { program := "ytkcpeefnlmmilaa", sum := "483dc45c89bd8edcef368210d8dee488c5d771327f4333ca69775b166129ca68", func := "aerie/aerielaw12.VerifyFirst", spec := "verifyFirst", plainKeys := false, apart := false, narrowed := true }
def VerifyFirstUptoSaid : Prop := verifyFirstUptoRow.holds Try.pinned (OpenSpec.upto verifyFirstSpec)

/-- 'aerielaw12.VerifyNone', WHERE WHAT IT READS IS OF BULK AT MOST 1048576: true; the input reads as it did. -/
def verifyNoneUptoRow : OpenClaim := { program := "ytkcpeefnlmmilaa", sum := "483dc45c89bd8edcef368210d8dee488c5d771327f4333ca69775b166129ca68", func := "aerie/aerielaw12.VerifyNone", spec := "verifyNone", plainKeys := false, apart := false, narrowed := true }
def VerifyNoneUptoSaid : Prop := verifyNoneUptoRow.holds Try.pinned (OpenSpec.upto verifyNoneSpec)

/-- 'aerielaw13.UnitPlays', WHERE WHAT IT READS IS OF BULK AT MOST 1048576: true; the input reads as it did. -/
def unitPlaysUptoRow : OpenClaim := { program := "ytkcpeefnlmmilaa", sum := "483dc45c89bd8edcef368210d8dee488c5d771327f4333ca69775b166129ca68", func := "aerie/aerielaw13.UnitPlays", spec := "unitPlays", plainKeys := false, apart := false, narrowed := true }
def UnitPlaysUptoSaid : Prop := unitPlaysUptoRow.holds Try.pinned (OpenSpec.upto unitPlaysSpec)

/-- 'aerielaw13.UnitBounds', WHERE WHAT IT READS IS OF BULK AT MOST 1048576: true; the input reads as it did. -/
def unitBoundsUptoRow : OpenClaim := { program := "ytkcpeefnlmmilaa", sum := "483dc45c89bd8edcef368210d8dee488c5d771327f4333ca69775b166129ca68", func := "aerie/aerielaw13.UnitBounds", spec := "unitBounds", plainKeys := false, apart := false, narrowed := true }
def UnitBoundsUptoSaid : Prop := unitBoundsUptoRow.holds Try.pinned (OpenSpec.upto unitBoundsSpec)

/-- 'aerielaw13.UnitQuiet', WHERE WHAT IT READS IS OF BULK AT MOST 1048576: true; the input reads as it did. -/
def unitQuietUptoRow : OpenClaim := { program := "ytkcpeefnlmmilaa", sum := "483dc45c89bd8edcef368210d8dee488c5d771327f4333ca69775b166129ca68", func := "aerie/aerielaw13.UnitQuiet", spec := "unitQuiet", plainKeys := false, apart := false, narrowed := true }
def UnitQuietUptoSaid : Prop := unitQuietUptoRow.holds Try.pinned (OpenSpec.upto unitQuietSpec)

/-- 'aerielaw14.PlantArgs', WHERE WHAT IT READS IS OF BULK AT MOST 1048576: true; the input reads as it did. -/
def plantArgsUptoRow : OpenClaim := { program := "ytkcpeefnlmmilaa", sum := "483dc45c89bd8edcef368210d8dee488c5d771327f4333ca69775b166129ca68", func := "aerie/aerielaw14.PlantArgs", spec := "plantArgs", unfollowed := true, recurses := true, plainKeys := false, apart := false, narrowed := true }
def PlantArgsUptoSaid : Prop := plantArgsUptoRow.holds Try.pinned (OpenSpec.upto plantArgsSpec)

/-- 'aerielaw14.PlantApart', WHERE WHAT IT READS IS OF BULK AT MOST 1048576: true; the input reads as it did. -/
def plantApartUptoRow : OpenClaim := { program := "ytkcpeefnlmmilaa", sum := "483dc45c89bd8edcef368210d8dee488c5d771327f4333ca69775b166129ca68", func := "aerie/aerielaw14.PlantApart", spec := "plantApart", unfollowed := true, recurses := true, plainKeys := false, apart := false, narrowed := true }
def PlantApartUptoSaid : Prop := plantApartUptoRow.holds Try.pinned (OpenSpec.upto plantApartSpec)

/-- 'aerielaw14.PlantLife', WHERE WHAT IT READS IS OF BULK AT MOST 1048576: true; the input reads as it did. -/
def plantLifeUptoRow : OpenClaim := { program := "ytkcpeefnlmmilaa", sum := "483dc45c89bd8edcef368210d8dee488c5d771327f4333ca69775b166129ca68", func := "aerie/aerielaw14.PlantLife", spec := "plantLife", unfollowed := true, recurses := true, plainKeys := false, apart := false, narrowed := true }
def PlantLifeUptoSaid : Prop := plantLifeUptoRow.holds Try.pinned (OpenSpec.upto plantLifeSpec)

end Rows
end Go.Proofs.Ytkcpeefnlmmilaa
