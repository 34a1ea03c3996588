/- Layer 24: the document's Step. -/
import Derived.Test.YtnjkpamjjdkmoaaMd3a
import Derived.Test.YtnjkpamjjdkmoaaMd3b
import Derived.Test.YtnjkpamjjdkmoaaMd3c
import Derived.Test.YtnjkpamjjdkmoaaMd3d
namespace Go.Proofs.Ytnjkpamjjdkmoaa
open Go.RowKit Go.Own
theorem rStep_any (a : Mo) (c : Cf) (calm seen safe : Bool) (w : World) (ha : a.Ok) (hc : c.Ok) : Calls Try.prog 68 #[.agg #[.int .u8 ((Mo.m a : Nat) : Int), .int .u16 ((Mo.s a : Nat) : Int), .int .u8 ((Mo.c a : Nat) : Int), .int .u8 ((Mo.n a : Nat) : Int), .int .u8 ((Mo.d a : Nat) : Int)], .agg #[.int .u8 ((Cf.calm c : Nat) : Int), .int .u8 ((Cf.seen c : Nat) : Int), .int .u8 ((Cf.lost c : Nat) : Int), .int .u16 ((Cf.t c 0 : Nat) : Int), .int .u16 ((Cf.t c 1 : Nat) : Int), .int .u16 ((Cf.t c 2 : Nat) : Int), .int .u16 ((Cf.t c 3 : Nat) : Int)], .bool calm, .bool seen, .bool safe] w fun e w' => e = .returned (.tuple #[.agg #[.int .u8 ((Mo.m (stepM a c calm seen safe).1 : Nat) : Int), .int .u16 ((Mo.s (stepM a c calm seen safe).1 : Nat) : Int), .int .u8 ((Mo.c (stepM a c calm seen safe).1 : Nat) : Int), .int .u8 ((Mo.n (stepM a c calm seen safe).1 : Nat) : Int), .int .u8 ((Mo.d (stepM a c calm seen safe).1 : Nat) : Int)], .int .i64 (((stepM a c calm seen safe).2 : Nat) : Int)]) ∧ Below w.heap.size w w' := by
  cases calm
  · cases seen
    · exact rStep_ff a c safe w ha hc
    · exact rStep_ft a c safe w ha hc
  · cases seen
    · exact rStep_tf a c safe w ha hc
    · exact rStep_tt a c safe w ha hc
end Go.Proofs.Ytnjkpamjjdkmoaa
