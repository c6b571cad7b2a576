/- Joined out of our texts: TakeV. -/
import Derived.Test.YthdhhmflfdbkhaaGreatDoorLawFrameReadRAA
/- An answer of three: a row, a number, an error. -/
namespace Go.Proofs.YthdhhmflfdbkhaaGreatDoor
namespace Bw
def takeV (A : List UInt8 × Nat × Int) : Value := .tuple #[.string ⟨A.1.toArray⟩, .int .i64 A.2.1, .int .i64 A.2.2]
end Bw
end Go.Proofs.YthdhhmflfdbkhaaGreatDoor
