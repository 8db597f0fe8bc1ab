/- The walk of shift.Pow. Conditions: a byte; an int. -/
import Derived.Test.YtphhehppcfddgaaGreatPower
import Derived.Test.YtphhehppcfddgaaGreatGf2
namespace Go.Proofs
open Go.RowKit Go.Shelf

theorem neg_neg_wrap (m : Nat) (hm : m < 9223372036854775808) : IntKind.u64.wrap (-IntKind.u64.wrap (-(m : Int) - 1)) = ((m + 1 : Nat) : Int) := by
  simp only [IntKind.wrap_u64]
  omega

end Go.Proofs
