/- A product of two zeros, written out. Nothing of the program. -/
import Derived.Test.YtagkpjbadmodbaaGreatMA
import Derived.Test.YtagkpjbadmodbaaGreatMH
namespace Go.Proofs
open Pol (IsN Dg ofL Byt vl frL)
end Go.Proofs
