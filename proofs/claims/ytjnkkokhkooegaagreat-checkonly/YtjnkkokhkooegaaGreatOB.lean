/- As CdX: parity, and what a word comes to by it. Conditions: a code; a field that Of has made. -/
import Derived.Test.YtjnkkokhkooegaaGreatOA
import Derived.Test.YtjnkkokhkooegaaGreatNX
import Derived.Test.YtjnkkokhkooegaaGreatNF
import Derived.Test.YtjnkkokhkooegaaGreatMG
namespace Go.Proofs
open Go.RowKit Go.ChangeShapes Go.WideShapes
open Pol (IsN Dg ofL Byt vl frL)
section
variable (k Bf T P N K B S : Nat) (w0 : World)
end
end Go.Proofs
