/- Texts laid together: Frl, Mk. Each says its own conditions. -/
import Derived.Test.YtjnkkokhkooegaaGreatMA
import Derived.Test.YtjnkkokhkooegaaGreatMH
import Derived.Test.YtjnkkokhkooegaaGreatMG
/- A product of two zeros, written out. Nothing of the program. -/
namespace Go.Proofs
open Pol (IsN Dg ofL Byt vl frL)
end Go.Proofs
/- make([]byte, n), read. Condition: a bound on n. -/
namespace Go.Proofs
open Go.RowKit
end Go.Proofs
