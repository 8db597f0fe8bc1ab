/- The walk of massey.missed: what a register misses a byte of a list by. Conditions: a field that Of has made; lists apart from its table; a register that is no longer than the list is as far as there. -/
import Derived.Deep.RegionHeld3
import Derived.Test.YthnlcdfonbnjcaaGreatNU
import Derived.Test.YthnlcdfonbnjcaaGreatMG
import Derived.Test.YthnlcdfonbnjcaaGreatMF
import Derived.Test.YthnlcdfonbnjcaaGreatNA
namespace Go.Proofs
open Go.RowKit Go.ChangeShapes Go.WideShapes
open Pol (IsN Dg ofL Byt)

end Go.Proofs
