/- The walks of massey.Makes and massey.Next. Conditions: a field that Of has made; lists of at most a million bytes, apart from its table. -/
import Derived.Test.YthnlcdfonbnjcaaGreatQC
import Derived.Test.YthnlcdfonbnjcaaGreatQA
import Derived.Test.YthnlcdfonbnjcaaGreatMG
namespace Go.Proofs
open Go.RowKit Go.ChangeShapes Go.WideShapes
open Pol (IsN Dg ofL Byt)

end Go.Proofs
