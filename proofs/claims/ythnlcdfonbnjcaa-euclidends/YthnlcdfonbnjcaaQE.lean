/- The walks of massey.Makes and massey.Next. Conditions: a field that Of has made; lists of at most a million bytes, apart from its table. -/
import Derived.Test.YthnlcdfonbnjcaaQC
import Derived.Test.YthnlcdfonbnjcaaQA
import Derived.Test.YthnlcdfonbnjcaaMG
namespace Go.Proofs
open Go.RowKit Go.ChangeShapes Go.WideShapes
open Pol (IsN Dg ofL Byt)

end Go.Proofs
