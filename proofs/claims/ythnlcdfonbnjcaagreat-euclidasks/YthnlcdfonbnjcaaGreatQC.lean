/- The walk of massey's change.mended: the last change's register is laid over the one at hand. Conditions: a field that Of has made; lists of at most a million bytes, apart from its table; a last change that did miss. -/
import Derived.Test.YthnlcdfonbnjcaaGreatQB
import Derived.Test.YthnlcdfonbnjcaaGreatQA
import Derived.Test.YthnlcdfonbnjcaaGreatMG
namespace Go.Proofs
open Go.RowKit Go.ChangeShapes Go.WideShapes
open Pol (IsN Dg ofL Byt)

end Go.Proofs
