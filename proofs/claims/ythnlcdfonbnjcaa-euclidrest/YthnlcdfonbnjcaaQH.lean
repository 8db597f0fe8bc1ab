/- The walk of erratumlaw14.Made: bytes that a register makes behind as many of its own. Conditions: lists of at most a million bytes, no more than a hundred thousand that are made. -/
import Derived.BigQuiet
import Derived.Test.YthnlcdfonbnjcaaNU
import Derived.Test.YthnlcdfonbnjcaaMC
import Derived.Test.YthnlcdfonbnjcaaMO
import Derived.Test.YthnlcdfonbnjcaaMG
import Derived.Test.YthnlcdfonbnjcaaNA
namespace Go.Proofs
open Go.RowKit Go.ChangeShapes Go.WideShapes
attribute [local go_sem ↓ high] builtin_ap
attribute [local go_sem] ap_sem
open Pol (Byt ofL)
open Ms (mdL mdN)

end Go.Proofs
