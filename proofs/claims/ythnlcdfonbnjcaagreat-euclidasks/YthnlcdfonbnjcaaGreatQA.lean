/- The walks of slices.Grow (of a slice without memory) and slices.Concat of two lists of bytes. Condition: bounds on lengths. -/
import Derived.Test.YthnlcdfonbnjcaaGreatMG
import Derived.Test.YthnlcdfonbnjcaaGreatNA
import Derived.Test.YthnlcdfonbnjcaaGreatMO
namespace Go.Proofs
open Go.RowKit Go.ChangeShapes Go.WideShapes
attribute [local go_sem ↓ high] builtin_ap
attribute [local go_sem] ap_sem
open Pol (Byt)

end Go.Proofs
