/- Texts laid together: Ref05, Ref05b, Ref05c, RDivB. Each says its own conditions. -/
import Derived.Deep.RegionWith
import Derived.Test.YthnlcdfonbnjcaaMG
import Derived.Test.YthnlcdfonbnjcaaMO
import Derived.Test.YthnlcdfonbnjcaaMC
import Derived.Test.YthnlcdfonbnjcaaMF
/- The walks of the document's answers of layer 5 (erratumref05): Deg, Norm, Coef, Same, Cut, Scale, Add. Conditions: lists of at most a thousand million bytes, no longer than their capacities. -/
namespace Go.Proofs
open Go.RowKit Go.ChangeShapes Go.WideShapes
attribute [local go_sem ↓ high] builtin_ap
attribute [local go_sem] ap_sem
open Pol (IsN Dg ofL Byt)

end Go.Proofs
/- The walks of the document's answers of layer 5 (erratumref05): Scale, Add. Conditions: lists of at most a hundred million bytes, no longer than their capacities. -/
namespace Go.Proofs
open Go.RowKit Go.ChangeShapes Go.WideShapes
attribute [local go_sem ↓ high] builtin_ap
attribute [local go_sem] ap_sem
open Pol (IsN Dg ofL Byt)

end Go.Proofs
/- The walk of the document's answer of layer 5 (erratumref05): Mul. Conditions: lists of at most a hundred million bytes. -/
namespace Go.Proofs
open Go.RowKit Go.ChangeShapes Go.WideShapes
open Pol (IsN Dg ofL Byt)

end Go.Proofs
/- The walk of erratumref01.Div. Condition: bytes. -/
namespace Go.Proofs
open Go.RowKit Go.ChangeShapes Go.WideShapes

end Go.Proofs
