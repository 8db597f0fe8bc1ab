/- The walks of erratumref12: Locator, Modified, Syndromes. Conditions: lists that are no great ones. -/
import Derived.Test.YtjnkkokhkooegaaGreatON
import Derived.Test.YtjnkkokhkooegaaGreatNY
import Derived.Test.YtjnkkokhkooegaaGreatMW
import Derived.Test.YtjnkkokhkooegaaGreatMS
import Derived.Test.YtjnkkokhkooegaaGreatOG
namespace Go.Proofs
open Go.RowKit Go.ChangeShapes Go.WideShapes
open Pol (IsN Dg ofL Byt vl)
attribute [local go_sem ↓ high] builtin_ap
attribute [local go_sem] ap_sem

end Go.Proofs
