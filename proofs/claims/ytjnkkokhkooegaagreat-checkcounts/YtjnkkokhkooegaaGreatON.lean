/- The walks of synd.Locator, Modified and Syndromes. Conditions: lists that are no great ones; a field that Of has made, and lists apart from its table. -/
import Derived.Test.YtjnkkokhkooegaaGreatOJ
import Derived.Test.YtjnkkokhkooegaaGreatOK
import Derived.Test.YtjnkkokhkooegaaGreatMV
import Derived.Test.YtjnkkokhkooegaaGreatNW
import Derived.Test.YtjnkkokhkooegaaGreatOA
import Derived.Test.YtjnkkokhkooegaaGreatMH
namespace Go.Proofs
open Go.RowKit Go.ChangeShapes Go.WideShapes
open Pol (IsN Dg ofL Byt vl)

end Go.Proofs
