/- The walks of matrix.dots and Times. Conditions: a right matrix; a column of as many bytes as it has columns; a field that Of has made, in whose table none of them lies. -/
import Derived.Test.YtjnkkokhkooegaaGreatNF
import Derived.Test.YtjnkkokhkooegaaGreatMJ
import Derived.Test.YtjnkkokhkooegaaGreatMG
namespace Go.Proofs
open Go.RowKit Go.Shelf Go.ChangeShapes Go.WideShapes
open Mx (Mat cells upd prt lay mx rowL timesL)
open Pol (Byt ofL)
attribute [local go_sem] Oper.semAt_some

end Go.Proofs
