/- Texts laid together: MxF, MxD. Each says its own conditions. -/
import Derived.Test.YtjnkkokhkooegaaGreatNA
import Derived.Test.YtjnkkokhkooegaaGreatMG
/- The walks of matrix.blank, rowsOf and its iterator: the rows of a right matrix, one by one. Conditions: no more than 300 rows and 300 columns. -/
namespace Go.Proofs
open Go.RowKit Go.Shelf Go.ChangeShapes Go.WideShapes
open Mx (Mat cells upd prt lay mx rowL)
open Pol (Byt ofL)
attribute [local go_sem] Oper.semAt_some

/-- A round keeps the matrix' box. -/
def KeepsM (B : Nat) (W W' : World) : Prop := ∀ i v, W.cell? ⟨B, i, none⟩ = some v → W'.cell? ⟨B, i, none⟩ = some v
theorem Mb.keeps {W W' : World} {B : Nat} {v0 v1 v2 : Value} (h : Mb W B v0 v1 v2) (k : KeepsM B W W') : Mb W' B v0 v1 v2 := ⟨k 0 _ h.c0, k 1 _ h.c1, k 2 _ h.c2⟩
end Go.Proofs
/- The walks of matrix.dots and Times. Conditions: a right matrix; a column of as many bytes as it has columns; a field that Of has made, in whose table none of them lies. -/
namespace Go.Proofs
open Go.RowKit Go.Shelf Go.ChangeShapes Go.WideShapes
open Mx (Mat cells upd prt lay mx rowL timesL)
open Pol (Byt ofL)
attribute [local go_sem] Oper.semAt_some

end Go.Proofs
