/- The walks of matrix.blank, rowsOf and its iterator: the rows of a right matrix, one by one. Conditions: no more than 300 rows and 300 columns. -/
import Derived.Test.YtjnkkokhkooegaaGreatNC
import Derived.Test.YtjnkkokhkooegaaGreatMI
namespace Go.Proofs
open Go.RowKit Go.Shelf Go.ChangeShapes Go.WideShapes
open Mx (Mat cells upd prt lay mx rowL)
open Pol (Byt ofL)
attribute [local go_sem] Oper.semAt_some

/-- A round keeps the matrix' box. -/
def KeepsM (B : Nat) (W W' : World) : Prop := ∀ i v, W.cell? ⟨B, i, none⟩ = some v → W'.cell? ⟨B, i, none⟩ = some v
theorem Mb.keeps {W W' : World} {B : Nat} {v0 v1 v2 : Value} (h : Mb W B v0 v1 v2) (k : KeepsM B W W') : Mb W' B v0 v1 v2 := ⟨k 0 _ h.c0, k 1 _ h.c1, k 2 _ h.c2⟩
end Go.Proofs
