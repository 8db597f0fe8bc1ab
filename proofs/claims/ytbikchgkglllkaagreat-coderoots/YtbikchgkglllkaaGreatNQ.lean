/- Texts laid together: Ref04, RPlus. Each says its own conditions. -/
import Derived.Test.YtbikchgkglllkaaGreatMG
import Derived.Test.YtbikchgkglllkaaGreatMC
import Derived.Test.YtbikchgkglllkaaGreatMS
import Derived.Test.YtbikchgkglllkaaGreatMO
/- The walks of the document's answers of layer 4 (erratumref04), and of erratumref01.Div. Conditions: bytes; lists of at most a thousand million. -/
namespace Go.Proofs
open Go.RowKit Go.ChangeShapes Go.WideShapes
attribute [local go_sem ↓ high] builtin_ap
attribute [local go_sem] ap_sem

theorem zip_snoc (xs ys : List Nat) (k : Nat) (h1 : k < xs.length) (h2 : k < ys.length) : List.zipWith Gf.mul (xs.take (k + 1)) (ys.take (k + 1)) = List.zipWith Gf.mul (xs.take k) (ys.take k) ++ [Gf.mul (xs.getD k 0) (ys.getD k 0)] := by
  rw [take_snoc xs k h1, take_snoc ys k h2, List.zipWith_append (by simp; omega)]
  rfl
end Go.Proofs
/- The walk of erratumref09.plus: a row, and so many times another one. Conditions: bytes; two lists of one length. -/
namespace Go.Proofs
open Go.RowKit Go.ChangeShapes Go.WideShapes
attribute [local go_sem ↓ high] builtin_ap
attribute [local go_sem] ap_sem

/-- A list, and a times another one. -/
def plusL (n a : Nat) (xs ys : List Nat) : List Nat := (List.range n).map fun i => xs.getD i 0 ^^^ Gf.mul a (ys.getD i 0)
theorem plusL_length (n a : Nat) (xs ys : List Nat) : (plusL n a xs ys).length = n := by simp [plusL]
theorem plusL_succ (n a : Nat) (xs ys : List Nat) : plusL (n + 1) a xs ys = plusL n a xs ys ++ [xs.getD n 0 ^^^ Gf.mul a (ys.getD n 0)] := by unfold plusL; rw [List.range_succ, List.map_append]; rfl
end Go.Proofs
