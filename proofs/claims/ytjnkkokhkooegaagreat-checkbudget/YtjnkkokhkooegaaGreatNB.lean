/- The walk of the work's lead. Conditions: no more than 300 rows and 600 columns; a field that Of has made; the row leads, and has noughts ahead. -/
import Derived.Deep.RegionWith
import Derived.Test.YtjnkkokhkooegaaGreatNA
import Derived.Test.YtjnkkokhkooegaaGreatMG
namespace Go.Proofs
open Go.RowKit Go.ChangeShapes Go.WideShapes
open Mx (Mat cells upd prt lay)
open Pol (Byt ofL)

namespace Mx
theorem ofL_map (x : Nat) (hx : x < 256) (ys : List Nat) (hy : Byt ys) (t : Nat) (ht : t < ys.length) : ofL (ys.map (Gf.mul x)) t = GF.of x * ofL ys t := by
  unfold Pol.ofL
  have e : (ys.map (Gf.mul x)).getD t 0 = Gf.mul x (ys.getD t 0) := by simp [List.getD, ht]
  rw [e, GF.of_mul x _ hx (hy t)]
end Mx

end Go.Proofs
