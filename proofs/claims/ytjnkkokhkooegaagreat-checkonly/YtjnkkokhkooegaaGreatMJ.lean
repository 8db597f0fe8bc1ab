/- Texts laid together: PMulR, RoundH, PMul. Each says its own conditions. -/
import Derived.RangeFuncCalls
import Derived.OrdersIn
import Derived.Deep.RegionHeld3
import Derived.TacticsInMore
import Derived.Test.YtjnkkokhkooegaaGreatMI
/- What the rounds of poly.Mul add up, and the two calls of a round. Conditions: bytes; a field that Of has made. -/
namespace Go.Proofs
open Go.RowKit Go.Shelf Go.ChangeShapes Go.WideShapes
attribute [local go_sem] Oper.semAt_some
open Pol (IsN Dg ofL Byt)

/-! What the rounds add up. -/
theorem keepsP_but {S : Nat → Prop} {B n : Nat} {q : Option Addr} {W W' : World} (h : But S W W') (hB : ¬ S B) (hq : 0 < n → ∀ a, q = some a → ¬ S a.block) : KeepsP B q n W W' :=
  ⟨fun v e => (h.cell (p := ⟨B, 0, none⟩) (World.block_lt_of_cell? _ _ e) hB).trans e, fun a e i hi v hv => (h.cell (World.block_lt_of_cell? _ _ hv) (by rw [block_add]; exact hq (by omega) a e)).trans hv⟩

end Go.Proofs
/- A region that draws its order, in a round of a range over a function: it may be walked as anywhere else. Nothing of the program. -/
namespace Go.Proofs
open Go.RowKit

section
variable {P : Program} {ops : Array Oper} {Q : Exit → Act → World → Prop} {md : Region.Mode} {S : World → Prop} {l n : Nat}
end
end Go.Proofs
/- The walk of poly.Mul. Conditions: lists of at most a hundred million bytes, no longer than their capacities; a field that Of has made, and lists that do not lie in its table. -/
namespace Go.Proofs
open Go.RowKit Go.Shelf Go.ChangeShapes Go.WideShapes
attribute [local go_sem] Oper.semAt_some
open Pol (IsN Dg ofL Byt)

end Go.Proofs
