/- Texts laid together: EnD, EnC, EnF. Each says its own conditions. -/
import Derived.Test.YtddhefhabhgdfaaGreatNW
import Derived.Test.YtddhefhabhgdfaaGreatNR
/- The walks of encode's demands (given, right, long) and of first, which goes through them in order. Conditions: as many demands as a list may have; each one's closure tells its answer in whatever world comes after. -/
namespace Go.Proofs
open Go.RowKit Go.ChangeShapes Go.WideShapes

/-- What has to hold, and the error if it does not: the closure's function, what it has caught, the error, the answer. -/
structure Dm where
  F : Nat
  A : Array Value
  E : Nat
  b : Bool
/-- Demands in memory, from the block G on. -/
structure Dms (w : World) (G : Nat) (ds : List Dm) : Prop where
  fn : ∀ (i : Nat) (d : Dm), ds[i]? = some d → w.cell? ⟨G, i * 2, none⟩ = some (.func (.func d.F) #[] d.A)
  er : ∀ (i : Nat) (d : Dm), ds[i]? = some d → w.cell? ⟨G, i * 2 + 1, none⟩ = some (.int .u16 (d.E : Nat))
  en : ∀ (i : Nat) (d : Dm), ds[i]? = some d → ∀ W, Sem.run Tryz.prog (callFunc d.F d.A) W = .ok (.enter d.F d.A) W
  calls : ∀ (i : Nat) (d : Dm), ds[i]? = some d → ∀ W, Below w.heap.size w W → Calls Tryz.prog d.F d.A W fun e w' => e = .returned (.bool d.b) ∧ Below W.heap.size W w'
theorem Dms.lt {w : World} {G : Nat} {ds : List Dm} (h : Dms w G ds) {i : Nat} {d : Dm} (hd : ds[i]? = some d) : G < w.heap.size := World.block_lt_of_cell? _ _ (h.fn i d hd)
end Go.Proofs
/- The walks of encode's demands: given, right and long, and of their closures. Conditions: as much memory as there is. -/
namespace Go.Proofs
open Go.RowKit Go.ChangeShapes Go.WideShapes

end Go.Proofs
/- The demands of encode in memory, and first of them: of two and of three. Conditions: none but that they lie there. -/
namespace Go.Proofs
open Go.RowKit Go.ChangeShapes Go.WideShapes

end Go.Proofs
