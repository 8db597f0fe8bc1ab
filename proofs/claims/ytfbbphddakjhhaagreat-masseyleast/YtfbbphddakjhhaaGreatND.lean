/- Texts laid together: GEch, GSol. Each says its own conditions. -/
import Derived.Test.YtfbbphddakjhhaaGreatMO
import Derived.Test.YtfbbphddakjhhaaGreatNA
/- The walks of gauss.Echelon and Rank. Conditions: any numbers of rows and columns, and cells of bytes; a field that Of has made, in whose table the cells do not lie. -/
namespace Go.Proofs
open Go.RowKit Go.ChangeShapes Go.WideShapes
open Mx (Mat cells upd prt lay mx rowL bes IsEch)
open Pol (Byt ofL)

/-- What is told of any matrix, right or not: its rows, columns and cells, and where rows lead. -/
def EchO (R C : Int) (n : Nat) (xs : List Nat) (r c : Nat) (ys L : List Nat) : Prop :=
  (rightB R C n = true ∧ R = (r : Int) ∧ C = (c : Int) ∧ IsEch r c xs ys L) ∨ (rightB R C n = false ∧ r = 0 ∧ c = 0 ∧ ys = [] ∧ L = [])
theorem right_split {R C : Int} {n : Nat} (h : rightB R C n = true) : ∃ r c : Nat, R = (r : Int) ∧ C = (c : Int) ∧ r ≤ 300 ∧ c ≤ 300 ∧ n = r * c := by
  unfold rightB at h
  simp only [Bool.and_eq_true, decide_eq_true_eq, side_true] at h
  obtain ⟨⟨⟨h1, h2⟩, h3, h4⟩, h5⟩ := h
  refine ⟨R.toNat, C.toNat, by omega, by omega, by omega, by omega, ?_⟩
  have e1 : R = (R.toNat : Int) := by omega
  have e2 : C = (C.toNat : Int) := by omega
  rw [e1, e2, ← Int.natCast_mul] at h5
  exact Int.ofNat.inj h5
theorem results_two {fn : Func} {p : Tmp} {ty : TypeId} {s : Tmp} (h : fn.results = #[.cell p ty, .tmp s]) {tmps : Array Value} {P : Program} {w : World} {a : Addr} {v : Value} (hp : tmps.getD p undef = .pointer (some a)) (hl : (loadVar ty a).run P w = .ok v w) :
    (results fn tmps).run P w = .ok (.tuple #[v, tmps.getD s undef]) w := by
  simp only [results, h]
  simp only [Array.getD_eq_getD_getElem?] at hp ⊢
  simp [hp, asAddr, hl]

end Go.Proofs
/- The walks of gauss.solveAll and Solve. Conditions: any numbers of rows and columns, and cells of bytes; a field that Of has made, in whose table the cells do not lie. -/
namespace Go.Proofs
open Go.RowKit Go.ChangeShapes Go.WideShapes
open Mx (Mat cells upd prt lay mx rowL bes IsEch Sol dot solx)
open Pol (Byt ofL)

namespace Mx
end Mx

end Go.Proofs
