/- Texts laid together: GApi, GNul. Each says its own conditions. -/
import Derived.Test.YtfbbphddakjhhaaGreatND
import Derived.Test.YtfbbphddakjhhaaGreatNA
/- The walks of gauss.Solve, nullAt, slices.Contains of ints. Conditions: any numbers of rows and columns, and cells of bytes; a field that Of has made. -/
namespace Go.Proofs
open Go.RowKit Go.ChangeShapes Go.WideShapes
open Mx (Mat cells upd prt lay mx rowL bes IsEch Sol dot solx IsSol nv nulL)
open Pol (Byt ofL toL)

/-- What is told of any matrix and any column. -/
def SlO (R C : Int) (n : Nat) (xs : List Nat) (m : Nat) (ys zs : List Nat) (ok : Bool) : Prop :=
  (ok = true ∧ rightB R C n = true ∧ R = (m : Int) ∧ IsSol R.toNat C.toNat xs ys zs) ∨
  (ok = false ∧ zs = [] ∧ (rightB R C n = true → R = (m : Int) → ∀ x : Nat → GF, ¬ ∀ i, i < R.toNat → dot C.toNat (mx C.toNat xs i) x = ofL ys i))
theorem slO_exists (R C : Int) (n : Nat) (xs : List Nat) (m : Nat) (ys : List Nat) : ∃ zs ok, SlO R C n xs m ys zs ok := by
  by_cases h : rightB R C n = true ∧ R = (m : Int)
  · rcases Mx.isSol_dec R.toNat C.toNat xs ys with ⟨x, hx⟩ | hno
    · exact ⟨x, true, .inl ⟨rfl, h.1, h.2, hx⟩⟩
    · exact ⟨[], false, .inr ⟨rfl, rfl, fun _ _ => hno⟩⟩
  · exact ⟨[], false, .inr ⟨rfl, rfl, fun a b => absurd ⟨a, b⟩ h⟩⟩

end Go.Proofs
/- The walks of gauss.nullAt and Null. Conditions: any numbers of rows and columns, and cells of bytes; a field that Of has made. -/
namespace Go.Proofs
open Go.RowKit Go.ChangeShapes Go.WideShapes
open Mx (Mat cells upd prt lay mx rowL bes IsEch nv nulL nullL freeL)
open Pol (Byt ofL toL)
attribute [local go_sem ↓ high] builtin_ap
attribute [local go_sem] ap_sem

namespace Mx
theorem toL_set {C : Nat} {p p' : Nat → GF} {i x : Nat} (hx : x < 256) (h1 : i < C → p' i = GF.of x) (h2 : ∀ a, a < C → a ≠ i → p' a = p a) : (toL C p).set i x = toL C p' := by
  refine list_ext (by rw [List.length_set, Pol.toL_length, Pol.toL_length]) fun a ha => ?_
  rw [List.length_set, Pol.toL_length] at ha
  rw [getD_set, Pol.toL_length, Pol.toL_at, Pol.toL_at, if_pos ha, if_pos ha]
  by_cases e : i = a
  · subst e; rw [if_pos ⟨rfl, ha⟩, h1 ha, GF.of_val x hx]
  · rw [if_neg (fun k => e k.1), h2 a ha (Ne.symm e)]
end Mx

namespace Mx
end Mx
theorem OwL.isSlice {W : World} {base : Nat} {v : Value} {xss : List (List Nat)} (h : OwL W base v xss) : ∃ q c, v = .slice q xss.length c := by
  obtain ⟨vs, h1, h2, _⟩ := h
  rw [← h2]
  rcases h1.shape with ⟨rfl, rfl⟩ | ⟨g, c, rfl, _⟩
  · exact ⟨_, _, rfl⟩
  · exact ⟨_, _, rfl⟩

end Go.Proofs
