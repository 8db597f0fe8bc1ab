/- Polynomials of literals. Nothing of the program. -/
import Derived.Test.YtphhehppcfddgaaGreatPolyX
namespace Go.Proofs
open Go.RowKit
open Pol (IsN Dg ofL Byt)
theorem square_11 : IsN [1, 0, 1] (Pol.mul (ofL [1, 1]) (ofL [1, 1])) := by
  have e1 : ofL [1, 1] = Pol.add Pol.one (Pol.up 1 Pol.one) := by
    funext i
    match i with
    | 0 => rfl
    | 1 => rfl
    | n + 2 =>
      show GF.of ([1, 1].getD (n + 2) 0) = _ + _
      simp [List.getD, Pol.one, Pol.mono, Pol.up]
      rfl
  have e2 : Pol.mul (ofL [1, 1]) (ofL [1, 1]) = Pol.add (ofL [1, 1]) (Pol.up 1 (ofL [1, 1])) := by
    conv => lhs; arg 1; rw [e1]
    rw [Pol.add_mul, Pol.up_mul, Pol.one_mul]
  refine ⟨fun _ => by decide, byt_lit rfl, ?_⟩
  rw [e2]
  funext i
  match i with
  | 0 => rfl
  | 1 => rfl
  | 2 => rfl
  | n + 3 =>
    show GF.of ([1, 0, 1].getD (n + 3) 0) = GF.of ([1, 1].getD (n + 3) 0) + (if 1 ≤ n + 3 then GF.of ([1, 1].getD (n + 3 - 1) 0) else 0)
    simp [List.getD]
    rfl
theorem dg_050 : Dg 2 (ofL [0, 5, 0]) := by
  refine ⟨fun i hi => ?_, fun _ e => ?_⟩
  · match i, hi with
    | 2, _ => rfl
    | n + 3, _ => show GF.of ([0, 5, 0].getD (n + 3) 0) = 0; simp [List.getD]; rfl
  · have := congrArg GF.val e
    revert this
    decide
theorem isN_00 : IsN [] (ofL [0, 0]) := by
  have : ofL [0, 0] = Pol.zero := Pol.ofL_rep 2
  rw [this]
  exact Pol.isN_nil
theorem dg_nil : Dg 0 (ofL []) := by rw [Pol.ofL_nil]; exact Pol.dg_zero
theorem bs_nil (W : World) : Bs W none 0 [] := ⟨rfl, by omega, fun i hi => absurd hi (Nat.not_lt_zero i), Pol.byt_nil⟩
theorem dg_11 : Dg 2 (ofL [1, 1]) := by
  refine ⟨fun i hi => ?_, fun _ e => ?_⟩
  · match i, hi with
    | n + 2, _ => show GF.of ([1, 1].getD (n + 2) 0) = 0; simp [List.getD]; rfl
  · exact GF.one_ne_zero e
theorem isN_11 : IsN [1, 1] (ofL [1, 1]) := ⟨fun _ => by decide, byt_lit rfl, rfl⟩
theorem dg_0 : Dg 0 (ofL [0]) := by
  have : ofL [0] = Pol.zero := Pol.ofL_rep 1
  rw [this]
  exact Pol.dg_zero
end Go.Proofs
