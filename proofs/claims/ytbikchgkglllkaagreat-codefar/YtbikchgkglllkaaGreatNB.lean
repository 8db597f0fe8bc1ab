/- The walk of the work's lead. Conditions: no more than 300 rows and 600 columns; a field that Of has made; the row leads, and has noughts ahead. -/
import Derived.Deep.RegionWith
import Derived.Test.YtbikchgkglllkaaGreatNA
import Derived.Test.YtbikchgkglllkaaGreatMG
namespace Go.Proofs
open Go.RowKit Go.ChangeShapes Go.WideShapes
open Mx (Mat cells upd prt lay)
open Pol (Byt ofL)

namespace Mx
/-- Row p leads with 1 in column j, which is 0 in all other rows. -/
def ldM (p j : Nat) (M : Mat) : Mat := fun a b => if a = p then GF.inv (M p j) * M p b else M a b + M a j * (GF.inv (M p j) * M p b)
/-- The same, as far as row t. -/
def ldT (p j t : Nat) (M : Mat) : Mat := fun a b => if a = p then GF.inv (M p j) * M p b else if a < t then M a b + M a j * (GF.inv (M p j) * M p b) else M a b
theorem ofL_map (x : Nat) (hx : x < 256) (ys : List Nat) (hy : Byt ys) (t : Nat) (ht : t < ys.length) : ofL (ys.map (Gf.mul x)) t = GF.of x * ofL ys t := by
  unfold Pol.ofL
  have e : (ys.map (Gf.mul x)).getD t 0 = Gf.mul x (ys.getD t 0) := by simp [List.getD, ht]
  rw [e, GF.of_mul x _ hx (hy t)]
/-- The row is multiplied. -/
theorem ld_start {R C p j : Nat} (M : Mat) (hj : j < C) (hz : ∀ c, c < j → M p c = 0) (a : Nat) (ha : a = (GF.inv (M p j)).val) : Eq R C (lay M p j ((prt M p j (C - j)).map (Gf.mul a))) (ldT p j 0 M) := fun i b _ hb => by
  have hl : ((prt M p j (C - j)).map (Gf.mul a)).length = C - j := by rw [List.length_map, prt_length]
  have hal : a < 256 := ha ▸ GF.lt _
  unfold lay ldT
  rw [hl]
  by_cases e : i = p
  · subst e
    rw [if_pos rfl]
    by_cases h : j ≤ b
    · rw [if_pos ⟨rfl, h, by omega⟩, ofL_map a hal _ (prt_byt _ _ _ _) _ (by rw [prt_length]; omega), prt_ofL _ _ _ _ _ (by omega), ha, GF.of_self]
      congr 2; omega
    · rw [if_neg (fun k => h k.2.1), hz b (by omega), GF.mul_zero]
  · rw [if_neg (fun k => e k.1), if_neg e, if_neg (Nat.not_lt_zero i)]
theorem ld_end {R C p j : Nat} (M : Mat) : Eq R C (ldT p j R M) (ldM p j M) := fun i b hi _ => by
  unfold ldT ldM; rw [if_pos hi]
theorem ld_skip {R C p j t : Nat} (M : Mat) (h : t = p ∨ M t j = 0) : Eq R C (ldT p j t M) (ldT p j (t + 1) M) := fun i b _ _ => by
  unfold ldT
  by_cases e : i = p
  · rw [if_pos e, if_pos e]
  · rw [if_neg e, if_neg e]
    by_cases e1 : i < t
    · rw [if_pos e1, if_pos (by omega)]
    · rw [if_neg e1]
      by_cases e2 : i < t + 1
      · obtain rfl : i = t := by omega
        rw [if_pos e2]
        rcases h with h | h
        · exact absurd h e
        · rw [h, GF.zero_mul, GF.add_zero]
      · rw [if_neg e2]
theorem ldT_top {p j t b : Nat} (M : Mat) : ldT p j t M p b = GF.inv (M p j) * M p b := by unfold ldT; rw [if_pos rfl]
theorem ldT_here {p j t b : Nat} (M : Mat) (h : t ≠ p) : ldT p j t M t b = M t b := by unfold ldT; rw [if_neg h, if_neg (Nat.lt_irrefl t)]
/-- So many times it is added to row t. -/
theorem ld_next {R C p j t : Nat} (M : Mat) (hj : j < C) (hz : ∀ c, c < j → M p c = 0) (htp : t ≠ p) (x : Nat) (hx : x = (M t j).val) :
    Eq R C (fun a b => if a = t ∧ j ≤ b ∧ b < j + (C - j) then ldT p j t M a b + ofL ((prt (ldT p j t M) p j (C - j)).map (Gf.mul x)) (b - j) else ldT p j t M a b) (ldT p j (t + 1) M) := fun i b _ hb => by
  have hxl : x < 256 := hx ▸ GF.lt _
  show (if i = t ∧ j ≤ b ∧ b < j + (C - j) then _ else _) = _
  by_cases e : i = t
  · subst e
    by_cases h : j ≤ b
    · rw [if_pos ⟨rfl, h, by omega⟩, ofL_map x hxl _ (prt_byt _ _ _ _) _ (by rw [prt_length]; omega), prt_ofL _ _ _ _ _ (by omega), ldT_top, ldT_here M htp, hx, GF.of_self]
      unfold ldT
      rw [if_neg htp, if_pos (Nat.lt_succ_self i)]
      congr 4; omega
    · rw [if_neg (fun k => h k.2.1), ldT_here M htp]
      unfold ldT
      rw [if_neg htp, if_pos (Nat.lt_succ_self i), hz b (by omega), GF.mul_zero, GF.mul_zero, GF.add_zero]
  · rw [if_neg (fun k => e k.1)]
    unfold ldT
    by_cases e1 : i = p
    · rw [if_pos e1, if_pos e1]
    · rw [if_neg e1, if_neg e1]
      by_cases e2 : i < t
      · rw [if_pos e2, if_pos (by omega)]
      · rw [if_neg e2, if_neg (by omega)]
end Mx

end Go.Proofs
