/- Normal lists of polynomials: of each polynomial there is one. Nothing of the program. -/
import Derived.Test.YtphhehppcfddgaaGreatPolyM
namespace Go.Proofs
namespace Pol
/-- zs is the normal list of p. -/
structure IsN (zs : List Nat) (p : Pol) : Prop where
  nrm : Nrm zs
  byt : Byt zs
  eq : ofL zs = p
theorem IsN.dg {zs : List Nat} {p : Pol} (h : IsN zs p) : Dg zs.length p := h.eq ▸ h.nrm.dg h.byt
theorem IsN.unique {zs ys : List Nat} {p : Pol} (h : IsN zs p) (k : IsN ys p) : zs = ys := ofL_inj h.nrm k.nrm h.byt k.byt (h.eq.trans k.eq.symm)
theorem IsN.len {zs : List Nat} {p : Pol} {d : Nat} (h : IsN zs p) (k : Dg d p) : zs.length = d := h.dg.unique k
theorem isN_of_dg {d : Nat} {p : Pol} (h : Dg d p) : IsN (toL d p) p := ⟨toL_nrm h, toL_byt d p, ofL_toL h.bd⟩
theorem isN_of_bd {n : Nat} {p : Pol} (h : Bd n p) : ∃ zs, IsN zs p ∧ zs.length ≤ n := by
  obtain ⟨d, hd, hg⟩ := dg_of_bd n p h
  exact ⟨_, isN_of_dg hg, by rw [toL_length]; exact hd⟩
theorem dg_list (xs : List Nat) : ∃ d, d ≤ xs.length ∧ Dg d (ofL xs) := dg_of_bd _ _ (ofL_bd xs)
theorem Dg.le {d n : Nat} {p : Pol} (h : Dg d p) (k : Bd n p) : d ≤ n := by
  rcases Nat.lt_or_ge n d with hl | hl
  · exact absurd (k (d - 1) (by omega)) (h.top (by omega))
  · exact hl
theorem getD_take (xs : List Nat) (d i : Nat) : (xs.take d).getD i 0 = if i < d then xs.getD i 0 else 0 := by
  by_cases h : i < d
  · rw [if_pos h]; simp [List.getD, h]
  · rw [if_neg h]; simp [List.getD, List.getElem?_take, h]
theorem byt_take {xs : List Nat} (h : Byt xs) (d : Nat) : Byt (xs.take d) := fun i => by rw [getD_take]; split; exact h i; decide
theorem ofL_take (xs : List Nat) (d : Nat) : ofL (xs.take d) = cut d (ofL xs) := by
  funext i
  unfold ofL cut
  rw [getD_take]
  split <;> rfl
/-- What is left of a list without the noughts at its end. -/
theorem isN_take {xs : List Nat} (hb : Byt xs) {d : Nat} (h : Dg d (ofL xs)) : IsN (xs.take d) (ofL xs) := by
  have hle := h.le (ofL_bd xs)
  have hl : (xs.take d).length = d := by rw [List.length_take]; omega
  refine ⟨fun h0 => ?_, byt_take hb d, by rw [ofL_take, cut_bd h.bd]⟩
  rw [hl] at h0 ⊢
  rw [getD_take, if_pos (by omega)]
  intro e
  exact h.top h0 (by unfold ofL; rw [e]; rfl)
theorem getD_drop (xs : List Nat) (k i : Nat) : (xs.drop k).getD i 0 = xs.getD (i + k) 0 := by simp [List.getD, Nat.add_comm]
theorem ofL_drop (xs : List Nat) (k : Nat) : ofL (xs.drop k) = down k (ofL xs) := by
  funext i
  unfold ofL down
  rw [getD_drop]
theorem byt_drop {xs : List Nat} (h : Byt xs) (k : Nat) : Byt (xs.drop k) := fun i => by rw [getD_drop]; exact h _
theorem getD_rep (n i : Nat) : (List.replicate n 0).getD i 0 = 0 := by
  simp only [List.getD, List.getElem?_replicate]
  split <;> rfl
theorem ofL_rep (n : Nat) : ofL (List.replicate n 0) = zero := by
  funext i
  unfold ofL
  rw [getD_rep]; rfl
theorem getD_append (xs ys : List Nat) (i : Nat) : (xs ++ ys).getD i 0 = if i < xs.length then xs.getD i 0 else ys.getD (i - xs.length) 0 := by
  simp only [List.getD, List.getElem?_append]
  split <;> rfl
theorem ofL_up (n : Nat) (xs : List Nat) : ofL (List.replicate n 0 ++ xs) = up n (ofL xs) := by
  funext i
  unfold ofL up
  rw [getD_append, List.length_replicate]
  by_cases h : i < n
  · rw [if_pos h, if_neg (by omega), getD_rep]; rfl
  · rw [if_neg h, if_pos (by omega)]
theorem byt_nil : Byt [] := fun i => by simp
theorem byt_rep (n : Nat) : Byt (List.replicate n 0) := fun i => by rw [getD_rep]; decide
theorem byt_append {xs ys : List Nat} (h : Byt xs) (k : Byt ys) : Byt (xs ++ ys) := fun i => by rw [getD_append]; split; exact h _; exact k _
theorem isN_nil : IsN [] zero := ⟨fun h => absurd rfl h, byt_nil, ofL_nil⟩
theorem isN_zero {zs : List Nat} (h : IsN zs zero) : zs = [] := h.unique isN_nil
theorem IsN.nil_iff {zs : List Nat} {p : Pol} (h : IsN zs p) : zs.length = 0 ↔ p = zero := by
  constructor
  · intro e
    rw [← h.eq, List.length_eq_zero_iff.1 e, ofL_nil]
  · rintro rfl
    rw [isN_zero h]; rfl
theorem ofL_map {xs : List Nat} (a : Nat) (ha : a < 256) (hb : Byt xs) : ofL (xs.map (Gf.mul a)) = smul (GF.of a) (ofL xs) := by
  funext i
  unfold ofL smul
  rw [← GF.of_mul a _ ha (hb i)]
  congr 1
  simp only [List.getD, List.getElem?_map]
  cases xs[i]? with
  | none => simp [Gf.mul_zero]
  | some x => rfl
end Pol
end Go.Proofs
