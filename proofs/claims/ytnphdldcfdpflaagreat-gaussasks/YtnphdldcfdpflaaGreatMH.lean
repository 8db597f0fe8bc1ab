/- Normal lists of sums, products and multiples; lists of literals. -/
import Derived.Test.YtnphdldcfdpflaaGreatMA
import Derived.Test.YtnphdldcfdpflaaGreatMG
namespace Go.Proofs
open Go.RowKit
namespace Pol
theorem bd_mul {a b : Nat} {p q : Pol} (hp : Bd a p) (hq : Bd b q) : Bd (a + b) (mul p q) := by
  cases a with
  | zero => rw [bd_zero hp, zero_mul]; exact Bd.zero _
  | succ a =>
    cases b with
    | zero => rw [bd_zero hq, mul_zero]; exact Bd.zero _
    | succ b => exact (hp.mul hq).mono_le (by omega)
theorem isN_mul (xs ys : List Nat) : ∃ zs, IsN zs (mul (ofL xs) (ofL ys)) ∧ zs.length ≤ xs.length + ys.length := isN_of_bd (bd_mul (ofL_bd xs) (ofL_bd ys))
theorem isN_add (xs ys : List Nat) : ∃ zs, IsN zs (add (ofL xs) (ofL ys)) ∧ zs.length ≤ xs.length + ys.length := isN_of_bd (((ofL_bd xs).mono_le (by omega)).add ((ofL_bd ys).mono_le (by omega)))
theorem isN_norm (xs : List Nat) : ∃ zs, IsN zs (ofL xs) ∧ zs.length ≤ xs.length := isN_of_bd (ofL_bd xs)
theorem isN_smul (a : GF) (xs : List Nat) : ∃ zs, IsN zs (smul a (ofL xs)) ∧ zs.length ≤ xs.length := isN_of_bd ((ofL_bd xs).smul a)
theorem isN_cut (k : Nat) (xs : List Nat) : ∃ zs, IsN zs (cut k (ofL xs)) ∧ zs.length ≤ xs.length := isN_of_bd (fun i hi => by unfold cut; split; exact ofL_bd xs i hi; rfl)
/-- The degree of a product. -/
theorem dg_mul {a b : Nat} {p q : Pol} (hp : Dg a p) (hq : Dg b q) : Dg (if a = 0 ∨ b = 0 then 0 else a + b - 1) (mul p q) := by
  cases a with
  | zero => rw [if_pos (.inl rfl), hp.eq_zero, zero_mul]; exact dg_zero
  | succ a =>
    cases b with
    | zero => rw [if_pos (.inr rfl), hq.eq_zero, mul_zero]; exact dg_zero
    | succ b =>
      rw [if_neg (by omega)]
      have := hp.mul hq
      rwa [show a + b + 1 = a + 1 + (b + 1) - 1 by omega] at this
end Pol
/-- A list of literals. -/
theorem bs_lit (W : World) (xs : List Nat) (hx : Pol.Byt xs) (hl : xs.length ≤ 1000) : Bs (W.alloc (.cells ⟨ob xs⟩ 5)) (some ⟨W.heap.size, 0, none⟩) xs.length xs :=
  ⟨rfl, by omega, fun i hi => ⟨_, rfl, by simp, by
    have e1 : (⟨W.heap.size, 0, none⟩ : Addr).add i = ⟨W.heap.size, i, none⟩ := by unfold Addr.add; split <;> simp_all
    rw [e1, World.cell?_alloc_at _ _ _ _ rfl]
    show (⟨ob xs⟩ : Array Value)[i]? = _
    rw [List.getElem?_toArray]
    exact ob_at xs i hi⟩, hx⟩
/-- The same, its cells and its block as a walk spells them. -/
theorem bs_lits (W : World) (A : Array Value) (xs : List Nat) (h n : Nat) (hA : A = ⟨ob xs⟩) (hh : h = W.heap.size) (hn : n = xs.length) (hx : xs.all (· < 256) = true) (hl : xs.length ≤ 1000) : Bs (W.alloc (.cells A 5)) (some ⟨h, 0, none⟩) n xs := by
  subst hA hh hn
  exact bs_lit W xs (fun i => by
    simp only [List.getD]
    cases hx' : xs[i]? with
    | none => decide
    | some x => simpa using List.all_eq_true.1 hx x (List.mem_of_getElem? hx')) hl
theorem off_at {T h n : Nat} (hT : ¬ h = T) : Off T n (some ⟨h, 0, none⟩) := fun _ a e => by cases e; exact hT
theorem off_new {W : World} {T n : Nat} (hT : T < W.heap.size) : Off T n (some ⟨W.heap.size, 0, none⟩) := fun _ a e => by cases e; show ¬ W.heap.size = T; omega
theorem byt_lit {xs : List Nat} (h : xs.all (· < 256) = true) : Pol.Byt xs := fun i => by
  simp only [List.getD]
  cases hx : xs[i]? with
  | none => decide
  | some x => simpa using List.all_eq_true.1 h x (List.mem_of_getElem? hx)
end Go.Proofs
