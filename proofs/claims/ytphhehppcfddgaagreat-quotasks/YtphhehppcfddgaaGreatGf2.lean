/- More of the field: powers by integers, squares of sums, the order of 2. Nothing of the program. -/
import Derived.Test.YtphhehppcfddgaaGreatGf
namespace Gf
/-- A power, below 0 one of the inverse. -/
def powZ (a : Nat) (n : Int) : Nat := if n < 0 then pow (inv a) (-n).toNat else pow a n.toNat
theorem powZ_lt (a : Nat) (n : Int) (ha : a < 256) : powZ a n < 256 := by
  unfold powZ; split
  · exact pow_lt _ _ (inv_lt a ha)
  · exact pow_lt _ _ ha
theorem powZ_mod (a : Nat) (n : Int) (ha : a < 256) (h0 : a ≠ 0) : powZ a n = pow a (n % 255).toNat := by
  unfold powZ
  split
  · rename_i h
    unfold inv
    rw [← pow_mul a _ _ ha, pow_mod a _ ha h0]
    congr 1
    omega
  · rename_i h
    rw [pow_mod a _ ha h0]
    congr 1
    omega
theorem powZ_add (a : Nat) (n m : Int) (ha : a < 256) (h0 : a ≠ 0) : mul (powZ a n) (powZ a m) = powZ a (n + m) := by
  rw [powZ_mod a n ha h0, powZ_mod a m ha h0, powZ_mod a (n + m) ha h0, ← pow_add a _ _ ha, pow_mod a _ ha h0]
  congr 1
  omega
theorem powZ_zero_left (n : Int) (h : n ≠ 0) : powZ 0 n = 0 := by
  unfold powZ
  split
  · rw [inv_zero]; exact zero_pow _ (by omega)
  · exact zero_pow _ (by omega)
theorem powZ_zero (a : Nat) : powZ a 0 = 1 := rfl
theorem powZ_one (a : Nat) (ha : a < 256) : powZ a 1 = a := pow_one a ha
theorem powZ_255 (a : Nat) (ha : a < 256) (h0 : a ≠ 0) : powZ a 255 = 1 := by rw [powZ_mod a _ ha h0]; rfl
theorem powZ_two (a : Nat) (ha : a < 256) : powZ a 2 = mul a a := pow_two a ha
theorem square_xor (a b : Nat) (ha : a < 256) (hb : b < 256) : mul (a ^^^ b) (a ^^^ b) = mul a a ^^^ mul b b := by
  rw [mul_xor_left, mul_xor_right, mul_xor_right, mul_comm b a hb ha, Nat.xor_assoc, ← Nat.xor_assoc (mul a b), Nat.xor_self, Nat.zero_xor]
/-! ## 2 has the order 255 -/
def run (c : Nat) : Nat → Bool
  | 0 => true
  | k + 1 => (c != 1) && run (mul c 2) k
theorem run_spec : ∀ (k j : Nat), run (pow 2 j) k = true → ∀ i, i < k → pow 2 (j + i) ≠ 1
  | 0, _, _, i, hi => absurd hi (Nat.not_lt_zero i)
  | k + 1, j, h, i, hi => by
    simp only [run, Bool.and_eq_true, bne_iff_ne] at h
    cases i with
    | zero => exact h.1
    | succ i =>
      have := run_spec k (j + 1) h.2 i (by omega)
      rwa [show j + 1 + i = j + (i + 1) by omega] at this
set_option maxRecDepth 100000 in
theorem run_all : run 2 254 = true := by decide +kernel
theorem two_order (k : Nat) (h0 : k ≠ 0) (hk : k < 255) : pow 2 k ≠ 1 := by
  have h := run_spec 254 1 (by rw [pow_one 2 (by decide)]; exact run_all) (k - 1) (by omega)
  rwa [show 1 + (k - 1) = k by omega] at h
theorem pow_two_inj_le (x y : Nat) (hxy : x ≤ y) (hy : y < 255) (h : pow 2 x = pow 2 y) : x = y := by
  rcases Nat.eq_or_lt_of_le hxy with e | hlt
  · exact e
  · exfalso
    have h2 : (2 : Nat) < 256 := by decide
    have e : pow 2 y = mul (pow 2 x) (pow 2 (y - x)) := by rw [← pow_add 2 _ _ h2, show x + (y - x) = y by omega]
    rw [← h] at e
    have hx := pow_lt 2 x h2
    have hx0 := pow_ne_zero 2 x h2 (by decide)
    have hd := pow_lt 2 (y - x) h2
    have : mul (inv (pow 2 x)) (pow 2 x) = mul (inv (pow 2 x)) (mul (pow 2 x) (pow 2 (y - x))) := congrArg _ e
    rw [mul_assoc _ _ _ (inv_lt _ hx) hx hd, mul_comm _ _ (inv_lt _ hx) hx, mul_inv _ hx hx0, one_mul _ hd] at this
    exact two_order (y - x) (by omega) (by omega) this.symm
theorem pow_two_inj (x y : Nat) (hx : x < 255) (hy : y < 255) : pow 2 x = pow 2 y ↔ x = y := by
  constructor
  · intro h
    rcases Nat.le_total x y with l | l
    · exact pow_two_inj_le x y l hy h
    · exact (pow_two_inj_le y x l hx h.symm).symm
  · intro h; rw [h]
end Gf
