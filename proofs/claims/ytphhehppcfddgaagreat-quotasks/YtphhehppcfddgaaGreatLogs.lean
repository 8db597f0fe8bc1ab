/- Logarithms in the field: each byte but 0 is a power of 2. Nothing of the program. -/
import Derived.Test.YtphhehppcfddgaaGreatGf2
namespace Gf
/-- The powers of 2, from 0 to 254. -/
def all2 : List Nat := [1, 2, 4, 8, 16, 32, 64, 128, 29, 58, 116, 232, 205, 135, 19, 38, 76, 152, 45, 90, 180, 117, 234, 201, 143, 3, 6, 12, 24, 48, 96, 192, 157, 39, 78, 156, 37, 74, 148, 53, 106, 212, 181, 119, 238, 193, 159, 35, 70, 140, 5, 10, 20, 40, 80, 160, 93, 186, 105, 210, 185, 111, 222, 161, 95, 190, 97, 194, 153, 47, 94, 188, 101, 202, 137, 15, 30, 60, 120, 240, 253, 231, 211, 187, 107, 214, 177, 127, 254, 225, 223, 163, 91, 182, 113, 226, 217, 175, 67, 134, 17, 34, 68, 136, 13, 26, 52, 104, 208, 189, 103, 206, 129, 31, 62, 124, 248, 237, 199, 147, 59, 118, 236, 197, 151, 51, 102, 204, 133, 23, 46, 92, 184, 109, 218, 169, 79, 158, 33, 66, 132, 21, 42, 84, 168, 77, 154, 41, 82, 164, 85, 170, 73, 146, 57, 114, 228, 213, 183, 115, 230, 209, 191, 99, 198, 145, 63, 126, 252, 229, 215, 179, 123, 246, 241, 255, 227, 219, 171, 75, 150, 49, 98, 196, 149, 55, 110, 220, 165, 87, 174, 65, 130, 25, 50, 100, 200, 141, 7, 14, 28, 56, 112, 224, 221, 167, 83, 166, 81, 162, 89, 178, 121, 242, 249, 239, 195, 155, 43, 86, 172, 69, 138, 9, 18, 36, 72, 144, 61, 122, 244, 245, 247, 243, 251, 235, 203, 139, 11, 22, 44, 88, 176, 125, 250, 233, 207, 131, 27, 54, 108, 216, 173, 71, 142]
/-- Each is the one ahead of it, doubled. -/
def chain : Nat → List Nat → Bool
  | _, [] => true
  | c, x :: l => (x == c) && chain (mul x 2) l
theorem chain_spec : ∀ (l : List Nat) (j : Nat), chain (pow 2 j) l = true → ∀ i x, l[i]? = some x → x = pow 2 (j + i)
  | [], _, _, i, x, h => by simp at h
  | y :: l, j, h, i, x, hx => by
    simp only [chain, Bool.and_eq_true, beq_iff_eq] at h
    obtain ⟨rfl, h⟩ := h
    cases i with
    | zero => simp at hx; exact hx.symm
    | succ i =>
      have := chain_spec l (j + 1) h i x (by simpa using hx)
      rwa [show j + 1 + i = j + (i + 1) by omega] at this
set_option maxRecDepth 100000 in
theorem chain_all : chain 1 all2 = true := by decide +kernel
set_option maxRecDepth 100000 in
theorem all2_idx : ∀ a, a < 256 → a ≠ 0 → all2[all2.idxOf a]? = some a ∧ all2.idxOf a < 255 := by decide +kernel
/-- The logarithm; of 0: 0. -/
def lg (a : Nat) : Nat := if a = 0 then 0 else all2.idxOf a
theorem lg_zero : lg 0 = 0 := rfl
theorem lg_lt (a : Nat) (ha : a < 256) : lg a < 255 := by
  unfold lg
  split
  · decide
  · rename_i h; exact (all2_idx a ha h).2
theorem pow_lg (a : Nat) (ha : a < 256) (h0 : a ≠ 0) : pow 2 (lg a) = a := by
  have h := (all2_idx a ha h0).1
  have := chain_spec all2 0 chain_all _ _ h
  unfold lg
  rw [if_neg h0]
  rw [Nat.zero_add] at this
  exact this.symm
theorem lg_pow (j : Nat) (hj : j < 255) : lg (pow 2 j) = j := by
  have h2 : (2 : Nat) < 256 := by decide
  exact (pow_two_inj _ _ (lg_lt _ (pow_lt 2 j h2)) hj).1 (pow_lg _ (pow_lt 2 j h2) (pow_ne_zero 2 j h2 (by decide)))
theorem mul_lg (a b : Nat) (ha : a < 256) (hb : b < 256) (h0 : a ≠ 0) (h1 : b ≠ 0) : pow 2 (lg a + lg b) = mul a b := by
  rw [pow_add 2 _ _ (by decide), pow_lg a ha h0, pow_lg b hb h1]
theorem inv_lg (a : Nat) (ha : a < 256) (h0 : a ≠ 0) : pow 2 (255 - lg a) = inv a := by
  refine inv_unique a _ ha (pow_lt 2 _ (by decide)) ?_
  have h := pow_add 2 (lg a) (255 - lg a) (by decide)
  have hl := lg_lt a ha
  rw [pow_lg a ha h0, show lg a + (255 - lg a) = 255 by omega, pow_255 2 (by decide) (by decide)] at h
  exact h.symm
theorem powZ_two_mod (n : Int) : powZ 2 n = pow 2 (n % 255).toNat := powZ_mod 2 n (by decide) (by decide)
theorem powZ_lg (a : Nat) (n : Int) (ha : a < 256) (h0 : a ≠ 0) : pow 2 ((lg a * (n % 255).toNat) % 255) = powZ a n := by
  rw [powZ_mod a n ha h0, ← pow_mod 2 _ (by decide) (by decide), pow_mul 2 _ _ (by decide), pow_lg a ha h0]
end Gf
