/- Plain mathematics of the field GF(256) modulo 11D, over natural numbers. Nothing of the program. No conditions. -/
namespace Gf

/-- The first k bits of b, multiplied with a, without carries. -/
def wideK (a b : Nat) : Nat → Nat
  | 0 => 0
  | k + 1 => if b.testBit k then wideK a b k ^^^ (a * 2 ^ k) else wideK a b k
def wide (a b : Nat) : Nat := wideK a b 8
/-- The k greatest of the bits 15 to 8 brought down. -/
def redK (w : Nat) : Nat → Nat
  | 0 => w
  | k + 1 => if (redK w k).testBit (15 - k) then redK w k ^^^ (285 * 2 ^ (7 - k)) else redK w k
def red (w : Nat) : Nat := redK w 8
def mul (a b : Nat) : Nat := red (wide a b)

/-! ## Sums -/
theorem xor_lt8 {a b : Nat} (ha : a < 256) (hb : b < 256) : a ^^^ b < 256 := Nat.xor_lt_two_pow (n := 8) ha hb
theorem xor_lt16 {a b : Nat} (ha : a < 65536) (hb : b < 65536) : a ^^^ b < 65536 := Nat.xor_lt_two_pow (n := 16) ha hb
theorem xor_lt15 {a b : Nat} (ha : a < 32768) (hb : b < 32768) : a ^^^ b < 32768 := Nat.xor_lt_two_pow (n := 15) ha hb
theorem xor_four (a b c d : Nat) : (a ^^^ b) ^^^ (c ^^^ d) = (a ^^^ c) ^^^ (b ^^^ d) := by
  rw [Nat.xor_assoc, Nat.xor_assoc, ← Nat.xor_assoc b c d, Nat.xor_comm b c, Nat.xor_assoc c b d]
theorem xor_lc (a b c : Nat) : a ^^^ (b ^^^ c) = b ^^^ (a ^^^ c) := by rw [← Nat.xor_assoc, Nat.xor_comm a b, Nat.xor_assoc]
theorem xor_cc (a b : Nat) : a ^^^ (a ^^^ b) = b := by rw [← Nat.xor_assoc, Nat.xor_self, Nat.zero_xor]
theorem xor_mul_pow (a b k : Nat) : (a ^^^ b) * 2 ^ k = a * 2 ^ k ^^^ b * 2 ^ k := by
  rw [← Nat.shiftLeft_eq, ← Nat.shiftLeft_eq, ← Nat.shiftLeft_eq, Nat.shiftLeft_xor_distrib]

/-! ## A function that goes with sums is told by the powers of 2 -/
def Lin (f : Nat → Nat) : Prop := ∀ x y, f (x ^^^ y) = f x ^^^ f y
theorem Lin.zero {f : Nat → Nat} (h : Lin f) : f 0 = 0 := by
  have := h 0 0
  simp at this
  exact this
/-- The bit k of x taken off. -/
theorem bit_off (x k : Nat) (h : x < 2 ^ (k + 1)) : x = (x % 2 ^ k) ^^^ (if x.testBit k then 2 ^ k else 0) := by
  apply Nat.eq_of_testBit_eq
  intro i
  rw [Nat.testBit_xor, Nat.testBit_mod_two_pow]
  by_cases hik : i < k
  · have : (if x.testBit k then 2 ^ k else 0).testBit i = false := by
      split
      · rw [Nat.testBit_two_pow]; simp; omega
      · simp
    simp [hik, this]
  · by_cases e : i = k
    · subst e
      cases hb : x.testBit i <;> simp
    · have hx : x.testBit i = false := Nat.testBit_lt_two_pow (Nat.lt_of_lt_of_le h (Nat.pow_le_pow_right (by decide) (by omega)))
      have : (if x.testBit k then 2 ^ k else 0).testBit i = false := by
        split
        · rw [Nat.testBit_two_pow]; simp; omega
        · simp
      simp [hik, this, hx]
theorem Lin.ext {f g : Nat → Nat} (hf : Lin f) (hg : Lin g) (n : Nat) (h : ∀ k, k < n → f (2 ^ k) = g (2 ^ k)) : ∀ x, x < 2 ^ n → f x = g x := by
  induction n with
  | zero => intro x hx; have : x = 0 := by simp at hx; omega
            subst this; rw [hf.zero, hg.zero]
  | succ k ih =>
    intro x hx
    rw [bit_off x k hx, hf, hg, ih (fun j hj => h j (by omega)) _ (Nat.mod_lt _ (Nat.two_pow_pos _))]
    split
    · rw [h k (by omega)]
    · rw [hf.zero, hg.zero]

/-! ## wide and red go with sums -/
theorem wideK_lin_right (a : Nat) (k : Nat) : Lin (fun b => wideK a b k) := by
  intro x y
  induction k with
  | zero => simp [wideK]
  | succ k ih =>
    simp only [wideK] at ih ⊢
    rw [Nat.testBit_xor, ih]
    cases x.testBit k <;> cases y.testBit k <;> simp [Nat.xor_assoc, Nat.xor_comm, xor_lc]
theorem wideK_lin_left (b : Nat) (k : Nat) : Lin (fun a => wideK a b k) := by
  intro x y
  induction k with
  | zero => simp [wideK]
  | succ k ih =>
    simp only [wideK] at ih ⊢
    rw [ih]
    split
    · rw [xor_mul_pow, xor_four]
    · rfl
theorem redK_lin (k : Nat) : Lin (fun w => redK w k) := by
  intro x y
  induction k with
  | zero => rfl
  | succ k ih =>
    simp only [redK] at ih ⊢
    rw [ih, Nat.testBit_xor]
    cases (redK x k).testBit (15 - k) <;> cases (redK y k).testBit (15 - k) <;> simp [Nat.xor_assoc, Nat.xor_comm, xor_lc]
theorem wide_xor_right (a x y : Nat) : wide a (x ^^^ y) = wide a x ^^^ wide a y := wideK_lin_right a 8 x y
theorem wide_xor_left (b x y : Nat) : wide (x ^^^ y) b = wide x b ^^^ wide y b := wideK_lin_left b 8 x y
theorem red_xor (x y : Nat) : red (x ^^^ y) = red x ^^^ red y := redK_lin 8 x y
theorem mul_xor_right (a x y : Nat) : mul a (x ^^^ y) = mul a x ^^^ mul a y := by unfold mul; rw [wide_xor_right, red_xor]
theorem mul_xor_left (b x y : Nat) : mul (x ^^^ y) b = mul x b ^^^ mul y b := by unfold mul; rw [wide_xor_left, red_xor]
theorem lin_mul_right (a : Nat) : Lin (mul a) := mul_xor_right a
theorem lin_mul_left (b : Nat) : Lin (fun a => mul a b) := mul_xor_left b

/-! ## Bounds -/
theorem wideK_lt (a b : Nat) (ha : a < 256) (k : Nat) (hk : k ≤ 8) : wideK a b k < 2 ^ (k + 7) := by
  induction k with
  | zero => simp [wideK]
  | succ k ih =>
    have h1 := ih (by omega)
    have h2 : (2 : Nat) ^ (k + 7) < 2 ^ (k + 1 + 7) := Nat.pow_lt_pow_right (by decide) (by omega)
    simp only [wideK]
    split
    · refine Nat.xor_lt_two_pow (Nat.lt_trans h1 h2) ?_
      rw [show k + 1 + 7 = 8 + k by omega, Nat.pow_add]
      exact Nat.mul_lt_mul_of_pos_right ha (Nat.two_pow_pos _)
    · exact Nat.lt_trans h1 h2
theorem wide_lt (a b : Nat) (ha : a < 256) : wide a b < 32768 := wideK_lt a b ha 8 (by omega)
theorem redK_lt (w : Nat) (hw : w < 65536) (k : Nat) (hk : k ≤ 8) : redK w k < 2 ^ (16 - k) := by
  induction k with
  | zero => simpa [redK] using hw
  | succ k ih =>
    have h1 := ih (by omega)
    simp only [redK]
    have e : 16 - k = (15 - k) + 1 := by omega
    have e2 : 16 - (k + 1) = 15 - k := by omega
    rw [e] at h1
    rw [e2]
    have h2 := bit_off _ _ h1
    split
    · rename_i hb
      rw [if_pos hb] at h2
      have h3 : 285 * 2 ^ (7 - k) = 2 ^ (15 - k) ^^^ (29 * 2 ^ (7 - k)) := by
        rw [show (285 : Nat) = 256 ^^^ 29 from by decide, xor_mul_pow, show (256 : Nat) = 2 ^ 8 from rfl, ← Nat.pow_add, show 8 + (7 - k) = 15 - k by omega]
      rw [h2, h3, Nat.xor_assoc, ← Nat.xor_assoc (2 ^ (15 - k)) (2 ^ (15 - k)), Nat.xor_self, Nat.zero_xor]
      refine Nat.xor_lt_two_pow (Nat.mod_lt _ (Nat.two_pow_pos _)) ?_
      rw [show 15 - k = 8 + (7 - k) by omega, Nat.pow_add]
      exact Nat.mul_lt_mul_of_pos_right (by decide) (Nat.two_pow_pos _)
    · rename_i hb
      rw [if_neg hb, Nat.xor_zero] at h2
      rw [h2]
      exact Nat.mod_lt _ (Nat.two_pow_pos _)
theorem red_lt (w : Nat) (hw : w < 65536) : red w < 256 := redK_lt w hw 8 (by omega)
theorem mul_lt (a b : Nat) (ha : a < 256) : mul a b < 256 := red_lt _ (Nat.lt_trans (wide_lt a b ha) (by decide))

/-! ## The ring -/
theorem powers_lt {n : Nat} {P : Nat → Prop} (h : ∀ k, k < n → P k) : ∀ k, k < n → P k := h
theorem wide_comm (a b : Nat) (ha : a < 256) (hb : b < 256) : wide a b = wide b a := by
  refine Lin.ext (wideK_lin_left b 8) (wideK_lin_right b 8) 8 (fun i hi => ?_) a ha
  refine Lin.ext (f := fun b => wide (2 ^ i) b) (g := fun b => wide b (2 ^ i)) (wideK_lin_right _ 8) (wideK_lin_left _ 8) 8 (fun j hj => ?_) b hb
  have : ∀ i, i < 8 → ∀ j, j < 8 → wide (2 ^ i) (2 ^ j) = wide (2 ^ j) (2 ^ i) := by decide +kernel
  exact this i hi j hj
theorem mul_comm (a b : Nat) (ha : a < 256) (hb : b < 256) : mul a b = mul b a := by unfold mul; rw [wide_comm a b ha hb]
theorem mul_assoc (a b c : Nat) (ha : a < 256) (hb : b < 256) (hc : c < 256) : mul a (mul b c) = mul (mul a b) c := by
  refine Lin.ext (f := fun c => mul a (mul b c)) (g := fun c => mul (mul a b) c) (fun x y => ?_) (fun x y => ?_) 8 (fun k hk => ?_) c hc
  · simp only [mul_xor_right]
  · simp only [mul_xor_right]
  · refine Lin.ext (f := fun b => mul a (mul b (2 ^ k))) (g := fun b => mul (mul a b) (2 ^ k)) (fun x y => ?_) (fun x y => ?_) 8 (fun j hj => ?_) b hb
    · simp only [mul_xor_right, mul_xor_left]
    · simp only [mul_xor_right, mul_xor_left]
    · refine Lin.ext (f := fun a => mul a (mul (2 ^ j) (2 ^ k))) (g := fun a => mul (mul a (2 ^ j)) (2 ^ k)) (fun x y => ?_) (fun x y => ?_) 8 (fun i hi => ?_) a ha
      · simp only [mul_xor_left]
      · simp only [mul_xor_left]
      · have : ∀ i, i < 8 → ∀ j, j < 8 → ∀ k, k < 8 → mul (2 ^ i) (mul (2 ^ j) (2 ^ k)) = mul (mul (2 ^ i) (2 ^ j)) (2 ^ k) := by decide +kernel
        exact this i hi j hj k hk
theorem mul_zero (a : Nat) : mul a 0 = 0 := (lin_mul_right a).zero
theorem zero_mul (a : Nat) : mul 0 a = 0 := (lin_mul_left a).zero
theorem red_small (a : Nat) (ha : a < 256) : red a = a :=
  Lin.ext (redK_lin 8) (fun _ _ => rfl : Lin id) 8 (by decide +kernel) a ha
theorem mul_one (a : Nat) (ha : a < 256) : mul a 1 = a :=
  Lin.ext (lin_mul_left 1) (fun _ _ => rfl : Lin id) 8 (by decide +kernel) a ha
theorem one_mul (a : Nat) (ha : a < 256) : mul 1 a = a :=
  Lin.ext (lin_mul_right 1) (fun _ _ => rfl : Lin id) 8 (by decide +kernel) a ha

/-! ## Powers -/
def pow (a : Nat) : Nat → Nat
  | 0 => 1
  | n + 1 => mul (pow a n) a
theorem pow_lt (a n : Nat) (_ha : a < 256) : pow a n < 256 := by
  induction n with
  | zero => exact (by decide : 1 < 256)
  | succ n ih => exact mul_lt _ _ ih
theorem pow_add (a m n : Nat) (ha : a < 256) : pow a (m + n) = mul (pow a m) (pow a n) := by
  induction n with
  | zero => exact (mul_one _ (pow_lt a m ha)).symm
  | succ n ih => show mul (pow a (m + n)) a = mul (pow a m) (mul (pow a n) a)
                 rw [ih, mul_assoc _ _ _ (pow_lt a m ha) (pow_lt a n ha) ha]
theorem pow_one (a : Nat) (ha : a < 256) : pow a 1 = a := one_mul a ha
theorem pow_mul (a m n : Nat) (ha : a < 256) : pow a (m * n) = pow (pow a m) n := by
  induction n with
  | zero => rfl
  | succ n ih => rw [Nat.mul_succ, pow_add a _ _ ha, ih]; rfl
theorem one_pow (n : Nat) : pow 1 n = 1 := by
  induction n with
  | zero => rfl
  | succ n ih => show mul (pow 1 n) 1 = 1; rw [ih]; decide +kernel
theorem zero_pow (n : Nat) (h : n ≠ 0) : pow 0 n = 0 := by
  cases n with
  | zero => exact absurd rfl h
  | succ n => exact mul_zero _
/-- pow by squares, for the kernel. -/
def sq8 (a : Nat) : Nat :=
  let a2 := mul a a; let a4 := mul a2 a2; let a8 := mul a4 a4; let a16 := mul a8 a8; let a32 := mul a16 a16; let a64 := mul a32 a32; let a128 := mul a64 a64
  mul a (mul a2 (mul a4 (mul a8 (mul a16 (mul a32 (mul a64 a128))))))
theorem pow_two (a : Nat) (ha : a < 256) : pow a 2 = mul a a := by show mul (mul 1 a) a = mul a a; rw [one_mul a ha]
theorem pow_double (a n : Nat) (ha : a < 256) : pow a (n + n) = mul (pow a n) (pow a n) := pow_add a n n ha
theorem sq8_eq (a : Nat) (ha : a < 256) : sq8 a = pow a 255 := by
  have e1 := pow_one a ha
  have e2 : pow a 2 = mul a a := pow_two a ha
  have e4 : pow a 4 = mul (pow a 2) (pow a 2) := pow_double a 2 ha
  have e8 : pow a 8 = mul (pow a 4) (pow a 4) := pow_double a 4 ha
  have e16 : pow a 16 = mul (pow a 8) (pow a 8) := pow_double a 8 ha
  have e32 : pow a 32 = mul (pow a 16) (pow a 16) := pow_double a 16 ha
  have e64 : pow a 64 = mul (pow a 32) (pow a 32) := pow_double a 32 ha
  have e128 : pow a 128 = mul (pow a 64) (pow a 64) := pow_double a 64 ha
  have s1 : pow a 255 = mul (pow a 1) (pow a 254) := pow_add a 1 254 ha
  have s2 : pow a 254 = mul (pow a 2) (pow a 252) := pow_add a 2 252 ha
  have s3 : pow a 252 = mul (pow a 4) (pow a 248) := pow_add a 4 248 ha
  have s4 : pow a 248 = mul (pow a 8) (pow a 240) := pow_add a 8 240 ha
  have s5 : pow a 240 = mul (pow a 16) (pow a 224) := pow_add a 16 224 ha
  have s6 : pow a 224 = mul (pow a 32) (pow a 192) := pow_add a 32 192 ha
  have s7 : pow a 192 = mul (pow a 64) (pow a 128) := pow_add a 64 128 ha
  rw [s1, s2, s3, s4, s5, s6, s7, e128, e64, e32, e16, e8, e4, e2, e1]
  rfl
set_option maxRecDepth 100000 in
theorem sq8_all : ∀ a, a < 256 → a ≠ 0 → sq8 a = 1 := by decide +kernel
theorem pow_255 (a : Nat) (ha : a < 256) (h0 : a ≠ 0) : pow a 255 = 1 := by rw [← sq8_eq a ha]; exact sq8_all a ha h0
/-- What a byte is divided by. -/
def inv (a : Nat) : Nat := pow a 254
theorem inv_lt (a : Nat) (ha : a < 256) : inv a < 256 := pow_lt a 254 ha
theorem mul_inv (a : Nat) (ha : a < 256) (h0 : a ≠ 0) : mul a (inv a) = 1 := by
  have h := pow_add a 1 254 ha
  rw [pow_one a ha] at h
  exact h.symm.trans (pow_255 a ha h0)
theorem inv_zero : inv 0 = 0 := zero_pow 254 (by decide)
theorem mul_ne_zero (a b : Nat) (ha : a < 256) (hb : b < 256) (h0 : a ≠ 0) (h1 : b ≠ 0) : mul a b ≠ 0 := by
  intro h
  have e : mul (inv a) (mul a b) = b := by
    rw [mul_assoc _ _ _ (inv_lt a ha) ha hb, mul_comm _ _ (inv_lt a ha) ha, mul_inv a ha h0, one_mul b hb]
  rw [h, mul_zero] at e
  exact h1 e.symm
theorem inv_unique (a x : Nat) (ha : a < 256) (hx : x < 256) (h : mul a x = 1) : x = inv a := by
  have h0 : a ≠ 0 := by intro e; subst e; rw [zero_mul] at h; exact absurd h (by decide)
  have e : mul (inv a) (mul a x) = x := by
    rw [mul_assoc _ _ _ (inv_lt a ha) ha hx, mul_comm _ _ (inv_lt a ha) ha, mul_inv a ha h0, one_mul x hx]
  rw [h, mul_one _ (inv_lt a ha)] at e
  exact e.symm
theorem inv_ne_zero (a : Nat) (ha : a < 256) (h0 : a ≠ 0) : inv a ≠ 0 := by
  intro e; have := mul_inv a ha h0; rw [e, mul_zero] at this; exact absurd this (by decide)
theorem inv_inv (a : Nat) (ha : a < 256) (h0 : a ≠ 0) : inv (inv a) = a := by
  refine (inv_unique (inv a) a (inv_lt a ha) ha ?_).symm
  rw [mul_comm _ _ (inv_lt a ha) ha]; exact mul_inv a ha h0
theorem pow_ne_zero (a n : Nat) (ha : a < 256) (h0 : a ≠ 0) : pow a n ≠ 0 := by
  induction n with
  | zero => exact (by decide : 1 ≠ 0)
  | succ n ih => exact mul_ne_zero _ _ (pow_lt a n ha) ha ih h0
theorem pow_mod (a n : Nat) (ha : a < 256) (h0 : a ≠ 0) : pow a n = pow a (n % 255) := by
  have e : n = 255 * (n / 255) + n % 255 := (Nat.div_add_mod n 255).symm
  rw [e, pow_add a _ _ ha, pow_mul a _ _ ha, pow_255 a ha h0, one_pow, one_mul _ (pow_lt a _ ha)]
  simp
end Gf
