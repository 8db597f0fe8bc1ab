/- Texts laid together: Gf, Gf2, PolyM, PolyL, Lanes, Logs, PolyD, QMath, PolyE, PolyS. Each says its own conditions. -/

/- Plain mathematics of the field GF(256) modulo 11D, over natural numbers. Nothing of the program. No conditions. -/
namespace Gf

/-- The first k bits of b, multiplied with a, without carries. -/
def wideK (a b : Nat) : Nat → Nat
  | 0 => 0
  | k + 1 => if b.testBit k then wideK a b k ^^^ (a * 2 ^ k) else wideK a b k
def wide (a b : Nat) : Nat := wideK a b 8
/-- The k greatest of the bits 15 to 8 brought down. -/
def redK (w : Nat) : Nat → Nat
  | 0 => w
  | k + 1 => if (redK w k).testBit (15 - k) then redK w k ^^^ (285 * 2 ^ (7 - k)) else redK w k
def red (w : Nat) : Nat := redK w 8
def mul (a b : Nat) : Nat := red (wide a b)

/-! ## Sums -/
theorem xor_lt8 {a b : Nat} (ha : a < 256) (hb : b < 256) : a ^^^ b < 256 := Nat.xor_lt_two_pow (n := 8) ha hb
theorem xor_lt16 {a b : Nat} (ha : a < 65536) (hb : b < 65536) : a ^^^ b < 65536 := Nat.xor_lt_two_pow (n := 16) ha hb
theorem xor_four (a b c d : Nat) : (a ^^^ b) ^^^ (c ^^^ d) = (a ^^^ c) ^^^ (b ^^^ d) := by
  rw [Nat.xor_assoc, Nat.xor_assoc, ← Nat.xor_assoc b c d, Nat.xor_comm b c, Nat.xor_assoc c b d]
theorem xor_lc (a b c : Nat) : a ^^^ (b ^^^ c) = b ^^^ (a ^^^ c) := by rw [← Nat.xor_assoc, Nat.xor_comm a b, Nat.xor_assoc]
theorem xor_cc (a b : Nat) : a ^^^ (a ^^^ b) = b := by rw [← Nat.xor_assoc, Nat.xor_self, Nat.zero_xor]
theorem xor_mul_pow (a b k : Nat) : (a ^^^ b) * 2 ^ k = a * 2 ^ k ^^^ b * 2 ^ k := by
  rw [← Nat.shiftLeft_eq, ← Nat.shiftLeft_eq, ← Nat.shiftLeft_eq, Nat.shiftLeft_xor_distrib]

/-! ## A function that goes with sums is told by the powers of 2 -/
def Lin (f : Nat → Nat) : Prop := ∀ x y, f (x ^^^ y) = f x ^^^ f y
theorem Lin.zero {f : Nat → Nat} (h : Lin f) : f 0 = 0 := by
  have := h 0 0
  simp at this
  exact this
/-- The bit k of x taken off. -/
theorem bit_off (x k : Nat) (h : x < 2 ^ (k + 1)) : x = (x % 2 ^ k) ^^^ (if x.testBit k then 2 ^ k else 0) := by
  apply Nat.eq_of_testBit_eq
  intro i
  rw [Nat.testBit_xor, Nat.testBit_mod_two_pow]
  by_cases hik : i < k
  · have : (if x.testBit k then 2 ^ k else 0).testBit i = false := by
      split
      · rw [Nat.testBit_two_pow]; simp; omega
      · simp
    simp [hik, this]
  · by_cases e : i = k
    · subst e
      cases hb : x.testBit i <;> simp
    · have hx : x.testBit i = false := Nat.testBit_lt_two_pow (Nat.lt_of_lt_of_le h (Nat.pow_le_pow_right (by decide) (by omega)))
      have : (if x.testBit k then 2 ^ k else 0).testBit i = false := by
        split
        · rw [Nat.testBit_two_pow]; simp; omega
        · simp
      simp [hik, this, hx]
theorem Lin.ext {f g : Nat → Nat} (hf : Lin f) (hg : Lin g) (n : Nat) (h : ∀ k, k < n → f (2 ^ k) = g (2 ^ k)) : ∀ x, x < 2 ^ n → f x = g x := by
  induction n with
  | zero => intro x hx; have : x = 0 := by simp at hx; omega
            subst this; rw [hf.zero, hg.zero]
  | succ k ih =>
    intro x hx
    rw [bit_off x k hx, hf, hg, ih (fun j hj => h j (by omega)) _ (Nat.mod_lt _ (Nat.two_pow_pos _))]
    split
    · rw [h k (by omega)]
    · rw [hf.zero, hg.zero]

/-! ## wide and red go with sums -/
theorem wideK_lin_right (a : Nat) (k : Nat) : Lin (fun b => wideK a b k) := by
  intro x y
  induction k with
  | zero => simp [wideK]
  | succ k ih =>
    simp only [wideK] at ih ⊢
    rw [Nat.testBit_xor, ih]
    cases x.testBit k <;> cases y.testBit k <;> simp [Nat.xor_assoc, Nat.xor_comm, xor_lc]
theorem wideK_lin_left (b : Nat) (k : Nat) : Lin (fun a => wideK a b k) := by
  intro x y
  induction k with
  | zero => simp [wideK]
  | succ k ih =>
    simp only [wideK] at ih ⊢
    rw [ih]
    split
    · rw [xor_mul_pow, xor_four]
    · rfl
theorem redK_lin (k : Nat) : Lin (fun w => redK w k) := by
  intro x y
  induction k with
  | zero => rfl
  | succ k ih =>
    simp only [redK] at ih ⊢
    rw [ih, Nat.testBit_xor]
    cases (redK x k).testBit (15 - k) <;> cases (redK y k).testBit (15 - k) <;> simp [Nat.xor_assoc, Nat.xor_comm, xor_lc]
theorem wide_xor_right (a x y : Nat) : wide a (x ^^^ y) = wide a x ^^^ wide a y := wideK_lin_right a 8 x y
theorem wide_xor_left (b x y : Nat) : wide (x ^^^ y) b = wide x b ^^^ wide y b := wideK_lin_left b 8 x y
theorem red_xor (x y : Nat) : red (x ^^^ y) = red x ^^^ red y := redK_lin 8 x y
theorem mul_xor_right (a x y : Nat) : mul a (x ^^^ y) = mul a x ^^^ mul a y := by unfold mul; rw [wide_xor_right, red_xor]
theorem mul_xor_left (b x y : Nat) : mul (x ^^^ y) b = mul x b ^^^ mul y b := by unfold mul; rw [wide_xor_left, red_xor]
theorem lin_mul_right (a : Nat) : Lin (mul a) := mul_xor_right a
theorem lin_mul_left (b : Nat) : Lin (fun a => mul a b) := mul_xor_left b

/-! ## Bounds -/
theorem wideK_lt (a b : Nat) (ha : a < 256) (k : Nat) (hk : k ≤ 8) : wideK a b k < 2 ^ (k + 7) := by
  induction k with
  | zero => simp [wideK]
  | succ k ih =>
    have h1 := ih (by omega)
    have h2 : (2 : Nat) ^ (k + 7) < 2 ^ (k + 1 + 7) := Nat.pow_lt_pow_right (by decide) (by omega)
    simp only [wideK]
    split
    · refine Nat.xor_lt_two_pow (Nat.lt_trans h1 h2) ?_
      rw [show k + 1 + 7 = 8 + k by omega, Nat.pow_add]
      exact Nat.mul_lt_mul_of_pos_right ha (Nat.two_pow_pos _)
    · exact Nat.lt_trans h1 h2
theorem wide_lt (a b : Nat) (ha : a < 256) : wide a b < 32768 := wideK_lt a b ha 8 (by omega)
theorem redK_lt (w : Nat) (hw : w < 65536) (k : Nat) (hk : k ≤ 8) : redK w k < 2 ^ (16 - k) := by
  induction k with
  | zero => simpa [redK] using hw
  | succ k ih =>
    have h1 := ih (by omega)
    simp only [redK]
    have e : 16 - k = (15 - k) + 1 := by omega
    have e2 : 16 - (k + 1) = 15 - k := by omega
    rw [e] at h1
    rw [e2]
    have h2 := bit_off _ _ h1
    split
    · rename_i hb
      rw [if_pos hb] at h2
      have h3 : 285 * 2 ^ (7 - k) = 2 ^ (15 - k) ^^^ (29 * 2 ^ (7 - k)) := by
        rw [show (285 : Nat) = 256 ^^^ 29 from by decide, xor_mul_pow, show (256 : Nat) = 2 ^ 8 from rfl, ← Nat.pow_add, show 8 + (7 - k) = 15 - k by omega]
      rw [h2, h3, Nat.xor_assoc, ← Nat.xor_assoc (2 ^ (15 - k)) (2 ^ (15 - k)), Nat.xor_self, Nat.zero_xor]
      refine Nat.xor_lt_two_pow (Nat.mod_lt _ (Nat.two_pow_pos _)) ?_
      rw [show 15 - k = 8 + (7 - k) by omega, Nat.pow_add]
      exact Nat.mul_lt_mul_of_pos_right (by decide) (Nat.two_pow_pos _)
    · rename_i hb
      rw [if_neg hb, Nat.xor_zero] at h2
      rw [h2]
      exact Nat.mod_lt _ (Nat.two_pow_pos _)
theorem red_lt (w : Nat) (hw : w < 65536) : red w < 256 := redK_lt w hw 8 (by omega)
theorem mul_lt (a b : Nat) (ha : a < 256) : mul a b < 256 := red_lt _ (Nat.lt_trans (wide_lt a b ha) (by decide))

/-! ## The ring -/
theorem wide_comm (a b : Nat) (ha : a < 256) (hb : b < 256) : wide a b = wide b a := by
  refine Lin.ext (wideK_lin_left b 8) (wideK_lin_right b 8) 8 (fun i hi => ?_) a ha
  refine Lin.ext (f := fun b => wide (2 ^ i) b) (g := fun b => wide b (2 ^ i)) (wideK_lin_right _ 8) (wideK_lin_left _ 8) 8 (fun j hj => ?_) b hb
  have : ∀ i, i < 8 → ∀ j, j < 8 → wide (2 ^ i) (2 ^ j) = wide (2 ^ j) (2 ^ i) := by decide +kernel
  exact this i hi j hj
theorem mul_comm (a b : Nat) (ha : a < 256) (hb : b < 256) : mul a b = mul b a := by unfold mul; rw [wide_comm a b ha hb]
theorem mul_assoc (a b c : Nat) (ha : a < 256) (hb : b < 256) (hc : c < 256) : mul a (mul b c) = mul (mul a b) c := by
  refine Lin.ext (f := fun c => mul a (mul b c)) (g := fun c => mul (mul a b) c) (fun x y => ?_) (fun x y => ?_) 8 (fun k hk => ?_) c hc
  · simp only [mul_xor_right]
  · simp only [mul_xor_right]
  · refine Lin.ext (f := fun b => mul a (mul b (2 ^ k))) (g := fun b => mul (mul a b) (2 ^ k)) (fun x y => ?_) (fun x y => ?_) 8 (fun j hj => ?_) b hb
    · simp only [mul_xor_right, mul_xor_left]
    · simp only [mul_xor_right, mul_xor_left]
    · refine Lin.ext (f := fun a => mul a (mul (2 ^ j) (2 ^ k))) (g := fun a => mul (mul a (2 ^ j)) (2 ^ k)) (fun x y => ?_) (fun x y => ?_) 8 (fun i hi => ?_) a ha
      · simp only [mul_xor_left]
      · simp only [mul_xor_left]
      · have : ∀ i, i < 8 → ∀ j, j < 8 → ∀ k, k < 8 → mul (2 ^ i) (mul (2 ^ j) (2 ^ k)) = mul (mul (2 ^ i) (2 ^ j)) (2 ^ k) := by decide +kernel
        exact this i hi j hj k hk
theorem mul_zero (a : Nat) : mul a 0 = 0 := (lin_mul_right a).zero
theorem zero_mul (a : Nat) : mul 0 a = 0 := (lin_mul_left a).zero
theorem mul_one (a : Nat) (ha : a < 256) : mul a 1 = a :=
  Lin.ext (lin_mul_left 1) (fun _ _ => rfl : Lin id) 8 (by decide +kernel) a ha
theorem one_mul (a : Nat) (ha : a < 256) : mul 1 a = a :=
  Lin.ext (lin_mul_right 1) (fun _ _ => rfl : Lin id) 8 (by decide +kernel) a ha

/-! ## Powers -/
def pow (a : Nat) : Nat → Nat
  | 0 => 1
  | n + 1 => mul (pow a n) a
theorem pow_lt (a n : Nat) (_ha : a < 256) : pow a n < 256 := by
  induction n with
  | zero => exact (by decide : 1 < 256)
  | succ n ih => exact mul_lt _ _ ih
theorem pow_add (a m n : Nat) (ha : a < 256) : pow a (m + n) = mul (pow a m) (pow a n) := by
  induction n with
  | zero => exact (mul_one _ (pow_lt a m ha)).symm
  | succ n ih => show mul (pow a (m + n)) a = mul (pow a m) (mul (pow a n) a)
                 rw [ih, mul_assoc _ _ _ (pow_lt a m ha) (pow_lt a n ha) ha]
theorem pow_one (a : Nat) (ha : a < 256) : pow a 1 = a := one_mul a ha
theorem pow_mul (a m n : Nat) (ha : a < 256) : pow a (m * n) = pow (pow a m) n := by
  induction n with
  | zero => rfl
  | succ n ih => rw [Nat.mul_succ, pow_add a _ _ ha, ih]; rfl
theorem one_pow (n : Nat) : pow 1 n = 1 := by
  induction n with
  | zero => rfl
  | succ n ih => show mul (pow 1 n) 1 = 1; rw [ih]; decide +kernel
theorem zero_pow (n : Nat) (h : n ≠ 0) : pow 0 n = 0 := by
  cases n with
  | zero => exact absurd rfl h
  | succ n => exact mul_zero _
/-- pow by squares, for the kernel. -/
def sq8 (a : Nat) : Nat :=
  let a2 := mul a a; let a4 := mul a2 a2; let a8 := mul a4 a4; let a16 := mul a8 a8; let a32 := mul a16 a16; let a64 := mul a32 a32; let a128 := mul a64 a64
  mul a (mul a2 (mul a4 (mul a8 (mul a16 (mul a32 (mul a64 a128))))))
theorem pow_two (a : Nat) (ha : a < 256) : pow a 2 = mul a a := by show mul (mul 1 a) a = mul a a; rw [one_mul a ha]
theorem pow_double (a n : Nat) (ha : a < 256) : pow a (n + n) = mul (pow a n) (pow a n) := pow_add a n n ha
theorem sq8_eq (a : Nat) (ha : a < 256) : sq8 a = pow a 255 := by
  have e1 := pow_one a ha
  have e2 : pow a 2 = mul a a := pow_two a ha
  have e4 : pow a 4 = mul (pow a 2) (pow a 2) := pow_double a 2 ha
  have e8 : pow a 8 = mul (pow a 4) (pow a 4) := pow_double a 4 ha
  have e16 : pow a 16 = mul (pow a 8) (pow a 8) := pow_double a 8 ha
  have e32 : pow a 32 = mul (pow a 16) (pow a 16) := pow_double a 16 ha
  have e64 : pow a 64 = mul (pow a 32) (pow a 32) := pow_double a 32 ha
  have e128 : pow a 128 = mul (pow a 64) (pow a 64) := pow_double a 64 ha
  have s1 : pow a 255 = mul (pow a 1) (pow a 254) := pow_add a 1 254 ha
  have s2 : pow a 254 = mul (pow a 2) (pow a 252) := pow_add a 2 252 ha
  have s3 : pow a 252 = mul (pow a 4) (pow a 248) := pow_add a 4 248 ha
  have s4 : pow a 248 = mul (pow a 8) (pow a 240) := pow_add a 8 240 ha
  have s5 : pow a 240 = mul (pow a 16) (pow a 224) := pow_add a 16 224 ha
  have s6 : pow a 224 = mul (pow a 32) (pow a 192) := pow_add a 32 192 ha
  have s7 : pow a 192 = mul (pow a 64) (pow a 128) := pow_add a 64 128 ha
  rw [s1, s2, s3, s4, s5, s6, s7, e128, e64, e32, e16, e8, e4, e2, e1]
  rfl
set_option maxRecDepth 100000 in
theorem sq8_all : ∀ a, a < 256 → a ≠ 0 → sq8 a = 1 := by decide +kernel
theorem pow_255 (a : Nat) (ha : a < 256) (h0 : a ≠ 0) : pow a 255 = 1 := by rw [← sq8_eq a ha]; exact sq8_all a ha h0
/-- What a byte is divided by. -/
def inv (a : Nat) : Nat := pow a 254
theorem inv_lt (a : Nat) (ha : a < 256) : inv a < 256 := pow_lt a 254 ha
theorem mul_inv (a : Nat) (ha : a < 256) (h0 : a ≠ 0) : mul a (inv a) = 1 := by
  have h := pow_add a 1 254 ha
  rw [pow_one a ha] at h
  exact h.symm.trans (pow_255 a ha h0)
theorem inv_zero : inv 0 = 0 := zero_pow 254 (by decide)
theorem mul_ne_zero (a b : Nat) (ha : a < 256) (hb : b < 256) (h0 : a ≠ 0) (h1 : b ≠ 0) : mul a b ≠ 0 := by
  intro h
  have e : mul (inv a) (mul a b) = b := by
    rw [mul_assoc _ _ _ (inv_lt a ha) ha hb, mul_comm _ _ (inv_lt a ha) ha, mul_inv a ha h0, one_mul b hb]
  rw [h, mul_zero] at e
  exact h1 e.symm
theorem inv_unique (a x : Nat) (ha : a < 256) (hx : x < 256) (h : mul a x = 1) : x = inv a := by
  have h0 : a ≠ 0 := by intro e; subst e; rw [zero_mul] at h; exact absurd h (by decide)
  have e : mul (inv a) (mul a x) = x := by
    rw [mul_assoc _ _ _ (inv_lt a ha) ha hx, mul_comm _ _ (inv_lt a ha) ha, mul_inv a ha h0, one_mul x hx]
  rw [h, mul_one _ (inv_lt a ha)] at e
  exact e.symm
theorem inv_ne_zero (a : Nat) (ha : a < 256) (h0 : a ≠ 0) : inv a ≠ 0 := by
  intro e; have := mul_inv a ha h0; rw [e, mul_zero] at this; exact absurd this (by decide)
theorem pow_ne_zero (a n : Nat) (ha : a < 256) (h0 : a ≠ 0) : pow a n ≠ 0 := by
  induction n with
  | zero => exact (by decide : 1 ≠ 0)
  | succ n ih => exact mul_ne_zero _ _ (pow_lt a n ha) ha ih h0
theorem pow_mod (a n : Nat) (ha : a < 256) (h0 : a ≠ 0) : pow a n = pow a (n % 255) := by
  have e : n = 255 * (n / 255) + n % 255 := (Nat.div_add_mod n 255).symm
  rw [e, pow_add a _ _ ha, pow_mul a _ _ ha, pow_255 a ha h0, one_pow, one_mul _ (pow_lt a _ ha)]
  simp
end Gf
/- More of the field: powers by integers, squares of sums, the order of 2. Nothing of the program. -/
namespace Gf
/-! ## 2 has the order 255 -/
def run (c : Nat) : Nat → Bool
  | 0 => true
  | k + 1 => (c != 1) && run (mul c 2) k
theorem run_spec : ∀ (k j : Nat), run (pow 2 j) k = true → ∀ i, i < k → pow 2 (j + i) ≠ 1
  | 0, _, _, i, hi => absurd hi (Nat.not_lt_zero i)
  | k + 1, j, h, i, hi => by
    simp only [run, Bool.and_eq_true, bne_iff_ne] at h
    cases i with
    | zero => exact h.1
    | succ i =>
      have := run_spec k (j + 1) h.2 i (by omega)
      rwa [show j + 1 + i = j + (i + 1) by omega] at this
set_option maxRecDepth 100000 in
theorem run_all : run 2 254 = true := by decide +kernel
theorem two_order (k : Nat) (h0 : k ≠ 0) (hk : k < 255) : pow 2 k ≠ 1 := by
  have h := run_spec 254 1 (by rw [pow_one 2 (by decide)]; exact run_all) (k - 1) (by omega)
  rwa [show 1 + (k - 1) = k by omega] at h
theorem pow_two_inj_le (x y : Nat) (hxy : x ≤ y) (hy : y < 255) (h : pow 2 x = pow 2 y) : x = y := by
  rcases Nat.eq_or_lt_of_le hxy with e | hlt
  · exact e
  · exfalso
    have h2 : (2 : Nat) < 256 := by decide
    have e : pow 2 y = mul (pow 2 x) (pow 2 (y - x)) := by rw [← pow_add 2 _ _ h2, show x + (y - x) = y by omega]
    rw [← h] at e
    have hx := pow_lt 2 x h2
    have hx0 := pow_ne_zero 2 x h2 (by decide)
    have hd := pow_lt 2 (y - x) h2
    have : mul (inv (pow 2 x)) (pow 2 x) = mul (inv (pow 2 x)) (mul (pow 2 x) (pow 2 (y - x))) := congrArg _ e
    rw [mul_assoc _ _ _ (inv_lt _ hx) hx hd, mul_comm _ _ (inv_lt _ hx) hx, mul_inv _ hx hx0, one_mul _ hd] at this
    exact two_order (y - x) (by omega) (by omega) this.symm
theorem pow_two_inj (x y : Nat) (hx : x < 255) (hy : y < 255) : pow 2 x = pow 2 y ↔ x = y := by
  constructor
  · intro h
    rcases Nat.le_total x y with l | l
    · exact pow_two_inj_le x y l hy h
    · exact (pow_two_inj_le y x l hx h.symm).symm
  · intro h; rw [h]
end Gf
/- Polynomials over the field of 256 bytes, as sequences of coefficients: sums, products, degrees. Nothing of the program. -/
namespace Go.Proofs

/-- A byte as an element of the field. -/
structure GF where
  val : Nat
  lt : val < 256
namespace GF
theorem ext {a b : GF} (h : a.val = b.val) : a = b := by cases a; cases b; cases h; rfl
/-- Of any number, brought down to a byte. -/
def of (n : Nat) : GF := ⟨n % 256, Nat.mod_lt _ (by decide)⟩
theorem of_val (n : Nat) (h : n < 256) : (of n).val = n := Nat.mod_eq_of_lt h
theorem of_self (a : GF) : of a.val = a := ext (of_val _ a.lt)
instance : Add GF := ⟨fun a b => ⟨a.val ^^^ b.val, Gf.xor_lt8 a.lt b.lt⟩⟩
instance : Mul GF := ⟨fun a b => ⟨Gf.mul a.val b.val, Gf.mul_lt _ _ a.lt⟩⟩
instance : Zero GF := ⟨⟨0, by decide⟩⟩
instance : One GF := ⟨⟨1, by decide⟩⟩
instance : DecidableEq GF := fun a b => if h : a.val = b.val then .isTrue (ext h) else .isFalse (fun e => h (congrArg val e))
theorem add_val (a b : GF) : (a + b).val = a.val ^^^ b.val := rfl
theorem mul_val (a b : GF) : (a * b).val = Gf.mul a.val b.val := rfl
theorem of_zero : of 0 = 0 := rfl
theorem of_xor (a b : Nat) (ha : a < 256) (hb : b < 256) : of (a ^^^ b) = of a + of b := ext (by rw [of_val _ (Gf.xor_lt8 ha hb), add_val, of_val a ha, of_val b hb])
theorem of_mul (a b : Nat) (ha : a < 256) (hb : b < 256) : of (Gf.mul a b) = of a * of b := ext (by rw [of_val _ (Gf.mul_lt _ _ ha), mul_val, of_val a ha, of_val b hb])
theorem of_eq_zero (a : Nat) (ha : a < 256) : of a = 0 ↔ a = 0 := ⟨fun h => by have := congrArg val h; rwa [of_val a ha] at this, fun h => by rw [h]; rfl⟩
theorem of_inj (a b : Nat) (ha : a < 256) (hb : b < 256) (h : of a = of b) : a = b := by have := congrArg val h; rwa [of_val a ha, of_val b hb] at this
theorem add_comm (a b : GF) : a + b = b + a := ext (Nat.xor_comm _ _)
theorem add_assoc (a b c : GF) : a + b + c = a + (b + c) := ext (Nat.xor_assoc _ _ _)
theorem add_zero (a : GF) : a + 0 = a := ext (Nat.xor_zero _)
theorem zero_add (a : GF) : 0 + a = a := ext (Nat.zero_xor _)
theorem add_self (a : GF) : a + a = 0 := ext (Nat.xor_self _)
theorem mul_comm (a b : GF) : a * b = b * a := ext (Gf.mul_comm _ _ a.lt b.lt)
theorem mul_assoc (a b c : GF) : a * b * c = a * (b * c) := ext (Gf.mul_assoc _ _ _ a.lt b.lt c.lt).symm
theorem mul_one (a : GF) : a * 1 = a := ext (Gf.mul_one _ a.lt)
theorem one_mul (a : GF) : 1 * a = a := ext (Gf.one_mul _ a.lt)
theorem mul_zero (a : GF) : a * 0 = 0 := ext (Gf.mul_zero _)
theorem zero_mul (a : GF) : 0 * a = 0 := ext (Gf.zero_mul _)
theorem mul_add (a b c : GF) : a * (b + c) = a * b + a * c := ext (Gf.mul_xor_right _ _ _)
theorem add_mul (a b c : GF) : (a + b) * c = a * c + b * c := ext (Gf.mul_xor_left _ _ _)
instance : Std.Associative (α := GF) (· + ·) := ⟨add_assoc⟩
instance : Std.Commutative (α := GF) (· + ·) := ⟨add_comm⟩
instance : Std.Associative (α := GF) (· * ·) := ⟨mul_assoc⟩
instance : Std.Commutative (α := GF) (· * ·) := ⟨mul_comm⟩
theorem add_cancel (a b : GF) : a + (a + b) = b := by rw [← add_assoc, add_self, zero_add]
theorem eq_of_add {a b : GF} (h : a + b = 0) : a = b := by rw [← add_zero a, ← add_self b, ← add_assoc, h, zero_add]
theorem add_lc (a b c : GF) : a + (b + c) = b + (a + c) := by rw [← add_assoc, add_comm a b, add_assoc]
theorem add_add_add (a b c d : GF) : (a + b) + (c + d) = (a + c) + (b + d) := by ac_rfl
/-- What it is divided by; of 0: 0. -/
def inv (a : GF) : GF := ⟨Gf.inv a.val, Gf.inv_lt _ a.lt⟩
theorem mul_inv (a : GF) (h : a ≠ 0) : a * inv a = 1 := ext (Gf.mul_inv _ a.lt (fun e => h (ext e)))
theorem inv_mul (a : GF) (h : a ≠ 0) : inv a * a = 1 := by rw [mul_comm]; exact mul_inv a h
theorem inv_zero : inv 0 = 0 := ext Gf.inv_zero
theorem one_ne_zero : (1 : GF) ≠ 0 := by decide
theorem mul_eq_zero {a b : GF} (h : a * b = 0) : a = 0 ∨ b = 0 := by
  by_cases ha : a = 0
  · exact .inl ha
  · right
    rw [← one_mul b, ← inv_mul a ha, mul_assoc, h, mul_zero]
theorem mul_ne_zero {a b : GF} (ha : a ≠ 0) (hb : b ≠ 0) : a * b ≠ 0 := fun h => (mul_eq_zero h).elim ha hb
theorem inv_ne_zero {a : GF} (h : a ≠ 0) : inv a ≠ 0 := fun e => one_ne_zero (by rw [← mul_inv a h, e, mul_zero])
theorem mul_left_cancel {a b c : GF} (ha : a ≠ 0) (h : a * b = a * c) : b = c := by
  rw [← one_mul b, ← one_mul c, ← inv_mul a ha, mul_assoc, mul_assoc, h]
theorem of_inv (a : Nat) (ha : a < 256) : of (Gf.inv a) = inv (of a) := ext (by rw [of_val _ (Gf.inv_lt _ ha)]; show _ = Gf.inv (of a).val; rw [of_val a ha])
end GF

/-- A sequence of coefficients. -/
abbrev Pol := Nat → GF
namespace Pol
/-- No coefficient from n on. -/
def Bd (n : Nat) (p : Pol) : Prop := ∀ i, n ≤ i → p i = 0
def zero : Pol := fun _ => 0
def add (p q : Pol) : Pol := fun i => p i + q i
def smul (a : GF) (p : Pol) : Pol := fun i => a * p i
/-- One coefficient alone. -/
def mono (k : Nat) (a : GF) : Pol := fun i => if i = k then a else 0
def tail (p : Pol) : Pol := fun i => p (i + 1)
/-- The coefficients below n. -/
def cut (n : Nat) (p : Pol) : Pol := fun i => if i < n then p i else 0
/-- The product with x^n. -/
def up (n : Nat) (p : Pol) : Pol := fun i => if n ≤ i then p (i - n) else 0
/-- The quotient by x^n. -/
def down (n : Nat) (p : Pol) : Pol := fun i => p (i + n)
/-- The product. -/
def mul (p q : Pol) : Pol
  | 0 => p 0 * q 0
  | n + 1 => p 0 * q (n + 1) + mul (tail p) q n
theorem mul_0 (p q : Pol) : mul p q 0 = p 0 * q 0 := by rw [mul]
theorem mul_succ (p q : Pol) (n : Nat) : mul p q (n + 1) = p 0 * q (n + 1) + mul (tail p) q n := by rw [mul]
theorem tail_mul (p q : Pol) : tail (mul p q) = add (smul (p 0) (tail q)) (mul (tail p) q) := by funext n; exact mul_succ p q n
theorem mul_congr {p p' q q' : Pol} (n : Nat) (hp : ∀ i, i ≤ n → p i = p' i) (hq : ∀ i, i ≤ n → q i = q' i) : mul p q n = mul p' q' n := by
  induction n generalizing p p' with
  | zero => rw [mul_0, mul_0, hp 0 (Nat.le_refl _), hq 0 (Nat.le_refl _)]
  | succ n ih =>
    rw [mul_succ, mul_succ, hp 0 (Nat.zero_le _), hq (n + 1) (Nat.le_refl _)]
    rw [ih (p := tail p) (p' := tail p') (fun i hi => hp (i + 1) (by omega)) (fun i hi => hq i (by omega))]
theorem add_mul (p q r : Pol) : mul (add p q) r = add (mul p r) (mul q r) := by
  funext n
  induction n generalizing p q with
  | zero => simp only [mul_0, add, GF.add_mul]
  | succ n ih =>
    have e : tail (add p q) = add (tail p) (tail q) := rfl
    show mul (add p q) r (n + 1) = mul p r (n + 1) + mul q r (n + 1)
    rw [mul_succ, mul_succ, mul_succ, e, ih]
    show (p 0 + q 0) * r (n + 1) + (mul (tail p) r n + mul (tail q) r n) = _
    rw [GF.add_mul]; ac_rfl
theorem mul_add (p q r : Pol) : mul p (add q r) = add (mul p q) (mul p r) := by
  funext n
  induction n generalizing p with
  | zero => simp only [mul_0, add, GF.mul_add]
  | succ n ih =>
    show mul p (add q r) (n + 1) = mul p q (n + 1) + mul p r (n + 1)
    rw [mul_succ, mul_succ, mul_succ, ih]
    show p 0 * (q (n + 1) + r (n + 1)) + (mul (tail p) q n + mul (tail p) r n) = _
    rw [GF.mul_add]; ac_rfl
theorem smul_mul (a : GF) (p q : Pol) : mul (smul a p) q = smul a (mul p q) := by
  funext n
  induction n generalizing p with
  | zero => simp only [mul_0, smul, GF.mul_assoc]
  | succ n ih =>
    have e : tail (smul a p) = smul a (tail p) := rfl
    show mul (smul a p) q (n + 1) = a * mul p q (n + 1)
    rw [mul_succ, mul_succ, e, ih]
    show a * p 0 * q (n + 1) + a * mul (tail p) q n = _
    rw [GF.mul_add, GF.mul_assoc]
/-- The product, by the other one's first coefficient. -/
theorem mul_succ' (p q : Pol) (n : Nat) : mul p q (n + 1) = p (n + 1) * q 0 + mul p (tail q) n := by
  induction n generalizing p with
  | zero =>
    rw [mul_succ, mul_0, mul_0]
    show p 0 * q 1 + p 1 * q 0 = p 1 * q 0 + p 0 * q 1
    exact GF.add_comm _ _
  | succ n ih =>
    rw [mul_succ, ih, mul_succ]
    show p 0 * q (n + 2) + (p (n + 2) * q 0 + mul (tail p) (tail q) n) = p (n + 2) * q 0 + (p 0 * q (n + 2) + mul (tail p) (tail q) n)
    exact GF.add_lc _ _ _
theorem mul_comm (p q : Pol) : mul p q = mul q p := by
  funext n
  induction n generalizing p with
  | zero => rw [mul_0, mul_0, GF.mul_comm]
  | succ n ih => rw [mul_succ, mul_succ', ih, GF.mul_comm]
theorem mul_assoc (p q r : Pol) : mul (mul p q) r = mul p (mul q r) := by
  funext n
  induction n generalizing p with
  | zero => rw [mul_0, mul_0, mul_0, mul_0, GF.mul_assoc]
  | succ n ih =>
    rw [mul_succ, mul_succ, mul_succ, tail_mul, add_mul, smul_mul, mul_0]
    show p 0 * q 0 * r (n + 1) + (p 0 * mul (tail q) r n + mul (mul (tail p) q) r n) = _
    rw [ih, GF.mul_add, GF.mul_assoc, GF.add_assoc]
theorem mul_smul (a : GF) (p q : Pol) : mul p (smul a q) = smul a (mul p q) := by rw [mul_comm, smul_mul, mul_comm]
theorem zero_mul (p : Pol) : mul zero p = zero := by
  funext n
  induction n with
  | zero => rw [mul_0]; exact GF.zero_mul _
  | succ n ih =>
    have e : tail zero = zero := rfl
    rw [mul_succ, e, ih]
    show (0 : GF) * _ + 0 = 0
    rw [GF.zero_mul, GF.add_zero]
theorem mul_zero (p : Pol) : mul p zero = zero := by rw [mul_comm, zero_mul]
def one : Pol := mono 0 1
theorem const_mul (a : GF) (p : Pol) : mul (mono 0 a) p = smul a p := by
  funext n
  cases n with
  | zero => rw [mul_0]; rfl
  | succ n =>
    have e : tail (mono 0 a) = zero := by funext i; simp [tail, mono, zero]
    rw [mul_succ, e, zero_mul]
    show a * p (n + 1) + 0 = a * p (n + 1)
    rw [GF.add_zero]
theorem one_mul (p : Pol) : mul one p = p := by unfold one; rw [const_mul]; funext i; exact GF.one_mul _
theorem mul_one (p : Pol) : mul p one = p := by rw [mul_comm, one_mul]
theorem add_comm (p q : Pol) : add p q = add q p := by funext i; exact GF.add_comm _ _
theorem add_assoc (p q r : Pol) : add (add p q) r = add p (add q r) := by funext i; exact GF.add_assoc _ _ _
theorem add_zero (p : Pol) : add p zero = p := by funext i; exact GF.add_zero _
theorem zero_add (p : Pol) : add zero p = p := by funext i; exact GF.zero_add _
theorem add_self (p : Pol) : add p p = zero := by funext i; exact GF.add_self _
theorem add_cancel (p q : Pol) : add p (add p q) = q := by funext i; exact GF.add_cancel _ _
theorem eq_of_add {p q : Pol} (h : add p q = zero) : p = q := by funext i; exact GF.eq_of_add (congrFun h i)
theorem smul_smul (a b : GF) (p : Pol) : smul a (smul b p) = smul (a * b) p := by funext i; exact (GF.mul_assoc _ _ _).symm
theorem one_smul (p : Pol) : smul 1 p = p := by funext i; exact GF.one_mul _
theorem zero_smul (p : Pol) : smul 0 p = zero := by funext i; exact GF.zero_mul _
theorem smul_add (a : GF) (p q : Pol) : smul a (add p q) = add (smul a p) (smul a q) := by funext i; exact GF.mul_add _ _ _
theorem x_mul (p : Pol) : mul (mono 1 1) p = up 1 p := by
  funext n
  have e : tail (mono 1 1) = one := by funext i; simp [tail, mono, one]
  cases n with
  | zero =>
    rw [mul_0]
    show (0 : GF) * _ = if 1 ≤ 0 then _ else 0
    rw [GF.zero_mul]; rfl
  | succ n =>
    rw [mul_succ, e, one_mul]
    show (0 : GF) * _ + _ = if 1 ≤ n + 1 then p (n + 1 - 1) else 0
    rw [GF.zero_mul, GF.zero_add, if_pos (by omega)]; rfl
theorem up_zero (p : Pol) : up 0 p = p := by funext i; simp [up]
theorem up_up (m n : Nat) (p : Pol) : up m (up n p) = up (m + n) p := by
  funext i
  unfold up
  by_cases h : m ≤ i
  · by_cases h2 : n ≤ i - m
    · rw [if_pos h, if_pos h2, if_pos (by omega)]
      congr 1; omega
    · rw [if_pos h, if_neg h2, if_neg (by omega)]
  · rw [if_neg h, if_neg (by omega)]
theorem up_mul (n : Nat) (p q : Pol) : mul (up n p) q = up n (mul p q) := by
  induction n with
  | zero => rw [up_zero, up_zero]
  | succ n ih =>
    have e : ∀ r : Pol, up (n + 1) r = up 1 (up n r) := fun r => by rw [up_up, Nat.add_comm]
    rw [e, e, ← x_mul, ← x_mul, mul_assoc, ih]
theorem mono_mul (k : Nat) (a : GF) (p : Pol) : mul (mono k a) p = up k (smul a p) := by
  have e : mono k a = up k (mono 0 a) := by
    funext i
    show (if i = k then a else 0) = if k ≤ i then (if i - k = 0 then a else 0) else 0
    by_cases h : i = k
    · rw [if_pos h, if_pos (by omega), if_pos (by omega)]
    · rw [if_neg h]
      split
      · rw [if_neg (by omega)]
      · rfl
  rw [e, up_mul, const_mul]
theorem cut_up_down (n : Nat) (p : Pol) : add (cut n p) (up n (down n p)) = p := by
  funext i
  show (if i < n then p i else 0) + (if n ≤ i then p (i - n + n) else 0) = p i
  by_cases h : i < n
  · rw [if_pos h, if_neg (by omega), GF.add_zero]
  · rw [if_neg h, if_pos (by omega), GF.zero_add]; congr 1; omega
/-- A product row by row: what one more coefficient adds. -/
theorem mul_cut_succ (p q : Pol) (k : Nat) : mul (cut (k + 1) p) q = add (mul (cut k p) q) (up k (smul (p k) q)) := by
  rw [← mono_mul, ← add_mul]
  congr 1
  funext i
  show (if i < k + 1 then p i else 0) = (if i < k then p i else 0) + (if i = k then p k else 0)
  by_cases h : i < k
  · rw [if_pos (by omega), if_pos h, if_neg (by omega), GF.add_zero]
  · by_cases e : i = k
    · subst e; rw [if_pos (by omega), if_neg h, if_pos rfl, GF.zero_add]
    · rw [if_neg (by omega), if_neg h, if_neg e, GF.add_zero]
theorem cut_zero (p : Pol) : cut 0 p = zero := by funext i; simp [cut, zero]
theorem cut_bd {n : Nat} {p : Pol} (h : Bd n p) : cut n p = p := by
  funext i
  unfold cut
  split
  · rfl
  · exact (h i (by omega)).symm

/-! Degrees. -/
theorem Bd.mono_le {m n : Nat} {p : Pol} (h : Bd m p) (hn : m ≤ n) : Bd n p := fun i hi => h i (Nat.le_trans hn hi)
theorem Bd.add {n : Nat} {p q : Pol} (hp : Bd n p) (hq : Bd n q) : Bd n (Pol.add p q) := fun i hi => by show p i + q i = 0; rw [hp i hi, hq i hi]; rfl
theorem Bd.smul {n : Nat} {p : Pol} (a : GF) (hp : Bd n p) : Bd n (Pol.smul a p) := fun i hi => by show a * p i = 0; rw [hp i hi, GF.mul_zero]
theorem Bd.zero (n : Nat) : Bd n zero := fun _ _ => rfl
theorem Bd.up {n : Nat} {p : Pol} (k : Nat) (hp : Bd n p) : Bd (n + k) (Pol.up k p) := fun i hi => by
  show (if k ≤ i then p (i - k) else 0) = 0
  split
  · exact hp _ (by omega)
  · rfl
theorem bd_zero {p : Pol} (h : Bd 0 p) : p = zero := by funext i; exact h i (Nat.zero_le _)
theorem Bd.tail {n : Nat} {p : Pol} (h : Bd (n + 1) p) : Bd n (tail p) := fun i hi => h (i + 1) (by omega)
theorem Bd.mul {a b : Nat} {p q : Pol} (hp : Bd (a + 1) p) (hq : Bd (b + 1) q) : Bd (a + b + 1) (Pol.mul p q) := by
  induction a generalizing p with
  | zero =>
    have e : p = mono 0 (p 0) := by
      funext i
      unfold mono
      split
      · rename_i h; rw [h]
      · exact hp i (by omega)
    rw [e, const_mul, Nat.zero_add]
    exact hq.smul _
  | succ a ih =>
    intro i hi
    cases i with
    | zero => omega
    | succ i =>
      rw [mul_succ, hq (i + 1) (by omega), GF.mul_zero, GF.zero_add]
      exact ih (Bd.tail hp) i (by omega)
/-- The greatest coefficient of a product. -/
theorem mul_top {a b : Nat} {p q : Pol} (hp : Bd (a + 1) p) (hq : Bd (b + 1) q) : mul p q (a + b) = p a * q b := by
  induction a generalizing p with
  | zero =>
    have e : p = mono 0 (p 0) := by
      funext i
      unfold mono
      split
      · rename_i h; rw [h]
      · exact hp i (by omega)
    rw [e, const_mul, Nat.zero_add]
    rfl
  | succ a ih =>
    have e : a + 1 + b = a + b + 1 := by omega
    rw [e, mul_succ, hq (a + b + 1) (by omega), GF.mul_zero, GF.zero_add, ih (Bd.tail hp)]
    rfl
/-- Of a degree: d less 1 is the greatest with a coefficient; 0: there is none. -/
structure Dg (d : Nat) (p : Pol) : Prop where
  bd : Bd d p
  top : d ≠ 0 → p (d - 1) ≠ 0
theorem Dg.unique {d e : Nat} {p : Pol} (h : Dg d p) (k : Dg e p) : d = e := by
  rcases Nat.lt_trichotomy d e with hl | hl | hl
  · exact absurd (h.bd (e - 1) (by omega)) (k.top (by omega))
  · exact hl
  · exact absurd (k.bd (d - 1) (by omega)) (h.top (by omega))
theorem dg_of_bd : ∀ (n : Nat) (p : Pol), Bd n p → ∃ d, d ≤ n ∧ Dg d p
  | 0, p, h => ⟨0, Nat.le_refl _, h, fun e => absurd rfl e⟩
  | n + 1, p, h => by
    by_cases e : p n = 0
    · obtain ⟨d, hd, hg⟩ := dg_of_bd n p (fun i hi => by
        rcases Nat.lt_or_ge n i with h1 | h1
        · exact h i h1
        · rw [show i = n by omega, e])
      exact ⟨d, by omega, hg⟩
    · exact ⟨n + 1, Nat.le_refl _, h, fun _ => e⟩
theorem Dg.eq_zero {p : Pol} (h : Dg 0 p) : p = zero := bd_zero h.bd
theorem Dg.mul {d e : Nat} {p q : Pol} (hp : Dg (d + 1) p) (hq : Dg (e + 1) q) : Dg (d + e + 1) (Pol.mul p q) :=
  ⟨hp.bd.mul hq.bd, fun _ => by
    show Pol.mul p q (d + e) ≠ 0
    rw [mul_top hp.bd hq.bd]
    exact GF.mul_ne_zero (hp.top (by omega)) (hq.top (by omega))⟩
theorem mul_eq_zero {m n : Nat} {p q : Pol} (hp : Bd m p) (hq : Bd n q) (h : mul p q = zero) : p = zero ∨ q = zero := by
  obtain ⟨d, _, hd⟩ := dg_of_bd m p hp
  obtain ⟨e, _, he⟩ := dg_of_bd n q hq
  cases d with
  | zero => exact .inl hd.eq_zero
  | succ d =>
    cases e with
    | zero => exact .inr he.eq_zero
    | succ e =>
      have := (hd.mul he).top (by omega)
      rw [h] at this
      exact absurd rfl this
theorem mul_left_cancel {l m n : Nat} {p q r : Pol} (hp : Bd l p) (hq : Bd m q) (hr : Bd n r) (h0 : p ≠ zero) (h : mul p q = mul p r) : q = r := by
  have h1 : mul p (add q r) = zero := by rw [mul_add, h, add_self]
  rcases mul_eq_zero hp ((hq.mono_le (Nat.le_max_left m n)).add (hr.mono_le (Nat.le_max_right m n))) h1 with e | e
  · exact absurd e h0
  · exact eq_of_add e
theorem Dg.smul {d : Nat} {p : Pol} (a : GF) (ha : a ≠ 0) (h : Dg d p) : Dg d (Pol.smul a p) := ⟨h.bd.smul a, fun e => GF.mul_ne_zero ha (h.top e)⟩

/-! Lists of bytes as polynomials. -/
def ofL (xs : List Nat) : Pol := fun i => GF.of (xs.getD i 0)
theorem ofL_bd (xs : List Nat) : Bd xs.length (ofL xs) := fun i hi => by
  unfold ofL
  simp [List.getD, List.getElem?_eq_none hi]
  rfl
/-- All are bytes. -/
def Byt (xs : List Nat) : Prop := ∀ i, xs.getD i 0 < 256
theorem ofL_nil : ofL [] = zero := by funext i; simp [ofL, zero]; rfl
/-- NORMAL: empty, or its last byte is not 0. -/
def Nrm (xs : List Nat) : Prop := xs.length ≠ 0 → xs.getD (xs.length - 1) 0 ≠ 0
theorem Nrm.dg {xs : List Nat} (h : Nrm xs) (hb : Byt xs) : Dg xs.length (ofL xs) := ⟨ofL_bd xs, fun h0 e => h h0 ((GF.of_eq_zero _ (hb _)).1 e)⟩
/-- A normal list is told by its polynomial. -/
theorem ofL_inj {xs ys : List Nat} (hx : Nrm xs) (hy : Nrm ys) (bx : Byt xs) (by' : Byt ys) (h : ofL xs = ofL ys) : xs = ys := by
  have hl : xs.length = ys.length := (hx.dg bx).unique (h ▸ hy.dg by')
  apply List.ext_getElem?
  intro i
  by_cases hi : i < xs.length
  · have h1 := GF.of_inj _ _ (bx i) (by' i) (congrFun h i)
    have h2 : i < ys.length := by omega
    simp only [List.getD, List.getElem?_eq_getElem hi, List.getElem?_eq_getElem h2, Option.getD_some] at h1
    rw [List.getElem?_eq_getElem hi, List.getElem?_eq_getElem h2, h1]
  · rw [List.getElem?_eq_none (by omega), List.getElem?_eq_none (by omega)]
/-- The list of the first n coefficients. -/
def toL (n : Nat) (p : Pol) : List Nat := (List.range n).map fun i => (p i).val
theorem toL_length (n : Nat) (p : Pol) : (toL n p).length = n := by simp [toL]
theorem toL_at (n : Nat) (p : Pol) (i : Nat) : (toL n p).getD i 0 = if i < n then (p i).val else 0 := by
  unfold toL
  by_cases h : i < n
  · simp [List.getD, h]
  · simp [List.getD, h]
theorem toL_byt (n : Nat) (p : Pol) : Byt (toL n p) := fun i => by rw [toL_at]; split; exact (p i).lt; decide
theorem ofL_toL {n : Nat} {p : Pol} (h : Bd n p) : ofL (toL n p) = p := by
  funext i
  unfold ofL
  rw [toL_at]
  split
  · exact GF.of_self _
  · rw [h i (by omega)]; rfl
theorem toL_nrm {n : Nat} {p : Pol} (h : Dg n p) : Nrm (toL n p) := fun h0 e => by
  rw [toL_length] at h0 e
  rw [toL_at, if_pos (by omega)] at e
  exact h.top h0 (GF.ext e)
end Pol
end Go.Proofs
/- Normal lists of polynomials: of each polynomial there is one. Nothing of the program. -/
namespace Go.Proofs
namespace Pol
/-- zs is the normal list of p. -/
structure IsN (zs : List Nat) (p : Pol) : Prop where
  nrm : Nrm zs
  byt : Byt zs
  eq : ofL zs = p
theorem IsN.dg {zs : List Nat} {p : Pol} (h : IsN zs p) : Dg zs.length p := h.eq ▸ h.nrm.dg h.byt
theorem IsN.unique {zs ys : List Nat} {p : Pol} (h : IsN zs p) (k : IsN ys p) : zs = ys := ofL_inj h.nrm k.nrm h.byt k.byt (h.eq.trans k.eq.symm)
theorem IsN.len {zs : List Nat} {p : Pol} {d : Nat} (h : IsN zs p) (k : Dg d p) : zs.length = d := h.dg.unique k
theorem isN_of_dg {d : Nat} {p : Pol} (h : Dg d p) : IsN (toL d p) p := ⟨toL_nrm h, toL_byt d p, ofL_toL h.bd⟩
theorem isN_of_bd {n : Nat} {p : Pol} (h : Bd n p) : ∃ zs, IsN zs p ∧ zs.length ≤ n := by
  obtain ⟨d, hd, hg⟩ := dg_of_bd n p h
  exact ⟨_, isN_of_dg hg, by rw [toL_length]; exact hd⟩
theorem dg_list (xs : List Nat) : ∃ d, d ≤ xs.length ∧ Dg d (ofL xs) := dg_of_bd _ _ (ofL_bd xs)
theorem Dg.le {d n : Nat} {p : Pol} (h : Dg d p) (k : Bd n p) : d ≤ n := by
  rcases Nat.lt_or_ge n d with hl | hl
  · exact absurd (k (d - 1) (by omega)) (h.top (by omega))
  · exact hl
theorem getD_take (xs : List Nat) (d i : Nat) : (xs.take d).getD i 0 = if i < d then xs.getD i 0 else 0 := by
  by_cases h : i < d
  · rw [if_pos h]; simp [List.getD, h]
  · rw [if_neg h]; simp [List.getD, List.getElem?_take, h]
theorem byt_take {xs : List Nat} (h : Byt xs) (d : Nat) : Byt (xs.take d) := fun i => by rw [getD_take]; split; exact h i; decide
theorem ofL_take (xs : List Nat) (d : Nat) : ofL (xs.take d) = cut d (ofL xs) := by
  funext i
  unfold ofL cut
  rw [getD_take]
  split <;> rfl
/-- What is left of a list without the noughts at its end. -/
theorem isN_take {xs : List Nat} (hb : Byt xs) {d : Nat} (h : Dg d (ofL xs)) : IsN (xs.take d) (ofL xs) := by
  have hle := h.le (ofL_bd xs)
  have hl : (xs.take d).length = d := by rw [List.length_take]; omega
  refine ⟨fun h0 => ?_, byt_take hb d, by rw [ofL_take, cut_bd h.bd]⟩
  rw [hl] at h0 ⊢
  rw [getD_take, if_pos (by omega)]
  intro e
  exact h.top h0 (by unfold ofL; rw [e]; rfl)
theorem getD_rep (n i : Nat) : (List.replicate n 0).getD i 0 = 0 := by
  simp only [List.getD, List.getElem?_replicate]
  split <;> rfl
theorem ofL_rep (n : Nat) : ofL (List.replicate n 0) = zero := by
  funext i
  unfold ofL
  rw [getD_rep]; rfl
theorem getD_append (xs ys : List Nat) (i : Nat) : (xs ++ ys).getD i 0 = if i < xs.length then xs.getD i 0 else ys.getD (i - xs.length) 0 := by
  simp only [List.getD, List.getElem?_append]
  split <;> rfl
theorem ofL_up (n : Nat) (xs : List Nat) : ofL (List.replicate n 0 ++ xs) = up n (ofL xs) := by
  funext i
  unfold ofL up
  rw [getD_append, List.length_replicate]
  by_cases h : i < n
  · rw [if_pos h, if_neg (by omega), getD_rep]; rfl
  · rw [if_neg h, if_pos (by omega)]
theorem byt_nil : Byt [] := fun i => by simp
theorem byt_rep (n : Nat) : Byt (List.replicate n 0) := fun i => by rw [getD_rep]; decide
theorem byt_append {xs ys : List Nat} (h : Byt xs) (k : Byt ys) : Byt (xs ++ ys) := fun i => by rw [getD_append]; split; exact h _; exact k _
theorem isN_nil : IsN [] zero := ⟨fun h => absurd rfl h, byt_nil, ofL_nil⟩
theorem isN_zero {zs : List Nat} (h : IsN zs zero) : zs = [] := h.unique isN_nil
theorem IsN.nil_iff {zs : List Nat} {p : Pol} (h : IsN zs p) : zs.length = 0 ↔ p = zero := by
  constructor
  · intro e
    rw [← h.eq, List.length_eq_zero_iff.1 e, ofL_nil]
  · rintro rfl
    rw [isN_zero h]; rfl
theorem ofL_map {xs : List Nat} (a : Nat) (ha : a < 256) (hb : Byt xs) : ofL (xs.map (Gf.mul a)) = smul (GF.of a) (ofL xs) := by
  funext i
  unfold ofL smul
  rw [← GF.of_mul a _ ha (hb i)]
  congr 1
  simp only [List.getD, List.getElem?_map]
  cases xs[i]? with
  | none => simp [Gf.mul_zero]
  | some x => rfl
end Pol
end Go.Proofs
/- Plain mathematics of lanes: sixty-four numbers laid bit by bit. Nothing of the program. No conditions. -/
namespace Ln

/-- The plane i of the first k lanes. -/
def pkK (l : Nat → Nat) (i : Nat) : Nat → Nat
  | 0 => 0
  | k + 1 => pkK l i k ^^^ (if (l k).testBit i then 2 ^ k else 0)
/-- The plane i of the lanes l. -/
def pk (l : Nat → Nat) (i : Nat) : Nat := pkK l i 64
theorem bit_pow (b : Bool) (k m : Nat) : (if b then 2 ^ k else 0 : Nat).testBit m = (b && decide (m = k)) := by
  cases b
  · simp
  · simp only [if_true, Nat.testBit_two_pow, Bool.true_and]
    exact decide_eq_decide.2 ⟨Eq.symm, Eq.symm⟩
theorem pkK_bit (l : Nat → Nat) (i k m : Nat) : (pkK l i k).testBit m = (decide (m < k) && (l m).testBit i) := by
  induction k with
  | zero => simp [pkK]
  | succ k ih =>
    rw [pkK, Nat.testBit_xor, ih, bit_pow]
    by_cases e : m = k
    · subst e; simp
    · have : decide (m < k + 1) = decide (m < k) := decide_eq_decide.2 (by omega)
      simp [e, this]
theorem pk_bit (l : Nat → Nat) (i m : Nat) : (pk l i).testBit m = (decide (m < 64) && (l m).testBit i) := pkK_bit l i 64 m
theorem pk_lt (l : Nat → Nat) (i : Nat) : pk l i < 18446744073709551616 := by
  refine Nat.lt_pow_two_of_testBit (n := 64) _ fun m hm => ?_
  rw [pk_bit]
  simp; omega
theorem pk_same {l m : Nat → Nat} (h : ∀ n, n < 64 → l n = m n) (i : Nat) : pk l i = pk m i := by
  apply Nat.eq_of_testBit_eq
  intro n
  rw [pk_bit, pk_bit]
  by_cases hn : n < 64
  · rw [h n hn]
  · simp [hn]

/-- The byte of the first k planes at n. -/
def laneK (p : Nat → Nat) (n : Nat) : Nat → Nat
  | 0 => 0
  | k + 1 => laneK p n k ^^^ (if (p k).testBit n then 2 ^ k else 0)
def lane (p : Nat → Nat) (n : Nat) : Nat := laneK p n 8
/-! ## Sums -/
/-! ## Pack: the lanes ahead of n, and the first i bits of the lane n -/
def packS (l : Nat → Nat) (n i : Nat) (m : Nat) : Nat := if m < n then l m else if m = n then l n % 2 ^ i else 0
theorem packS_bit (l : Nat → Nat) (n i m j : Nat) : (packS l n i m).testBit j = (decide (m < n ∨ (m = n ∧ j < i)) && (l m).testBit j) := by
  unfold packS
  split
  · rename_i h; simp [h]
  · split
    · rename_i h e; subst e; rw [Nat.testBit_mod_two_pow]; simp
    · rename_i h e; simp [h, e]
theorem pack_step (l : Nat → Nat) (n i : Nat) (hn : n < 64) : pk (packS l n (i + 1)) i = pk (packS l n i) i ||| ((l n / 2 ^ i % 2) * 2 ^ n) := by
  have e : l n / 2 ^ i % 2 = if (l n).testBit i then 1 else 0 := by
    rw [Nat.testBit_eq_decide_div_mod_eq]
    rcases Nat.mod_two_eq_zero_or_one (l n / 2 ^ i) with h | h <;> rw [h] <;> rfl
  have e2 : (l n / 2 ^ i % 2) * 2 ^ n = if (l n).testBit i then 2 ^ n else 0 := by rw [e]; split <;> simp
  rw [e2]
  apply Nat.eq_of_testBit_eq
  intro m
  rw [Nat.testBit_or, bit_pow, pk_bit, pk_bit, packS_bit, packS_bit]
  by_cases hm : m = n
  · subst hm; simp [hn]
  · have h1 : decide (m < n ∨ (m = n ∧ i < i + 1)) = decide (m < n) := decide_eq_decide.2 (by omega)
    have h2 : decide (m < n ∨ (m = n ∧ i < i)) = decide (m < n) := decide_eq_decide.2 (by omega)
    rw [h1, h2]; simp [hm]
theorem pack_else (l : Nat → Nat) (n i j : Nat) (h : j ≠ i) : pk (packS l n (i + 1)) j = pk (packS l n i) j := by
  apply Nat.eq_of_testBit_eq
  intro m
  rw [pk_bit, pk_bit, packS_bit, packS_bit]
  have : decide (m < n ∨ (m = n ∧ j < i + 1)) = decide (m < n ∨ (m = n ∧ j < i)) := decide_eq_decide.2 (by omega)
  rw [this]
theorem pack_next (l : Nat → Nat) (n j : Nat) (hl : l n < 256) : pk (packS l n 8) j = pk (packS l (n + 1) 0) j := by
  apply Nat.eq_of_testBit_eq
  intro m
  rw [pk_bit, pk_bit, packS_bit, packS_bit]
  by_cases hm : m = n
  · subst hm
    by_cases hj : j < 8
    · simp [hj]
    · have : (l m).testBit j = false := Nat.testBit_lt_two_pow (Nat.lt_of_lt_of_le hl (Nat.pow_le_pow_right (by decide) (by omega) : 2 ^ 8 ≤ 2 ^ j))
      simp [this]
  · have : decide (m < n ∨ (m = n ∧ j < 8)) = decide (m < n + 1 ∨ (m = n + 1 ∧ j < 0)) := decide_eq_decide.2 (by omega)
    rw [this]
theorem pack_start (l : Nat → Nat) (j : Nat) : pk (packS l 0 0) j = 0 := by
  apply Nat.eq_of_testBit_eq
  intro m
  rw [pk_bit, packS_bit]; simp
/-- All that come are packed: behind them are noughts. -/
theorem pack_end (l : Nat → Nat) (n j : Nat) (h : ∀ m, n ≤ m → m < 64 → l m = 0) : pk (packS l n 0) j = pk l j := by
  apply Nat.eq_of_testBit_eq
  intro m
  rw [pk_bit, pk_bit, packS_bit]
  by_cases hm : m < 64
  · by_cases hmn : m < n
    · simp [hmn]
    · rw [h m (by omega) hm]; simp
  · simp [hm]

/-! ## Products -/
/-- The bits j of b up to k, where a has its bit i, added to s. -/
def inK (a b i s : Nat) : Nat → Nat
  | 0 => s
  | k + 1 => inK a b i s k ^^^ (if a.testBit i && b.testBit k then 2 ^ (i + k) else 0)
theorem inK_eq (a b i s k : Nat) : inK a b i s k = s ^^^ (if a.testBit i then (b % 2 ^ k) * 2 ^ i else 0) := by
  induction k with
  | zero => simp [inK, Nat.mod_one]
  | succ k ih =>
    rw [inK, ih]
    cases a.testBit i
    · simp
    · have h := Gf.bit_off (b % 2 ^ (k + 1)) k (Nat.mod_lt _ (Nat.two_pow_pos _))
      rw [Nat.mod_mod_of_dvd _ (Nat.pow_dvd_pow 2 (Nat.le_succ k)), Nat.testBit_mod_two_pow] at h
      simp only [Nat.lt_succ_self, decide_true, Bool.true_and] at h
      simp only [if_true, Bool.true_and]
      rw [h, Gf.xor_mul_pow, Nat.xor_assoc]
      cases b.testBit k
      · simp
      · simp [Nat.pow_add, Nat.mul_comm]
theorem inK_all (a b i : Nat) (hb : b < 256) : inK a b i (Gf.wideK b a i) 8 = Gf.wideK b a (i + 1) := by
  rw [inK_eq, Gf.wideK, Nat.mod_eq_of_lt (by omega : b < 2 ^ 8)]
  cases a.testBit i <;> simp
theorem mul_step (a b s : Nat → Nat) (i j : Nat) :
    pk (fun n => inK (a n) (b n) i (s n) (j + 1)) (i + j) = pk (fun n => inK (a n) (b n) i (s n) j) (i + j) ^^^ (pk a i &&& pk b j) := by
  apply Nat.eq_of_testBit_eq
  intro n
  rw [Nat.testBit_xor, Nat.testBit_and, pk_bit, pk_bit, pk_bit, pk_bit, inK, Nat.testBit_xor, bit_pow]
  cases decide (n < 64) <;> simp
theorem mul_else (a b s : Nat → Nat) (i j m : Nat) (h : m ≠ i + j) :
    pk (fun n => inK (a n) (b n) i (s n) (j + 1)) m = pk (fun n => inK (a n) (b n) i (s n) j) m := by
  apply Nat.eq_of_testBit_eq
  intro n
  rw [pk_bit, pk_bit, inK, Nat.testBit_xor, bit_pow]
  simp [h]
/-! ## To scale: the bits of b are those of one byte -/
def scK (a b j s : Nat) : Nat → Nat
  | 0 => s
  | k + 1 => scK a b j s k ^^^ (if a.testBit k then 2 ^ (k + j) else 0)
theorem scK_eq (a b j s k : Nat) : scK a b j s k = s ^^^ ((a % 2 ^ k) * 2 ^ j) := by
  induction k with
  | zero => simp [scK, Nat.mod_one]
  | succ k ih =>
    rw [scK, ih]
    have h := Gf.bit_off (a % 2 ^ (k + 1)) k (Nat.mod_lt _ (Nat.two_pow_pos _))
    rw [Nat.mod_mod_of_dvd _ (Nat.pow_dvd_pow 2 (Nat.le_succ k)), Nat.testBit_mod_two_pow] at h
    simp only [Nat.lt_succ_self, decide_true, Bool.true_and] at h
    rw [h, Gf.xor_mul_pow, Nat.xor_assoc]
    cases a.testBit k
    · simp
    · simp [Nat.pow_add]
theorem scK_all (a b j : Nat) (ha : a < 256) (hb : b.testBit j = true) : scK a b j (Gf.wideK a b j) 8 = Gf.wideK a b (j + 1) := by
  rw [scK_eq, Gf.wideK, Nat.mod_eq_of_lt (by omega : a < 2 ^ 8), if_pos hb]
theorem sc_step (a s : Nat → Nat) (b i j : Nat) :
    pk (fun n => scK (a n) b j (s n) (i + 1)) (i + j) = pk (fun n => scK (a n) b j (s n) i) (i + j) ^^^ pk a i := by
  apply Nat.eq_of_testBit_eq
  intro n
  rw [Nat.testBit_xor, pk_bit, pk_bit, pk_bit, scK, Nat.testBit_xor, bit_pow]
  cases decide (n < 64) <;> simp
theorem sc_else (a s : Nat → Nat) (b i j m : Nat) (h : m ≠ i + j) :
    pk (fun n => scK (a n) b j (s n) (i + 1)) m = pk (fun n => scK (a n) b j (s n) i) m := by
  apply Nat.eq_of_testBit_eq
  intro n
  rw [pk_bit, pk_bit, scK, Nat.testBit_xor, bit_pow]
  simp [h]
/-! ## Squares -/
def sqK (a : Nat) : Nat → Nat
  | 0 => 0
  | k + 1 => sqK a k ^^^ (if a.testBit k then 2 ^ (2 * k) else 0)
theorem sqK_lin (k : Nat) : Gf.Lin (fun a => sqK a k) := by
  intro x y
  induction k with
  | zero => simp [sqK]
  | succ k ih =>
    simp only [sqK] at ih ⊢
    rw [Nat.testBit_xor, ih]
    cases x.testBit k <;> cases y.testBit k <;> simp [Nat.xor_assoc, Nat.xor_comm, Gf.xor_lc]
/-- The square of a sum without carries. -/
theorem wide_sq_xor (x y : Nat) (hx : x < 256) (hy : y < 256) : Gf.wide (x ^^^ y) (x ^^^ y) = Gf.wide x x ^^^ Gf.wide y y := by
  rw [Gf.wide_xor_left, Gf.wide_xor_right, Gf.wide_xor_right, Gf.wide_comm y x hy hx, Nat.xor_assoc, Gf.xor_cc]
theorem sqK_wide_upto : ∀ n, n ≤ 8 → ∀ a, a < 2 ^ n → sqK a 8 = Gf.wide a a := by
  intro n
  induction n with
  | zero => intro _ a ha; have : a = 0 := by simp at ha; omega
            subst this; decide
  | succ n ih =>
    intro hn a ha
    have hp : 2 ^ n ≤ 2 ^ 7 := Nat.pow_le_pow_right (by decide) (by omega)
    have hm := Nat.mod_lt a (Nat.two_pow_pos n)
    rw [Gf.bit_off a n ha]
    have h1 := sqK_lin 8 (a % 2 ^ n) (if a.testBit n then 2 ^ n else 0)
    simp only at h1
    rw [h1, wide_sq_xor _ _ (by omega) (by split <;> omega), ih (by omega) _ hm]
    congr 1
    split
    · have : ∀ n, n < 8 → sqK (2 ^ n) 8 = Gf.wide (2 ^ n) (2 ^ n) := by decide +kernel
      exact this n (by omega)
    · decide
theorem sqK_wide (a : Nat) (ha : a < 256) : sqK a 8 = Gf.wide a a := sqK_wide_upto 8 (by decide) a ha
theorem sqK_bit (a k m : Nat) : (sqK a k).testBit m = (decide (m % 2 = 0 ∧ m / 2 < k) && a.testBit (m / 2)) := by
  induction k with
  | zero => simp [sqK]
  | succ k ih =>
    rw [sqK, Nat.testBit_xor, ih, bit_pow]
    by_cases e : m = 2 * k
    · subst e
      have h1 : 2 * k % 2 = 0 := by omega
      have h2 : 2 * k / 2 = k := by omega
      simp [h1, h2]
    · have : decide (m % 2 = 0 ∧ m / 2 < k + 1) = decide (m % 2 = 0 ∧ m / 2 < k) := decide_eq_decide.2 (by omega)
      simp [e, this]
theorem sq_step (a : Nat → Nat) (k : Nat) : pk (fun n => sqK (a n) (k + 1)) (2 * k) = pk a k := by
  apply Nat.eq_of_testBit_eq
  intro n
  rw [pk_bit, pk_bit, sqK_bit]
  have h1 : 2 * k % 2 = 0 := by omega
  have h2 : 2 * k / 2 = k := by omega
  simp [h1, h2]
theorem sq_else (a : Nat → Nat) (k m : Nat) (h : m ≠ 2 * k) : pk (fun n => sqK (a n) (k + 1)) m = pk (fun n => sqK (a n) k) m := by
  apply Nat.eq_of_testBit_eq
  intro n
  rw [pk_bit, pk_bit, sqK, Nat.testBit_xor, bit_pow]
  simp [h]

/-! ## Brought down -/
/-- The bits high, 14 to 15 - k, brought down; they stay where they were. -/
def dn (l : Nat) : Nat → Nat
  | 0 => l
  | k + 1 => dn l k ^^^ (if (dn l k).testBit (14 - k) then 29 * 2 ^ (6 - k) else 0)
theorem dn_lin (k : Nat) : Gf.Lin (fun l => dn l k) := by
  intro x y
  induction k with
  | zero => rfl
  | succ k ih =>
    simp only [dn] at ih ⊢
    rw [ih, Nat.testBit_xor]
    cases (dn x k).testBit (14 - k) <;> cases (dn y k).testBit (14 - k) <;> simp [Nat.xor_assoc, Nat.xor_comm, Gf.xor_lc]
theorem mod_lin : Gf.Lin (fun l => l % 256) := by
  intro x y
  exact Nat.xor_mod_two_pow (n := 8)
theorem dn_red (l : Nat) (h : l < 32768) : dn l 7 % 256 = Gf.red l := by
  refine Gf.Lin.ext (f := fun l => dn l 7 % 256) (g := Gf.red) (fun x y => ?_) (fun x y => Gf.red_xor x y) 15 (by decide +kernel) l h
  have h1 := dn_lin 7 x y
  have h2 := mod_lin (dn x 7) (dn y 7)
  simp only at h1 h2 ⊢
  rw [h1, h2]
/-- The bits i of 29 up to k of it. -/
def dnI (l high : Nat) (k : Nat) : Nat := l ^^^ (if l.testBit high then 29 % 2 ^ k * 2 ^ (high - 8) else 0)
theorem dnI_bit (l high k m : Nat) : (dnI l high k).testBit m = (l.testBit m ^^ (l.testBit high && (decide (high - 8 ≤ m) && (decide (m - (high - 8) < k) && Nat.testBit 29 (m - (high - 8)))))) := by
  unfold dnI
  rw [Nat.testBit_xor]
  cases l.testBit high
  · simp
  · simp only [if_true, Bool.true_and]
    rw [Nat.testBit_mul_two_pow, Nat.testBit_mod_two_pow]
theorem dnI_zero (l high : Nat) : dnI l high 0 = l := by simp [dnI, Nat.mod_one]
theorem dnI_five (l k : Nat) (hk : k < 7) : dnI (dn l k) (14 - k) 5 = dn l (k + 1) := by
  rw [dnI, dn, show 14 - k - 8 = 6 - k by omega]
theorem dn_step (l : Nat → Nat) (high k : Nat) (h8 : 8 ≤ high) (hk : k < 5) (hb : Nat.testBit 29 k = true) :
    pk (fun n => dnI (l n) high (k + 1)) (high - 8 + k) = pk (fun n => dnI (l n) high k) (high - 8 + k) ^^^ pk (fun n => dnI (l n) high k) high := by
  apply Nat.eq_of_testBit_eq
  intro n
  rw [Nat.testBit_xor, pk_bit, pk_bit, pk_bit, dnI_bit, dnI_bit, dnI_bit]
  have e1 : high - 8 + k - (high - 8) = k := by omega
  have e2 : high - (high - 8) = 8 := by omega
  have e3 : decide (high - 8 ≤ high - 8 + k) = true := by simp
  have e4 : decide (8 < k) = false := by simp; omega
  rw [e1, e2, e3, e4, hb]
  cases decide (n < 64) <;> simp
theorem dn_else (l : Nat → Nat) (high k m : Nat) (h : m ≠ high - 8 + k ∨ Nat.testBit 29 k = false) :
    pk (fun n => dnI (l n) high (k + 1)) m = pk (fun n => dnI (l n) high k) m := by
  apply Nat.eq_of_testBit_eq
  intro n
  rw [pk_bit, pk_bit, dnI_bit, dnI_bit]
  congr 3
  by_cases hm : high - 8 ≤ m
  · by_cases e : m - (high - 8) = k
    · rcases h with h | h
      · omega
      · rw [e, h]; simp
    · have : decide (m - (high - 8) < k + 1) = decide (m - (high - 8) < k) := decide_eq_decide.2 (by omega)
      rw [this]
  · simp [hm]
/-- The planes 0 to 7 have a lane's byte. -/
theorem pk_low (l : Nat → Nat) (i : Nat) (hi : i < 8) : pk (fun n => l n % 256) i = pk l i := by
  apply Nat.eq_of_testBit_eq
  intro n
  rw [pk_bit, pk_bit, show (256 : Nat) = 2 ^ 8 from rfl, Nat.testBit_mod_two_pow]
  simp [hi]
end Ln
/- Logarithms in the field: each byte but 0 is a power of 2. Nothing of the program. -/
namespace Gf
/-- The powers of 2, from 0 to 254. -/
def all2 : List Nat := [1, 2, 4, 8, 16, 32, 64, 128, 29, 58, 116, 232, 205, 135, 19, 38, 76, 152, 45, 90, 180, 117, 234, 201, 143, 3, 6, 12, 24, 48, 96, 192, 157, 39, 78, 156, 37, 74, 148, 53, 106, 212, 181, 119, 238, 193, 159, 35, 70, 140, 5, 10, 20, 40, 80, 160, 93, 186, 105, 210, 185, 111, 222, 161, 95, 190, 97, 194, 153, 47, 94, 188, 101, 202, 137, 15, 30, 60, 120, 240, 253, 231, 211, 187, 107, 214, 177, 127, 254, 225, 223, 163, 91, 182, 113, 226, 217, 175, 67, 134, 17, 34, 68, 136, 13, 26, 52, 104, 208, 189, 103, 206, 129, 31, 62, 124, 248, 237, 199, 147, 59, 118, 236, 197, 151, 51, 102, 204, 133, 23, 46, 92, 184, 109, 218, 169, 79, 158, 33, 66, 132, 21, 42, 84, 168, 77, 154, 41, 82, 164, 85, 170, 73, 146, 57, 114, 228, 213, 183, 115, 230, 209, 191, 99, 198, 145, 63, 126, 252, 229, 215, 179, 123, 246, 241, 255, 227, 219, 171, 75, 150, 49, 98, 196, 149, 55, 110, 220, 165, 87, 174, 65, 130, 25, 50, 100, 200, 141, 7, 14, 28, 56, 112, 224, 221, 167, 83, 166, 81, 162, 89, 178, 121, 242, 249, 239, 195, 155, 43, 86, 172, 69, 138, 9, 18, 36, 72, 144, 61, 122, 244, 245, 247, 243, 251, 235, 203, 139, 11, 22, 44, 88, 176, 125, 250, 233, 207, 131, 27, 54, 108, 216, 173, 71, 142]
/-- Each is the one ahead of it, doubled. -/
def chain : Nat → List Nat → Bool
  | _, [] => true
  | c, x :: l => (x == c) && chain (mul x 2) l
theorem chain_spec : ∀ (l : List Nat) (j : Nat), chain (pow 2 j) l = true → ∀ i x, l[i]? = some x → x = pow 2 (j + i)
  | [], _, _, i, x, h => by simp at h
  | y :: l, j, h, i, x, hx => by
    simp only [chain, Bool.and_eq_true, beq_iff_eq] at h
    obtain ⟨rfl, h⟩ := h
    cases i with
    | zero => simp at hx; exact hx.symm
    | succ i =>
      have := chain_spec l (j + 1) h i x (by simpa using hx)
      rwa [show j + 1 + i = j + (i + 1) by omega] at this
set_option maxRecDepth 100000 in
theorem chain_all : chain 1 all2 = true := by decide +kernel
set_option maxRecDepth 100000 in
theorem all2_idx : ∀ a, a < 256 → a ≠ 0 → all2[all2.idxOf a]? = some a ∧ all2.idxOf a < 255 := by decide +kernel
/-- The logarithm; of 0: 0. -/
def lg (a : Nat) : Nat := if a = 0 then 0 else all2.idxOf a
theorem lg_lt (a : Nat) (ha : a < 256) : lg a < 255 := by
  unfold lg
  split
  · decide
  · rename_i h; exact (all2_idx a ha h).2
theorem pow_lg (a : Nat) (ha : a < 256) (h0 : a ≠ 0) : pow 2 (lg a) = a := by
  have h := (all2_idx a ha h0).1
  have := chain_spec all2 0 chain_all _ _ h
  unfold lg
  rw [if_neg h0]
  rw [Nat.zero_add] at this
  exact this.symm
theorem mul_lg (a b : Nat) (ha : a < 256) (hb : b < 256) (h0 : a ≠ 0) (h1 : b ≠ 0) : pow 2 (lg a + lg b) = mul a b := by
  rw [pow_add 2 _ _ (by decide), pow_lg a ha h0, pow_lg b hb h1]
theorem inv_lg (a : Nat) (ha : a < 256) (h0 : a ≠ 0) : pow 2 (255 - lg a) = inv a := by
  refine inv_unique a _ ha (pow_lt 2 _ (by decide)) ?_
  have h := pow_add 2 (lg a) (255 - lg a) (by decide)
  have hl := lg_lt a ha
  rw [pow_lg a ha h0, show lg a + (255 - lg a) = 255 by omega, pow_255 2 (by decide) (by decide)] at h
  exact h.symm
end Gf
/- Division of polynomials over the field of 256 bytes: quotients and what is left, multiples, the greatest common divisor. Nothing of the program. -/
namespace Go.Proofs
namespace Pol
/-- It has an end. -/
def Fin (p : Pol) : Prop := ∃ n, Bd n p
theorem Fin.zero : Fin zero := ⟨0, Bd.zero 0⟩
theorem Fin.add {p q : Pol} (hp : Fin p) (hq : Fin q) : Fin (Pol.add p q) := by
  obtain ⟨m, hm⟩ := hp
  obtain ⟨n, hn⟩ := hq
  exact ⟨max m n, (hm.mono_le (Nat.le_max_left m n)).add (hn.mono_le (Nat.le_max_right m n))⟩
theorem Fin.smul {p : Pol} (a : GF) (hp : Fin p) : Fin (Pol.smul a p) := hp.imp fun _ h => h.smul a
theorem Fin.mul {p q : Pol} (hp : Fin p) (hq : Fin q) : Fin (Pol.mul p q) := by
  obtain ⟨m, hm⟩ := hp
  obtain ⟨n, hn⟩ := hq
  exact ⟨_, (hm.mono_le (Nat.le_succ m)).mul (hn.mono_le (Nat.le_succ n))⟩
theorem Fin.ofL (xs : List Nat) : Fin (ofL xs) := ⟨_, ofL_bd xs⟩
theorem Fin.mono (k : Nat) (a : GF) : Fin (mono k a) := ⟨k + 1, fun i hi => by unfold Pol.mono; rw [if_neg (by omega)]⟩
theorem Fin.one : Fin one := Fin.mono 0 1
theorem Fin.dg {p : Pol} (h : Fin p) : ∃ d, Dg d p := by
  obtain ⟨n, hn⟩ := h
  obtain ⟨d, _, hd⟩ := dg_of_bd n p hn
  exact ⟨d, hd⟩
theorem Dg.fin {d : Nat} {p : Pol} (h : Dg d p) : Fin p := ⟨d, h.bd⟩
theorem Dg.ne_zero {d : Nat} {p : Pol} (h : Dg (d + 1) p) : p ≠ zero := fun e => h.top (by omega) (by rw [e]; rfl)
theorem mul_cancel {p q r : Pol} (hp : Fin p) (hq : Fin q) (hr : Fin r) (h0 : p ≠ zero) (h : mul p q = mul p r) : q = r := by
  obtain ⟨_, hp⟩ := hp
  obtain ⟨_, hq⟩ := hq
  obtain ⟨_, hr⟩ := hr
  exact mul_left_cancel hp hq hr h0 h
/-- What is left of a product of q that is of a lower degree than q is nothing. -/
theorem small_multiple {d : Nat} {a q : Pol} (ha : Fin a) (hq : Dg (d + 1) q) (h : Bd d (mul a q)) : a = zero := by
  obtain ⟨e, he⟩ := ha.dg
  cases e with
  | zero => exact he.eq_zero
  | succ e =>
    have := (he.mul hq).top (by omega)
    exact absurd (h (e + d) (by omega)) this
theorem div_unique {d : Nat} {a b r s q : Pol} (ha : Fin a) (hb : Fin b) (hq : Dg (d + 1) q) (hr : Bd d r) (hs : Bd d s) (h : add (mul a q) r = add (mul b q) s) : a = b ∧ r = s := by
  have h1 : mul (add a b) q = add r s := by
    rw [add_mul]
    funext i
    have := congrFun h i
    show mul a q i + mul b q i = r i + s i
    have h2 : mul a q i + r i = mul b q i + s i := this
    have h3 : mul a q i + r i + (mul b q i + r i) = mul b q i + s i + (mul b q i + r i) := by rw [h2]
    have e1 : mul a q i + r i + (mul b q i + r i) = mul a q i + mul b q i := by
      rw [GF.add_add_add, GF.add_self, GF.add_zero]
    have e2 : mul b q i + s i + (mul b q i + r i) = s i + r i := by
      rw [GF.add_add_add, GF.add_self, GF.zero_add]
    rw [e1, e2] at h3
    rw [h3, GF.add_comm]
  have h2 : Bd d (mul (add a b) q) := by rw [h1]; exact hr.add hs
  have h3 := small_multiple (ha.add hb) hq h2
  have h4 : a = b := eq_of_add h3
  refine ⟨h4, ?_⟩
  rw [h3, zero_mul] at h1
  exact eq_of_add h1.symm
/-- The greatest coefficient goes by a multiple of q. -/
theorem div_step {d n : Nat} {p q : Pol} (hq : Dg (d + 1) q) (hp : Bd (n + 1) p) (hn : d ≤ n) : Bd n (add p (up (n - d) (smul (p n * GF.inv (q d)) q))) := by
  intro i hi
  show p i + (if n - d ≤ i then p n * GF.inv (q d) * q (i - (n - d)) else 0) = 0
  rw [if_pos (by omega)]
  have h0 : q d ≠ 0 := hq.top (by omega)
  rcases Nat.lt_or_ge n i with h | h
  · rw [hp i h, hq.bd (i - (n - d)) (by omega), GF.mul_zero]; rfl
  · have e : i = n := by omega
    subst e
    rw [show i - (i - d) = d by omega, GF.mul_assoc, GF.inv_mul _ h0, GF.mul_one, GF.add_self]
theorem div_exists {d : Nat} {q : Pol} (hq : Dg (d + 1) q) : ∀ (n : Nat) (p : Pol), Bd n p → ∃ a r, Bd n a ∧ Bd d r ∧ p = add (mul a q) r
  | 0, p, h => ⟨zero, zero, Bd.zero 0, Bd.zero d, by rw [zero_mul, add_zero]; exact bd_zero h⟩
  | n + 1, p, h => by
    by_cases hn : d ≤ n
    · obtain ⟨a, r, h1, h2, h3⟩ := div_exists hq n _ (div_step hq h hn)
      refine ⟨add a (mono (n - d) (p n * GF.inv (q d))), r, (h1.mono_le (Nat.le_succ n)).add (fun i hi => by unfold mono; rw [if_neg (by omega)]), h2, ?_⟩
      rw [add_mul, mono_mul]
      have h4 := congrArg (fun z => add z (up (n - d) (smul (p n * GF.inv (q d)) q))) h3
      rw [add_assoc, add_self, add_zero] at h4
      refine h4.trans ?_
      rw [add_assoc, add_assoc, add_comm r]
    · exact ⟨zero, p, Bd.zero _, h.mono_le (by omega), by rw [zero_mul, zero_add]⟩

/-- q divides p. -/
def Dvd (q p : Pol) : Prop := ∃ a, Fin a ∧ p = mul a q
theorem Dvd.refl (p : Pol) : Dvd p p := ⟨one, Fin.one, (one_mul p).symm⟩
theorem Dvd.zero (p : Pol) : Dvd p zero := ⟨Pol.zero, Fin.zero, (zero_mul p).symm⟩
theorem Dvd.trans {p q r : Pol} (h : Dvd p q) (k : Dvd q r) : Dvd p r := by
  obtain ⟨a, ha, rfl⟩ := h
  obtain ⟨b, hb, rfl⟩ := k
  exact ⟨mul b a, hb.mul ha, (mul_assoc b a p).symm⟩
theorem Dvd.add {p q r : Pol} (h : Dvd p q) (k : Dvd p r) : Dvd p (Pol.add q r) := by
  obtain ⟨a, ha, rfl⟩ := h
  obtain ⟨b, hb, rfl⟩ := k
  exact ⟨Pol.add a b, ha.add hb, (add_mul a b p).symm⟩
theorem Dvd.mul_left {p q : Pol} (r : Pol) (hr : Fin r) (h : Dvd p q) : Dvd p (mul r q) := by
  obtain ⟨a, ha, rfl⟩ := h
  exact ⟨mul r a, hr.mul ha, (mul_assoc r a p).symm⟩
theorem Dvd.smul {p q : Pol} (a : GF) (h : Dvd p q) : Dvd p (Pol.smul a q) := by rw [← const_mul]; exact h.mul_left _ (Fin.mono 0 a)
theorem Dvd.smul_left {p q : Pol} {a : GF} (ha : a ≠ 0) (h : Dvd p q) : Dvd (Pol.smul a p) q := by
  obtain ⟨b, hb, rfl⟩ := h
  refine ⟨Pol.smul (GF.inv a) b, hb.smul _, ?_⟩
  rw [smul_mul, mul_smul, smul_smul, GF.inv_mul a ha, one_smul]
theorem Dvd.sub {p q r : Pol} (h : Dvd p (Pol.add q r)) (k : Dvd p q) : Dvd p r := by
  have := k.add h
  rw [add_cancel] at this
  exact this
/-- What divides a remainder and q divides p, and the other way round. -/
theorem dvd_rest {c p q a r : Pol} (ha : Fin a) (e : p = add (mul a q) r) (hq : Dvd c q) : Dvd c p ↔ Dvd c r := by
  constructor
  · intro h; rw [e] at h; exact h.sub (hq.mul_left a ha)
  · intro h; rw [e]; exact (hq.mul_left a ha).add h
/-- Two that divide one another differ by a factor. -/
theorem dvd_antisymm {p q : Pol} (hp : Fin p) (hq : Fin q) (h : Dvd p q) (k : Dvd q p) : ∃ a, a ≠ 0 ∧ q = smul a p := by
  by_cases h0 : p = zero
  · obtain ⟨a, _, e⟩ := h
    subst h0
    exact ⟨1, GF.one_ne_zero, by rw [e, mul_zero, one_smul]⟩
  · obtain ⟨a, ha, rfl⟩ := h
    obtain ⟨b, hb, e⟩ := k
    have h1 : mul p (mul b a) = mul p one := by
      rw [mul_one, mul_comm, mul_assoc]; exact e.symm
    have h2 := mul_cancel hp (hb.mul ha) Fin.one h0 h1
    obtain ⟨d, hd⟩ := ha.dg
    obtain ⟨f, hf⟩ := hb.dg
    have ho : Dg 1 one := ⟨fun i hi => by unfold one mono; rw [if_neg (by omega)], fun _ => GF.one_ne_zero⟩
    cases d with
    | zero => rw [hd.eq_zero, mul_zero] at h2; exact absurd h2.symm ho.ne_zero
    | succ d =>
      cases f with
      | zero => rw [hf.eq_zero, zero_mul] at h2; exact absurd h2.symm ho.ne_zero
      | succ f =>
        have := (hf.mul hd).unique (h2 ▸ ho)
        have hd0 : d = 0 := by omega
        subst hd0
        have e0 : a = mono 0 (a 0) := by
          funext i
          unfold mono
          split
          · rename_i h; rw [h]
          · exact hd.bd i (by omega)
        exact ⟨a 0, hd.top (by omega), by rw [e0, const_mul]; rfl⟩
/-- MONIC. -/
def Mon (d : Nat) (p : Pol) : Prop := Bd (d + 1) p ∧ p d = 1
theorem Mon.dg {d : Nat} {p : Pol} (h : Mon d p) : Dg (d + 1) p := ⟨h.1, fun _ => by show p d ≠ 0; rw [h.2]; exact GF.one_ne_zero⟩
theorem Mon.mul {d e : Nat} {p q : Pol} (hp : Mon d p) (hq : Mon e q) : Mon (d + e) (Pol.mul p q) := ⟨hp.1.mul hq.1, by rw [mul_top hp.1 hq.1, hp.2, hq.2, GF.mul_one]⟩
theorem Dg.monic {d : Nat} {p : Pol} (h : Dg (d + 1) p) : Mon d (Pol.smul (GF.inv (p d)) p) := ⟨h.bd.smul _, GF.inv_mul _ (h.top (by omega))⟩
theorem Mon.unique {d e : Nat} {p q : Pol} (hp : Mon d p) (hq : Mon e q) (h : Dvd p q) (k : Dvd q p) : p = q := by
  obtain ⟨a, ha, e1⟩ := dvd_antisymm hp.dg.fin hq.dg.fin h k
  have hde : d + 1 = e + 1 := ((hp.dg.smul a ha).unique (e1 ▸ hq.dg))
  have h1 := congrFun e1 e
  have h2 : q e = a * p e := h1
  rw [hq.2, show e = d by omega, hp.2, GF.mul_one] at h2
  rw [e1, ← h2, one_smul]
/-- The greatest that divides both. -/
structure IsGcd (g p q : Pol) : Prop where
  left : Dvd g p
  right : Dvd g q
  all : ∀ c, Fin c → Dvd c p → Dvd c q → Dvd c g
theorem IsGcd.symm {g p q : Pol} (h : IsGcd g p q) : IsGcd g q p := ⟨h.right, h.left, fun c hc h1 h2 => h.all c hc h2 h1⟩
theorem IsGcd.step {g p q a r : Pol} (ha : Fin a) (e : p = add (mul a q) r) (h : IsGcd g q r) : IsGcd g p q :=
  ⟨(dvd_rest ha e h.left).2 h.right, h.left, fun c hc h1 h2 => h.all c hc h2 ((dvd_rest ha e h2).1 h1)⟩
theorem IsGcd.zero (p : Pol) : IsGcd p p Pol.zero := ⟨Dvd.refl p, Dvd.zero p, fun _ _ h _ => h⟩
theorem IsGcd.smul {g p q : Pol} {a : GF} (ha : a ≠ 0) (h : IsGcd g p q) : IsGcd (Pol.smul a g) p q := ⟨h.left.smul_left ha, h.right.smul_left ha, fun c hc h1 h2 => (h.all c hc h1 h2).smul a⟩
theorem IsGcd.unique {d e : Nat} {g k p q : Pol} (hg : Mon d g) (hk : Mon e k) (h : IsGcd g p q) (h' : IsGcd k p q) : g = k :=
  hg.unique hk (h'.all g hg.dg.fin h.left h.right) (h.all k hk.dg.fin h'.left h'.right)
end Pol
end Go.Proofs
/- What division by a monic polynomial does to two lists, place by place. Nothing of the program. -/
namespace Go.Proofs
open Pol (IsN Dg ofL Byt Mon)
theorem getD_setq (s : List Nat) (i v k : Nat) : (s.set i v).getD k 0 = if i = k ∧ k < s.length then v else s.getD k 0 := by
  simp only [List.getD, List.getElem?_set]
  by_cases h : i = k
  · subst h
    by_cases hl : i < s.length
    · rw [if_pos rfl, if_pos hl, if_pos ⟨rfl, hl⟩]; rfl
    · rw [if_pos rfl, if_neg hl, if_neg (fun c => hl c.2)]
      simp [List.getElem?_eq_none (show s.length ≤ i by omega)]
  · rw [if_neg h, if_neg (fun c => h c.1)]
theorem byt_setq {s : List Nat} (hs : Byt s) {k v : Nat} (hv : v < 256) : Byt (s.set k v) := fun i => by
  rw [getD_setq]
  split
  · exact hv
  · exact hs i
/-- A place that held nothing is written. -/
theorem ofL_setq {s : List Nat} {k v : Nat} (hk : k < s.length) (h0 : s.getD k 0 = 0) : ofL (s.set k v) = Pol.add (ofL s) (Pol.mono k (GF.of v)) := by
  funext i
  show GF.of _ = GF.of _ + (if i = k then GF.of v else 0)
  rw [getD_setq]
  by_cases h : i = k
  · subst h
    rw [if_pos ⟨rfl, hk⟩, if_pos rfl, h0, GF.of_zero, GF.zero_add]
  · rw [if_neg (fun c => h c.1.symm), if_neg h, GF.add_zero]
/-- A byte is added at a place. -/
theorem ofL_addq {s : List Nat} (hs : Byt s) {k v : Nat} (hk : k < s.length) (hv : v < 256) : ofL (s.set k (s.getD k 0 ^^^ v)) = Pol.add (ofL s) (Pol.mono k (GF.of v)) := by
  funext i
  show GF.of _ = GF.of _ + (if i = k then GF.of v else 0)
  rw [getD_setq]
  by_cases h : i = k
  · subst h
    rw [if_pos ⟨rfl, hk⟩, if_pos rfl, GF.of_xor _ _ (hs i) hv]
  · rw [if_neg (fun c => h c.1.symm), if_neg h, GF.add_zero]
theorem up_cut_succ (at' j : Nat) (Q : Pol) : Pol.up at' (Pol.cut (j + 1) Q) = Pol.add (Pol.up at' (Pol.cut j Q)) (Pol.mono (at' + j) (Q j)) := by
  funext k
  show (if at' ≤ k then (if k - at' < j + 1 then Q (k - at') else 0) else 0) = (if at' ≤ k then (if k - at' < j then Q (k - at') else 0) else 0) + (if k = at' + j then Q j else 0)
  by_cases h : at' ≤ k
  · rw [if_pos h, if_pos h]
    by_cases h1 : k = at' + j
    · subst h1
      rw [if_pos (by omega), if_neg (by omega), if_pos rfl, show at' + j - at' = j by omega, GF.zero_add]
    · rw [if_neg h1, GF.add_zero]
      by_cases h2 : k - at' < j
      · rw [if_pos (by omega), if_pos h2]
      · rw [if_neg (by omega), if_neg h2]
  · rw [if_neg h, if_neg h, if_neg (by omega), GF.add_zero]
theorem up_cut_zero (at' : Nat) (Q : Pol) : Pol.up at' (Pol.cut 0 Q) = Pol.zero := by
  rw [Pol.cut_zero]
  funext k
  show (if at' ≤ k then (0 : GF) else 0) = 0
  split <;> rfl
/-- The top coefficient goes off a list that is shortened by it. -/
theorem cut_top {L : Nat} {p : Pol} (h : Pol.Bd (L + 1) p) : p = Pol.add (Pol.cut L p) (Pol.mono L (p L)) := by
  funext i
  show p i = (if i < L then p i else 0) + (if i = L then p L else 0)
  by_cases h1 : i < L
  · rw [if_pos h1, if_neg (by omega), GF.add_zero]
  · by_cases h2 : i = L
    · subst h2; rw [if_neg h1, if_pos rfl, GF.zero_add]
    · rw [if_neg h1, if_neg h2, GF.add_zero, h i (by omega)]
theorem cut_add (L : Nat) (p q : Pol) : Pol.cut L (Pol.add p q) = Pol.add (Pol.cut L p) (Pol.cut L q) := by
  funext i
  show (if i < L then p i + q i else 0) = (if i < L then p i else 0) + (if i < L then q i else 0)
  by_cases h : i < L
  · rw [if_pos h, if_pos h, if_pos h]
  · rw [if_neg h, if_neg h, if_neg h, GF.add_zero]
theorem up_add' (k : Nat) (p q : Pol) : Pol.up k (Pol.add p q) = Pol.add (Pol.up k p) (Pol.up k q) := by
  funext i
  show (if k ≤ i then p (i - k) + q (i - k) else 0) = (if k ≤ i then p (i - k) else 0) + (if k ≤ i then q (i - k) else 0)
  by_cases h : k ≤ i
  · rw [if_pos h, if_pos h, if_pos h]
  · rw [if_neg h, if_neg h, if_neg h, GF.add_zero]
theorem up_mono (k m : Nat) (a : GF) : Pol.up k (Pol.mono m a) = Pol.mono (k + m) a := by
  funext i
  show (if k ≤ i then (if i - k = m then a else 0) else 0) = if i = k + m then a else 0
  by_cases h : k ≤ i
  · rw [if_pos h]
    by_cases h1 : i = k + m
    · rw [if_pos (by omega), if_pos h1]
    · rw [if_neg (by omega), if_neg h1]
  · rw [if_neg h, if_neg (by omega)]
theorem smul_mono (m : Nat) (a b : GF) : Pol.smul a (Pol.mono m b) = Pol.mono m (a * b) := by
  funext i
  show a * (if i = m then b else 0) = if i = m then a * b else 0
  split
  · rfl
  · exact GF.mul_zero a
/-- One place of the division: what was on top is taken off, and told. -/
theorem bring_step {P p : Pol} {m at' a : Nat} {s s' ts low : List Nat} (hP : P = Pol.add (Pol.mono m 1) (ofL low)) (hlow : low.length = m) (hl : s.length = at' + m + 1)
    (ha : s.getD (at' + m) 0 = a) (hs' : ofL s' = Pol.add (ofL s) (Pol.up at' (Pol.smul (GF.of a) (ofL low)))) (hts : at' < ts.length) (h0 : ts.getD at' 0 = 0)
    (e : Pol.add (Pol.mul (ofL ts) P) (ofL s) = p) : Pol.add (Pol.mul (ofL (ts.set at' a)) P) (ofL (s'.take (at' + m))) = p := by
  have hX : Pol.Bd (at' + m) (Pol.up at' (Pol.smul (GF.of a) (ofL low))) := by
    have := ((Pol.ofL_bd low).smul (GF.of a)).up at'
    rw [hlow, Nat.add_comm] at this
    exact this
  have h1 : ofL s = Pol.add (Pol.cut (at' + m) (ofL s)) (Pol.mono (at' + m) (GF.of a)) := by
    have := cut_top (L := at' + m) (p := ofL s) (by have := Pol.ofL_bd s; rwa [hl] at this)
    rw [show ofL s (at' + m) = GF.of a by show GF.of _ = _; rw [ha]] at this
    exact this
  have h2 : Pol.up at' (Pol.smul (GF.of a) P) = Pol.add (Pol.mono (at' + m) (GF.of a)) (Pol.up at' (Pol.smul (GF.of a) (ofL low))) := by
    rw [hP, Pol.smul_add, up_add', smul_mono, up_mono, GF.mul_one]
  rw [Pol.ofL_take, hs', cut_add, Pol.cut_bd hX, ofL_setq hts h0, Pol.add_mul, Pol.mono_mul, h2, ← e]
  conv => rhs; rw [h1]
  funext i
  show (Pol.mul (ofL ts) P i + (Pol.mono (at' + m) (GF.of a) i + Pol.up at' (Pol.smul (GF.of a) (ofL low)) i)) + (Pol.cut (at' + m) (ofL s) i + Pol.up at' (Pol.smul (GF.of a) (ofL low)) i) = Pol.mul (ofL ts) P i + (Pol.cut (at' + m) (ofL s) i + Pol.mono (at' + m) (GF.of a) i)
  generalize Pol.mul (ofL ts) P i = x
  generalize Pol.mono (at' + m) (GF.of a) i = y
  generalize Pol.up at' (Pol.smul (GF.of a) (ofL low)) i = z
  generalize Pol.cut (at' + m) (ofL s) i = u
  rw [show x + (y + z) + (u + z) = (x + (u + y)) + (z + z) by ac_rfl, GF.add_self, GF.add_zero]
theorem bring_zero {s : List Nat} {L : Nat} (hl : s.length = L + 1) (h0 : s.getD L 0 = 0) : ofL (s.take L) = ofL s := by
  rw [Pol.ofL_take, Pol.cut_bd]
  intro i hi
  rcases Nat.lt_or_ge L i with h | h
  · exact Pol.ofL_bd s i (by omega)
  · obtain rfl : i = L := by omega
    show GF.of _ = 0
    rw [h0]; rfl
/-- A monic list is its front, and 1. -/
theorem mon_front {bs : List Nat} {m : Nat} (hl : bs.length = m + 1) (h : Mon m (ofL bs)) : ofL bs = Pol.add (Pol.mono m 1) (ofL (bs.take m)) := by
  rw [Pol.add_comm, Pol.ofL_take]
  have := cut_top (L := m) (p := ofL bs) (by have := Pol.ofL_bd bs; rwa [hl] at this)
  rw [h.2] at this
  exact this
end Go.Proofs
/- Values of polynomials over the field of 256 bytes: sums, products, zeros, derivatives, products of zeros, interpolation. Nothing of the program. -/
namespace Go.Proofs
namespace Pol
/-- The value of the first n coefficients at x. -/
def ev : Nat → Pol → GF → GF
  | 0, _, _ => 0
  | n + 1, p, x => p 0 + x * ev n (tail p) x
theorem ev_succ (n : Nat) (p : Pol) (x : GF) : ev (n + 1) p x = p 0 + x * ev n (tail p) x := rfl
theorem ev_zero (n : Nat) (x : GF) : ev n zero x = 0 := by
  induction n with
  | zero => rfl
  | succ n ih =>
    have e : tail zero = zero := rfl
    rw [ev_succ, e, ih, GF.mul_zero]; rfl
theorem ev_more {p : Pol} (x : GF) : ∀ (n m : Nat), Bd n p → n ≤ m → ev m p x = ev n p x := by
  intro n
  induction n generalizing p with
  | zero => intro m h _; rw [bd_zero h, ev_zero]; rfl
  | succ n ih =>
    intro m h hm
    cases m with
    | zero => omega
    | succ m => rw [ev_succ, ev_succ, ih m (Bd.tail h) (by omega)]
theorem ev_add (n : Nat) (p q : Pol) (x : GF) : ev n (add p q) x = ev n p x + ev n q x := by
  induction n generalizing p q with
  | zero => exact (GF.add_zero 0).symm
  | succ n ih =>
    have e : tail (add p q) = add (tail p) (tail q) := rfl
    rw [ev_succ, ev_succ, ev_succ, e, ih, GF.mul_add]
    show p 0 + q 0 + (x * ev n (tail p) x + x * ev n (tail q) x) = _
    ac_rfl
theorem ev_smul (n : Nat) (a : GF) (p : Pol) (x : GF) : ev n (smul a p) x = a * ev n p x := by
  induction n generalizing p with
  | zero => exact (GF.mul_zero a).symm
  | succ n ih =>
    have e : tail (smul a p) = smul a (tail p) := rfl
    rw [ev_succ, ev_succ, e, ih, GF.mul_add]
    show a * p 0 + x * (a * ev n (tail p) x) = a * p 0 + a * (x * ev n (tail p) x)
    rw [← GF.mul_assoc, ← GF.mul_assoc, GF.mul_comm x a]
theorem ev_up1 (n : Nat) (p : Pol) (x : GF) : ev (n + 1) (up 1 p) x = x * ev n p x := by
  have e : tail (up 1 p) = p := by funext i; simp [tail, up]
  rw [ev_succ, e]
  show (0 : GF) + _ = _
  rw [GF.zero_add]
theorem split (p : Pol) : p = add (mono 0 (p 0)) (up 1 (tail p)) := by
  funext i
  show p i = (if i = 0 then p 0 else 0) + (if 1 ≤ i then p (i - 1 + 1) else 0)
  cases i with
  | zero => simp [GF.add_zero]
  | succ i => simp [GF.zero_add]
theorem mul_split (p q : Pol) : mul p q = add (smul (p 0) q) (up 1 (mul (tail p) q)) := by
  rw [← up_mul, ← const_mul, ← add_mul, ← split]
/-- A value of a polynomial that has an end. -/
theorem ev_mul {a b : Nat} {p q : Pol} (x : GF) (hp : Bd a p) (hq : Bd b q) : ev (a + b) (mul p q) x = ev a p x * ev b q x := by
  induction a generalizing p with
  | zero => rw [bd_zero hp, zero_mul, ev_zero, ev_zero, GF.zero_mul]
  | succ a ih =>
    have e : a + 1 + b = a + b + 1 := by omega
    rw [mul_split, ev_add, ev_smul, ev_more x b (a + 1 + b) hq (by omega), e, ev_up1, ih (Bd.tail hp), ev_succ, GF.add_mul, GF.mul_assoc]
/-- x + c. -/
def lin (c : GF) : Pol := add (mono 1 1) (mono 0 c)
theorem lin_mon (c : GF) : Mon 1 (lin c) := by
  refine ⟨fun i hi => ?_, ?_⟩
  · show (if i = 1 then (1 : GF) else 0) + (if i = 0 then c else 0) = 0
    rw [if_neg (by omega), if_neg (by omega)]; rfl
  · show (if 1 = 1 then (1 : GF) else 0) + (if 1 = 0 then c else 0) = 1
    simp [GF.add_zero]
theorem ev_lin (c x : GF) : ev 2 (lin c) x = x + c := by
  show ((0 : GF) + c) + x * ((1 + 0) + x * 0) = x + c
  rw [GF.zero_add, GF.add_zero, GF.mul_zero, GF.add_zero, GF.mul_one, GF.add_comm]
/-- The quotient by x + c: what Horner's steps leave. -/
def hq : Nat → Pol → GF → Pol
  | 0, _, _ => zero
  | n + 1, p, c => add (mono 0 (ev n (tail p) c)) (up 1 (hq n (tail p) c))
/-- The product of x + z over a list. -/
def prod : List GF → Pol
  | [] => one
  | z :: l => mul (lin z) (prod l)
theorem prod_mon : ∀ l : List GF, Mon l.length (prod l)
  | [] => ⟨fun i hi => by show (if i = 0 then (1 : GF) else 0) = 0; rw [if_neg (by simp at hi; omega)], rfl⟩
  | z :: l => by
    have := (lin_mon z).mul (prod_mon l)
    rw [Nat.add_comm] at this
    exact this
theorem ev_one (n : Nat) (x : GF) : ev (n + 1) one x = 1 := by
  have e : tail one = zero := by funext i; simp [tail, one, mono, zero]
  rw [ev_succ, e, ev_zero, GF.mul_zero, GF.add_zero]; rfl
theorem ev_prod_cons (z x : GF) (l : List GF) : ev ((z :: l).length + 1) (prod (z :: l)) x = (x + z) * ev (l.length + 1) (prod l) x := by
  show ev (l.length + 1 + 1) (mul (lin z) (prod l)) x = _
  have h1 : Bd (l.length + 1 + 1) (mul (lin z) (prod l)) := (prod_mon (z :: l)).1
  rw [← ev_more x _ (2 + (l.length + 1)) h1 (by omega), ev_mul x (lin_mon z).1 (prod_mon l).1, ev_lin]
theorem ev_prod (l : List GF) (x : GF) : ev (l.length + 1) (prod l) x = 0 ↔ x ∈ l := by
  induction l with
  | nil => rw [show prod [] = one from rfl, ev_one]; simp [GF.one_ne_zero]
  | cons z l ih =>
    rw [ev_prod_cons]
    constructor
    · intro h
      rcases GF.mul_eq_zero h with h1 | h1
      · rw [GF.eq_of_add h1]; simp
      · exact List.mem_cons_of_mem _ (ih.1 h1)
    · intro h
      rcases List.mem_cons.1 h with h1 | h1
      · rw [h1, GF.add_self, GF.zero_mul]
      · rw [ih.2 h1, GF.mul_zero]
end Pol
end Go.Proofs
/- Sums of powers over the field of 256 bytes: values as sums, powers of 2, and the distance of words that have zeros in a row. Nothing of the program. -/
namespace Go.Proofs
namespace GF
/-- A power. -/
def pw (x : GF) : Nat → GF
  | 0 => 1
  | n + 1 => x * pw x n
theorem pw_add (x : GF) (m n : Nat) : pw x (m + n) = pw x m * pw x n := by
  induction m with
  | zero => rw [Nat.zero_add]; exact (one_mul _).symm
  | succ m ih =>
    have e : m + 1 + n = (m + n) + 1 := by omega
    rw [e]
    show x * pw x (m + n) = x * pw x m * pw x n
    rw [ih, mul_assoc]
theorem pw_mul (x : GF) (m n : Nat) : pw x (m * n) = pw (pw x m) n := by
  induction n with
  | zero => rfl
  | succ n ih =>
    rw [Nat.mul_succ, pw_add, ih, mul_comm]
    rfl
theorem pw_ne_zero {x : GF} (h : x ≠ 0) (n : Nat) : pw x n ≠ 0 := by
  induction n with
  | zero => exact one_ne_zero
  | succ n ih => exact mul_ne_zero h ih
theorem of_pow (a n : Nat) (ha : a < 256) : of (Gf.pow a n) = pw (of a) n := by
  induction n with
  | zero => rfl
  | succ n ih =>
    show of (Gf.mul (Gf.pow a n) a) = of a * pw (of a) n
    rw [of_mul _ _ (Gf.pow_lt a n ha) ha, ih, mul_comm]
/-- The power i of 2. -/
def al (i : Nat) : GF := pw (of 2) i
theorem al_val (i : Nat) : (al i).val = Gf.pow 2 i := by unfold al; rw [← of_pow 2 i (by decide), of_val _ (Gf.pow_lt 2 i (by decide))]
theorem al_ne_zero (i : Nat) : al i ≠ 0 := pw_ne_zero (by decide) i
theorem al_inj {i j : Nat} (hi : i < 255) (hj : j < 255) (h : al i = al j) : i = j := (Gf.pow_two_inj i j hi hj).1 (by rw [← al_val, ← al_val, h])
theorem al_mul (i j : Nat) : al (i * j) = pw (al i) j := pw_mul _ i j
/-- The sum of a list. -/
def ls : List GF → GF
  | [] => 0
  | x :: l => x + ls l
variable {α : Type}
theorem ls_add (l : List α) (f g : α → GF) : ls (l.map fun i => f i + g i) = ls (l.map f) + ls (l.map g) := by
  induction l with
  | nil => exact (add_zero 0).symm
  | cons x l ih => show f x + g x + ls (l.map _) = f x + ls (l.map f) + (g x + ls (l.map g)); rw [ih, add_add_add]
theorem ls_mul (l : List α) (a : GF) (f : α → GF) : ls (l.map fun i => a * f i) = a * ls (l.map f) := by
  induction l with
  | nil => exact (mul_zero a).symm
  | cons x l ih => show a * f x + ls (l.map _) = a * (f x + ls (l.map f)); rw [ih, mul_add]
theorem ls_congr (l : List α) (f g : α → GF) (h : ∀ i ∈ l, f i = g i) : ls (l.map f) = ls (l.map g) := by
  induction l with
  | nil => rfl
  | cons x l ih =>
    show f x + ls (l.map f) = g x + ls (l.map g)
    rw [h x (by simp), ih (fun i hi => h i (by simp [hi]))]
theorem ls_zero (l : List α) (f : α → GF) (h : ∀ i ∈ l, f i = 0) : ls (l.map f) = 0 := by
  induction l with
  | nil => rfl
  | cons x l ih =>
    show f x + ls (l.map f) = 0
    rw [h x (by simp), ih (fun i hi => h i (by simp [hi])), add_zero]
/-- But for one all are 0. -/
theorem ls_one [DecidableEq α] (l : List α) (f : α → GF) (i : α) (hd : l.Nodup) (hi : i ∈ l) (h : ∀ j ∈ l, j ≠ i → f j = 0) : ls (l.map f) = f i := by
  induction l with
  | nil => cases hi
  | cons x l ih =>
    show f x + ls (l.map f) = f i
    have hx := (List.nodup_cons.1 hd).1
    rcases List.mem_cons.1 hi with e | e
    · subst e
      rw [ls_zero l f (fun j hj => h j (by simp [hj]) (fun e => hx (e ▸ hj))), add_zero]
    · rw [h x (by simp) (fun e' => hx (e' ▸ e)), zero_add]
      exact ih (List.nodup_cons.1 hd).2 e (fun j hj => h j (by simp [hj]))
end GF
namespace Pol
open GF
/-- A value as a sum. -/
theorem ev_ls (n : Nat) (p : Pol) (x : GF) : ev n p x = ls ((List.range n).map fun i => p i * pw x i) := by
  induction n generalizing p with
  | zero => rfl
  | succ n ih =>
    rw [ev_succ, ih, List.range_succ_eq_map, List.map_cons, List.map_map]
    show p 0 + _ = p 0 * 1 + _
    rw [GF.mul_one]
    congr 1
    rw [← ls_mul]
    apply ls_congr
    intro i _
    show x * (p (i + 1) * pw x i) = p (i + 1) * (x * pw x i)
    ac_rfl
/-- What powers bring to nothing, each polynomial of so low a degree does. -/
theorem sum_ev {α : Type} (I : List α) (y x : α → GF) (L : Pol) (S : Nat) (h : ∀ j, j < S → ls (I.map fun i => y i * pw (x i) j) = 0) : ∀ n, n ≤ S → ls (I.map fun i => y i * ev n L (x i)) = 0 := by
  intro n
  induction n generalizing y L S with
  | zero => intro _; exact ls_zero I _ (fun i _ => GF.mul_zero _)
  | succ n ih =>
    intro hn
    cases S with
    | zero => omega
    | succ S =>
      have h1 : ls (I.map fun i => (y i * x i) * ev n (tail L) (x i)) = 0 := by
        refine ih (fun i => y i * x i) (tail L) S (fun j hj => ?_) (by omega)
        rw [← h (j + 1) (by omega)]
        apply ls_congr
        intro i _
        show y i * x i * pw (x i) j = y i * (x i * pw (x i) j)
        rw [GF.mul_assoc]
      have h2 : ls (I.map fun i => L 0 * (y i * pw (x i) 0)) = 0 := by rw [ls_mul, h 0 (by omega), GF.mul_zero]
      have h3 : ls (I.map fun i => y i * ev (n + 1) L (x i)) = ls (I.map fun i => L 0 * (y i * pw (x i) 0) + (y i * x i) * ev n (tail L) (x i)) := by
        apply ls_congr
        intro i _
        rw [ev_succ, GF.mul_add]
        show y i * L 0 + y i * (x i * ev n (tail L) (x i)) = L 0 * (y i * 1) + y i * x i * ev n (tail L) (x i)
        rw [GF.mul_one, GF.mul_comm (y i) (L 0), GF.mul_assoc]
      rw [h3, ls_add, h1, h2, GF.add_zero]
/-- Values at unlike places that all low powers bring to nothing are all 0. -/
theorem all_zero {α : Type} [DecidableEq α] (I : List α) (hd : I.Nodup) (y x : α → GF) (hx : ∀ i ∈ I, ∀ j ∈ I, x i = x j → i = j) (S : Nat) (hS : I.length ≤ S) (h : ∀ j, j < S → ls (I.map fun i => y i * pw (x i) j) = 0) : ∀ i ∈ I, y i = 0 := by
  intro i hi
  have hlen : (I.erase i).length + 1 = I.length := by
    rw [List.length_erase_of_mem hi]
    have := List.length_pos_of_mem hi
    omega
  have h1 := sum_ev I y x (prod ((I.erase i).map x)) S h (((I.erase i).map x).length + 1) (by rw [List.length_map]; omega)
  rw [ls_one I _ i hd hi (fun j hj hne => by
    have : ev (((I.erase i).map x).length + 1) (prod ((I.erase i).map x)) (x j) = 0 := (ev_prod _ _).2 (List.mem_map.2 ⟨j, (List.mem_erase_of_ne hne).2 hj, rfl⟩)
    rw [this, GF.mul_zero])] at h1
  rcases GF.mul_eq_zero h1 with h2 | h2
  · exact h2
  · obtain ⟨j, hj, e⟩ := List.mem_map.1 ((ev_prod _ _).1 h2)
    have hji := hx j (List.mem_of_mem_erase hj) i hi e
    subst hji
    exact absurd hj (fun h => (List.Nodup.mem_erase_iff hd).1 h |>.1 rfl)
theorem ls_filter (l : List Nat) (f : Nat → GF) (P : Nat → Bool) (h : ∀ i ∈ l, P i = false → f i = 0) : ls (l.map f) = ls ((l.filter P).map f) := by
  induction l with
  | nil => rfl
  | cons x l ih =>
    have h1 := ih (fun i hi => h i (by simp [hi]))
    cases e : P x with
    | true =>
      rw [List.filter_cons_of_pos e]
      show f x + ls (l.map f) = f x + ls ((l.filter P).map f)
      rw [h1]
    | false =>
      rw [List.filter_cons_of_neg (by rw [e]; decide)]
      show f x + ls (l.map f) = _
      rw [h x (by simp) e, GF.zero_add, h1]
/-- The places of a word's coefficients that are not 0. -/
def supp (N : Nat) (w : Pol) : List Nat := (List.range N).filter fun i => decide (w i ≠ 0)
theorem supp_nodup (N : Nat) (w : Pol) : (supp N w).Nodup := List.Pairwise.filter _ List.nodup_range
theorem mem_supp {N : Nat} {w : Pol} {i : Nat} : i ∈ supp N w ↔ i < N ∧ w i ≠ 0 := by simp [supp]
theorem pw_al (i j : Nat) : pw (al i) j = pw (al j) i := by rw [← al_mul, ← al_mul, Nat.mul_comm]
/-- THE DISTANCE: a word whose values at S powers in a row are 0, and that has no more than S coefficients that are not 0, is 0. -/
theorem far {N b S : Nat} {w : Pol} (hN : N ≤ 255) (hw : Bd N w) (hS : (supp N w).length ≤ S) (hz : ∀ j, j < S → ev N w (al (b + j)) = 0) : w = zero := by
  have key : ∀ i ∈ supp N w, w i * pw (al i) b = 0 := by
    refine all_zero (supp N w) (supp_nodup N w) (fun i => w i * pw (al i) b) al (fun i hi j hj e => al_inj (by have := (mem_supp.1 hi).1; omega) (by have := (mem_supp.1 hj).1; omega) e) S hS (fun j hj => ?_)
    have h1 := hz j hj
    rw [ev_ls, ls_filter _ _ (fun i => decide (w i ≠ 0)) (fun i _ hi => by
      have : w i = 0 := by simpa using hi
      rw [this, GF.zero_mul])] at h1
    rw [← h1]
    apply ls_congr
    intro i _
    show w i * pw (al i) b * pw (al i) j = w i * pw (al (b + j)) i
    rw [GF.mul_assoc, ← pw_add, pw_al]
  funext i
  show w i = 0
  by_cases hi : i < N
  · by_cases h0 : w i = 0
    · exact h0
    · rcases GF.mul_eq_zero (key i (mem_supp.2 ⟨hi, h0⟩)) with h | h
      · exact h
      · exact absurd h (pw_ne_zero (al_ne_zero i) b)
  · exact hw i (by omega)
end Pol
end Go.Proofs
