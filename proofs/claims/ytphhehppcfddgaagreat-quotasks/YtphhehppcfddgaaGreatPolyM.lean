/- Polynomials over the field of 256 bytes, as sequences of coefficients: sums, products, degrees. Nothing of the program. -/
import Derived.Test.YtphhehppcfddgaaGreatGf2
namespace Go.Proofs

/-- A byte as an element of the field. -/
structure GF where
  val : Nat
  lt : val < 256
namespace GF
theorem ext {a b : GF} (h : a.val = b.val) : a = b := by cases a; cases b; cases h; rfl
/-- Of any number, brought down to a byte. -/
def of (n : Nat) : GF := ⟨n % 256, Nat.mod_lt _ (by decide)⟩
theorem of_val (n : Nat) (h : n < 256) : (of n).val = n := Nat.mod_eq_of_lt h
theorem of_self (a : GF) : of a.val = a := ext (of_val _ a.lt)
instance : Add GF := ⟨fun a b => ⟨a.val ^^^ b.val, Gf.xor_lt8 a.lt b.lt⟩⟩
instance : Mul GF := ⟨fun a b => ⟨Gf.mul a.val b.val, Gf.mul_lt _ _ a.lt⟩⟩
instance : Zero GF := ⟨⟨0, by decide⟩⟩
instance : One GF := ⟨⟨1, by decide⟩⟩
instance : DecidableEq GF := fun a b => if h : a.val = b.val then .isTrue (ext h) else .isFalse (fun e => h (congrArg val e))
theorem add_val (a b : GF) : (a + b).val = a.val ^^^ b.val := rfl
theorem mul_val (a b : GF) : (a * b).val = Gf.mul a.val b.val := rfl
theorem zero_val : (0 : GF).val = 0 := rfl
theorem one_val : (1 : GF).val = 1 := rfl
theorem of_zero : of 0 = 0 := rfl
theorem of_one : of 1 = 1 := rfl
theorem of_xor (a b : Nat) (ha : a < 256) (hb : b < 256) : of (a ^^^ b) = of a + of b := ext (by rw [of_val _ (Gf.xor_lt8 ha hb), add_val, of_val a ha, of_val b hb])
theorem of_mul (a b : Nat) (ha : a < 256) (hb : b < 256) : of (Gf.mul a b) = of a * of b := ext (by rw [of_val _ (Gf.mul_lt _ _ ha), mul_val, of_val a ha, of_val b hb])
theorem of_eq_zero (a : Nat) (ha : a < 256) : of a = 0 ↔ a = 0 := ⟨fun h => by have := congrArg val h; rwa [of_val a ha] at this, fun h => by rw [h]; rfl⟩
theorem of_inj (a b : Nat) (ha : a < 256) (hb : b < 256) (h : of a = of b) : a = b := by have := congrArg val h; rwa [of_val a ha, of_val b hb] at this
theorem add_comm (a b : GF) : a + b = b + a := ext (Nat.xor_comm _ _)
theorem add_assoc (a b c : GF) : a + b + c = a + (b + c) := ext (Nat.xor_assoc _ _ _)
theorem add_zero (a : GF) : a + 0 = a := ext (Nat.xor_zero _)
theorem zero_add (a : GF) : 0 + a = a := ext (Nat.zero_xor _)
theorem add_self (a : GF) : a + a = 0 := ext (Nat.xor_self _)
theorem mul_comm (a b : GF) : a * b = b * a := ext (Gf.mul_comm _ _ a.lt b.lt)
theorem mul_assoc (a b c : GF) : a * b * c = a * (b * c) := ext (Gf.mul_assoc _ _ _ a.lt b.lt c.lt).symm
theorem mul_one (a : GF) : a * 1 = a := ext (Gf.mul_one _ a.lt)
theorem one_mul (a : GF) : 1 * a = a := ext (Gf.one_mul _ a.lt)
theorem mul_zero (a : GF) : a * 0 = 0 := ext (Gf.mul_zero _)
theorem zero_mul (a : GF) : 0 * a = 0 := ext (Gf.zero_mul _)
theorem mul_add (a b c : GF) : a * (b + c) = a * b + a * c := ext (Gf.mul_xor_right _ _ _)
theorem add_mul (a b c : GF) : (a + b) * c = a * c + b * c := ext (Gf.mul_xor_left _ _ _)
instance : Std.Associative (α := GF) (· + ·) := ⟨add_assoc⟩
instance : Std.Commutative (α := GF) (· + ·) := ⟨add_comm⟩
instance : Std.Associative (α := GF) (· * ·) := ⟨mul_assoc⟩
instance : Std.Commutative (α := GF) (· * ·) := ⟨mul_comm⟩
theorem add_left_cancel {a b c : GF} (h : a + b = a + c) : b = c := by
  have := congrArg (a + ·) h
  simp only [← add_assoc, add_self, zero_add] at this
  exact this
theorem add_cancel (a b : GF) : a + (a + b) = b := by rw [← add_assoc, add_self, zero_add]
theorem eq_of_add {a b : GF} (h : a + b = 0) : a = b := by rw [← add_zero a, ← add_self b, ← add_assoc, h, zero_add]
theorem add_lc (a b c : GF) : a + (b + c) = b + (a + c) := by rw [← add_assoc, add_comm a b, add_assoc]
theorem add_add_add (a b c d : GF) : (a + b) + (c + d) = (a + c) + (b + d) := by ac_rfl
/-- What it is divided by; of 0: 0. -/
def inv (a : GF) : GF := ⟨Gf.inv a.val, Gf.inv_lt _ a.lt⟩
theorem mul_inv (a : GF) (h : a ≠ 0) : a * inv a = 1 := ext (Gf.mul_inv _ a.lt (fun e => h (ext e)))
theorem inv_mul (a : GF) (h : a ≠ 0) : inv a * a = 1 := by rw [mul_comm]; exact mul_inv a h
theorem inv_zero : inv 0 = 0 := ext Gf.inv_zero
theorem one_ne_zero : (1 : GF) ≠ 0 := by decide
theorem mul_eq_zero {a b : GF} (h : a * b = 0) : a = 0 ∨ b = 0 := by
  by_cases ha : a = 0
  · exact .inl ha
  · right
    rw [← one_mul b, ← inv_mul a ha, mul_assoc, h, mul_zero]
theorem mul_ne_zero {a b : GF} (ha : a ≠ 0) (hb : b ≠ 0) : a * b ≠ 0 := fun h => (mul_eq_zero h).elim ha hb
theorem inv_ne_zero {a : GF} (h : a ≠ 0) : inv a ≠ 0 := fun e => one_ne_zero (by rw [← mul_inv a h, e, mul_zero])
theorem mul_left_cancel {a b c : GF} (ha : a ≠ 0) (h : a * b = a * c) : b = c := by
  rw [← one_mul b, ← one_mul c, ← inv_mul a ha, mul_assoc, mul_assoc, h]
theorem of_inv (a : Nat) (ha : a < 256) : of (Gf.inv a) = inv (of a) := ext (by rw [of_val _ (Gf.inv_lt _ ha)]; show _ = Gf.inv (of a).val; rw [of_val a ha])
end GF

/-- A sequence of coefficients. -/
abbrev Pol := Nat → GF
namespace Pol
/-- No coefficient from n on. -/
def Bd (n : Nat) (p : Pol) : Prop := ∀ i, n ≤ i → p i = 0
def zero : Pol := fun _ => 0
def add (p q : Pol) : Pol := fun i => p i + q i
def smul (a : GF) (p : Pol) : Pol := fun i => a * p i
/-- One coefficient alone. -/
def mono (k : Nat) (a : GF) : Pol := fun i => if i = k then a else 0
def tail (p : Pol) : Pol := fun i => p (i + 1)
/-- The coefficients below n. -/
def cut (n : Nat) (p : Pol) : Pol := fun i => if i < n then p i else 0
/-- The product with x^n. -/
def up (n : Nat) (p : Pol) : Pol := fun i => if n ≤ i then p (i - n) else 0
/-- The quotient by x^n. -/
def down (n : Nat) (p : Pol) : Pol := fun i => p (i + n)
/-- The product. -/
def mul (p q : Pol) : Pol
  | 0 => p 0 * q 0
  | n + 1 => p 0 * q (n + 1) + mul (tail p) q n
theorem mul_0 (p q : Pol) : mul p q 0 = p 0 * q 0 := by rw [mul]
theorem mul_succ (p q : Pol) (n : Nat) : mul p q (n + 1) = p 0 * q (n + 1) + mul (tail p) q n := by rw [mul]
theorem tail_mul (p q : Pol) : tail (mul p q) = add (smul (p 0) (tail q)) (mul (tail p) q) := by funext n; exact mul_succ p q n
theorem mul_congr {p p' q q' : Pol} (n : Nat) (hp : ∀ i, i ≤ n → p i = p' i) (hq : ∀ i, i ≤ n → q i = q' i) : mul p q n = mul p' q' n := by
  induction n generalizing p p' with
  | zero => rw [mul_0, mul_0, hp 0 (Nat.le_refl _), hq 0 (Nat.le_refl _)]
  | succ n ih =>
    rw [mul_succ, mul_succ, hp 0 (Nat.zero_le _), hq (n + 1) (Nat.le_refl _)]
    rw [ih (p := tail p) (p' := tail p') (fun i hi => hp (i + 1) (by omega)) (fun i hi => hq i (by omega))]
theorem add_mul (p q r : Pol) : mul (add p q) r = add (mul p r) (mul q r) := by
  funext n
  induction n generalizing p q with
  | zero => simp only [mul_0, add, GF.add_mul]
  | succ n ih =>
    have e : tail (add p q) = add (tail p) (tail q) := rfl
    show mul (add p q) r (n + 1) = mul p r (n + 1) + mul q r (n + 1)
    rw [mul_succ, mul_succ, mul_succ, e, ih]
    show (p 0 + q 0) * r (n + 1) + (mul (tail p) r n + mul (tail q) r n) = _
    rw [GF.add_mul]; ac_rfl
theorem mul_add (p q r : Pol) : mul p (add q r) = add (mul p q) (mul p r) := by
  funext n
  induction n generalizing p with
  | zero => simp only [mul_0, add, GF.mul_add]
  | succ n ih =>
    show mul p (add q r) (n + 1) = mul p q (n + 1) + mul p r (n + 1)
    rw [mul_succ, mul_succ, mul_succ, ih]
    show p 0 * (q (n + 1) + r (n + 1)) + (mul (tail p) q n + mul (tail p) r n) = _
    rw [GF.mul_add]; ac_rfl
theorem smul_mul (a : GF) (p q : Pol) : mul (smul a p) q = smul a (mul p q) := by
  funext n
  induction n generalizing p with
  | zero => simp only [mul_0, smul, GF.mul_assoc]
  | succ n ih =>
    have e : tail (smul a p) = smul a (tail p) := rfl
    show mul (smul a p) q (n + 1) = a * mul p q (n + 1)
    rw [mul_succ, mul_succ, e, ih]
    show a * p 0 * q (n + 1) + a * mul (tail p) q n = _
    rw [GF.mul_add, GF.mul_assoc]
/-- The product, by the other one's first coefficient. -/
theorem mul_succ' (p q : Pol) (n : Nat) : mul p q (n + 1) = p (n + 1) * q 0 + mul p (tail q) n := by
  induction n generalizing p with
  | zero =>
    rw [mul_succ, mul_0, mul_0]
    show p 0 * q 1 + p 1 * q 0 = p 1 * q 0 + p 0 * q 1
    exact GF.add_comm _ _
  | succ n ih =>
    rw [mul_succ, ih, mul_succ]
    show p 0 * q (n + 2) + (p (n + 2) * q 0 + mul (tail p) (tail q) n) = p (n + 2) * q 0 + (p 0 * q (n + 2) + mul (tail p) (tail q) n)
    exact GF.add_lc _ _ _
theorem mul_comm (p q : Pol) : mul p q = mul q p := by
  funext n
  induction n generalizing p with
  | zero => rw [mul_0, mul_0, GF.mul_comm]
  | succ n ih => rw [mul_succ, mul_succ', ih, GF.mul_comm]
theorem mul_assoc (p q r : Pol) : mul (mul p q) r = mul p (mul q r) := by
  funext n
  induction n generalizing p with
  | zero => rw [mul_0, mul_0, mul_0, mul_0, GF.mul_assoc]
  | succ n ih =>
    rw [mul_succ, mul_succ, mul_succ, tail_mul, add_mul, smul_mul, mul_0]
    show p 0 * q 0 * r (n + 1) + (p 0 * mul (tail q) r n + mul (mul (tail p) q) r n) = _
    rw [ih, GF.mul_add, GF.mul_assoc, GF.add_assoc]
theorem mul_smul (a : GF) (p q : Pol) : mul p (smul a q) = smul a (mul p q) := by rw [mul_comm, smul_mul, mul_comm]
theorem zero_mul (p : Pol) : mul zero p = zero := by
  funext n
  induction n with
  | zero => rw [mul_0]; exact GF.zero_mul _
  | succ n ih =>
    have e : tail zero = zero := rfl
    rw [mul_succ, e, ih]
    show (0 : GF) * _ + 0 = 0
    rw [GF.zero_mul, GF.add_zero]
theorem mul_zero (p : Pol) : mul p zero = zero := by rw [mul_comm, zero_mul]
def one : Pol := mono 0 1
theorem const_mul (a : GF) (p : Pol) : mul (mono 0 a) p = smul a p := by
  funext n
  cases n with
  | zero => rw [mul_0]; rfl
  | succ n =>
    have e : tail (mono 0 a) = zero := by funext i; simp [tail, mono, zero]
    rw [mul_succ, e, zero_mul]
    show a * p (n + 1) + 0 = a * p (n + 1)
    rw [GF.add_zero]
theorem one_mul (p : Pol) : mul one p = p := by unfold one; rw [const_mul]; funext i; exact GF.one_mul _
theorem mul_one (p : Pol) : mul p one = p := by rw [mul_comm, one_mul]
theorem add_comm (p q : Pol) : add p q = add q p := by funext i; exact GF.add_comm _ _
theorem add_assoc (p q r : Pol) : add (add p q) r = add p (add q r) := by funext i; exact GF.add_assoc _ _ _
theorem add_zero (p : Pol) : add p zero = p := by funext i; exact GF.add_zero _
theorem zero_add (p : Pol) : add zero p = p := by funext i; exact GF.zero_add _
theorem add_self (p : Pol) : add p p = zero := by funext i; exact GF.add_self _
theorem add_cancel (p q : Pol) : add p (add p q) = q := by funext i; exact GF.add_cancel _ _
theorem eq_of_add {p q : Pol} (h : add p q = zero) : p = q := by funext i; exact GF.eq_of_add (congrFun h i)
theorem smul_smul (a b : GF) (p : Pol) : smul a (smul b p) = smul (a * b) p := by funext i; exact (GF.mul_assoc _ _ _).symm
theorem one_smul (p : Pol) : smul 1 p = p := by funext i; exact GF.one_mul _
theorem zero_smul (p : Pol) : smul 0 p = zero := by funext i; exact GF.zero_mul _
theorem add_smul (a b : GF) (p : Pol) : smul (a + b) p = add (smul a p) (smul b p) := by funext i; exact GF.add_mul _ _ _
theorem smul_add (a : GF) (p q : Pol) : smul a (add p q) = add (smul a p) (smul a q) := by funext i; exact GF.mul_add _ _ _
theorem x_mul (p : Pol) : mul (mono 1 1) p = up 1 p := by
  funext n
  have e : tail (mono 1 1) = one := by funext i; simp [tail, mono, one]
  cases n with
  | zero =>
    rw [mul_0]
    show (0 : GF) * _ = if 1 ≤ 0 then _ else 0
    rw [GF.zero_mul]; rfl
  | succ n =>
    rw [mul_succ, e, one_mul]
    show (0 : GF) * _ + _ = if 1 ≤ n + 1 then p (n + 1 - 1) else 0
    rw [GF.zero_mul, GF.zero_add, if_pos (by omega)]; rfl
theorem up_zero (p : Pol) : up 0 p = p := by funext i; simp [up]
theorem up_up (m n : Nat) (p : Pol) : up m (up n p) = up (m + n) p := by
  funext i
  unfold up
  by_cases h : m ≤ i
  · by_cases h2 : n ≤ i - m
    · rw [if_pos h, if_pos h2, if_pos (by omega)]
      congr 1; omega
    · rw [if_pos h, if_neg h2, if_neg (by omega)]
  · rw [if_neg h, if_neg (by omega)]
theorem up_mul (n : Nat) (p q : Pol) : mul (up n p) q = up n (mul p q) := by
  induction n with
  | zero => rw [up_zero, up_zero]
  | succ n ih =>
    have e : ∀ r : Pol, up (n + 1) r = up 1 (up n r) := fun r => by rw [up_up, Nat.add_comm]
    rw [e, e, ← x_mul, ← x_mul, mul_assoc, ih]
theorem mono_mul (k : Nat) (a : GF) (p : Pol) : mul (mono k a) p = up k (smul a p) := by
  have e : mono k a = up k (mono 0 a) := by
    funext i
    show (if i = k then a else 0) = if k ≤ i then (if i - k = 0 then a else 0) else 0
    by_cases h : i = k
    · rw [if_pos h, if_pos (by omega), if_pos (by omega)]
    · rw [if_neg h]
      split
      · rw [if_neg (by omega)]
      · rfl
  rw [e, up_mul, const_mul]
theorem down_up (n : Nat) (p : Pol) : down n (up n p) = p := by
  funext i
  unfold down up
  rw [if_pos (by omega)]; congr 1; omega
theorem cut_up_down (n : Nat) (p : Pol) : add (cut n p) (up n (down n p)) = p := by
  funext i
  show (if i < n then p i else 0) + (if n ≤ i then p (i - n + n) else 0) = p i
  by_cases h : i < n
  · rw [if_pos h, if_neg (by omega), GF.add_zero]
  · rw [if_neg h, if_pos (by omega), GF.zero_add]; congr 1; omega
/-- A product row by row: what one more coefficient adds. -/
theorem mul_cut_succ (p q : Pol) (k : Nat) : mul (cut (k + 1) p) q = add (mul (cut k p) q) (up k (smul (p k) q)) := by
  rw [← mono_mul, ← add_mul]
  congr 1
  funext i
  show (if i < k + 1 then p i else 0) = (if i < k then p i else 0) + (if i = k then p k else 0)
  by_cases h : i < k
  · rw [if_pos (by omega), if_pos h, if_neg (by omega), GF.add_zero]
  · by_cases e : i = k
    · subst e; rw [if_pos (by omega), if_neg h, if_pos rfl, GF.zero_add]
    · rw [if_neg (by omega), if_neg h, if_neg e, GF.add_zero]
theorem cut_zero (p : Pol) : cut 0 p = zero := by funext i; simp [cut, zero]
theorem cut_bd {n : Nat} {p : Pol} (h : Bd n p) : cut n p = p := by
  funext i
  unfold cut
  split
  · rfl
  · exact (h i (by omega)).symm

/-! Degrees. -/
theorem Bd.mono_le {m n : Nat} {p : Pol} (h : Bd m p) (hn : m ≤ n) : Bd n p := fun i hi => h i (Nat.le_trans hn hi)
theorem Bd.add {n : Nat} {p q : Pol} (hp : Bd n p) (hq : Bd n q) : Bd n (Pol.add p q) := fun i hi => by show p i + q i = 0; rw [hp i hi, hq i hi]; rfl
theorem Bd.smul {n : Nat} {p : Pol} (a : GF) (hp : Bd n p) : Bd n (Pol.smul a p) := fun i hi => by show a * p i = 0; rw [hp i hi, GF.mul_zero]
theorem Bd.zero (n : Nat) : Bd n zero := fun _ _ => rfl
theorem Bd.up {n : Nat} {p : Pol} (k : Nat) (hp : Bd n p) : Bd (n + k) (Pol.up k p) := fun i hi => by
  show (if k ≤ i then p (i - k) else 0) = 0
  split
  · exact hp _ (by omega)
  · rfl
theorem bd_zero {p : Pol} (h : Bd 0 p) : p = zero := by funext i; exact h i (Nat.zero_le _)
theorem Bd.tail {n : Nat} {p : Pol} (h : Bd (n + 1) p) : Bd n (tail p) := fun i hi => h (i + 1) (by omega)
theorem Bd.mul {a b : Nat} {p q : Pol} (hp : Bd (a + 1) p) (hq : Bd (b + 1) q) : Bd (a + b + 1) (Pol.mul p q) := by
  induction a generalizing p with
  | zero =>
    have e : p = mono 0 (p 0) := by
      funext i
      unfold mono
      split
      · rename_i h; rw [h]
      · exact hp i (by omega)
    rw [e, const_mul, Nat.zero_add]
    exact hq.smul _
  | succ a ih =>
    intro i hi
    cases i with
    | zero => omega
    | succ i =>
      rw [mul_succ, hq (i + 1) (by omega), GF.mul_zero, GF.zero_add]
      exact ih (Bd.tail hp) i (by omega)
/-- The greatest coefficient of a product. -/
theorem mul_top {a b : Nat} {p q : Pol} (hp : Bd (a + 1) p) (hq : Bd (b + 1) q) : mul p q (a + b) = p a * q b := by
  induction a generalizing p with
  | zero =>
    have e : p = mono 0 (p 0) := by
      funext i
      unfold mono
      split
      · rename_i h; rw [h]
      · exact hp i (by omega)
    rw [e, const_mul, Nat.zero_add]
    rfl
  | succ a ih =>
    have e : a + 1 + b = a + b + 1 := by omega
    rw [e, mul_succ, hq (a + b + 1) (by omega), GF.mul_zero, GF.zero_add, ih (Bd.tail hp)]
    rfl
/-- Of a degree: d less 1 is the greatest with a coefficient; 0: there is none. -/
structure Dg (d : Nat) (p : Pol) : Prop where
  bd : Bd d p
  top : d ≠ 0 → p (d - 1) ≠ 0
theorem Dg.unique {d e : Nat} {p : Pol} (h : Dg d p) (k : Dg e p) : d = e := by
  rcases Nat.lt_trichotomy d e with hl | hl | hl
  · exact absurd (h.bd (e - 1) (by omega)) (k.top (by omega))
  · exact hl
  · exact absurd (k.bd (d - 1) (by omega)) (h.top (by omega))
theorem dg_of_bd : ∀ (n : Nat) (p : Pol), Bd n p → ∃ d, d ≤ n ∧ Dg d p
  | 0, p, h => ⟨0, Nat.le_refl _, h, fun e => absurd rfl e⟩
  | n + 1, p, h => by
    by_cases e : p n = 0
    · obtain ⟨d, hd, hg⟩ := dg_of_bd n p (fun i hi => by
        rcases Nat.lt_or_ge n i with h1 | h1
        · exact h i h1
        · rw [show i = n by omega, e])
      exact ⟨d, by omega, hg⟩
    · exact ⟨n + 1, Nat.le_refl _, h, fun _ => e⟩
theorem dg_zero : Dg 0 zero := ⟨Bd.zero 0, fun e => absurd rfl e⟩
theorem Dg.eq_zero {p : Pol} (h : Dg 0 p) : p = zero := bd_zero h.bd
theorem Dg.mul {d e : Nat} {p q : Pol} (hp : Dg (d + 1) p) (hq : Dg (e + 1) q) : Dg (d + e + 1) (Pol.mul p q) :=
  ⟨hp.bd.mul hq.bd, fun _ => by
    show Pol.mul p q (d + e) ≠ 0
    rw [mul_top hp.bd hq.bd]
    exact GF.mul_ne_zero (hp.top (by omega)) (hq.top (by omega))⟩
theorem mul_eq_zero {m n : Nat} {p q : Pol} (hp : Bd m p) (hq : Bd n q) (h : mul p q = zero) : p = zero ∨ q = zero := by
  obtain ⟨d, _, hd⟩ := dg_of_bd m p hp
  obtain ⟨e, _, he⟩ := dg_of_bd n q hq
  cases d with
  | zero => exact .inl hd.eq_zero
  | succ d =>
    cases e with
    | zero => exact .inr he.eq_zero
    | succ e =>
      have := (hd.mul he).top (by omega)
      rw [h] at this
      exact absurd rfl this
theorem mul_left_cancel {l m n : Nat} {p q r : Pol} (hp : Bd l p) (hq : Bd m q) (hr : Bd n r) (h0 : p ≠ zero) (h : mul p q = mul p r) : q = r := by
  have h1 : mul p (add q r) = zero := by rw [mul_add, h, add_self]
  rcases mul_eq_zero hp ((hq.mono_le (Nat.le_max_left m n)).add (hr.mono_le (Nat.le_max_right m n))) h1 with e | e
  · exact absurd e h0
  · exact eq_of_add e
theorem Dg.smul {d : Nat} {p : Pol} (a : GF) (ha : a ≠ 0) (h : Dg d p) : Dg d (Pol.smul a p) := ⟨h.bd.smul a, fun e => GF.mul_ne_zero ha (h.top e)⟩

/-! Lists of bytes as polynomials. -/
def ofL (xs : List Nat) : Pol := fun i => GF.of (xs.getD i 0)
theorem ofL_bd (xs : List Nat) : Bd xs.length (ofL xs) := fun i hi => by
  unfold ofL
  simp [List.getD, List.getElem?_eq_none hi]
  rfl
/-- All are bytes. -/
def Byt (xs : List Nat) : Prop := ∀ i, xs.getD i 0 < 256
theorem ofL_val {xs : List Nat} (h : Byt xs) (i : Nat) : (ofL xs i).val = xs.getD i 0 := GF.of_val _ (h i)
theorem ofL_nil : ofL [] = zero := by funext i; simp [ofL, zero]; rfl
/-- NORMAL: empty, or its last byte is not 0. -/
def Nrm (xs : List Nat) : Prop := xs.length ≠ 0 → xs.getD (xs.length - 1) 0 ≠ 0
theorem Nrm.dg {xs : List Nat} (h : Nrm xs) (hb : Byt xs) : Dg xs.length (ofL xs) := ⟨ofL_bd xs, fun h0 e => h h0 ((GF.of_eq_zero _ (hb _)).1 e)⟩
/-- A normal list is told by its polynomial. -/
theorem ofL_inj {xs ys : List Nat} (hx : Nrm xs) (hy : Nrm ys) (bx : Byt xs) (by' : Byt ys) (h : ofL xs = ofL ys) : xs = ys := by
  have hl : xs.length = ys.length := (hx.dg bx).unique (h ▸ hy.dg by')
  apply List.ext_getElem?
  intro i
  by_cases hi : i < xs.length
  · have h1 := GF.of_inj _ _ (bx i) (by' i) (congrFun h i)
    have h2 : i < ys.length := by omega
    simp only [List.getD, List.getElem?_eq_getElem hi, List.getElem?_eq_getElem h2, Option.getD_some] at h1
    rw [List.getElem?_eq_getElem hi, List.getElem?_eq_getElem h2, h1]
  · rw [List.getElem?_eq_none (by omega), List.getElem?_eq_none (by omega)]
/-- The list of the first n coefficients. -/
def toL (n : Nat) (p : Pol) : List Nat := (List.range n).map fun i => (p i).val
theorem toL_length (n : Nat) (p : Pol) : (toL n p).length = n := by simp [toL]
theorem toL_at (n : Nat) (p : Pol) (i : Nat) : (toL n p).getD i 0 = if i < n then (p i).val else 0 := by
  unfold toL
  by_cases h : i < n
  · simp [List.getD, h]
  · simp [List.getD, h]
theorem toL_byt (n : Nat) (p : Pol) : Byt (toL n p) := fun i => by rw [toL_at]; split; exact (p i).lt; decide
theorem ofL_toL {n : Nat} {p : Pol} (h : Bd n p) : ofL (toL n p) = p := by
  funext i
  unfold ofL
  rw [toL_at]
  split
  · exact GF.of_self _
  · rw [h i (by omega)]; rfl
theorem toL_nrm {n : Nat} {p : Pol} (h : Dg n p) : Nrm (toL n p) := fun h0 e => by
  rw [toL_length] at h0 e
  rw [toL_at, if_pos (by omega)] at e
  exact h.top h0 (GF.ext e)
theorem toL_ofL {xs : List Nat} (h : Byt xs) : toL xs.length (ofL xs) = xs := by
  apply List.ext_getElem?
  intro i
  unfold toL
  rw [List.getElem?_map]
  by_cases hi : i < xs.length
  · rw [List.getElem?_range hi]
    simp only [Option.map_some, ofL_val h]
    simp [List.getD, hi]
  · rw [List.getElem?_eq_none (by simpa using hi), List.getElem?_eq_none (by omega)]; rfl
end Pol
end Go.Proofs
