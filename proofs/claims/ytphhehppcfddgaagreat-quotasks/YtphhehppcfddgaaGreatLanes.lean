/- Plain mathematics of lanes: sixty-four numbers laid bit by bit. Nothing of the program. No conditions. -/
import Derived.Test.YtphhehppcfddgaaGreatGf
namespace Ln

/-- The plane i of the first k lanes. -/
def pkK (l : Nat → Nat) (i : Nat) : Nat → Nat
  | 0 => 0
  | k + 1 => pkK l i k ^^^ (if (l k).testBit i then 2 ^ k else 0)
/-- The plane i of the lanes l. -/
def pk (l : Nat → Nat) (i : Nat) : Nat := pkK l i 64
theorem bit_pow (b : Bool) (k m : Nat) : (if b then 2 ^ k else 0 : Nat).testBit m = (b && decide (m = k)) := by
  cases b
  · simp
  · simp only [if_true, Nat.testBit_two_pow, Bool.true_and]
    exact decide_eq_decide.2 ⟨Eq.symm, Eq.symm⟩
theorem pkK_bit (l : Nat → Nat) (i k m : Nat) : (pkK l i k).testBit m = (decide (m < k) && (l m).testBit i) := by
  induction k with
  | zero => simp [pkK]
  | succ k ih =>
    rw [pkK, Nat.testBit_xor, ih, bit_pow]
    by_cases e : m = k
    · subst e; simp
    · have : decide (m < k + 1) = decide (m < k) := decide_eq_decide.2 (by omega)
      simp [e, this]
theorem pk_bit (l : Nat → Nat) (i m : Nat) : (pk l i).testBit m = (decide (m < 64) && (l m).testBit i) := pkK_bit l i 64 m
theorem pk_lt (l : Nat → Nat) (i : Nat) : pk l i < 18446744073709551616 := by
  refine Nat.lt_pow_two_of_testBit (n := 64) _ fun m hm => ?_
  rw [pk_bit]
  simp; omega
theorem pk_same {l m : Nat → Nat} (h : ∀ n, n < 64 → l n = m n) (i : Nat) : pk l i = pk m i := by
  apply Nat.eq_of_testBit_eq
  intro n
  rw [pk_bit, pk_bit]
  by_cases hn : n < 64
  · rw [h n hn]
  · simp [hn]

/-- The byte of the first k planes at n. -/
def laneK (p : Nat → Nat) (n : Nat) : Nat → Nat
  | 0 => 0
  | k + 1 => laneK p n k ^^^ (if (p k).testBit n then 2 ^ k else 0)
def lane (p : Nat → Nat) (n : Nat) : Nat := laneK p n 8
theorem laneK_bit (p : Nat → Nat) (n k m : Nat) : (laneK p n k).testBit m = (decide (m < k) && (p m).testBit n) := by
  induction k with
  | zero => simp [laneK]
  | succ k ih =>
    rw [laneK, Nat.testBit_xor, ih, bit_pow]
    by_cases e : m = k
    · subst e; simp
    · have : decide (m < k + 1) = decide (m < k) := decide_eq_decide.2 (by omega)
      simp [e, this]
theorem lane_bit (p : Nat → Nat) (n m : Nat) : (lane p n).testBit m = (decide (m < 8) && (p m).testBit n) := laneK_bit p n 8 m
theorem laneK_lt (p : Nat → Nat) (n k : Nat) : laneK p n k < 2 ^ k := by
  refine Nat.lt_pow_two_of_testBit _ fun m hm => ?_
  rw [laneK_bit]
  simp; omega
theorem lane_lt (p : Nat → Nat) (n : Nat) : lane p n < 256 := laneK_lt p n 8
/-- A byte of the first k bits of the lane n. -/
theorem laneK_pk (l : Nat → Nat) (n k : Nat) (hn : n < 64) : laneK (pk l) n k = l n % 2 ^ k := by
  apply Nat.eq_of_testBit_eq
  intro m
  rw [laneK_bit, pk_bit, Nat.testBit_mod_two_pow]
  simp [hn]
theorem lane_pk (l : Nat → Nat) (n : Nat) (hn : n < 64) (hl : l n < 256) : lane (pk l) n = l n := by
  rw [lane, laneK_pk l n 8 hn]
  exact Nat.mod_eq_of_lt hl
/-- Planes are those of their lanes. -/
theorem pk_lane (p : Nat → Nat) (hp : ∀ i, i < 8 → p i < 18446744073709551616) (i : Nat) (hi : i < 8) : pk (lane p) i = p i := by
  apply Nat.eq_of_testBit_eq
  intro m
  rw [pk_bit, lane_bit]
  by_cases hm : m < 64
  · simp [hm, hi]
  · have : (p i).testBit m = false := Nat.testBit_lt_two_pow (Nat.lt_of_lt_of_le (hp i hi) (Nat.pow_le_pow_right (by decide) (by omega) : 2 ^ 64 ≤ 2 ^ m))
    simp [hm, this]

/-! ## Sums -/
theorem pk_xor (l m : Nat → Nat) (i : Nat) : pk l i ^^^ pk m i = pk (fun n => l n ^^^ m n) i := by
  apply Nat.eq_of_testBit_eq
  intro n
  rw [Nat.testBit_xor, pk_bit, pk_bit, pk_bit, Nat.testBit_xor]
  cases decide (n < 64) <;> simp

/-! ## Pack: the lanes ahead of n, and the first i bits of the lane n -/
def packS (l : Nat → Nat) (n i : Nat) (m : Nat) : Nat := if m < n then l m else if m = n then l n % 2 ^ i else 0
theorem packS_bit (l : Nat → Nat) (n i m j : Nat) : (packS l n i m).testBit j = (decide (m < n ∨ (m = n ∧ j < i)) && (l m).testBit j) := by
  unfold packS
  split
  · rename_i h; simp [h]
  · split
    · rename_i h e; subst e; rw [Nat.testBit_mod_two_pow]; simp
    · rename_i h e; simp [h, e]
theorem pack_step (l : Nat → Nat) (n i : Nat) (hn : n < 64) : pk (packS l n (i + 1)) i = pk (packS l n i) i ||| ((l n / 2 ^ i % 2) * 2 ^ n) := by
  have e : l n / 2 ^ i % 2 = if (l n).testBit i then 1 else 0 := by
    rw [Nat.testBit_eq_decide_div_mod_eq]
    rcases Nat.mod_two_eq_zero_or_one (l n / 2 ^ i) with h | h <;> rw [h] <;> rfl
  have e2 : (l n / 2 ^ i % 2) * 2 ^ n = if (l n).testBit i then 2 ^ n else 0 := by rw [e]; split <;> simp
  rw [e2]
  apply Nat.eq_of_testBit_eq
  intro m
  rw [Nat.testBit_or, bit_pow, pk_bit, pk_bit, packS_bit, packS_bit]
  by_cases hm : m = n
  · subst hm; simp [hn]
  · have h1 : decide (m < n ∨ (m = n ∧ i < i + 1)) = decide (m < n) := decide_eq_decide.2 (by omega)
    have h2 : decide (m < n ∨ (m = n ∧ i < i)) = decide (m < n) := decide_eq_decide.2 (by omega)
    rw [h1, h2]; simp [hm]
theorem pack_else (l : Nat → Nat) (n i j : Nat) (h : j ≠ i) : pk (packS l n (i + 1)) j = pk (packS l n i) j := by
  apply Nat.eq_of_testBit_eq
  intro m
  rw [pk_bit, pk_bit, packS_bit, packS_bit]
  have : decide (m < n ∨ (m = n ∧ j < i + 1)) = decide (m < n ∨ (m = n ∧ j < i)) := decide_eq_decide.2 (by omega)
  rw [this]
theorem pack_next (l : Nat → Nat) (n j : Nat) (hl : l n < 256) : pk (packS l n 8) j = pk (packS l (n + 1) 0) j := by
  apply Nat.eq_of_testBit_eq
  intro m
  rw [pk_bit, pk_bit, packS_bit, packS_bit]
  by_cases hm : m = n
  · subst hm
    by_cases hj : j < 8
    · simp [hj]
    · have : (l m).testBit j = false := Nat.testBit_lt_two_pow (Nat.lt_of_lt_of_le hl (Nat.pow_le_pow_right (by decide) (by omega) : 2 ^ 8 ≤ 2 ^ j))
      simp [this]
  · have : decide (m < n ∨ (m = n ∧ j < 8)) = decide (m < n + 1 ∨ (m = n + 1 ∧ j < 0)) := decide_eq_decide.2 (by omega)
    rw [this]
theorem pack_start (l : Nat → Nat) (j : Nat) : pk (packS l 0 0) j = 0 := by
  apply Nat.eq_of_testBit_eq
  intro m
  rw [pk_bit, packS_bit]; simp
/-- All that come are packed: behind them are noughts. -/
theorem pack_end (l : Nat → Nat) (n j : Nat) (h : ∀ m, n ≤ m → m < 64 → l m = 0) : pk (packS l n 0) j = pk l j := by
  apply Nat.eq_of_testBit_eq
  intro m
  rw [pk_bit, pk_bit, packS_bit]
  by_cases hm : m < 64
  · by_cases hmn : m < n
    · simp [hmn]
    · rw [h m (by omega) hm]; simp
  · simp [hm]

/-! ## Products -/
/-- The bits j of b up to k, where a has its bit i, added to s. -/
def inK (a b i s : Nat) : Nat → Nat
  | 0 => s
  | k + 1 => inK a b i s k ^^^ (if a.testBit i && b.testBit k then 2 ^ (i + k) else 0)
theorem inK_eq (a b i s k : Nat) : inK a b i s k = s ^^^ (if a.testBit i then (b % 2 ^ k) * 2 ^ i else 0) := by
  induction k with
  | zero => simp [inK, Nat.mod_one]
  | succ k ih =>
    rw [inK, ih]
    cases a.testBit i
    · simp
    · have h := Gf.bit_off (b % 2 ^ (k + 1)) k (Nat.mod_lt _ (Nat.two_pow_pos _))
      rw [Nat.mod_mod_of_dvd _ (Nat.pow_dvd_pow 2 (Nat.le_succ k)), Nat.testBit_mod_two_pow] at h
      simp only [Nat.lt_succ_self, decide_true, Bool.true_and] at h
      simp only [if_true, Bool.true_and]
      rw [h, Gf.xor_mul_pow, Nat.xor_assoc]
      cases b.testBit k
      · simp
      · simp [Nat.pow_add, Nat.mul_comm]
theorem inK_all (a b i : Nat) (hb : b < 256) : inK a b i (Gf.wideK b a i) 8 = Gf.wideK b a (i + 1) := by
  rw [inK_eq, Gf.wideK, Nat.mod_eq_of_lt (by omega : b < 2 ^ 8)]
  cases a.testBit i <;> simp
theorem mul_step (a b s : Nat → Nat) (i j : Nat) :
    pk (fun n => inK (a n) (b n) i (s n) (j + 1)) (i + j) = pk (fun n => inK (a n) (b n) i (s n) j) (i + j) ^^^ (pk a i &&& pk b j) := by
  apply Nat.eq_of_testBit_eq
  intro n
  rw [Nat.testBit_xor, Nat.testBit_and, pk_bit, pk_bit, pk_bit, pk_bit, inK, Nat.testBit_xor, bit_pow]
  cases decide (n < 64) <;> simp
theorem mul_else (a b s : Nat → Nat) (i j m : Nat) (h : m ≠ i + j) :
    pk (fun n => inK (a n) (b n) i (s n) (j + 1)) m = pk (fun n => inK (a n) (b n) i (s n) j) m := by
  apply Nat.eq_of_testBit_eq
  intro n
  rw [pk_bit, pk_bit, inK, Nat.testBit_xor, bit_pow]
  simp [h]
/-! ## To scale: the bits of b are those of one byte -/
def scK (a b j s : Nat) : Nat → Nat
  | 0 => s
  | k + 1 => scK a b j s k ^^^ (if a.testBit k then 2 ^ (k + j) else 0)
theorem scK_eq (a b j s k : Nat) : scK a b j s k = s ^^^ ((a % 2 ^ k) * 2 ^ j) := by
  induction k with
  | zero => simp [scK, Nat.mod_one]
  | succ k ih =>
    rw [scK, ih]
    have h := Gf.bit_off (a % 2 ^ (k + 1)) k (Nat.mod_lt _ (Nat.two_pow_pos _))
    rw [Nat.mod_mod_of_dvd _ (Nat.pow_dvd_pow 2 (Nat.le_succ k)), Nat.testBit_mod_two_pow] at h
    simp only [Nat.lt_succ_self, decide_true, Bool.true_and] at h
    rw [h, Gf.xor_mul_pow, Nat.xor_assoc]
    cases a.testBit k
    · simp
    · simp [Nat.pow_add]
theorem scK_all (a b j : Nat) (ha : a < 256) (hb : b.testBit j = true) : scK a b j (Gf.wideK a b j) 8 = Gf.wideK a b (j + 1) := by
  rw [scK_eq, Gf.wideK, Nat.mod_eq_of_lt (by omega : a < 2 ^ 8), if_pos hb]
theorem sc_step (a s : Nat → Nat) (b i j : Nat) :
    pk (fun n => scK (a n) b j (s n) (i + 1)) (i + j) = pk (fun n => scK (a n) b j (s n) i) (i + j) ^^^ pk a i := by
  apply Nat.eq_of_testBit_eq
  intro n
  rw [Nat.testBit_xor, pk_bit, pk_bit, pk_bit, scK, Nat.testBit_xor, bit_pow]
  cases decide (n < 64) <;> simp
theorem sc_else (a s : Nat → Nat) (b i j m : Nat) (h : m ≠ i + j) :
    pk (fun n => scK (a n) b j (s n) (i + 1)) m = pk (fun n => scK (a n) b j (s n) i) m := by
  apply Nat.eq_of_testBit_eq
  intro n
  rw [pk_bit, pk_bit, scK, Nat.testBit_xor, bit_pow]
  simp [h]
/-! ## Squares -/
def sqK (a : Nat) : Nat → Nat
  | 0 => 0
  | k + 1 => sqK a k ^^^ (if a.testBit k then 2 ^ (2 * k) else 0)
theorem sqK_lin (k : Nat) : Gf.Lin (fun a => sqK a k) := by
  intro x y
  induction k with
  | zero => simp [sqK]
  | succ k ih =>
    simp only [sqK] at ih ⊢
    rw [Nat.testBit_xor, ih]
    cases x.testBit k <;> cases y.testBit k <;> simp [Nat.xor_assoc, Nat.xor_comm, Gf.xor_lc]
/-- The square of a sum without carries. -/
theorem wide_sq_xor (x y : Nat) (hx : x < 256) (hy : y < 256) : Gf.wide (x ^^^ y) (x ^^^ y) = Gf.wide x x ^^^ Gf.wide y y := by
  rw [Gf.wide_xor_left, Gf.wide_xor_right, Gf.wide_xor_right, Gf.wide_comm y x hy hx, Nat.xor_assoc, Gf.xor_cc]
theorem sqK_wide_upto : ∀ n, n ≤ 8 → ∀ a, a < 2 ^ n → sqK a 8 = Gf.wide a a := by
  intro n
  induction n with
  | zero => intro _ a ha; have : a = 0 := by simp at ha; omega
            subst this; decide
  | succ n ih =>
    intro hn a ha
    have hp : 2 ^ n ≤ 2 ^ 7 := Nat.pow_le_pow_right (by decide) (by omega)
    have hm := Nat.mod_lt a (Nat.two_pow_pos n)
    rw [Gf.bit_off a n ha]
    have h1 := sqK_lin 8 (a % 2 ^ n) (if a.testBit n then 2 ^ n else 0)
    simp only at h1
    rw [h1, wide_sq_xor _ _ (by omega) (by split <;> omega), ih (by omega) _ hm]
    congr 1
    split
    · have : ∀ n, n < 8 → sqK (2 ^ n) 8 = Gf.wide (2 ^ n) (2 ^ n) := by decide +kernel
      exact this n (by omega)
    · decide
theorem sqK_wide (a : Nat) (ha : a < 256) : sqK a 8 = Gf.wide a a := sqK_wide_upto 8 (by decide) a ha
theorem sqK_bit (a k m : Nat) : (sqK a k).testBit m = (decide (m % 2 = 0 ∧ m / 2 < k) && a.testBit (m / 2)) := by
  induction k with
  | zero => simp [sqK]
  | succ k ih =>
    rw [sqK, Nat.testBit_xor, ih, bit_pow]
    by_cases e : m = 2 * k
    · subst e
      have h1 : 2 * k % 2 = 0 := by omega
      have h2 : 2 * k / 2 = k := by omega
      simp [h1, h2]
    · have : decide (m % 2 = 0 ∧ m / 2 < k + 1) = decide (m % 2 = 0 ∧ m / 2 < k) := decide_eq_decide.2 (by omega)
      simp [e, this]
theorem sq_step (a : Nat → Nat) (k : Nat) : pk (fun n => sqK (a n) (k + 1)) (2 * k) = pk a k := by
  apply Nat.eq_of_testBit_eq
  intro n
  rw [pk_bit, pk_bit, sqK_bit]
  have h1 : 2 * k % 2 = 0 := by omega
  have h2 : 2 * k / 2 = k := by omega
  simp [h1, h2]
theorem sq_else (a : Nat → Nat) (k m : Nat) (h : m ≠ 2 * k) : pk (fun n => sqK (a n) (k + 1)) m = pk (fun n => sqK (a n) k) m := by
  apply Nat.eq_of_testBit_eq
  intro n
  rw [pk_bit, pk_bit, sqK, Nat.testBit_xor, bit_pow]
  simp [h]

/-! ## Brought down -/
/-- The bits high, 14 to 15 - k, brought down; they stay where they were. -/
def dn (l : Nat) : Nat → Nat
  | 0 => l
  | k + 1 => dn l k ^^^ (if (dn l k).testBit (14 - k) then 29 * 2 ^ (6 - k) else 0)
theorem dn_lin (k : Nat) : Gf.Lin (fun l => dn l k) := by
  intro x y
  induction k with
  | zero => rfl
  | succ k ih =>
    simp only [dn] at ih ⊢
    rw [ih, Nat.testBit_xor]
    cases (dn x k).testBit (14 - k) <;> cases (dn y k).testBit (14 - k) <;> simp [Nat.xor_assoc, Nat.xor_comm, Gf.xor_lc]
theorem mod_lin : Gf.Lin (fun l => l % 256) := by
  intro x y
  exact Nat.xor_mod_two_pow (n := 8)
theorem dn_red (l : Nat) (h : l < 32768) : dn l 7 % 256 = Gf.red l := by
  refine Gf.Lin.ext (f := fun l => dn l 7 % 256) (g := Gf.red) (fun x y => ?_) (fun x y => Gf.red_xor x y) 15 (by decide +kernel) l h
  have h1 := dn_lin 7 x y
  have h2 := mod_lin (dn x 7) (dn y 7)
  simp only at h1 h2 ⊢
  rw [h1, h2]
/-- The bits i of 29 up to k of it. -/
def dnI (l high : Nat) (k : Nat) : Nat := l ^^^ (if l.testBit high then 29 % 2 ^ k * 2 ^ (high - 8) else 0)
theorem dnI_bit (l high k m : Nat) : (dnI l high k).testBit m = (l.testBit m ^^ (l.testBit high && (decide (high - 8 ≤ m) && (decide (m - (high - 8) < k) && Nat.testBit 29 (m - (high - 8)))))) := by
  unfold dnI
  rw [Nat.testBit_xor]
  cases l.testBit high
  · simp
  · simp only [if_true, Bool.true_and]
    rw [Nat.testBit_mul_two_pow, Nat.testBit_mod_two_pow]
theorem dnI_zero (l high : Nat) : dnI l high 0 = l := by simp [dnI, Nat.mod_one]
theorem dnI_five (l k : Nat) (hk : k < 7) : dnI (dn l k) (14 - k) 5 = dn l (k + 1) := by
  rw [dnI, dn, show 14 - k - 8 = 6 - k by omega]
theorem dn_step (l : Nat → Nat) (high k : Nat) (h8 : 8 ≤ high) (hk : k < 5) (hb : Nat.testBit 29 k = true) :
    pk (fun n => dnI (l n) high (k + 1)) (high - 8 + k) = pk (fun n => dnI (l n) high k) (high - 8 + k) ^^^ pk (fun n => dnI (l n) high k) high := by
  apply Nat.eq_of_testBit_eq
  intro n
  rw [Nat.testBit_xor, pk_bit, pk_bit, pk_bit, dnI_bit, dnI_bit, dnI_bit]
  have e1 : high - 8 + k - (high - 8) = k := by omega
  have e2 : high - (high - 8) = 8 := by omega
  have e3 : decide (high - 8 ≤ high - 8 + k) = true := by simp
  have e4 : decide (8 < k) = false := by simp; omega
  rw [e1, e2, e3, e4, hb]
  cases decide (n < 64) <;> simp
theorem dn_else (l : Nat → Nat) (high k m : Nat) (h : m ≠ high - 8 + k ∨ Nat.testBit 29 k = false) :
    pk (fun n => dnI (l n) high (k + 1)) m = pk (fun n => dnI (l n) high k) m := by
  apply Nat.eq_of_testBit_eq
  intro n
  rw [pk_bit, pk_bit, dnI_bit, dnI_bit]
  congr 3
  by_cases hm : high - 8 ≤ m
  · by_cases e : m - (high - 8) = k
    · rcases h with h | h
      · omega
      · rw [e, h]; simp
    · have : decide (m - (high - 8) < k + 1) = decide (m - (high - 8) < k) := decide_eq_decide.2 (by omega)
      rw [this]
  · simp [hm]
/-- The planes 0 to 7 have a lane's byte. -/
theorem pk_low (l : Nat → Nat) (i : Nat) (hi : i < 8) : pk (fun n => l n % 256) i = pk l i := by
  apply Nat.eq_of_testBit_eq
  intro n
  rw [pk_bit, pk_bit, show (256 : Nat) = 2 ^ 8 from rfl, Nat.testBit_mod_two_pow]
  simp [hi]
end Ln
