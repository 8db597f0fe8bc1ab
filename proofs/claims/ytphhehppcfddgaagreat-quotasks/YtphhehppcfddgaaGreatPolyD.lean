/- Division of polynomials over the field of 256 bytes: quotients and what is left, multiples, the greatest common divisor. Nothing of the program. -/
import Derived.Test.YtphhehppcfddgaaGreatPolyM
namespace Go.Proofs
namespace Pol
/-- It has an end. -/
def Fin (p : Pol) : Prop := ∃ n, Bd n p
theorem Fin.zero : Fin zero := ⟨0, Bd.zero 0⟩
theorem Fin.add {p q : Pol} (hp : Fin p) (hq : Fin q) : Fin (Pol.add p q) := by
  obtain ⟨m, hm⟩ := hp
  obtain ⟨n, hn⟩ := hq
  exact ⟨max m n, (hm.mono_le (Nat.le_max_left m n)).add (hn.mono_le (Nat.le_max_right m n))⟩
theorem Fin.smul {p : Pol} (a : GF) (hp : Fin p) : Fin (Pol.smul a p) := hp.imp fun _ h => h.smul a
theorem Fin.mul {p q : Pol} (hp : Fin p) (hq : Fin q) : Fin (Pol.mul p q) := by
  obtain ⟨m, hm⟩ := hp
  obtain ⟨n, hn⟩ := hq
  exact ⟨_, (hm.mono_le (Nat.le_succ m)).mul (hn.mono_le (Nat.le_succ n))⟩
theorem Fin.ofL (xs : List Nat) : Fin (ofL xs) := ⟨_, ofL_bd xs⟩
theorem Fin.mono (k : Nat) (a : GF) : Fin (mono k a) := ⟨k + 1, fun i hi => by unfold Pol.mono; rw [if_neg (by omega)]⟩
theorem Fin.one : Fin one := Fin.mono 0 1
theorem Fin.dg {p : Pol} (h : Fin p) : ∃ d, Dg d p := by
  obtain ⟨n, hn⟩ := h
  obtain ⟨d, _, hd⟩ := dg_of_bd n p hn
  exact ⟨d, hd⟩
theorem Dg.fin {d : Nat} {p : Pol} (h : Dg d p) : Fin p := ⟨d, h.bd⟩
theorem Dg.ne_zero {d : Nat} {p : Pol} (h : Dg (d + 1) p) : p ≠ zero := fun e => h.top (by omega) (by rw [e]; rfl)
theorem mul_cancel {p q r : Pol} (hp : Fin p) (hq : Fin q) (hr : Fin r) (h0 : p ≠ zero) (h : mul p q = mul p r) : q = r := by
  obtain ⟨_, hp⟩ := hp
  obtain ⟨_, hq⟩ := hq
  obtain ⟨_, hr⟩ := hr
  exact mul_left_cancel hp hq hr h0 h
theorem mul_zero_of {p q : Pol} (hp : Fin p) (hq : Fin q) (h : mul p q = zero) : p = zero ∨ q = zero := by
  obtain ⟨_, hp⟩ := hp
  obtain ⟨_, hq⟩ := hq
  exact mul_eq_zero hp hq h

/-- What is left of a product of q that is of a lower degree than q is nothing. -/
theorem small_multiple {d : Nat} {a q : Pol} (ha : Fin a) (hq : Dg (d + 1) q) (h : Bd d (mul a q)) : a = zero := by
  obtain ⟨e, he⟩ := ha.dg
  cases e with
  | zero => exact he.eq_zero
  | succ e =>
    have := (he.mul hq).top (by omega)
    exact absurd (h (e + d) (by omega)) this
theorem div_unique {d : Nat} {a b r s q : Pol} (ha : Fin a) (hb : Fin b) (hq : Dg (d + 1) q) (hr : Bd d r) (hs : Bd d s) (h : add (mul a q) r = add (mul b q) s) : a = b ∧ r = s := by
  have h1 : mul (add a b) q = add r s := by
    rw [add_mul]
    funext i
    have := congrFun h i
    show mul a q i + mul b q i = r i + s i
    have h2 : mul a q i + r i = mul b q i + s i := this
    have h3 : mul a q i + r i + (mul b q i + r i) = mul b q i + s i + (mul b q i + r i) := by rw [h2]
    have e1 : mul a q i + r i + (mul b q i + r i) = mul a q i + mul b q i := by
      rw [GF.add_add_add, GF.add_self, GF.add_zero]
    have e2 : mul b q i + s i + (mul b q i + r i) = s i + r i := by
      rw [GF.add_add_add, GF.add_self, GF.zero_add]
    rw [e1, e2] at h3
    rw [h3, GF.add_comm]
  have h2 : Bd d (mul (add a b) q) := by rw [h1]; exact hr.add hs
  have h3 := small_multiple (ha.add hb) hq h2
  have h4 : a = b := eq_of_add h3
  refine ⟨h4, ?_⟩
  rw [h3, zero_mul] at h1
  exact eq_of_add h1.symm
/-- The greatest coefficient goes by a multiple of q. -/
theorem div_step {d n : Nat} {p q : Pol} (hq : Dg (d + 1) q) (hp : Bd (n + 1) p) (hn : d ≤ n) : Bd n (add p (up (n - d) (smul (p n * GF.inv (q d)) q))) := by
  intro i hi
  show p i + (if n - d ≤ i then p n * GF.inv (q d) * q (i - (n - d)) else 0) = 0
  rw [if_pos (by omega)]
  have h0 : q d ≠ 0 := hq.top (by omega)
  rcases Nat.lt_or_ge n i with h | h
  · rw [hp i h, hq.bd (i - (n - d)) (by omega), GF.mul_zero]; rfl
  · have e : i = n := by omega
    subst e
    rw [show i - (i - d) = d by omega, GF.mul_assoc, GF.inv_mul _ h0, GF.mul_one, GF.add_self]
theorem div_exists {d : Nat} {q : Pol} (hq : Dg (d + 1) q) : ∀ (n : Nat) (p : Pol), Bd n p → ∃ a r, Bd n a ∧ Bd d r ∧ p = add (mul a q) r
  | 0, p, h => ⟨zero, zero, Bd.zero 0, Bd.zero d, by rw [zero_mul, add_zero]; exact bd_zero h⟩
  | n + 1, p, h => by
    by_cases hn : d ≤ n
    · obtain ⟨a, r, h1, h2, h3⟩ := div_exists hq n _ (div_step hq h hn)
      refine ⟨add a (mono (n - d) (p n * GF.inv (q d))), r, (h1.mono_le (Nat.le_succ n)).add (fun i hi => by unfold mono; rw [if_neg (by omega)]), h2, ?_⟩
      rw [add_mul, mono_mul]
      have h4 := congrArg (fun z => add z (up (n - d) (smul (p n * GF.inv (q d)) q))) h3
      rw [add_assoc, add_self, add_zero] at h4
      refine h4.trans ?_
      rw [add_assoc, add_assoc, add_comm r]
    · exact ⟨zero, p, Bd.zero _, h.mono_le (by omega), by rw [zero_mul, zero_add]⟩

/-- q divides p. -/
def Dvd (q p : Pol) : Prop := ∃ a, Fin a ∧ p = mul a q
theorem Dvd.refl (p : Pol) : Dvd p p := ⟨one, Fin.one, (one_mul p).symm⟩
theorem Dvd.zero (p : Pol) : Dvd p zero := ⟨Pol.zero, Fin.zero, (zero_mul p).symm⟩
theorem Dvd.trans {p q r : Pol} (h : Dvd p q) (k : Dvd q r) : Dvd p r := by
  obtain ⟨a, ha, rfl⟩ := h
  obtain ⟨b, hb, rfl⟩ := k
  exact ⟨mul b a, hb.mul ha, (mul_assoc b a p).symm⟩
theorem Dvd.add {p q r : Pol} (h : Dvd p q) (k : Dvd p r) : Dvd p (Pol.add q r) := by
  obtain ⟨a, ha, rfl⟩ := h
  obtain ⟨b, hb, rfl⟩ := k
  exact ⟨Pol.add a b, ha.add hb, (add_mul a b p).symm⟩
theorem Dvd.mul_left {p q : Pol} (r : Pol) (hr : Fin r) (h : Dvd p q) : Dvd p (mul r q) := by
  obtain ⟨a, ha, rfl⟩ := h
  exact ⟨mul r a, hr.mul ha, (mul_assoc r a p).symm⟩
theorem Dvd.smul {p q : Pol} (a : GF) (h : Dvd p q) : Dvd p (Pol.smul a q) := by rw [← const_mul]; exact h.mul_left _ (Fin.mono 0 a)
theorem Dvd.of_smul {p q : Pol} {a : GF} (ha : a ≠ 0) (h : Dvd p (Pol.smul a q)) : Dvd p q := by
  have := h.smul (GF.inv a)
  rw [smul_smul, GF.inv_mul a ha, one_smul] at this
  exact this
theorem Dvd.smul_left {p q : Pol} {a : GF} (ha : a ≠ 0) (h : Dvd p q) : Dvd (Pol.smul a p) q := by
  obtain ⟨b, hb, rfl⟩ := h
  refine ⟨Pol.smul (GF.inv a) b, hb.smul _, ?_⟩
  rw [smul_mul, mul_smul, smul_smul, GF.inv_mul a ha, one_smul]
theorem Dvd.sub {p q r : Pol} (h : Dvd p (Pol.add q r)) (k : Dvd p q) : Dvd p r := by
  have := k.add h
  rw [add_cancel] at this
  exact this
theorem Dvd.mul_mul {p q : Pol} (r : Pol) (h : Dvd p q) : Dvd (mul r p) (mul r q) := by
  obtain ⟨a, ha, rfl⟩ := h
  refine ⟨a, ha, ?_⟩
  rw [← mul_assoc, ← mul_assoc, mul_comm r a]
theorem Dvd.of_mul_mul {p q r : Pol} (hp : Fin p) (hq : Fin q) (hr : Fin r) (h0 : r ≠ Pol.zero) (h : Dvd (mul r p) (mul r q)) : Dvd p q := by
  obtain ⟨a, ha, e⟩ := h
  refine ⟨a, ha, mul_cancel hr hq (ha.mul hp) h0 ?_⟩
  rw [e, ← mul_assoc, ← mul_assoc, mul_comm r a]
/-- What divides a remainder and q divides p, and the other way round. -/
theorem dvd_rest {c p q a r : Pol} (ha : Fin a) (e : p = add (mul a q) r) (hq : Dvd c q) : Dvd c p ↔ Dvd c r := by
  constructor
  · intro h; rw [e] at h; exact h.sub (hq.mul_left a ha)
  · intro h; rw [e]; exact (hq.mul_left a ha).add h
theorem Dvd.deg {d e : Nat} {p q : Pol} (hp : Dg (d + 1) p) (hq : Dg (e + 1) q) (h : Dvd p q) : d ≤ e := by
  obtain ⟨a, ha, rfl⟩ := h
  obtain ⟨f, hf⟩ := ha.dg
  cases f with
  | zero => rw [hf.eq_zero, zero_mul] at hq; exact absurd rfl hq.ne_zero
  | succ f => have := (hf.mul hp).unique hq; omega
/-- Two that divide one another differ by a factor. -/
theorem dvd_antisymm {p q : Pol} (hp : Fin p) (hq : Fin q) (h : Dvd p q) (k : Dvd q p) : ∃ a, a ≠ 0 ∧ q = smul a p := by
  by_cases h0 : p = zero
  · obtain ⟨a, _, e⟩ := h
    subst h0
    exact ⟨1, GF.one_ne_zero, by rw [e, mul_zero, one_smul]⟩
  · obtain ⟨a, ha, rfl⟩ := h
    obtain ⟨b, hb, e⟩ := k
    have h1 : mul p (mul b a) = mul p one := by
      rw [mul_one, mul_comm, mul_assoc]; exact e.symm
    have h2 := mul_cancel hp (hb.mul ha) Fin.one h0 h1
    obtain ⟨d, hd⟩ := ha.dg
    obtain ⟨f, hf⟩ := hb.dg
    have ho : Dg 1 one := ⟨fun i hi => by unfold one mono; rw [if_neg (by omega)], fun _ => GF.one_ne_zero⟩
    cases d with
    | zero => rw [hd.eq_zero, mul_zero] at h2; exact absurd h2.symm ho.ne_zero
    | succ d =>
      cases f with
      | zero => rw [hf.eq_zero, zero_mul] at h2; exact absurd h2.symm ho.ne_zero
      | succ f =>
        have := (hf.mul hd).unique (h2 ▸ ho)
        have hd0 : d = 0 := by omega
        subst hd0
        have e0 : a = mono 0 (a 0) := by
          funext i
          unfold mono
          split
          · rename_i h; rw [h]
          · exact hd.bd i (by omega)
        exact ⟨a 0, hd.top (by omega), by rw [e0, const_mul]; rfl⟩
/-- MONIC. -/
def Mon (d : Nat) (p : Pol) : Prop := Bd (d + 1) p ∧ p d = 1
theorem Mon.dg {d : Nat} {p : Pol} (h : Mon d p) : Dg (d + 1) p := ⟨h.1, fun _ => by show p d ≠ 0; rw [h.2]; exact GF.one_ne_zero⟩
theorem Mon.mul {d e : Nat} {p q : Pol} (hp : Mon d p) (hq : Mon e q) : Mon (d + e) (Pol.mul p q) := ⟨hp.1.mul hq.1, by rw [mul_top hp.1 hq.1, hp.2, hq.2, GF.mul_one]⟩
theorem Dg.monic {d : Nat} {p : Pol} (h : Dg (d + 1) p) : Mon d (Pol.smul (GF.inv (p d)) p) := ⟨h.bd.smul _, GF.inv_mul _ (h.top (by omega))⟩
theorem Mon.unique {d e : Nat} {p q : Pol} (hp : Mon d p) (hq : Mon e q) (h : Dvd p q) (k : Dvd q p) : p = q := by
  obtain ⟨a, ha, e1⟩ := dvd_antisymm hp.dg.fin hq.dg.fin h k
  have hde : d + 1 = e + 1 := ((hp.dg.smul a ha).unique (e1 ▸ hq.dg))
  have h1 := congrFun e1 e
  have h2 : q e = a * p e := h1
  rw [hq.2, show e = d by omega, hp.2, GF.mul_one] at h2
  rw [e1, ← h2, one_smul]
/-- The greatest that divides both. -/
structure IsGcd (g p q : Pol) : Prop where
  left : Dvd g p
  right : Dvd g q
  all : ∀ c, Fin c → Dvd c p → Dvd c q → Dvd c g
theorem IsGcd.symm {g p q : Pol} (h : IsGcd g p q) : IsGcd g q p := ⟨h.right, h.left, fun c hc h1 h2 => h.all c hc h2 h1⟩
theorem IsGcd.step {g p q a r : Pol} (ha : Fin a) (e : p = add (mul a q) r) (h : IsGcd g q r) : IsGcd g p q :=
  ⟨(dvd_rest ha e h.left).2 h.right, h.left, fun c hc h1 h2 => h.all c hc h2 ((dvd_rest ha e h2).1 h1)⟩
theorem IsGcd.zero (p : Pol) : IsGcd p p Pol.zero := ⟨Dvd.refl p, Dvd.zero p, fun _ _ h _ => h⟩
theorem IsGcd.smul {g p q : Pol} {a : GF} (ha : a ≠ 0) (h : IsGcd g p q) : IsGcd (Pol.smul a g) p q := ⟨h.left.smul_left ha, h.right.smul_left ha, fun c hc h1 h2 => (h.all c hc h1 h2).smul a⟩
theorem IsGcd.unique {d e : Nat} {g k p q : Pol} (hg : Mon d g) (hk : Mon e k) (h : IsGcd g p q) (h' : IsGcd k p q) : g = k :=
  hg.unique hk (h'.all g hg.dg.fin h.left h.right) (h.all k hk.dg.fin h'.left h'.right)
end Pol
end Go.Proofs
