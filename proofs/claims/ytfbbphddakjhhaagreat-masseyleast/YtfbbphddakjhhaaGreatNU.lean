/- Texts laid together: MasM, MasX, MasN, MasZ. Each says its own conditions. -/
import Derived.Test.YtfbbphddakjhhaaGreatMA
import Derived.Test.YtfbbphddakjhhaaGreatMN
/- The shortest register: Massey's lemma, his steps, and that a short one is alone. Nothing of the program. -/
namespace Go.Proofs
namespace Ms
open Pol (Bd mul up add smul tail zero one Dg)

/-- Where a row is nought as far back as a polynomial reaches, their product is its first coefficient's. -/
theorem mul_win : ∀ (n L : Nat) (p q : Pol), Bd (L + 1) p → (∀ i, i < n → n ≤ i + L → q i = 0) → mul p q n = p 0 * q n
  | 0, _, p, q, _, _ => Pol.mul_0 p q
  | n + 1, 0, p, q, hp, _ => by
    rw [Pol.mul_succ, Pol.bd_zero hp.tail, Pol.zero_mul]; exact GF.add_zero _
  | n + 1, L + 1, p, q, hp, hq => by
    rw [Pol.mul_succ, mul_win n L (tail p) q hp.tail fun i h1 h2 => hq i (by omega) (by omega), hq n (by omega) (by omega), GF.mul_zero, GF.add_zero]
theorem mul_win_zero {n L : Nat} {p q : Pol} (hp : Bd (L + 1) p) (hq : ∀ i, i ≤ n → n ≤ i + L → q i = 0) : mul p q n = 0 := by
  rw [mul_win n L p q hp fun i h1 h2 => hq i (by omega) h2, hq n (Nat.le_refl _) (by omega), GF.mul_zero]

/-- C is a register of length L that makes the first N of s. -/
structure Mk (s : Pol) (N : Nat) (C : Pol) (L : Nat) : Prop where
  one : C 0 = 1
  bd : Bd (L + 1) C
  le : L ≤ N
  run : ∀ i, L ≤ i → i < N → mul C s i = 0
theorem Mk.less {s C : Pol} {N M L : Nat} (h : Mk s N C L) (hM : M ≤ N) (hL : L ≤ M) : Mk s M C L := ⟨h.one, h.bd, hL, fun i h1 h2 => h.run i h1 (by omega)⟩
theorem Mk.next {s C : Pol} {N L : Nat} (h : Mk s N C L) (hd : mul C s N = 0) : Mk s (N + 1) C L := ⟨h.one, h.bd, by have := h.le; omega, fun i h1 h2 => by
  by_cases e : i = N
  · subst e; exact hd
  · exact h.run i h1 (by omega)⟩
/-- MASSEY's LEMMA: what does not make one more is not much shorter than what does. -/
theorem long {s C D : Pol} {N L M : Nat} (h : Mk s N C L) (hd : mul C s N ≠ 0) (k : Mk s (N + 1) D M) : N + 1 ≤ L + M := by
  refine Nat.le_of_not_lt fun hlt => hd ?_
  have e : mul D (mul C s) N = mul C (mul D s) N := by rw [← Pol.mul_assoc, Pol.mul_comm D C, Pol.mul_assoc]
  rw [mul_win N M D (mul C s) k.bd fun i h1 h2 => h.run i (by omega) h1, k.one, GF.one_mul] at e
  rw [e]
  exact mul_win_zero h.bd fun i h1 h2 => k.run i (by omega) (by omega)
theorem mk_full (s : Pol) (N : Nat) (C : Pol) (h1 : C 0 = 1) (hb : Bd (N + 1) C) : Mk s N C N := ⟨h1, hb, Nat.le_refl _, fun i h1 h2 => by omega⟩
theorem one_bd : Bd 1 one := fun i hi => by show (if i = 0 then (1 : GF) else 0) = 0; rw [if_neg (by omega)]
/-- L is the least length of a register that makes the first N. -/
structure Least (s : Pol) (N L : Nat) : Prop where
  some : ∃ C, Mk s N C L
  least : ∀ C M, Mk s N C M → L ≤ M
theorem Least.unique {s : Pol} {N L M : Nat} (h : Least s N L) (k : Least s N M) : L = M := by
  obtain ⟨C, hC⟩ := h.some
  obtain ⟨D, hD⟩ := k.some
  exact Nat.le_antisymm (h.least D M hD) (k.least C L hC)
theorem Least.le {s : Pol} {N L : Nat} (h : Least s N L) : L ≤ N := h.least one N (mk_full s N one rfl (one_bd.mono_le (by omega)))
theorem Least.mono {s : Pol} {N L M : Nat} (h : Least s N L) (k : Least s (N + 1) M) : L ≤ M := by
  obtain ⟨D, hD⟩ := k.some
  by_cases e : M ≤ N
  · exact h.least D M (hD.less (by omega) e)
  · have := h.le; omega

/-- Massey's state: C makes the first N, no shorter one does; the one before the last change, D of length M, made all ahead of N - m, and there it missed by b. -/
structure St (s : Pol) (N : Nat) (C : Pol) (L : Nat) (D : Pol) (M m : Nat) (b : GF) : Prop where
  reg : Mk s N C L
  least : ∀ E K, Mk s N E K → L ≤ K
  old : (L = 0 ∧ C = one ∧ D = one ∧ M = 0 ∧ m = N + 1 ∧ b = 1) ∨ (Bd (M + 1) D ∧ (∀ i, M ≤ i → i + m < N → mul D s i = 0) ∧ 1 ≤ m ∧ m ≤ N ∧ mul D s (N - m) = b ∧ b ≠ 0 ∧ L + M + m = N + 1)
theorem St.is {s C D : Pol} {N L M m : Nat} {b : GF} (h : St s N C L D M m b) : Least s N L := ⟨⟨C, h.reg⟩, h.least⟩
theorem St.sum {s C D : Pol} {N L M m : Nat} {b : GF} (h : St s N C L D M m b) : L + M + m = N + 1 ∧ 1 ≤ m ∧ b ≠ 0 ∧ Bd (M + 1) D := by
  rcases h.old with ⟨rfl, _, rfl, rfl, rfl, rfl⟩ | ⟨h1, _, h2, _, _, h3, h4⟩
  · exact ⟨by omega, by omega, GF.one_ne_zero, one_bd⟩
  · exact ⟨h4, h2, h3, h1⟩
theorem st_start (s : Pol) : St s 0 one 0 one 0 1 1 := ⟨mk_full s 0 one rfl one_bd, fun _ _ _ => Nat.zero_le _, .inl ⟨rfl, rfl, rfl, rfl, rfl, rfl⟩⟩
/-- It makes one more. -/
theorem St.keep {s C D : Pol} {N L M m : Nat} {b : GF} (h : St s N C L D M m b) (hd : mul C s N = 0) : St s (N + 1) C L D M (m + 1) b := by
  refine ⟨h.reg.next hd, fun E K hE => ?_, ?_⟩
  · by_cases e : K ≤ N
    · exact h.least E K (hE.less (by omega) e)
    · have := h.reg.le; omega
  · rcases h.old with ⟨h1, h2, h3, h4, h5, h6⟩ | ⟨h1, h2, h3, h4, h5, h6, h7⟩
    · exact .inl ⟨h1, h2, h3, h4, by omega, h6⟩
    · exact .inr ⟨h1, fun i h8 h9 => h2 i h8 (by omega), by omega, by omega, by rw [show N + 1 - (m + 1) = N - m by omega]; exact h5, h6, by omega⟩
/-- The change. -/
def ch (C D : Pol) (m : Nat) (a : GF) : Pol := add C (smul a (up m D))
theorem mul_up (k : Nat) (p q : Pol) (i : Nat) : mul (up k p) q i = if k ≤ i then mul p q (i - k) else 0 := by rw [Pol.up_mul]; rfl
theorem ch_mul (C D s : Pol) (m : Nat) (a : GF) (i : Nat) : mul (ch C D m a) s i = mul C s i + a * (if m ≤ i then mul D s (i - m) else 0) := by
  unfold ch
  rw [Pol.add_mul, Pol.smul_mul]
  show mul C s i + a * mul (up m D) s i = _
  rw [mul_up]
theorem ch_bd {C D : Pol} {L M m K : Nat} (hC : Bd (L + 1) C) (hD : Bd (M + 1) D) (a : GF) (h1 : L ≤ K) (h2 : M + m ≤ K) : Bd (K + 1) (ch C D m a) := (hC.mono_le (by omega)).add (Bd.smul a ((hD.up m).mono_le (by omega)))
theorem ch_one {C D : Pol} {m : Nat} (a : GF) (hC : C 0 = 1) (hm : 1 ≤ m) : ch C D m a 0 = 1 := by
  show C 0 + a * (if m ≤ 0 then D (0 - m) else 0) = 1
  rw [if_neg (by omega), GF.mul_zero, GF.add_zero, hC]
/-- It misses: the change mends it; its length is the greater of what it was and what the lemma asks. -/
theorem St.chMk {s C D : Pol} {N L M m : Nat} {b : GF} (h : St s N C L D M m b) {K : Nat} (h1 : L ≤ K) (h2 : N + 1 ≤ L + K) (hK : K ≤ N + 1) : Mk s (N + 1) (ch C D m (mul C s N * GF.inv b)) K := by
  obtain ⟨e1, e2, e3, e4⟩ := h.sum
  refine ⟨ch_one _ h.reg.one e2, ch_bd h.reg.bd e4 _ h1 (by omega), hK, fun i h3 h4 => ?_⟩
  rw [ch_mul]
  rcases h.old with ⟨rfl, rfl, rfl, rfl, rfl, rfl⟩ | ⟨_, g2, _, g4, g5, _, _⟩
  · omega
  · rw [if_pos (by omega)]
    by_cases e : i = N
    · subst e
      rw [g5, GF.mul_assoc, GF.inv_mul _ e3, GF.mul_one, GF.add_self]
    · rw [h.reg.run i (by omega) (by omega), g2 (i - m) (by omega) (by omega), GF.mul_zero, GF.add_zero]
theorem St.longer {s C D : Pol} {N L M m : Nat} {b : GF} (h : St s N C L D M m b) (hd : mul C s N ≠ 0) (h2 : 2 * L ≤ N) : St s (N + 1) (ch C D m (mul C s N * GF.inv b)) (N + 1 - L) C L 1 (mul C s N) := by
  have hle := h.reg.le
  refine ⟨h.chMk (by omega) (by omega) (by omega), fun E K hE => ?_, .inr ⟨h.reg.bd, fun i h3 h4 => h.reg.run i h3 (by omega), by omega, by omega, rfl, hd, by omega⟩⟩
  have := long h.reg hd hE; omega
theorem St.same {s C D : Pol} {N L M m : Nat} {b : GF} (h : St s N C L D M m b) (h2 : N < 2 * L) : St s (N + 1) (ch C D m (mul C s N * GF.inv b)) L D M (m + 1) b := by
  have hle := h.reg.le
  refine ⟨h.chMk (by omega) (by omega) (by omega), fun E K hE => ?_, ?_⟩
  · by_cases e : K ≤ N
    · exact h.least E K (hE.less (by omega) e)
    · omega
  · rcases h.old with ⟨rfl, _⟩ | ⟨g1, g2, g3, g4, g5, g6, g7⟩
    · omega
    · exact .inr ⟨g1, fun i h8 h9 => g2 i h8 (by omega), by omega, by omega, by rw [show N + 1 - (m + 1) = N - m by omega]; exact g5, g6, by omega⟩
theorem st_exists (s : Pol) : ∀ N, ∃ C L D M m b, St s N C L D M m b
  | 0 => ⟨_, _, _, _, _, _, st_start s⟩
  | N + 1 => by
    obtain ⟨C, L, D, M, m, b, h⟩ := st_exists s N
    by_cases hd : mul C s N = 0
    · exact ⟨_, _, _, _, _, _, h.keep hd⟩
    · by_cases h2 : 2 * L ≤ N
      · exact ⟨_, _, _, _, _, _, h.longer hd h2⟩
      · exact ⟨_, _, _, _, _, _, h.same (by omega)⟩
theorem least_exists (s : Pol) (N : Nat) : ∃ L, Least s N L := by
  obtain ⟨C, L, D, M, m, b, h⟩ := st_exists s N
  exact ⟨L, h.is⟩

/-! ## A short one is alone -/
/-- A polynomial that is not nought is a power of x times one whose first coefficient is not. -/
theorem front {p : Pol} {n : Nat} (hp : Bd n p) (h0 : p ≠ zero) : ∃ e q, p = up e q ∧ q 0 ≠ 0 ∧ Bd (n - e) q ∧ e < n := by
  induction n generalizing p with
  | zero => exact absurd (Pol.bd_zero hp) h0
  | succ n ih =>
    by_cases h : p 0 = 0
    · have ht : tail p ≠ zero := fun e => h0 (by
        funext i
        cases i with
        | zero => exact h
        | succ i => exact congrFun e i)
      obtain ⟨e, q, h1, h2, h3, h4⟩ := ih hp.tail ht
      refine ⟨e + 1, q, ?_, h2, h3.mono_le (by omega), by omega⟩
      funext i
      cases i with
      | zero => rw [h]; unfold Pol.up; rw [if_neg (by omega)]
      | succ i =>
        have := congrFun h1 i
        show tail p i = _
        rw [this]; unfold Pol.up
        by_cases hi : e ≤ i
        · rw [if_pos hi, if_pos (by omega)]; congr 1; omega
        · rw [if_neg hi, if_neg (by omega)]
    · exact ⟨0, p, (Pol.up_zero p).symm, h, hp, by omega⟩
theorem alone {s C D : Pol} {N L : Nat} (hL : Least s N L) (hC : Mk s N C L) (hD : Mk s N D L) (h2 : 2 * L ≤ N) : C = D := by
  refine Classical.byContradiction fun hne => ?_
  have hE0 : add C D ≠ zero := fun e => hne (by
    funext i
    have := congrFun e i
    exact GF.eq_of_add this)
  obtain ⟨e, F, h3, h4, h5, h6⟩ := front (hC.bd.add hD.bd) hE0
  have he : e ≠ 0 := fun h => by
    subst h
    have := congrFun h3 0
    rw [Pol.up_zero] at this
    have h7 : C 0 + D 0 = F 0 := this
    rw [hC.one, hD.one, GF.add_self] at h7
    exact h4 h7.symm
  -- scaled, it is a shorter register of the first N - e
  have hF0 : smul (GF.inv (F 0)) F 0 = 1 := GF.inv_mul _ h4
  have hFm : ∀ i, L - e ≤ i → i + e < N → mul (smul (GF.inv (F 0)) F) s i = 0 := fun i h7 h8 => by
    rw [Pol.smul_mul]
    show GF.inv (F 0) * mul F s i = 0
    have h9 : mul (add C D) s (i + e) = 0 := by
      rw [Pol.add_mul]
      show mul C s (i + e) + mul D s (i + e) = 0
      rw [hC.run _ (by omega) h8, hD.run _ (by omega) h8, GF.add_zero]
    rw [h3, mul_up, if_pos (by omega), Nat.add_sub_cancel] at h9
    rw [h9, GF.mul_zero]
  have hFb : Bd (L - e + 1) (smul (GF.inv (F 0)) F) := Bd.smul _ (h5.mono_le (by omega))
  -- it goes on as long as it does
  have hgo : ∀ k, N - e + k ≤ N → Mk s (N - e + k) (smul (GF.inv (F 0)) F) (L - e) := by
    intro k
    induction k with
    | zero => exact fun _ => ⟨hF0, hFb, by omega, fun i h7 h8 => hFm i h7 (by omega)⟩
    | succ k ih =>
      intro hk
      have h7 := ih (by omega)
      refine h7.next (Classical.byContradiction fun hd => ?_)
      have h8 := long h7 hd (hC.less (by omega) (by omega))
      omega
  have h7 := hgo e (by omega)
  rw [show N - e + e = N by omega] at h7
  have := hL.least _ _ h7
  omega
end Ms
end Go.Proofs
/- Registers further: another that makes a list, one byte more, scaled, summed, and a register as the answer of a system. Nothing of the program. -/
namespace Go.Proofs
namespace Ms
open Pol (Bd mul up add smul tail zero one Dg ofL toL Byt)
open Mx

theorem Mk.same {s t C : Pol} {N L : Nat} (h : Mk s N C L) (he : ∀ i, i < N → s i = t i) : Mk t N C L := ⟨h.one, h.bd, h.le, fun i h1 h2 => by
  rw [← Pol.mul_congr i (fun _ _ => rfl) fun j hj => he j (by omega)]; exact h.run i h1 h2⟩
theorem Least.same {s t : Pol} {N L : Nat} (h : Least s N L) (he : ∀ i, i < N → s i = t i) : Least t N L := by
  obtain ⟨C, hC⟩ := h.some
  exact ⟨⟨C, hC.same he⟩, fun D M hD => h.least D M (hD.same fun i hi => (he i hi).symm)⟩
theorem Mk.scale {s C : Pol} {N L : Nat} (h : Mk s N C L) (a : GF) : Mk (smul a s) N C L := ⟨h.one, h.bd, h.le, fun i h1 h2 => by
  rw [Pol.mul_smul]; show a * mul C s i = 0; rw [h.run i h1 h2, GF.mul_zero]⟩
theorem Mk.unscale {s C : Pol} {N L : Nat} {a : GF} (ha : a ≠ 0) (h : Mk (smul a s) N C L) : Mk s N C L := ⟨h.one, h.bd, h.le, fun i h1 h2 => by
  have h3 := h.run i h1 h2
  rw [Pol.mul_smul] at h3
  exact (GF.mul_eq_zero (show a * mul C s i = 0 from h3)).resolve_left ha⟩
theorem Least.scale {s : Pol} {N L : Nat} {a : GF} (ha : a ≠ 0) (h : Least s N L) : Least (smul a s) N L := by
  obtain ⟨C, hC⟩ := h.some
  exact ⟨⟨C, hC.scale a⟩, fun D M hD => h.least D M (hD.unscale ha)⟩
theorem Mk.sum {s t C : Pol} {N L : Nat} (h : Mk s N C L) (k : Mk t N C L) : Mk (add s t) N C L := ⟨h.one, h.bd, h.le, fun i h1 h2 => by
  rw [Pol.mul_add]; show mul C s i + mul C t i = 0; rw [h.run i h1 h2, k.run i h1 h2, GF.add_zero]⟩
/-- It may be taken for longer than it is. -/
theorem Mk.longer {s C : Pol} {N L M : Nat} (h : Mk s N C L) (hM : L ≤ M) (hN : M ≤ N) : Mk s N C M := ⟨h.one, h.bd.mono_le (by omega), hN, fun i h1 h2 => h.run i (by omega) h2⟩

/-! ## One more -/
theorem Least.keep {s C : Pol} {N L : Nat} (h : Least s N L) (hC : Mk s N C L) (hd : mul C s N = 0) : Least s (N + 1) L := ⟨⟨C, hC.next hd⟩, fun E K hE => by
  by_cases e : K ≤ N
  · exact h.least E K (hE.less (by omega) e)
  · have := hC.le; omega⟩
/-- One that misses: as long as it was, or what the lemma asks. -/
theorem Least.miss {s C : Pol} {N L : Nat} (h : Least s N L) (hC : Mk s N C L) (hd : mul C s N ≠ 0) : Least s (N + 1) (if 2 * L ≤ N then N + 1 - L else L) := by
  obtain ⟨C', L', D, M, m, b, hS⟩ := st_exists s N
  have e := hS.is.unique h
  subst e
  by_cases h2 : 2 * L' ≤ N
  · rw [if_pos h2]
    have e := alone h hC hS.reg h2
    subst e
    exact (hS.longer hd h2).is
  · rw [if_neg h2]
    by_cases h3 : mul C' s N = 0
    · exact h.keep hS.reg h3
    · exact (hS.same (by omega)).is
/-- What makes it goes on as one that makes one more, if both are short. -/
theorem goes {s C D : Pol} {N L M : Nat} (h : Mk s N C L) (k : Mk s (N + 1) D M) (h2 : L + M ≤ N) : mul C s N = 0 := Classical.byContradiction fun hd => by
  have := long h hd k; omega

/-! ## The sum -/
theorem mul_sm : ∀ (n : Nat) (p q : Pol), mul p q n = sm (n + 1) fun j => p j * q (n - j)
  | 0, p, q => by rw [Pol.mul_0]; show _ = (0 : GF) + p 0 * q 0; rw [GF.zero_add]
  | n + 1, p, q => by
    rw [Pol.mul_succ, sm_front, mul_sm n (tail p) q]
    refine congrArg (_ + ·) (sm_congr fun j hj => ?_)
    show p (j + 1) * q (n - j) = p (j + 1) * q (n + 1 - (j + 1))
    rw [show n + 1 - (j + 1) = n - j by omega]
theorem sm_more {f : Nat → GF} {n : Nat} (h : ∀ j, n ≤ j → f j = 0) : ∀ k, sm (n + k) f = sm n f
  | 0 => rfl
  | k + 1 => by rw [← Nat.add_assoc, sm_succ, sm_more h k, h (n + k) (by omega), GF.add_zero]
/-- A short one's product is a short sum. -/
theorem mul_short {L n : Nat} {p : Pol} (q : Pol) (hp : Bd (L + 1) p) (hn : L ≤ n) : mul p q n = sm (L + 1) fun j => p j * q (n - j) := by
  rw [mul_sm]
  obtain ⟨k, rfl⟩ := Nat.le.dest hn
  rw [show L + k + 1 = L + 1 + k by omega]
  exact sm_more (fun j hj => by rw [hp j hj, GF.zero_mul]) k
/-- The register of the L that stand behind its 1. -/
def rg (L : Nat) (x : Nat → GF) : Pol := fun i => if i = 0 then 1 else if i ≤ L then x (i - 1) else 0
theorem rg_bd (L : Nat) (x : Nat → GF) : Bd (L + 1) (rg L x) := fun i hi => by unfold rg; rw [if_neg (by omega), if_neg (by omega)]
theorem rg_zero (L : Nat) (x : Nat → GF) : rg L x 0 = 1 := if_pos rfl
theorem rg_succ {L : Nat} (x : Nat → GF) {j : Nat} (hj : j < L) : rg L x (j + 1) = x j := by unfold rg; rw [if_neg (by omega), if_pos (by omega)]; rfl
theorem rg_mul {L n : Nat} (x : Nat → GF) (s : Pol) (hn : L ≤ n) : mul (rg L x) s n = s n + sm L fun j => s (n - (j + 1)) * x j := by
  rw [mul_short s (rg_bd L x) hn, sm_front, rg_zero, GF.one_mul]
  refine congrArg (_ + ·) (sm_congr fun j hj => ?_)
  rw [rg_succ x hj, GF.mul_comm]
theorem mk_rg {s : Pol} {N L : Nat} (x : Nat → GF) (hL : L ≤ N) : Mk s N (rg L x) L ↔ ∀ i, L ≤ i → i < N → (sm L fun j => s (i - (j + 1)) * x j) = s i := by
  constructor
  · intro h i h1 h2
    have h3 := h.run i h1 h2
    rw [rg_mul x s h1] at h3
    exact (GF.eq_of_add h3).symm
  · intro h
    refine ⟨rg_zero L x, rg_bd L x, hL, fun i h1 h2 => ?_⟩
    rw [rg_mul x s h1, h i h1 h2, GF.add_self]
theorem Mk.rg {s C : Pol} {N L : Nat} (h : Mk s N C L) : C = rg L fun j => C (j + 1) := by
  funext i
  cases i with
  | zero => rw [h.one, rg_zero]
  | succ i =>
    by_cases hi : i < L
    · rw [rg_succ _ hi]
    · rw [h.bd _ (by omega), rg_bd L _ _ (by omega)]

/-! ## The system -/
/-- The cells of the system for a register of length L. -/
def sysL (L : Nat) (s : List Nat) : List Nat := cells (s.length - L) L fun i j => ofL s (L + i - (j + 1))
theorem sysL_length (L : Nat) (s : List Nat) : (sysL L s).length = (s.length - L) * L := cells_length _ _ _
theorem sysL_byt (L : Nat) (s : List Nat) : Byt (sysL L s) := cells_byt _ _ _
theorem ofL_drop (s : List Nat) (k i : Nat) : ofL (s.drop k) i = ofL s (k + i) := by
  unfold Pol.ofL; rw [List.getD, List.getElem?_drop]; rfl
theorem sysL_dot {L : Nat} {s : List Nat} {i : Nat} (hi : i < s.length - L) (x : Nat → GF) : dot L (mx L (sysL L s) i) x = sm L fun j => ofL s (L + i - (j + 1)) * x j :=
  sm_congr fun j hj => by rw [show mx L (sysL L s) i j = ofL s (L + i - (j + 1)) from mx_cells (s.length - L) L _ i j hi hj]
/-- A column that comes to what is asked is a register's. -/
theorem sys_mk {L : Nat} {s : List Nat} (hL : L ≤ s.length) (x : Nat → GF) : (∀ i, i < s.length - L → dot L (mx L (sysL L s) i) x = ofL (s.drop L) i) ↔ Mk (ofL s) s.length (rg L x) L := by
  rw [mk_rg x hL]
  constructor
  · intro h i h1 h2
    have h3 := h (i - L) (by omega)
    rw [sysL_dot (by omega), ofL_drop, show L + (i - L) = i by omega] at h3
    exact h3
  · intro h i hi
    rw [sysL_dot hi, ofL_drop]
    exact h (L + i) (by omega) (by omega)
theorem sys_none {L : Nat} {s : List Nat} (hL : L ≤ s.length) (h : ∀ x : Nat → GF, ¬ ∀ i, i < s.length - L → dot L (mx L (sysL L s) i) x = ofL (s.drop L) i) (C : Pol) : ¬ Mk (ofL s) s.length C L := fun hC => by
  refine h (fun j => C (j + 1)) ((sys_mk hL _).2 ?_)
  rw [← hC.rg]; exact hC
theorem ofL_rg {x : List Nat} {L : Nat} (hl : x.length = L) : ofL (1 :: x) = rg L (ofL x) := by
  funext i
  cases i with
  | zero => rfl
  | succ i =>
    by_cases hi : i < L
    · rw [rg_succ _ hi]; rfl
    · rw [rg_bd L _ _ (by omega)]
      exact Pol.ofL_bd (1 :: x) _ (by rw [List.length_cons]; omega)
theorem isSol_mk {L : Nat} {s x : List Nat} (hL : L ≤ s.length) (h : IsSol (s.length - L) L (sysL L s) (s.drop L) x) : Mk (ofL s) s.length (ofL (1 :: x)) L := by
  rw [ofL_rg h.len]
  exact (sys_mk hL _).1 h.sol.eq
/-- No shorter one: none of the systems before has an answer. -/
theorem least_of {s : List Nat} {L : Nat} {C : Pol} (hC : Mk (ofL s) s.length C L) (h : ∀ M, M < L → ∀ D, ¬ Mk (ofL s) s.length D M) : Least (ofL s) s.length L := ⟨⟨C, hC⟩, fun D M hD => Nat.le_of_not_lt fun hlt => h M hlt D hD⟩

/-! ## What is made -/
/-- The byte that comes next behind the bytes xs: one of its own, or what the register l has. -/
def mdN (l first xs : List Nat) : Nat := if xs.length < l.length then first.getD xs.length 0 else (sm l.length fun j => ofL l j * ofL xs (xs.length - (j + 1))).val
/-- So many bytes that l makes. -/
def mdL (l first : List Nat) : Nat → List Nat
  | 0 => []
  | k + 1 => mdL l first k ++ [mdN l first (mdL l first k)]
theorem mdL_length (l first : List Nat) : ∀ k, (mdL l first k).length = k
  | 0 => rfl
  | k + 1 => by rw [mdL, List.length_append, mdL_length l first k]; rfl
theorem mdN_lt {l first : List Nat} (hf : Byt first) (xs : List Nat) : mdN l first xs < 256 := by
  unfold mdN
  split
  · exact hf _
  · exact GF.lt _
theorem mdL_byt {l first : List Nat} (hf : Byt first) : ∀ k, Byt (mdL l first k)
  | 0 => Pol.byt_nil
  | k + 1 => Pol.byt_append (mdL_byt hf k) fun i => by
    cases i with
    | zero => exact mdN_lt hf _
    | succ i => exact Nat.zero_lt_succ _
end Ms
end Go.Proofs
/- A product's coefficient as a short sum of bytes; what makes a list, of any integer. Nothing of the program. -/
namespace Go.Proofs
namespace Ms
open Pol (Bd mul up add smul tail zero one Dg ofL toL Byt IsN)
open Mx

theorem of_inj {a b : Nat} (ha : a < 256) (hb : b < 256) (h : GF.of a = GF.of b) : a = b := by rw [← GF.of_val a ha, h, GF.of_val b hb]
/-- The first j products of a sum, as a byte. -/
def smv (cs xs : List Nat) (a b : Nat → Nat) (j : Nat) : Nat := (sm j fun t => ofL cs (a t) * ofL xs (b t)).val
theorem smv_lt (cs xs : List Nat) (a b : Nat → Nat) (j : Nat) : smv cs xs a b j < 256 := GF.lt _
theorem smv_succ {cs xs : List Nat} (hc : Byt cs) (hx : Byt xs) (a b : Nat → Nat) (j : Nat) : smv cs xs a b (j + 1) = smv cs xs a b j ^^^ Gf.mul (cs.getD (a j) 0) (xs.getD (b j) 0) := by
  have h1 : Gf.mul (cs.getD (a j) 0) (xs.getD (b j) 0) < 256 := Gf.mul_lt _ _ (hc _)
  refine of_inj (GF.lt _) (Gf.xor_lt8 (GF.lt _) h1) ?_
  unfold smv
  rw [GF.of_xor _ _ (GF.lt _) h1, GF.of_mul _ _ (hc _) (hx _), GF.of_self, GF.of_self, sm_succ]
  rfl
/-- A register's sum at a place: over all its coefficients. -/
theorem smv_full {cs xs : List Nat} {n : Nat} (h : cs.length ≤ n + 1) : smv cs xs (fun t => t) (fun t => n - t) cs.length = (mul (ofL cs) (ofL xs) n).val := by
  unfold smv
  rw [mul_sm]
  obtain ⟨k, hk⟩ := Nat.le.dest h
  rw [← hk]
  exact congrArg GF.val (sm_more (f := fun t => ofL cs t * ofL xs (n - t)) (n := cs.length) (fun j hj => by rw [Pol.ofL_bd cs j hj, GF.zero_mul]) k).symm
theorem smv_short {cs xs : List Nat} {L n : Nat} (hp : Bd (L + 1) (ofL cs)) (hn : L ≤ n) : smv cs xs (fun t => t) (fun t => n - t) (L + 1) = (mul (ofL cs) (ofL xs) n).val := by
  unfold smv
  rw [mul_short _ hp hn]
/-- What comes behind a list. -/
theorem smv_next {cs xs : List Nat} {L n : Nat} (hp : Bd (L + 1) (ofL cs)) (hn : L ≤ n) (hx : xs.length = n) : smv cs xs (fun t => t + 1) (fun t => n - (t + 1)) L = (mul (ofL cs) (ofL xs) n).val := by
  unfold smv
  rw [mul_short _ hp hn, sm_front]
  have e : ofL xs (n - 0) = 0 := Pol.ofL_bd xs _ (by omega)
  rw [e, GF.mul_zero, GF.zero_add]

/-- A register of any list and any integer makes a list. -/
def MkZ (cs xs : List Nat) (z : Int) : Prop := 0 ≤ z ∧ Mk (ofL xs) xs.length (ofL cs) z.toNat
theorem mkZ_nat {cs xs : List Nat} {L : Nat} : MkZ cs xs (L : Int) ↔ Mk (ofL xs) xs.length (ofL cs) L := ⟨fun h => h.2, fun h => ⟨by omega, h⟩⟩
/-- What is made next, by a register that makes the list. -/
def nxv (cs xs : List Nat) : Nat := (mul (ofL cs) (ofL xs) xs.length).val
/-- The answer of Massey: the least length, and a register of it. -/
structure IsMas (xs ls : List Nat) (L : Nat) : Prop where
  reg : Mk (ofL xs) xs.length (ofL ls) L
  least : Least (ofL xs) xs.length L
  nrm : IsN ls (ofL ls)
theorem val_inj {a b : GF} (h : a.val = b.val) : a = b := by rw [← GF.of_self a, h, GF.of_self]
end Ms
end Go.Proofs
/- What the laws of registers say, in lists. Nothing of the program. -/
namespace Go.Proofs
namespace Ms
open Pol (Bd mul up add smul tail zero one Dg ofL toL Byt IsN)
open Mx

theorem IsMas.mkZ {xs ls : List Nat} {L : Nat} (h : IsMas xs ls L) : MkZ ls xs (L : Int) := mkZ_nat.2 h.reg
/-- Two answers for a list that is long enough are one. -/
theorem IsMas.alone {xs ls zs : List Nat} {L : Nat} (h : IsMas xs ls L) (k : IsMas xs zs L) (h2 : 2 * L ≤ xs.length) : ls = zs := h.nrm.unique (by rw [Ms.alone h.least h.reg k.reg h2]; exact k.nrm)
/-- MasseyScaled. -/
theorem IsMas.scale {xs ys ls : List Nat} {L a : Nat} (hys : ys = xs.map (Gf.mul a)) (ha : a < 256) (ha0 : a ≠ 0) (hx : Byt xs) (h : IsMas xs ls L) : IsMas ys ls L := by
  have e : ofL ys = smul (GF.of a) (ofL xs) := by rw [hys]; exact Pol.ofL_map a ha hx
  have hl : ys.length = xs.length := by rw [hys, List.length_map]
  have hne : GF.of a ≠ 0 := fun e => ha0 (by
    have := GF.of_val a ha
    rw [e] at this; exact this.symm)
  refine ⟨?_, ?_, h.nrm⟩
  · rw [e, hl]; exact h.reg.scale _
  · rw [e, hl]; exact h.least.scale hne
/-! ## The chapter's example -/
theorem mk_check {cs xs : List Nat} {L : Nat} (h1 : ofL cs 0 = 1) (hl : cs.length = L + 1) (hn : L ≤ xs.length) (hr : ∀ i, i < xs.length → L ≤ i → smv cs xs (fun t => t) (fun t => i - t) cs.length = 0) : Mk (ofL xs) xs.length (ofL cs) L :=
  ⟨h1, hl ▸ Pol.ofL_bd cs, hn, fun i h2 h3 => val_inj (by
    have := hr i h3 h2
    rw [smv_full (by omega)] at this
    rw [this]; rfl)⟩
theorem mk_1248 : Mk (ofL [1, 2, 4, 8]) 4 (ofL [1, 2]) 1 := mk_check (cs := [1, 2]) (xs := [1, 2, 4, 8]) rfl rfl (by decide) (by decide +kernel)
theorem one_miss (s : Pol) (N : Nat) : mul one s N = s N := by rw [Pol.one_mul]
theorem least_1248 : Least (ofL [1, 2, 4, 8]) 4 1 := ⟨⟨_, mk_1248⟩, fun D M hD => by
  refine Nat.le_of_not_lt fun hlt => ?_
  have h1 := hD.less (M := 1) (by decide) (by omega)
  have h2 := long (mk_full (ofL [1, 2, 4, 8]) 0 one rfl one_bd) (by rw [one_miss]; decide +kernel) h1
  omega⟩
theorem least_001 : Least (ofL [0, 0, 1]) 3 3 := ⟨⟨one, mk_full _ 3 one rfl (one_bd.mono_le (by decide))⟩, fun D M hD => by
  have h0 : Mk (ofL [0, 0, 1]) 2 one 0 := ⟨rfl, one_bd, by decide, fun i _ h2 => by
    rw [one_miss]
    match i, h2 with
    | 0, _ => rfl
    | 1, _ => rfl⟩
  have h2 := long h0 (by rw [one_miss]; decide +kernel) hD
  omega⟩
theorem nxv_1248 : nxv [1, 2] [1, 2, 4, 8] = 16 := by
  have h : smv [1, 2] [1, 2, 4, 8] (fun t => t) (fun t => 4 - t) 2 = 16 := by decide +kernel
  exact (smv_full (cs := [1, 2]) (xs := [1, 2, 4, 8]) (n := 4) (by decide)).symm.trans h
theorem isMas_1248 : IsMas [1, 2, 4, 8] [1, 2] 1 := ⟨mk_1248, least_1248, ⟨fun _ => by decide, fun i => by
  match i with
  | 0 => exact (by decide : (1 : Nat) < 256)
  | 1 => exact (by decide : (2 : Nat) < 256)
  | i + 2 => exact (by decide : (0 : Nat) < 256), rfl⟩⟩
end Ms
end Go.Proofs
