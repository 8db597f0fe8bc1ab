/- Texts laid together: EucM, EucR, MasM, MasX, MasN, MasZ, EucL, EucK. Each says its own conditions. -/
import Derived.Test.YthnlcdfonbnjcaaGreatMA
import Derived.Test.YthnlcdfonbnjcaaGreatMN
/- Euclid, till it is short: what its rows are, and that they tell the one short solution there is. Nothing of the program. -/
namespace Go.Proofs
namespace Eu
open Pol (Bd mul add zero one Dg Fin)

instance : Std.Associative (α := Pol) add := ⟨Pol.add_assoc⟩
instance : Std.Commutative (α := Pol) add := ⟨Pol.add_comm⟩
instance : Std.Associative (α := Pol) mul := ⟨Pol.mul_assoc⟩
instance : Std.Commutative (α := Pol) mul := ⟨Pol.mul_comm⟩

theorem dg_low {n : Nat} {p u : Pol} (hp : Dg (n + 1) p) (hu : Bd n u) : Dg (n + 1) (add u p) := by
  refine ⟨(hu.mono_le (by omega)).add hp.bd, fun _ => ?_⟩
  show u n + p n ≠ 0
  rw [hu n (Nat.le_refl _), GF.zero_add]
  exact hp.top (by omega)
/-- What the rows of Euclid's algorithm are, of a, of degree M, and b, which is shorter. -/
structure Ro (a b : Pol) (M : Nat) (R S U V P Q : Pol) (r v : Nat) : Prop where
  finP : Fin P
  finQ : Fin Q
  eqR : R = add (mul U b) (mul P a)
  eqS : S = add (mul V b) (mul Q a)
  det : add (mul U Q) (mul V P) = one
  dgR : Dg (r + 1) R
  dgV : Dg (v + 1) V
  sum : v + r = M
  bdU : Bd v U
  bdS : Bd r S
theorem start {a b : Pol} {M : Nat} (ha : Dg (M + 1) a) (hb : Bd M b) : Ro a b M a b zero one one zero M 0 :=
  ⟨Fin.one, Fin.zero, by rw [Pol.zero_mul, Pol.one_mul, Pol.zero_add], by rw [Pol.one_mul, Pol.zero_mul, Pol.add_zero], by rw [Pol.zero_mul, Pol.one_mul, Pol.zero_add], ha, ⟨fun i hi => by show (if i = 0 then (1 : GF) else 0) = 0; rw [if_neg (by omega)], fun _ => GF.one_ne_zero⟩, by omega, Bd.zero 0, hb⟩
theorem Ro.step {a b R S U V P Q q t : Pol} {M r v e : Nat} (h : Ro a b M R S U V P Q r v) (hS : Dg (e + 1) S) (hq : Fin q) (ht : Bd e t) (heq : R = add (mul q S) t) : ∃ k, 1 ≤ k ∧ Ro a b M S t V (add U (mul q V)) Q (add P (mul q Q)) e (k + v) := by
  have her : e < r := by
    have := hS.le h.bdS
    omega
  obtain ⟨d, hd⟩ := hq.dg
  have hd0 : d ≠ 0 := fun h0 => by
    subst h0
    rw [hd.eq_zero, Pol.zero_mul, Pol.zero_add] at heq
    have h1 := h.dgR
    rw [heq] at h1
    have := h1.le ht
    omega
  obtain ⟨k, rfl⟩ : ∃ k, d = k + 1 := ⟨d - 1, by omega⟩
  have h1 := hd.mul hS
  have h2 : Dg (k + e + 1) R := by rw [heq, Pol.add_comm]; exact dg_low h1 (ht.mono_le (by omega))
  have hk : k + e = r := by have := h2.unique h.dgR; omega
  refine ⟨k, by omega, h.finQ, h.finP.add (hq.mul h.finQ), h.eqS, ?_, ?_, hS, ?_, by have := h.sum; omega, h.dgV.bd.mono_le (by omega), ht⟩
  · have h3 : t = add R (mul q S) := by rw [heq, Pol.add_comm (mul q S), Pol.add_assoc, Pol.add_self, Pol.add_zero]
    rw [h3, h.eqR, h.eqS, Pol.add_mul, Pol.add_mul, Pol.mul_add, Pol.mul_assoc, Pol.mul_assoc]
    ac_rfl
  · rw [Pol.mul_add, Pol.add_mul]
    have h4 : add (mul V (mul q Q)) (mul (mul q V) Q) = zero := by
      have : mul V (mul q Q) = mul (mul q V) Q := by ac_rfl
      rw [this, Pol.add_self]
    have h5 : add (add (mul V P) (mul V (mul q Q))) (add (mul U Q) (mul (mul q V) Q)) = add (add (mul U Q) (mul V P)) (add (mul V (mul q Q)) (mul (mul q V) Q)) := by ac_rfl
    rw [h5, h4, Pol.add_zero, h.det]
  · exact dg_low (hd.mul h.dgV) (h.bdU.mono_le (by omega))
theorem bd_mul {m n : Nat} {p q : Pol} (hp : Bd (m + 1) p) (hq : Bd n q) : Bd (m + n) (mul p q) := by
  cases n with
  | zero => rw [Pol.bd_zero hq, Pol.mul_zero]; exact Bd.zero _
  | succ n => exact (hp.mul hq).mono_le (by omega)
/-- THE KEY EQUATION: a short solution is a multiple of what Euclid tells. -/
theorem Ro.key {a b R S U V P Q L O W : Pol} {M r v l s : Nat} (h : Ro a b M R S U V P Q r v) (ha : Dg (M + 1) a) (finU : Fin U) (hL : Bd (l + 1) L) (hW : Fin W) (eqO : O = add (mul L b) (mul W a)) (hO : Bd (M - v) O) (hv : v ≤ M) (hS : Bd s S) (hls : l + s ≤ M) : ∃ H, Fin H ∧ L = mul V H ∧ O = mul H S := by
  have finL : Fin L := ⟨_, hL⟩
  have finV : Fin V := h.dgV.fin
  have e1 : add (mul V O) (mul L S) = mul (add (mul V W) (mul L Q)) a := by
    rw [eqO, h.eqS, Pol.mul_add, Pol.mul_add, Pol.add_mul]
    have h1 : mul V (mul L b) = mul L (mul V b) := by ac_rfl
    rw [h1]
    have h2 : add (add (mul L (mul V b)) (mul V (mul W a))) (add (mul L (mul V b)) (mul L (mul Q a))) = add (add (mul L (mul V b)) (mul L (mul V b))) (add (mul V (mul W a)) (mul L (mul Q a))) := by ac_rfl
    rw [h2, Pol.add_self, Pol.zero_add, Pol.mul_assoc, Pol.mul_assoc]
  have hb : Bd M (add (mul V O) (mul L S)) := ((bd_mul h.dgV.bd hO).mono_le (by omega)).add ((bd_mul hL hS).mono_le (by omega))
  have hX : add (mul V W) (mul L Q) = zero := by
    rw [e1] at hb
    exact Pol.small_multiple ((finV.mul hW).add (finL.mul h.finQ)) ha hb
  have hVW : mul V W = mul L Q := Pol.eq_of_add hX
  have hVO : mul V O = mul L S := by
    rw [hX, Pol.zero_mul] at e1
    exact Pol.eq_of_add e1
  have hLV : L = mul V (add (mul U W) (mul L P)) := by
    have h1 : L = mul L (add (mul U Q) (mul V P)) := by rw [h.det, Pol.mul_one]
    have h2 : mul L (mul U Q) = mul V (mul U W) := by
      have h3 : mul L (mul U Q) = mul U (mul L Q) := by ac_rfl
      rw [h3, ← hVW]; ac_rfl
    have h4 : mul L (mul V P) = mul V (mul L P) := by ac_rfl
    rw [Pol.mul_add, h2, h4, ← Pol.mul_add] at h1
    exact h1
  have finH : Fin (add (mul U W) (mul L P)) := (finU.mul hW).add (finL.mul h.finP)
  refine ⟨_, finH, hLV, ?_⟩
  have finS : Fin S := ⟨_, hS⟩
  have finO : Fin O := ⟨_, hO⟩
  refine Pol.mul_cancel finV finO (finH.mul finS) h.dgV.ne_zero ?_
  rw [hVO]
  conv => lhs; rw [hLV]
  rw [Pol.mul_assoc]
end Eu
end Go.Proofs
/- Euclid's steps, till what is left is short, as one relation: they end, and tell one answer alone; fewer with a greater stop; scaled; what divides; how long rows grow. Nothing of the program. -/
namespace Go.Proofs
namespace Eu
open Pol (Bd mul add zero one Dg Fin smul IsGcd Dvd Mon)

/-- From a row on, till the degree of what is left is below k: so many steps, what is left, and by what it is a multiple. -/
inductive Er (k : Nat) : Pol → Pol → Pol → Pol → Nat → Pol → Pol → Prop
  | done {R S U V : Pol} {d : Nat} (hd : Dg d S) (h : d ≤ k) : Er k R S U V 0 S V
  | next {R S U V q t S' V' : Pol} {e n : Nat} (hd : Dg (e + 1) S) (h : k ≤ e) (hq : Fin q) (ht : Bd e t) (heq : R = add (mul q S) t) (hr : Er k S t V (add U (mul q V)) n S' V') : Er k R S U V (n + 1) S' V'

theorem bd_dg {n : Nat} {p : Pol} (h : Bd n p) : ∃ d, d ≤ n ∧ Dg d p := Pol.dg_of_bd n p h
theorem er_exists (k : Nat) : ∀ (d : Nat) (R S U V : Pol), Fin R → Dg d S → ∃ n S' V', Er k R S U V n S' V' := by
  intro d
  induction d using Nat.strongRecOn with
  | ind d ih =>
    intro R S U V hR hd
    by_cases hk : d ≤ k
    · exact ⟨0, S, V, .done hd hk⟩
    · obtain ⟨e, rfl⟩ : ∃ e, d = e + 1 := ⟨d - 1, by omega⟩
      obtain ⟨m, hm⟩ := hR
      obtain ⟨q, t, hq, ht, e1⟩ := Pol.div_exists hd m R hm
      obtain ⟨d', hd', hdt⟩ := bd_dg ht
      obtain ⟨n, S', V', h⟩ := ih d' (by omega) S t V (add U (mul q V)) hd.fin hdt
      exact ⟨n + 1, S', V', .next hd (by omega) ⟨m, hq⟩ ht e1 h⟩
theorem Er.unique {k : Nat} {R S U V S' V' S'' V'' : Pol} {n m : Nat} (h : Er k R S U V n S' V') (h' : Er k R S U V m S'' V'') : n = m ∧ S' = S'' ∧ V' = V'' := by
  induction h generalizing m with
  | done hd hk =>
    cases h' with
    | done _ _ => exact ⟨rfl, rfl, rfl⟩
    | next hd' hk' _ _ _ _ => exact absurd (hd.unique hd') (by omega)
  | next hd hk hq ht heq _ ih =>
    cases h' with
    | done hd' hk' => exact absurd (hd.unique hd') (by omega)
    | next hd' hk' hq' ht' heq' hr' =>
      obtain rfl := Nat.succ.inj (hd.unique hd')
      obtain ⟨rfl, rfl⟩ := Pol.div_unique hq hq' hd ht ht' (heq.symm.trans heq')
      obtain ⟨h1, h2, h3⟩ := ih hr'
      exact ⟨by omega, h2, h3⟩
/-- No more steps than what is left has coefficients. -/
theorem Er.count {k : Nat} {R S U V S' V' : Pol} {n : Nat} (h : Er k R S U V n S' V') : ∀ d, Dg d S → n ≤ d := by
  induction h with
  | done _ _ => intro d _; omega
  | next hd hk hq ht heq _ ih =>
    intro d hd2
    have h1 := hd.unique hd2
    obtain ⟨d', hd', hdt⟩ := bd_dg ht
    have := ih d' hdt
    omega
/-- With a greater stop no more. -/
theorem Er.stop {k l : Nat} {R S U V S' V' S'' V'' : Pol} {n m : Nat} (hkl : k ≤ l) (h : Er k R S U V n S' V') (h' : Er l R S U V m S'' V'') : m ≤ n := by
  induction h generalizing m with
  | done hd hk =>
    cases h' with
    | done _ _ => omega
    | next hd' hk' _ _ _ _ => exact absurd (hd.unique hd') (by omega)
  | next hd hk hq ht heq _ ih =>
    cases h' with
    | done _ _ => omega
    | next hd' hk' hq' ht' heq' hr' =>
      obtain rfl := Nat.succ.inj (hd.unique hd')
      obtain ⟨rfl, rfl⟩ := Pol.div_unique hq hq' hd ht ht' (heq.symm.trans heq')
      have := ih hr'
      omega
/-- What is short already is told. -/
theorem Er.short {k : Nat} {R S U V S' V' : Pol} {n d : Nat} (h : Er k R S U V n S' V') (hd : Dg d S) (hk : d ≤ k) : n = 0 ∧ S' = S ∧ V' = V := h.unique (.done hd hk)
theorem Er.bd {k : Nat} {R S U V S' V' : Pol} {n : Nat} (h : Er k R S U V n S' V') : ∃ d, Dg d S' ∧ d ≤ k := by
  induction h with
  | done hd hk => exact ⟨_, hd, hk⟩
  | next _ _ _ _ _ _ ih => exact ih
theorem Er.fin {k : Nat} {R S U V S' V' : Pol} {n : Nat} (h : Er k R S U V n S' V') : Fin U → Fin V → Fin V' := by
  induction h with
  | done _ _ => intro _ h; exact h
  | next hd hk hq ht heq _ ih => intro hU hV; exact ih hV (hU.add (hq.mul hV))
/-- Each remainder is a multiple of the second one but for the first one. -/
theorem Er.rest {a b : Pol} {k : Nat} {R S U V S' V' : Pol} {n : Nat} (h : Er k R S U V n S' V') : ∀ {P Q : Pol}, Fin P → Fin Q → R = add (mul U b) (mul P a) → S = add (mul V b) (mul Q a) → ∃ Q', Fin Q' ∧ S' = add (mul V' b) (mul Q' a) := by
  induction h with
  | done _ _ => intro P Q _ hQ _ h; exact ⟨Q, hQ, h⟩
  | @next R S U V q t S' V' e n hd hk hq ht heq _ ih =>
    intro P Q hP hQ hR hS
    refine ih (P := Q) (Q := add P (mul q Q)) hQ (hP.add (hq.mul hQ)) hS ?_
    have h3 : t = add R (mul q S) := by rw [heq, Pol.add_comm (mul q S), Pol.add_assoc, Pol.add_self, Pol.add_zero]
    rw [h3, hR, hS, Pol.add_mul, Pol.add_mul, Pol.mul_add, Pol.mul_assoc, Pol.mul_assoc]
    ac_rfl
theorem Er.rest0 {a b : Pol} {k : Nat} {S' V' : Pol} {n : Nat} (h : Er k a b zero one n S' V') : ∃ Q', Fin Q' ∧ add (mul V' b) S' = mul Q' a := by
  obtain ⟨Q', hQ, e⟩ := h.rest (a := a) (b := b) (P := one) (Q := zero) Fin.one Fin.zero (by rw [Pol.zero_mul, Pol.one_mul, Pol.zero_add]) (by rw [Pol.one_mul, Pol.zero_mul, Pol.add_zero])
  exact ⟨Q', hQ, by rw [e, ← Pol.add_assoc, Pol.add_self, Pol.zero_add]⟩
theorem dg_smul {d : Nat} {p : Pol} {x : GF} (hx : x ≠ 0) (h : Dg d p) : Dg d (smul x p) := ⟨h.bd.smul x, fun h0 => by
  show x * p (d - 1) ≠ 0
  exact GF.mul_ne_zero hx (h.top h0)⟩
/-- Scaled, what is left is scaled; by what it is a multiple, and how many steps, is the same. -/
theorem Er.scale {k : Nat} {x : GF} (hx : x ≠ 0) {R S U V S' V' : Pol} {n : Nat} (h : Er k R S U V n S' V') : Er k (smul x R) (smul x S) U V n (smul x S') V' := by
  induction h with
  | done hd hk => exact .done (dg_smul hx hd) hk
  | next hd hk hq ht heq _ ih => exact .next (dg_smul hx hd) hk hq (ht.smul x) (by rw [heq, Pol.smul_add, Pol.mul_smul]) ih
/-- The row ahead of the last one: the same divides. -/
theorem Er.ahead {k : Nat} {R S U V S' V' : Pol} {n : Nat} (h : Er k R S U V n S' V') : ∃ R', (n = 0 → R' = R) ∧ (n ≠ 0 → ∃ e, Dg (e + 1) R' ∧ k ≤ e) ∧ ∀ g, IsGcd g R S → IsGcd g R' S' := by
  induction h with
  | @done R S U V d hd hk => exact ⟨R, fun _ => rfl, fun h => absurd rfl h, fun _ h => h⟩
  | @next R S U V q t S' V' e n hd hk hq ht heq _ ih =>
    obtain ⟨R', h1, h2, h3⟩ := ih
    refine ⟨R', fun h => absurd h (by omega), fun _ => ?_, fun g hg => h3 g ⟨hg.right, (Pol.dvd_rest hq heq hg.right).1 hg.left, fun c hc g1 g2 => hg.all c hc ((Pol.dvd_rest hq heq g1).2 g2) g1⟩⟩
    by_cases hn : n = 0
    · exact ⟨e, h1 hn ▸ hd, hk⟩
    · exact h2 hn
/-- From a row of Euclid's on, to one: he has gone as far as the stop. -/
theorem Er.ro {a b : Pol} {M k : Nat} {R S U V S' V' : Pol} {n : Nat} (h : Er k R S U V n S' V') : ∀ {P Q : Pol} {r v : Nat}, Ro a b M R S U V P Q r v → Fin U → k ≤ r → ∃ R' U' P' Q' r' v', Ro a b M R' S' U' V' P' Q' r' v' ∧ Fin U' ∧ k ≤ r' ∧ Bd k S' := by
  induction h with
  | done hd hk => intro P Q r v hr hU hkr; exact ⟨_, _, _, _, _, _, hr, hU, hkr, hd.bd.mono_le hk⟩
  | next hd hk hq ht heq _ ih =>
    intro P Q r v hr hU hkr
    obtain ⟨j, hj, h'⟩ := hr.step hd hq ht heq
    exact ih h' hr.dgV.fin hk
/-- How long rows grow. -/
structure Gr (C : Nat) (R S U V : Pol) (r s u v : Nat) : Prop where
  dr : Dg r R
  ds : Dg s S
  bu : Bd u U
  bv : Bd v V
  vr : v + r ≤ C
  us : u + s ≤ C
  vs : v + s ≤ C
theorem Gr.start {a b : Pol} {r s : Nat} (ha : Dg r a) (hb : Dg s b) : Gr (r + s + 1) a b zero one r s 0 1 :=
  ⟨ha, hb, Bd.zero 0, fun i hi => by show (if i = 0 then (1 : GF) else 0) = 0; rw [if_neg (by omega)], by omega, by omega, by omega⟩
theorem Gr.step {C : Nat} {R S U V q t : Pol} {r e u v : Nat} (h : Gr C R S U V r (e + 1) u v) (hq : Fin q) (ht : Bd e t) (heq : R = add (mul q S) t) : ∃ s' v', s' ≤ e ∧ Gr C S t V (add U (mul q V)) (e + 1) s' v v' := by
  obtain ⟨s', hs', hdt⟩ := bd_dg ht
  obtain ⟨d, hd⟩ := hq.dg
  have h1 := h.vr
  have h2 := h.us
  have h3 := h.vs
  cases d with
  | zero =>
    rw [hd.eq_zero, Pol.zero_mul, Pol.add_zero]
    exact ⟨s', u, hs', h.ds, hdt, h.bv, h.bu, by omega, by omega, by omega⟩
  | succ d =>
    have h4 := hd.mul h.ds
    have h5 : Dg (d + e + 1) R := by rw [heq, Pol.add_comm]; exact dg_low h4 (ht.mono_le (by omega))
    have h6 := h5.unique h.dr
    refine ⟨s', max u (d + v), hs', h.ds, hdt, h.bv, (h.bu.mono_le (by omega)).add ((bd_mul hd.bd h.bv).mono_le (by omega)), by omega, by omega, by omega⟩
end Eu
end Go.Proofs
/- The shortest register: Massey's lemma, his steps, and that a short one is alone. Nothing of the program. -/
namespace Go.Proofs
namespace Ms
open Pol (Bd mul up add smul tail zero one Dg)

/-- Where a row is nought as far back as a polynomial reaches, their product is its first coefficient's. -/
theorem mul_win : ∀ (n L : Nat) (p q : Pol), Bd (L + 1) p → (∀ i, i < n → n ≤ i + L → q i = 0) → mul p q n = p 0 * q n
  | 0, _, p, q, _, _ => Pol.mul_0 p q
  | n + 1, 0, p, q, hp, _ => by
    rw [Pol.mul_succ, Pol.bd_zero hp.tail, Pol.zero_mul]; exact GF.add_zero _
  | n + 1, L + 1, p, q, hp, hq => by
    rw [Pol.mul_succ, mul_win n L (tail p) q hp.tail fun i h1 h2 => hq i (by omega) (by omega), hq n (by omega) (by omega), GF.mul_zero, GF.add_zero]
theorem mul_win_zero {n L : Nat} {p q : Pol} (hp : Bd (L + 1) p) (hq : ∀ i, i ≤ n → n ≤ i + L → q i = 0) : mul p q n = 0 := by
  rw [mul_win n L p q hp fun i h1 h2 => hq i (by omega) h2, hq n (Nat.le_refl _) (by omega), GF.mul_zero]

/-- C is a register of length L that makes the first N of s. -/
structure Mk (s : Pol) (N : Nat) (C : Pol) (L : Nat) : Prop where
  one : C 0 = 1
  bd : Bd (L + 1) C
  le : L ≤ N
  run : ∀ i, L ≤ i → i < N → mul C s i = 0
theorem Mk.less {s C : Pol} {N M L : Nat} (h : Mk s N C L) (hM : M ≤ N) (hL : L ≤ M) : Mk s M C L := ⟨h.one, h.bd, hL, fun i h1 h2 => h.run i h1 (by omega)⟩
theorem Mk.next {s C : Pol} {N L : Nat} (h : Mk s N C L) (hd : mul C s N = 0) : Mk s (N + 1) C L := ⟨h.one, h.bd, by have := h.le; omega, fun i h1 h2 => by
  by_cases e : i = N
  · subst e; exact hd
  · exact h.run i h1 (by omega)⟩
/-- MASSEY's LEMMA: what does not make one more is not much shorter than what does. -/
theorem long {s C D : Pol} {N L M : Nat} (h : Mk s N C L) (hd : mul C s N ≠ 0) (k : Mk s (N + 1) D M) : N + 1 ≤ L + M := by
  refine Nat.le_of_not_lt fun hlt => hd ?_
  have e : mul D (mul C s) N = mul C (mul D s) N := by rw [← Pol.mul_assoc, Pol.mul_comm D C, Pol.mul_assoc]
  rw [mul_win N M D (mul C s) k.bd fun i h1 h2 => h.run i (by omega) h1, k.one, GF.one_mul] at e
  rw [e]
  exact mul_win_zero h.bd fun i h1 h2 => k.run i (by omega) (by omega)
theorem mk_full (s : Pol) (N : Nat) (C : Pol) (h1 : C 0 = 1) (hb : Bd (N + 1) C) : Mk s N C N := ⟨h1, hb, Nat.le_refl _, fun i h1 h2 => by omega⟩
theorem one_bd : Bd 1 one := fun i hi => by show (if i = 0 then (1 : GF) else 0) = 0; rw [if_neg (by omega)]
/-- L is the least length of a register that makes the first N. -/
structure Least (s : Pol) (N L : Nat) : Prop where
  some : ∃ C, Mk s N C L
  least : ∀ C M, Mk s N C M → L ≤ M
theorem Least.unique {s : Pol} {N L M : Nat} (h : Least s N L) (k : Least s N M) : L = M := by
  obtain ⟨C, hC⟩ := h.some
  obtain ⟨D, hD⟩ := k.some
  exact Nat.le_antisymm (h.least D M hD) (k.least C L hC)
theorem Least.le {s : Pol} {N L : Nat} (h : Least s N L) : L ≤ N := h.least one N (mk_full s N one rfl (one_bd.mono_le (by omega)))
theorem Least.mono {s : Pol} {N L M : Nat} (h : Least s N L) (k : Least s (N + 1) M) : L ≤ M := by
  obtain ⟨D, hD⟩ := k.some
  by_cases e : M ≤ N
  · exact h.least D M (hD.less (by omega) e)
  · have := h.le; omega

/-- Massey's state: C makes the first N, no shorter one does; the one before the last change, D of length M, made all ahead of N - m, and there it missed by b. -/
structure St (s : Pol) (N : Nat) (C : Pol) (L : Nat) (D : Pol) (M m : Nat) (b : GF) : Prop where
  reg : Mk s N C L
  least : ∀ E K, Mk s N E K → L ≤ K
  old : (L = 0 ∧ C = one ∧ D = one ∧ M = 0 ∧ m = N + 1 ∧ b = 1) ∨ (Bd (M + 1) D ∧ (∀ i, M ≤ i → i + m < N → mul D s i = 0) ∧ 1 ≤ m ∧ m ≤ N ∧ mul D s (N - m) = b ∧ b ≠ 0 ∧ L + M + m = N + 1)
theorem St.is {s C D : Pol} {N L M m : Nat} {b : GF} (h : St s N C L D M m b) : Least s N L := ⟨⟨C, h.reg⟩, h.least⟩
theorem St.sum {s C D : Pol} {N L M m : Nat} {b : GF} (h : St s N C L D M m b) : L + M + m = N + 1 ∧ 1 ≤ m ∧ b ≠ 0 ∧ Bd (M + 1) D := by
  rcases h.old with ⟨rfl, _, rfl, rfl, rfl, rfl⟩ | ⟨h1, _, h2, _, _, h3, h4⟩
  · exact ⟨by omega, by omega, GF.one_ne_zero, one_bd⟩
  · exact ⟨h4, h2, h3, h1⟩
theorem st_start (s : Pol) : St s 0 one 0 one 0 1 1 := ⟨mk_full s 0 one rfl one_bd, fun _ _ _ => Nat.zero_le _, .inl ⟨rfl, rfl, rfl, rfl, rfl, rfl⟩⟩
/-- It makes one more. -/
theorem St.keep {s C D : Pol} {N L M m : Nat} {b : GF} (h : St s N C L D M m b) (hd : mul C s N = 0) : St s (N + 1) C L D M (m + 1) b := by
  refine ⟨h.reg.next hd, fun E K hE => ?_, ?_⟩
  · by_cases e : K ≤ N
    · exact h.least E K (hE.less (by omega) e)
    · have := h.reg.le; omega
  · rcases h.old with ⟨h1, h2, h3, h4, h5, h6⟩ | ⟨h1, h2, h3, h4, h5, h6, h7⟩
    · exact .inl ⟨h1, h2, h3, h4, by omega, h6⟩
    · exact .inr ⟨h1, fun i h8 h9 => h2 i h8 (by omega), by omega, by omega, by rw [show N + 1 - (m + 1) = N - m by omega]; exact h5, h6, by omega⟩
/-- The change. -/
def ch (C D : Pol) (m : Nat) (a : GF) : Pol := add C (smul a (up m D))
theorem mul_up (k : Nat) (p q : Pol) (i : Nat) : mul (up k p) q i = if k ≤ i then mul p q (i - k) else 0 := by rw [Pol.up_mul]; rfl
theorem ch_mul (C D s : Pol) (m : Nat) (a : GF) (i : Nat) : mul (ch C D m a) s i = mul C s i + a * (if m ≤ i then mul D s (i - m) else 0) := by
  unfold ch
  rw [Pol.add_mul, Pol.smul_mul]
  show mul C s i + a * mul (up m D) s i = _
  rw [mul_up]
theorem ch_bd {C D : Pol} {L M m K : Nat} (hC : Bd (L + 1) C) (hD : Bd (M + 1) D) (a : GF) (h1 : L ≤ K) (h2 : M + m ≤ K) : Bd (K + 1) (ch C D m a) := (hC.mono_le (by omega)).add (Bd.smul a ((hD.up m).mono_le (by omega)))
theorem ch_one {C D : Pol} {m : Nat} (a : GF) (hC : C 0 = 1) (hm : 1 ≤ m) : ch C D m a 0 = 1 := by
  show C 0 + a * (if m ≤ 0 then D (0 - m) else 0) = 1
  rw [if_neg (by omega), GF.mul_zero, GF.add_zero, hC]
/-- It misses: the change mends it; its length is the greater of what it was and what the lemma asks. -/
theorem St.chMk {s C D : Pol} {N L M m : Nat} {b : GF} (h : St s N C L D M m b) {K : Nat} (h1 : L ≤ K) (h2 : N + 1 ≤ L + K) (hK : K ≤ N + 1) : Mk s (N + 1) (ch C D m (mul C s N * GF.inv b)) K := by
  obtain ⟨e1, e2, e3, e4⟩ := h.sum
  refine ⟨ch_one _ h.reg.one e2, ch_bd h.reg.bd e4 _ h1 (by omega), hK, fun i h3 h4 => ?_⟩
  rw [ch_mul]
  rcases h.old with ⟨rfl, rfl, rfl, rfl, rfl, rfl⟩ | ⟨_, g2, _, g4, g5, _, _⟩
  · omega
  · rw [if_pos (by omega)]
    by_cases e : i = N
    · subst e
      rw [g5, GF.mul_assoc, GF.inv_mul _ e3, GF.mul_one, GF.add_self]
    · rw [h.reg.run i (by omega) (by omega), g2 (i - m) (by omega) (by omega), GF.mul_zero, GF.add_zero]
theorem St.longer {s C D : Pol} {N L M m : Nat} {b : GF} (h : St s N C L D M m b) (hd : mul C s N ≠ 0) (h2 : 2 * L ≤ N) : St s (N + 1) (ch C D m (mul C s N * GF.inv b)) (N + 1 - L) C L 1 (mul C s N) := by
  have hle := h.reg.le
  refine ⟨h.chMk (by omega) (by omega) (by omega), fun E K hE => ?_, .inr ⟨h.reg.bd, fun i h3 h4 => h.reg.run i h3 (by omega), by omega, by omega, rfl, hd, by omega⟩⟩
  have := long h.reg hd hE; omega
theorem St.same {s C D : Pol} {N L M m : Nat} {b : GF} (h : St s N C L D M m b) (h2 : N < 2 * L) : St s (N + 1) (ch C D m (mul C s N * GF.inv b)) L D M (m + 1) b := by
  have hle := h.reg.le
  refine ⟨h.chMk (by omega) (by omega) (by omega), fun E K hE => ?_, ?_⟩
  · by_cases e : K ≤ N
    · exact h.least E K (hE.less (by omega) e)
    · omega
  · rcases h.old with ⟨rfl, _⟩ | ⟨g1, g2, g3, g4, g5, g6, g7⟩
    · omega
    · exact .inr ⟨g1, fun i h8 h9 => g2 i h8 (by omega), by omega, by omega, by rw [show N + 1 - (m + 1) = N - m by omega]; exact g5, g6, by omega⟩
theorem st_exists (s : Pol) : ∀ N, ∃ C L D M m b, St s N C L D M m b
  | 0 => ⟨_, _, _, _, _, _, st_start s⟩
  | N + 1 => by
    obtain ⟨C, L, D, M, m, b, h⟩ := st_exists s N
    by_cases hd : mul C s N = 0
    · exact ⟨_, _, _, _, _, _, h.keep hd⟩
    · by_cases h2 : 2 * L ≤ N
      · exact ⟨_, _, _, _, _, _, h.longer hd h2⟩
      · exact ⟨_, _, _, _, _, _, h.same (by omega)⟩
/-! ## A short one is alone -/
/-- A polynomial that is not nought is a power of x times one whose first coefficient is not. -/
theorem front {p : Pol} {n : Nat} (hp : Bd n p) (h0 : p ≠ zero) : ∃ e q, p = up e q ∧ q 0 ≠ 0 ∧ Bd (n - e) q ∧ e < n := by
  induction n generalizing p with
  | zero => exact absurd (Pol.bd_zero hp) h0
  | succ n ih =>
    by_cases h : p 0 = 0
    · have ht : tail p ≠ zero := fun e => h0 (by
        funext i
        cases i with
        | zero => exact h
        | succ i => exact congrFun e i)
      obtain ⟨e, q, h1, h2, h3, h4⟩ := ih hp.tail ht
      refine ⟨e + 1, q, ?_, h2, h3.mono_le (by omega), by omega⟩
      funext i
      cases i with
      | zero => rw [h]; unfold Pol.up; rw [if_neg (by omega)]
      | succ i =>
        have := congrFun h1 i
        show tail p i = _
        rw [this]; unfold Pol.up
        by_cases hi : e ≤ i
        · rw [if_pos hi, if_pos (by omega)]; congr 1; omega
        · rw [if_neg hi, if_neg (by omega)]
    · exact ⟨0, p, (Pol.up_zero p).symm, h, hp, by omega⟩
theorem alone {s C D : Pol} {N L : Nat} (hL : Least s N L) (hC : Mk s N C L) (hD : Mk s N D L) (h2 : 2 * L ≤ N) : C = D := by
  refine Classical.byContradiction fun hne => ?_
  have hE0 : add C D ≠ zero := fun e => hne (by
    funext i
    have := congrFun e i
    exact GF.eq_of_add this)
  obtain ⟨e, F, h3, h4, h5, h6⟩ := front (hC.bd.add hD.bd) hE0
  have he : e ≠ 0 := fun h => by
    subst h
    have := congrFun h3 0
    rw [Pol.up_zero] at this
    have h7 : C 0 + D 0 = F 0 := this
    rw [hC.one, hD.one, GF.add_self] at h7
    exact h4 h7.symm
  -- scaled, it is a shorter register of the first N - e
  have hF0 : smul (GF.inv (F 0)) F 0 = 1 := GF.inv_mul _ h4
  have hFm : ∀ i, L - e ≤ i → i + e < N → mul (smul (GF.inv (F 0)) F) s i = 0 := fun i h7 h8 => by
    rw [Pol.smul_mul]
    show GF.inv (F 0) * mul F s i = 0
    have h9 : mul (add C D) s (i + e) = 0 := by
      rw [Pol.add_mul]
      show mul C s (i + e) + mul D s (i + e) = 0
      rw [hC.run _ (by omega) h8, hD.run _ (by omega) h8, GF.add_zero]
    rw [h3, mul_up, if_pos (by omega), Nat.add_sub_cancel] at h9
    rw [h9, GF.mul_zero]
  have hFb : Bd (L - e + 1) (smul (GF.inv (F 0)) F) := Bd.smul _ (h5.mono_le (by omega))
  -- it goes on as long as it does
  have hgo : ∀ k, N - e + k ≤ N → Mk s (N - e + k) (smul (GF.inv (F 0)) F) (L - e) := by
    intro k
    induction k with
    | zero => exact fun _ => ⟨hF0, hFb, by omega, fun i h7 h8 => hFm i h7 (by omega)⟩
    | succ k ih =>
      intro hk
      have h7 := ih (by omega)
      refine h7.next (Classical.byContradiction fun hd => ?_)
      have h8 := long h7 hd (hC.less (by omega) (by omega))
      omega
  have h7 := hgo e (by omega)
  rw [show N - e + e = N by omega] at h7
  have := hL.least _ _ h7
  omega
end Ms
end Go.Proofs
/- Registers further: another that makes a list, one byte more, scaled, summed, and a register as the answer of a system. Nothing of the program. -/
namespace Go.Proofs
namespace Ms
open Pol (Bd mul up add smul tail zero one Dg ofL toL Byt)
open Mx

theorem Mk.same {s t C : Pol} {N L : Nat} (h : Mk s N C L) (he : ∀ i, i < N → s i = t i) : Mk t N C L := ⟨h.one, h.bd, h.le, fun i h1 h2 => by
  rw [← Pol.mul_congr i (fun _ _ => rfl) fun j hj => he j (by omega)]; exact h.run i h1 h2⟩
theorem Least.same {s t : Pol} {N L : Nat} (h : Least s N L) (he : ∀ i, i < N → s i = t i) : Least t N L := by
  obtain ⟨C, hC⟩ := h.some
  exact ⟨⟨C, hC.same he⟩, fun D M hD => h.least D M (hD.same fun i hi => (he i hi).symm)⟩
theorem Mk.scale {s C : Pol} {N L : Nat} (h : Mk s N C L) (a : GF) : Mk (smul a s) N C L := ⟨h.one, h.bd, h.le, fun i h1 h2 => by
  rw [Pol.mul_smul]; show a * mul C s i = 0; rw [h.run i h1 h2, GF.mul_zero]⟩
theorem Mk.unscale {s C : Pol} {N L : Nat} {a : GF} (ha : a ≠ 0) (h : Mk (smul a s) N C L) : Mk s N C L := ⟨h.one, h.bd, h.le, fun i h1 h2 => by
  have h3 := h.run i h1 h2
  rw [Pol.mul_smul] at h3
  exact (GF.mul_eq_zero (show a * mul C s i = 0 from h3)).resolve_left ha⟩
theorem Least.scale {s : Pol} {N L : Nat} {a : GF} (ha : a ≠ 0) (h : Least s N L) : Least (smul a s) N L := by
  obtain ⟨C, hC⟩ := h.some
  exact ⟨⟨C, hC.scale a⟩, fun D M hD => h.least D M (hD.unscale ha)⟩
theorem Mk.sum {s t C : Pol} {N L : Nat} (h : Mk s N C L) (k : Mk t N C L) : Mk (add s t) N C L := ⟨h.one, h.bd, h.le, fun i h1 h2 => by
  rw [Pol.mul_add]; show mul C s i + mul C t i = 0; rw [h.run i h1 h2, k.run i h1 h2, GF.add_zero]⟩
/-- It may be taken for longer than it is. -/
theorem Mk.longer {s C : Pol} {N L M : Nat} (h : Mk s N C L) (hM : L ≤ M) (hN : M ≤ N) : Mk s N C M := ⟨h.one, h.bd.mono_le (by omega), hN, fun i h1 h2 => h.run i (by omega) h2⟩

/-! ## One more -/
theorem Least.keep {s C : Pol} {N L : Nat} (h : Least s N L) (hC : Mk s N C L) (hd : mul C s N = 0) : Least s (N + 1) L := ⟨⟨C, hC.next hd⟩, fun E K hE => by
  by_cases e : K ≤ N
  · exact h.least E K (hE.less (by omega) e)
  · have := hC.le; omega⟩
/-- One that misses: as long as it was, or what the lemma asks. -/
theorem Least.miss {s C : Pol} {N L : Nat} (h : Least s N L) (hC : Mk s N C L) (hd : mul C s N ≠ 0) : Least s (N + 1) (if 2 * L ≤ N then N + 1 - L else L) := by
  obtain ⟨C', L', D, M, m, b, hS⟩ := st_exists s N
  have e := hS.is.unique h
  subst e
  by_cases h2 : 2 * L' ≤ N
  · rw [if_pos h2]
    have e := alone h hC hS.reg h2
    subst e
    exact (hS.longer hd h2).is
  · rw [if_neg h2]
    by_cases h3 : mul C' s N = 0
    · exact h.keep hS.reg h3
    · exact (hS.same (by omega)).is
/-- What makes it goes on as one that makes one more, if both are short. -/
theorem goes {s C D : Pol} {N L M : Nat} (h : Mk s N C L) (k : Mk s (N + 1) D M) (h2 : L + M ≤ N) : mul C s N = 0 := Classical.byContradiction fun hd => by
  have := long h hd k; omega

/-! ## The sum -/
theorem mul_sm : ∀ (n : Nat) (p q : Pol), mul p q n = sm (n + 1) fun j => p j * q (n - j)
  | 0, p, q => by rw [Pol.mul_0]; show _ = (0 : GF) + p 0 * q 0; rw [GF.zero_add]
  | n + 1, p, q => by
    rw [Pol.mul_succ, sm_front, mul_sm n (tail p) q]
    refine congrArg (_ + ·) (sm_congr fun j hj => ?_)
    show p (j + 1) * q (n - j) = p (j + 1) * q (n + 1 - (j + 1))
    rw [show n + 1 - (j + 1) = n - j by omega]
theorem sm_more {f : Nat → GF} {n : Nat} (h : ∀ j, n ≤ j → f j = 0) : ∀ k, sm (n + k) f = sm n f
  | 0 => rfl
  | k + 1 => by rw [← Nat.add_assoc, sm_succ, sm_more h k, h (n + k) (by omega), GF.add_zero]
/-- A short one's product is a short sum. -/
theorem mul_short {L n : Nat} {p : Pol} (q : Pol) (hp : Bd (L + 1) p) (hn : L ≤ n) : mul p q n = sm (L + 1) fun j => p j * q (n - j) := by
  rw [mul_sm]
  obtain ⟨k, rfl⟩ := Nat.le.dest hn
  rw [show L + k + 1 = L + 1 + k by omega]
  exact sm_more (fun j hj => by rw [hp j hj, GF.zero_mul]) k
/-- The register of the L that stand behind its 1. -/
def rg (L : Nat) (x : Nat → GF) : Pol := fun i => if i = 0 then 1 else if i ≤ L then x (i - 1) else 0
theorem rg_bd (L : Nat) (x : Nat → GF) : Bd (L + 1) (rg L x) := fun i hi => by unfold rg; rw [if_neg (by omega), if_neg (by omega)]
theorem rg_zero (L : Nat) (x : Nat → GF) : rg L x 0 = 1 := if_pos rfl
theorem rg_succ {L : Nat} (x : Nat → GF) {j : Nat} (hj : j < L) : rg L x (j + 1) = x j := by unfold rg; rw [if_neg (by omega), if_pos (by omega)]; rfl
theorem rg_mul {L n : Nat} (x : Nat → GF) (s : Pol) (hn : L ≤ n) : mul (rg L x) s n = s n + sm L fun j => s (n - (j + 1)) * x j := by
  rw [mul_short s (rg_bd L x) hn, sm_front, rg_zero, GF.one_mul]
  refine congrArg (_ + ·) (sm_congr fun j hj => ?_)
  rw [rg_succ x hj, GF.mul_comm]
theorem mk_rg {s : Pol} {N L : Nat} (x : Nat → GF) (hL : L ≤ N) : Mk s N (rg L x) L ↔ ∀ i, L ≤ i → i < N → (sm L fun j => s (i - (j + 1)) * x j) = s i := by
  constructor
  · intro h i h1 h2
    have h3 := h.run i h1 h2
    rw [rg_mul x s h1] at h3
    exact (GF.eq_of_add h3).symm
  · intro h
    refine ⟨rg_zero L x, rg_bd L x, hL, fun i h1 h2 => ?_⟩
    rw [rg_mul x s h1, h i h1 h2, GF.add_self]
theorem Mk.rg {s C : Pol} {N L : Nat} (h : Mk s N C L) : C = rg L fun j => C (j + 1) := by
  funext i
  cases i with
  | zero => rw [h.one, rg_zero]
  | succ i =>
    by_cases hi : i < L
    · rw [rg_succ _ hi]
    · rw [h.bd _ (by omega), rg_bd L _ _ (by omega)]

/-! ## The system -/
theorem ofL_rg {x : List Nat} {L : Nat} (hl : x.length = L) : ofL (1 :: x) = rg L (ofL x) := by
  funext i
  cases i with
  | zero => rfl
  | succ i =>
    by_cases hi : i < L
    · rw [rg_succ _ hi]; rfl
    · rw [rg_bd L _ _ (by omega)]
      exact Pol.ofL_bd (1 :: x) _ (by rw [List.length_cons]; omega)
/-! ## What is made -/
/-- The byte that comes next behind the bytes xs: one of its own, or what the register l has. -/
def mdN (l first xs : List Nat) : Nat := if xs.length < l.length then first.getD xs.length 0 else (sm l.length fun j => ofL l j * ofL xs (xs.length - (j + 1))).val
/-- So many bytes that l makes. -/
def mdL (l first : List Nat) : Nat → List Nat
  | 0 => []
  | k + 1 => mdL l first k ++ [mdN l first (mdL l first k)]
theorem mdL_length (l first : List Nat) : ∀ k, (mdL l first k).length = k
  | 0 => rfl
  | k + 1 => by rw [mdL, List.length_append, mdL_length l first k]; rfl
theorem mdN_lt {l first : List Nat} (hf : Byt first) (xs : List Nat) : mdN l first xs < 256 := by
  unfold mdN
  split
  · exact hf _
  · exact GF.lt _
theorem mdL_byt {l first : List Nat} (hf : Byt first) : ∀ k, Byt (mdL l first k)
  | 0 => Pol.byt_nil
  | k + 1 => Pol.byt_append (mdL_byt hf k) fun i => by
    cases i with
    | zero => exact mdN_lt hf _
    | succ i => exact Nat.zero_lt_succ _
theorem mdL_old (l first : List Nat) (k : Nat) : ∀ m i, i < k → (mdL l first (k + m)).getD i 0 = (mdL l first k).getD i 0
  | 0, _, _ => rfl
  | m + 1, i, hi => by
    rw [← Nat.add_assoc, mdL, Pol.getD_append, if_pos (by rw [mdL_length]; omega)]
    exact mdL_old l first k m i hi
theorem mdL_at (l first : List Nat) {i n : Nat} (hi : i < n) : (mdL l first n).getD i 0 = mdN l first (mdL l first i) := by
  obtain ⟨m, rfl⟩ := Nat.le.dest (show i + 1 ≤ n from hi)
  rw [mdL_old l first (i + 1) m i (by omega), mdL, Pol.getD_append, if_neg (by rw [mdL_length]; omega), mdL_length, Nat.sub_self]
  rfl
theorem made_mk {l first : List Nat} {n : Nat} (hn : l.length ≤ n) : Mk (ofL (mdL l first n)) n (ofL (1 :: l)) l.length := by
  rw [ofL_rg rfl, mk_rg _ hn]
  intro i h1 h2
  have e : ofL (mdL l first n) i = sm l.length fun j => ofL l j * ofL (mdL l first i) (i - (j + 1)) := by
    show GF.of ((mdL l first n).getD i 0) = _
    rw [mdL_at l first h2]
    unfold mdN
    rw [mdL_length, if_neg (by omega)]
    exact GF.of_self _
  rw [e]
  refine sm_congr fun j hj => ?_
  rw [GF.mul_comm]
  obtain ⟨m, rfl⟩ := Nat.le.dest (Nat.le_of_lt h2)
  show ofL l j * GF.of _ = ofL l j * GF.of _
  rw [mdL_old l first i m _ (by omega)]
end Ms
end Go.Proofs
/- A product's coefficient as a short sum of bytes; what makes a list, of any integer. Nothing of the program. -/
namespace Go.Proofs
namespace Ms
open Pol (Bd mul up add smul tail zero one Dg ofL toL Byt IsN)
open Mx

theorem of_inj {a b : Nat} (ha : a < 256) (hb : b < 256) (h : GF.of a = GF.of b) : a = b := by rw [← GF.of_val a ha, h, GF.of_val b hb]
/-- The first j products of a sum, as a byte. -/
def smv (cs xs : List Nat) (a b : Nat → Nat) (j : Nat) : Nat := (sm j fun t => ofL cs (a t) * ofL xs (b t)).val
theorem smv_lt (cs xs : List Nat) (a b : Nat → Nat) (j : Nat) : smv cs xs a b j < 256 := GF.lt _
theorem smv_succ {cs xs : List Nat} (hc : Byt cs) (hx : Byt xs) (a b : Nat → Nat) (j : Nat) : smv cs xs a b (j + 1) = smv cs xs a b j ^^^ Gf.mul (cs.getD (a j) 0) (xs.getD (b j) 0) := by
  have h1 : Gf.mul (cs.getD (a j) 0) (xs.getD (b j) 0) < 256 := Gf.mul_lt _ _ (hc _)
  refine of_inj (GF.lt _) (Gf.xor_lt8 (GF.lt _) h1) ?_
  unfold smv
  rw [GF.of_xor _ _ (GF.lt _) h1, GF.of_mul _ _ (hc _) (hx _), GF.of_self, GF.of_self, sm_succ]
  rfl
/-- A register's sum at a place: over all its coefficients. -/
theorem smv_full {cs xs : List Nat} {n : Nat} (h : cs.length ≤ n + 1) : smv cs xs (fun t => t) (fun t => n - t) cs.length = (mul (ofL cs) (ofL xs) n).val := by
  unfold smv
  rw [mul_sm]
  obtain ⟨k, hk⟩ := Nat.le.dest h
  rw [← hk]
  exact congrArg GF.val (sm_more (f := fun t => ofL cs t * ofL xs (n - t)) (n := cs.length) (fun j hj => by rw [Pol.ofL_bd cs j hj, GF.zero_mul]) k).symm
/-- The answer of Massey: the least length, and a register of it. -/
structure IsMas (xs ls : List Nat) (L : Nat) : Prop where
  reg : Mk (ofL xs) xs.length (ofL ls) L
  least : Least (ofL xs) xs.length L
  nrm : IsN ls (ofL ls)
theorem val_inj {a b : GF} (h : a.val = b.val) : a = b := by rw [← GF.of_self a, h, GF.of_self]
end Ms
end Go.Proofs
/- What the laws of registers say, in lists. Nothing of the program. -/
namespace Go.Proofs
namespace Ms
open Pol (Bd mul up add smul tail zero one Dg ofL toL Byt IsN)
open Mx

/-- Two answers for a list that is long enough are one. -/
theorem IsMas.alone {xs ls zs : List Nat} {L : Nat} (h : IsMas xs ls L) (k : IsMas xs zs L) (h2 : 2 * L ≤ xs.length) : ls = zs := h.nrm.unique (by rw [Ms.alone h.least h.reg k.reg h2]; exact k.nrm)
/-- MasseyScaled. -/
theorem IsMas.scale {xs ys ls : List Nat} {L a : Nat} (hys : ys = xs.map (Gf.mul a)) (ha : a < 256) (ha0 : a ≠ 0) (hx : Byt xs) (h : IsMas xs ls L) : IsMas ys ls L := by
  have e : ofL ys = smul (GF.of a) (ofL xs) := by rw [hys]; exact Pol.ofL_map a ha hx
  have hl : ys.length = xs.length := by rw [hys, List.length_map]
  have hne : GF.of a ≠ 0 := fun e => ha0 (by
    have := GF.of_val a ha
    rw [e] at this; exact this.symm)
  refine ⟨?_, ?_, h.nrm⟩
  · rw [e, hl]; exact h.reg.scale _
  · rw [e, hl]; exact h.least.scale hne
/-! ## The chapter's example -/
theorem mk_check {cs xs : List Nat} {L : Nat} (h1 : ofL cs 0 = 1) (hl : cs.length = L + 1) (hn : L ≤ xs.length) (hr : ∀ i, i < xs.length → L ≤ i → smv cs xs (fun t => t) (fun t => i - t) cs.length = 0) : Mk (ofL xs) xs.length (ofL cs) L :=
  ⟨h1, hl ▸ Pol.ofL_bd cs, hn, fun i h2 h3 => val_inj (by
    have := hr i h3 h2
    rw [smv_full (by omega)] at this
    rw [this]; rfl)⟩
theorem mk_1248 : Mk (ofL [1, 2, 4, 8]) 4 (ofL [1, 2]) 1 := mk_check (cs := [1, 2]) (xs := [1, 2, 4, 8]) rfl rfl (by decide) (by decide +kernel)
theorem one_miss (s : Pol) (N : Nat) : mul one s N = s N := by rw [Pol.one_mul]
theorem least_1248 : Least (ofL [1, 2, 4, 8]) 4 1 := ⟨⟨_, mk_1248⟩, fun D M hD => by
  refine Nat.le_of_not_lt fun hlt => ?_
  have h1 := hD.less (M := 1) (by decide) (by omega)
  have h2 := long (mk_full (ofL [1, 2, 4, 8]) 0 one rfl one_bd) (by rw [one_miss]; decide +kernel) h1
  omega⟩
theorem isMas_1248 : IsMas [1, 2, 4, 8] [1, 2] 1 := ⟨mk_1248, least_1248, ⟨fun _ => by decide, fun i => by
  match i with
  | 0 => exact (by decide : (1 : Nat) < 256)
  | 1 => exact (by decide : (2 : Nat) < 256)
  | i + 2 => exact (by decide : (0 : Nat) < 256), rfl⟩⟩
end Ms
end Go.Proofs
/- What the laws of Euclid's steps say: of what a register makes he tells the register. Nothing of the program. -/
namespace Go.Proofs
namespace Eu
open Pol (ofL Byt Bd mul add zero one smul Dg Fin IsN)
open Ms (Mk Least)

theorem dg_mono (M : Nat) : Dg (M + 1) (Pol.mono M 1) := ⟨fun i hi => by unfold Pol.mono; rw [if_neg (by omega)], fun _ => by show (if M = M then (1 : GF) else 0) ≠ 0; rw [if_pos rfl]; exact GF.one_ne_zero⟩
theorem mul_mono (M : Nat) (p : Pol) : mul p (Pol.mono M 1) = Pol.up M p := by
  rw [Pol.mul_comm, Pol.mono_mul]
  congr 1
  funext i
  exact GF.one_mul _
theorem cut_split (M : Nat) (p : Pol) : Pol.cut M p = add p (mul (Pol.down M p) (Pol.mono M 1)) := by
  have h := Pol.cut_up_down M p
  have h2 : add (add (Pol.cut M p) (Pol.up M (Pol.down M p))) (Pol.up M (Pol.down M p)) = Pol.cut M p := by rw [Pol.add_assoc, Pol.add_self, Pol.add_zero]
  rw [h] at h2
  rw [mul_mono]
  exact h2.symm
/-- EUCLID TELLS THE REGISTER: of a row of M that a register makes which is alone. -/
theorem key_reg {M L k n : Nat} {b C S' V' : Pol} (hb : Bd M b) (hL : Least b M L) (hC : Mk b M C L) (h2 : 2 * L ≤ M) (hk : (M + 1) / 2 = k) (h : Er k (Pol.mono M 1) b zero one n S' V') :
    V' 0 ≠ 0 ∧ smul (GF.inv (V' 0)) V' = C ∧ smul (GF.inv (V' 0)) S' = Pol.cut M (mul b C) := by
  obtain ⟨R, U, P, Q, r, v, hro, finU, hkr, hSk⟩ := h.ro (start (dg_mono M) hb) Fin.zero (by omega)
  have hsum := hro.sum
  have finb : Fin b := ⟨_, hb⟩
  have finC : Fin C := ⟨_, hC.bd⟩
  obtain ⟨O, hOq⟩ : ∃ O, Pol.cut M (mul b C) = O := ⟨_, rfl⟩
  have hOb : Bd L O := fun i hi => by
    rw [← hOq]
    show (if i < M then mul b C i else 0) = 0
    split
    · rename_i hiM
      rw [Pol.mul_comm]; exact hC.run i hi hiM
    · rfl
  have eqO : O = add (mul C b) (mul (Pol.down M (mul C b)) (Pol.mono M 1)) := by rw [← hOq, Pol.mul_comm b C]; exact cut_split M _
  have hW : Fin (Pol.down M (mul C b)) := by
    obtain ⟨m, hm⟩ := finC.mul finb
    exact ⟨m, fun i hi => hm (i + M) (by omega)⟩
  obtain ⟨H, finH, eC, eO⟩ := hro.key (dg_mono M) finU hC.bd hW eqO (hOb.mono_le (by omega)) (by omega) hSk (by omega)
  have hVH : V' 0 * H 0 = 1 := by rw [← hC.one, eC, Pol.mul_0]
  have hV0 : V' 0 ≠ 0 := fun h0 => by rw [h0, GF.zero_mul] at hVH; exact GF.one_ne_zero hVH.symm
  obtain ⟨c, hcL, hcd⟩ := Pol.dg_of_bd _ _ hC.bd
  obtain ⟨dh, hdh⟩ := finH.dg
  obtain ⟨j, rfl⟩ : ∃ j, dh = j + 1 := by
    cases dh with
    | zero => rw [hdh.eq_zero] at hVH; exact absurd (hVH.symm.trans (GF.mul_zero _)) GF.one_ne_zero
    | succ j => exact ⟨j, rfl⟩
  have hvj : v + j + 1 = c := by
    have h1 := hro.dgV.mul hdh
    rw [← eC] at h1
    have := h1.unique hcd
    omega
  have hSb : Bd (L - j) S' := by
    have finS : Fin S' := ⟨_, hSk⟩
    obtain ⟨ds, hds⟩ := finS.dg
    cases ds with
    | zero => rw [hds.eq_zero]; exact Bd.zero _
    | succ m =>
      have h1 := hdh.mul hds
      rw [← eO] at h1
      have := h1.le hOb
      exact hds.bd.mono_le (by omega)
  have hmk : Mk b M (smul (GF.inv (V' 0)) V') (L - j) := by
    refine ⟨GF.inv_mul _ hV0, (hro.dgV.bd.mono_le (by omega)).smul _, by omega, fun i h1 h3 => ?_⟩
    rw [Pol.smul_mul]
    show GF.inv (V' 0) * mul V' b i = 0
    have e1 : add S' (mul Q (Pol.mono M 1)) = mul V' b := by rw [hro.eqS, Pol.add_assoc, Pol.add_self, Pol.add_zero]
    rw [← e1, mul_mono]
    show GF.inv (V' 0) * (S' i + (if M ≤ i then Q (i - M) else 0)) = 0
    rw [hSb i h1, if_neg (by omega), GF.add_zero, GF.mul_zero]
  have hj0 : j = 0 := by
    have := hL.least _ _ hmk
    omega
  subst hj0
  have e1 := Ms.alone hL hC hmk h2
  refine ⟨hV0, e1.symm, ?_⟩
  have hHm : H = Pol.mono 0 (H 0) := by
    funext i
    show H i = if i = 0 then H 0 else 0
    by_cases hi : i = 0
    · rw [if_pos hi, hi]
    · rw [if_neg hi]; exact hdh.bd i (by omega)
  have hinv : H 0 = GF.inv (V' 0) := by
    have h3 := GF.inv_mul _ hV0
    have h4 : GF.inv (V' 0) * (V' 0 * H 0) = GF.inv (V' 0) * 1 := by rw [hVH]
    rw [← GF.mul_assoc, h3, GF.one_mul, GF.mul_one] at h4
    exact h4
  rw [hOq, eO]
  conv => rhs; rw [hHm, Pol.const_mul]
  rw [hinv]
/-- A step, or the end. -/
theorem Er.inv {k : Nat} {R S U V S' V' : Pol} {n d : Nat} (h : Er k R S U V n S' V') (hd : Dg d S) :
    (d ≤ k ∧ n = 0 ∧ S' = S ∧ V' = V) ∨ ∃ e m q t, d = e + 1 ∧ k ≤ e ∧ n = m + 1 ∧ Fin q ∧ Bd e t ∧ R = add (mul q S) t ∧ Er k S t V (add U (mul q V)) m S' V' := by
  cases h with
  | done hd' hk => exact .inl ⟨by rw [hd.unique hd']; exact hk, rfl, rfl, rfl⟩
  | next hd' hk hq ht heq hr => exact .inr ⟨_, _, _, _, hd.unique hd', hk, rfl, hq, ht, heq, hr⟩
/-- What Euclid's steps tell of two lists. -/
structure IsRun (xs ys : List Nat) (k : Nat) (ss vs : List Nat) (n : Nat) : Prop where
  er : Er k (ofL xs) (ofL ys) zero one n (ofL ss) (ofL vs)
  s : IsN ss (ofL ss)
  v : IsN vs (ofL vs)
theorem isRun_exists (k : Nat) (xs ys : List Nat) : ∃ ss vs n, IsRun xs ys k ss vs n := by
  obtain ⟨d, -, hd⟩ := Pol.dg_list ys
  obtain ⟨n, S, V, h⟩ := er_exists k d (ofL xs) (ofL ys) zero one (Fin.ofL xs) hd
  obtain ⟨e, he, -⟩ := h.bd
  obtain ⟨m, hm⟩ := h.fin Fin.zero Fin.one
  obtain ⟨ss, h1, -⟩ := Pol.isN_of_bd he.bd
  obtain ⟨vs, h2, -⟩ := Pol.isN_of_bd hm
  exact ⟨ss, vs, n, by rw [h1.eq, h2.eq]; exact h, by rw [h1.eq]; exact h1, by rw [h2.eq]; exact h2⟩
theorem IsRun.unique {xs ys ss vs ss' vs' : List Nat} {k n m : Nat} (h : IsRun xs ys k ss vs n) (h' : IsRun xs ys k ss' vs' m) : ss = ss' ∧ vs = vs' ∧ n = m := by
  obtain ⟨e1, e2, e3⟩ := h.er.unique h'.er
  exact ⟨h.s.unique (by rw [e2]; exact h'.s), h.v.unique (by rw [e3]; exact h'.v), e1⟩
theorem Er.gr {k C : Nat} {R S U V S' V' : Pol} {n : Nat} (h : Er k R S U V n S' V') : ∀ {r s u v : Nat}, Gr C R S U V r s u v → Bd C V' := by
  induction h with
  | done _ _ => intro r s u v g; exact g.bv.mono_le (by have := g.vs; omega)
  | @next R S U V q t S' V' e n hd hk hq ht heq _ ih =>
    intro r s u v g
    obtain rfl : s = e + 1 := g.ds.unique hd
    obtain ⟨s', v', _, g'⟩ := g.step hq ht heq
    exact ih g'
theorem IsRun.lenV {xs ys ss vs : List Nat} {k n : Nat} (h : IsRun xs ys k ss vs n) : vs.length ≤ xs.length + ys.length + 1 := by
  obtain ⟨a, ha, hda⟩ := Pol.dg_list xs
  obtain ⟨b, hb, hdb⟩ := Pol.dg_list ys
  have h1 := h.v.dg.le (h.er.gr (Gr.start hda hdb))
  omega
/-- x to the power of M, as a list. -/
def xM (M : Nat) : List Nat := List.replicate M 0 ++ [1]
theorem xM_ofL (M : Nat) : ofL (xM M) = Pol.mono M 1 := by
  unfold xM
  rw [Pol.ofL_up]
  funext i
  show (if M ≤ i then ofL [1] (i - M) else 0) = (if i = M then (1 : GF) else 0)
  by_cases h : i = M
  · subst h; rw [if_pos (Nat.le_refl _), if_pos rfl, Nat.sub_self]; rfl
  · rw [if_neg h]
    by_cases h2 : M ≤ i
    · rw [if_pos h2]
      obtain ⟨j, hj⟩ : ∃ j, i - M = j + 1 := ⟨i - M - 1, by omega⟩
      rw [hj]; rfl
    · rw [if_neg h2]
theorem xM_length (M : Nat) : (xM M).length = M + 1 := by unfold xM; rw [List.length_append, List.length_replicate]; rfl
theorem one_isN : IsN [1] one := ⟨fun _ => by decide, fun i => by
  match i with
  | 0 => exact (by decide : (1 : Nat) < 256)
  | i + 1 => exact (by decide : (0 : Nat) < 256), by
  funext i
  unfold Pol.ofL Pol.one
  match i with
  | 0 => rfl
  | i + 1 => rfl⟩
theorem xM_isN (M : Nat) : IsN (xM M) (Pol.mono M 1) := by
  have hb : Byt (xM M) := Pol.byt_append (Pol.byt_rep M) one_isN.byt
  refine ⟨fun _ => ?_, hb, xM_ofL M⟩
  rw [xM_length]
  show (xM M).getD (M + 1 - 1) 0 ≠ 0
  unfold xM
  rw [Pol.getD_append, if_neg (by rw [List.length_replicate]; omega), List.length_replicate, show M + 1 - 1 - M = 0 by omega]
  decide
/-- What Key tells of a list and how many are erased. -/
def IsKey (ts : List Nat) (z : Int) (ls es : List Nat) (b : Bool) : Prop :=
  (b = true ∧ 0 ≤ z ∧ z ≤ ts.length ∧ ∃ ss vs n, IsRun (xM ts.length) ts ((ts.length + z.toNat + 1) / 2) ss vs n ∧ ofL vs 0 ≠ 0 ∧ IsN ls (smul (GF.inv (ofL vs 0)) (ofL vs)) ∧ IsN es (smul (GF.inv (ofL vs 0)) (ofL ss))) ∨
  (b = false ∧ ls = [] ∧ es = [] ∧ (z < 0 ∨ ts.length < z ∨ ∃ ss vs n, IsRun (xM ts.length) ts ((ts.length + z.toNat + 1) / 2) ss vs n ∧ ofL vs 0 = 0))
theorem isKey_exists (ts : List Nat) (z : Int) : ∃ ls es b, IsKey ts z ls es b := by
  by_cases h1 : z < 0
  · exact ⟨[], [], false, .inr ⟨rfl, rfl, rfl, .inl h1⟩⟩
  · by_cases h2 : ts.length < z
    · exact ⟨[], [], false, .inr ⟨rfl, rfl, rfl, .inr (.inl h2)⟩⟩
    · obtain ⟨ss, vs, n, h⟩ := isRun_exists ((ts.length + z.toNat + 1) / 2) (xM ts.length) ts
      by_cases h3 : ofL vs 0 = 0
      · exact ⟨[], [], false, .inr ⟨rfl, rfl, rfl, .inr (.inr ⟨ss, vs, n, h, h3⟩)⟩⟩
      · obtain ⟨ls, hl, -⟩ := Pol.isN_of_bd ((Pol.ofL_bd vs).smul (GF.inv (ofL vs 0)))
        obtain ⟨es, he, -⟩ := Pol.isN_of_bd ((Pol.ofL_bd ss).smul (GF.inv (ofL vs 0)))
        exact ⟨ls, es, true, .inl ⟨rfl, by omega, by omega, ss, vs, n, h, h3, hl, he⟩⟩
theorem IsKey.unique {ts ls es ls' es' : List Nat} {z : Int} {b b' : Bool} (h : IsKey ts z ls es b) (h' : IsKey ts z ls' es' b') : ls = ls' ∧ es = es' ∧ b = b' := by
  rcases h with ⟨rfl, a1, a2, ss, vs, n, a3, a4, a5, a6⟩ | ⟨rfl, rfl, rfl, a1⟩
  · rcases h' with ⟨rfl, b1, b2, ss', vs', n', b3, b4, b5, b6⟩ | ⟨rfl, rfl, rfl, b1⟩
    · obtain ⟨rfl, rfl, rfl⟩ := a3.unique b3
      exact ⟨a5.unique b5, a6.unique b6, rfl⟩
    · rcases b1 with b1 | b1 | ⟨ss', vs', n', b3, b4⟩
      · omega
      · omega
      · obtain ⟨rfl, rfl, rfl⟩ := a3.unique b3
        exact absurd b4 a4
  · rcases h' with ⟨rfl, b1, b2, ss', vs', n', b3, b4, b5, b6⟩ | ⟨rfl, rfl, rfl, b1⟩
    · rcases a1 with a1 | a1 | ⟨ss, vs, n, a3, a4⟩
      · omega
      · omega
      · obtain ⟨rfl, rfl, rfl⟩ := a3.unique b3
        exact absurd a4 b4
    · exact ⟨rfl, rfl, rfl⟩
theorem IsKey.byt {ts ls es : List Nat} {z : Int} {b : Bool} (h : IsKey ts z ls es b) : Byt ls ∧ Byt es := by
  rcases h with ⟨_, _, _, _, _, _, _, _, h5, h6⟩ | ⟨_, rfl, rfl, _⟩
  · exact ⟨h5.byt, h6.byt⟩
  · exact ⟨Pol.byt_nil, Pol.byt_nil⟩

/-! ## What the laws ask -/
/-- EuclidRest. -/
theorem IsRun.rest {xs ys ss vs : List Nat} {k n : Nat} (h : IsRun xs ys k ss vs n) : ∃ Q, Fin Q ∧ add (mul (ofL vs) (ofL ys)) (ofL ss) = mul Q (ofL xs) := h.er.rest0
theorem IsRun.short {xs ys ss vs : List Nat} {k n : Nat} (h : IsRun xs ys k ss vs n) : ss.length ≤ k := by
  obtain ⟨d, hd, hk⟩ := h.er.bd
  rw [h.s.len hd]; exact hk
/-- EuclidEnds. -/
theorem IsRun.count {xs ys ss vs : List Nat} {k n d : Nat} (h : IsRun xs ys k ss vs n) (hd : Dg d (ofL ys)) : n ≤ d := h.er.count d hd
theorem IsRun.stop {xs ys ss vs ss' vs' : List Nat} {k l n m : Nat} (hkl : k ≤ l) (h : IsRun xs ys k ss vs n) (h' : IsRun xs ys l ss' vs' m) : m ≤ n := h.er.stop hkl h'.er
/-- EuclidScaled. -/
theorem IsRun.scale {xs ys ss vs xs' ys' ss' vs' : List Nat} {k n m : Nat} {x : GF} (hx : x ≠ 0) (h : IsRun xs ys k ss vs n) (ex : ofL xs' = smul x (ofL xs)) (ey : ofL ys' = smul x (ofL ys)) (h' : IsRun xs' ys' k ss' vs' m) : n = m ∧ ofL ss' = smul x (ofL ss) ∧ vs = vs' := by
  have h1 := h.er.scale hx
  rw [← ex, ← ey] at h1
  obtain ⟨e1, e2, e3⟩ := h1.unique h'.er
  exact ⟨e1, e2.symm, h.v.unique (by rw [e3]; exact h'.v)⟩
/-- EuclidKey. -/
theorem key_made {own fs rs ls es : List Nat} {N L : Nat} {b : Bool} (_hf : Byt fs) (h2 : 2 * own.length ≤ N) (hm : Ms.IsMas (Ms.mdL own fs N) rs L) (h : IsKey (Ms.mdL own fs N) 0 ls es b) :
    b = true ∧ ls = rs ∧ IsN es (Pol.cut N (mul (ofL (Ms.mdL own fs N)) (ofL ls))) := by
  have hl := Ms.mdL_length own fs N
  have hreg := hm.reg
  have hlst := hm.least
  rw [hl] at hreg hlst
  have hL := hlst.least _ _ (Ms.made_mk (l := own) (first := fs) (show own.length ≤ N by omega))
  have hbd : Bd N (ofL (Ms.mdL own fs N)) := by have := Pol.ofL_bd (Ms.mdL own fs N); rw [hl] at this; exact this
  have key : ∀ {ss vs : List Nat} {n : Nat}, IsRun (xM (Ms.mdL own fs N).length) (Ms.mdL own fs N) (((Ms.mdL own fs N).length + (0 : Int).toNat + 1) / 2) ss vs n → ofL vs 0 ≠ 0 ∧ smul (GF.inv (ofL vs 0)) (ofL vs) = ofL rs ∧ smul (GF.inv (ofL vs 0)) (ofL ss) = Pol.cut N (mul (ofL (Ms.mdL own fs N)) (ofL rs)) := fun {ss vs n} hr => by
    have he := hr.er
    rw [xM_ofL, hl] at he
    exact key_reg hbd hlst hreg (by omega) (by simp) he
  rcases h with ⟨rfl, _, _, ss, vs, n, a3, a4, a5, a6⟩ | ⟨rfl, rfl, rfl, a1⟩
  · obtain ⟨_, k2, k3⟩ := key a3
    rw [k2] at a5
    rw [k3] at a6
    have e := a5.unique hm.nrm
    subst e
    exact ⟨rfl, rfl, a6⟩
  · rcases a1 with a1 | a1 | ⟨ss, vs, n, b3, b4⟩
    · omega
    · omega
    · exact absurd b4 (key b3).1
end Eu
end Go.Proofs
/- The chapter's example of Euclid's steps: the key of 1, 2, 4, 8. Nothing of the program. -/
namespace Go.Proofs
namespace Eu
open Pol (ofL toL Byt Bd mul add zero one smul Dg Fin IsN)
theorem made_1248 : Ms.mdL [2] [1] 4 = [1, 2, 4, 8] := by decide +kernel
theorem cut_1248 : Pol.cut 4 (mul (ofL [1, 2, 4, 8]) (ofL [1, 2])) = one := by
  funext i
  unfold Pol.cut
  by_cases h : i < 4
  · rw [if_pos h]
    by_cases h0 : i = 0
    · subst h0; rw [Pol.mul_0]; decide +kernel
    · rw [Pol.mul_comm, Ms.mk_1248.run i (by omega) h]
      show _ = (if i = 0 then (1 : GF) else 0)
      rw [if_neg h0]
  · rw [if_neg h]
    show _ = (if i = 0 then (1 : GF) else 0)
    rw [if_neg (by omega)]
theorem isKey_1248 {ls es : List Nat} {b : Bool} (h : IsKey [1, 2, 4, 8] 0 ls es b) : ls = [1, 2] ∧ es = [1] ∧ b = true := by
  rw [← made_1248] at h
  obtain ⟨h1, h2, h3⟩ := key_made (rs := [1, 2]) (L := 1) (fun i => by
    match i with
    | 0 => exact (by decide : (1 : Nat) < 256)
    | i + 1 => exact (by decide : (0 : Nat) < 256)) (by decide) (made_1248 ▸ Ms.isMas_1248) h
  rw [made_1248, h2, cut_1248] at h3
  exact ⟨h2, h3.unique one_isN, h1⟩
theorem isKey_12 {ls es : List Nat} {b : Bool} (h : IsKey [1] 2 ls es b) : b = false := by
  rcases h with ⟨_, _, h1, _⟩ | ⟨h1, _⟩
  · exact absurd h1 (by decide)
  · exact h1
end Eu
end Go.Proofs
