/- What division by a monic polynomial does to two lists, place by place. Nothing of the program. -/
import Derived.Test.YtphhehppcfddgaaGreatPolyL
import Derived.Test.YtphhehppcfddgaaGreatPolyD
namespace Go.Proofs
open Pol (IsN Dg ofL Byt Mon)
theorem getD_setq (s : List Nat) (i v k : Nat) : (s.set i v).getD k 0 = if i = k ∧ k < s.length then v else s.getD k 0 := by
  simp only [List.getD, List.getElem?_set]
  by_cases h : i = k
  · subst h
    by_cases hl : i < s.length
    · rw [if_pos rfl, if_pos hl, if_pos ⟨rfl, hl⟩]; rfl
    · rw [if_pos rfl, if_neg hl, if_neg (fun c => hl c.2)]
      simp [List.getElem?_eq_none (show s.length ≤ i by omega)]
  · rw [if_neg h, if_neg (fun c => h c.1)]
theorem byt_setq {s : List Nat} (hs : Byt s) {k v : Nat} (hv : v < 256) : Byt (s.set k v) := fun i => by
  rw [getD_setq]
  split
  · exact hv
  · exact hs i
/-- A place that held nothing is written. -/
theorem ofL_setq {s : List Nat} {k v : Nat} (hk : k < s.length) (h0 : s.getD k 0 = 0) : ofL (s.set k v) = Pol.add (ofL s) (Pol.mono k (GF.of v)) := by
  funext i
  show GF.of _ = GF.of _ + (if i = k then GF.of v else 0)
  rw [getD_setq]
  by_cases h : i = k
  · subst h
    rw [if_pos ⟨rfl, hk⟩, if_pos rfl, h0, GF.of_zero, GF.zero_add]
  · rw [if_neg (fun c => h c.1.symm), if_neg h, GF.add_zero]
/-- A byte is added at a place. -/
theorem ofL_addq {s : List Nat} (hs : Byt s) {k v : Nat} (hk : k < s.length) (hv : v < 256) : ofL (s.set k (s.getD k 0 ^^^ v)) = Pol.add (ofL s) (Pol.mono k (GF.of v)) := by
  funext i
  show GF.of _ = GF.of _ + (if i = k then GF.of v else 0)
  rw [getD_setq]
  by_cases h : i = k
  · subst h
    rw [if_pos ⟨rfl, hk⟩, if_pos rfl, GF.of_xor _ _ (hs i) hv]
  · rw [if_neg (fun c => h c.1.symm), if_neg h, GF.add_zero]
theorem up_cut_succ (at' j : Nat) (Q : Pol) : Pol.up at' (Pol.cut (j + 1) Q) = Pol.add (Pol.up at' (Pol.cut j Q)) (Pol.mono (at' + j) (Q j)) := by
  funext k
  show (if at' ≤ k then (if k - at' < j + 1 then Q (k - at') else 0) else 0) = (if at' ≤ k then (if k - at' < j then Q (k - at') else 0) else 0) + (if k = at' + j then Q j else 0)
  by_cases h : at' ≤ k
  · rw [if_pos h, if_pos h]
    by_cases h1 : k = at' + j
    · subst h1
      rw [if_pos (by omega), if_neg (by omega), if_pos rfl, show at' + j - at' = j by omega, GF.zero_add]
    · rw [if_neg h1, GF.add_zero]
      by_cases h2 : k - at' < j
      · rw [if_pos (by omega), if_pos h2]
      · rw [if_neg (by omega), if_neg h2]
  · rw [if_neg h, if_neg h, if_neg (by omega), GF.add_zero]
theorem up_cut_zero (at' : Nat) (Q : Pol) : Pol.up at' (Pol.cut 0 Q) = Pol.zero := by
  rw [Pol.cut_zero]
  funext k
  show (if at' ≤ k then (0 : GF) else 0) = 0
  split <;> rfl
/-- The top coefficient goes off a list that is shortened by it. -/
theorem cut_top {L : Nat} {p : Pol} (h : Pol.Bd (L + 1) p) : p = Pol.add (Pol.cut L p) (Pol.mono L (p L)) := by
  funext i
  show p i = (if i < L then p i else 0) + (if i = L then p L else 0)
  by_cases h1 : i < L
  · rw [if_pos h1, if_neg (by omega), GF.add_zero]
  · by_cases h2 : i = L
    · subst h2; rw [if_neg h1, if_pos rfl, GF.zero_add]
    · rw [if_neg h1, if_neg h2, GF.add_zero, h i (by omega)]
theorem cut_add (L : Nat) (p q : Pol) : Pol.cut L (Pol.add p q) = Pol.add (Pol.cut L p) (Pol.cut L q) := by
  funext i
  show (if i < L then p i + q i else 0) = (if i < L then p i else 0) + (if i < L then q i else 0)
  by_cases h : i < L
  · rw [if_pos h, if_pos h, if_pos h]
  · rw [if_neg h, if_neg h, if_neg h, GF.add_zero]
theorem up_add' (k : Nat) (p q : Pol) : Pol.up k (Pol.add p q) = Pol.add (Pol.up k p) (Pol.up k q) := by
  funext i
  show (if k ≤ i then p (i - k) + q (i - k) else 0) = (if k ≤ i then p (i - k) else 0) + (if k ≤ i then q (i - k) else 0)
  by_cases h : k ≤ i
  · rw [if_pos h, if_pos h, if_pos h]
  · rw [if_neg h, if_neg h, if_neg h, GF.add_zero]
theorem up_mono (k m : Nat) (a : GF) : Pol.up k (Pol.mono m a) = Pol.mono (k + m) a := by
  funext i
  show (if k ≤ i then (if i - k = m then a else 0) else 0) = if i = k + m then a else 0
  by_cases h : k ≤ i
  · rw [if_pos h]
    by_cases h1 : i = k + m
    · rw [if_pos (by omega), if_pos h1]
    · rw [if_neg (by omega), if_neg h1]
  · rw [if_neg h, if_neg (by omega)]
theorem smul_mono (m : Nat) (a b : GF) : Pol.smul a (Pol.mono m b) = Pol.mono m (a * b) := by
  funext i
  show a * (if i = m then b else 0) = if i = m then a * b else 0
  split
  · rfl
  · exact GF.mul_zero a
/-- One place of the division: what was on top is taken off, and told. -/
theorem bring_step {P p : Pol} {m at' a : Nat} {s s' ts low : List Nat} (hP : P = Pol.add (Pol.mono m 1) (ofL low)) (hlow : low.length = m) (hl : s.length = at' + m + 1)
    (ha : s.getD (at' + m) 0 = a) (hs' : ofL s' = Pol.add (ofL s) (Pol.up at' (Pol.smul (GF.of a) (ofL low)))) (hts : at' < ts.length) (h0 : ts.getD at' 0 = 0)
    (e : Pol.add (Pol.mul (ofL ts) P) (ofL s) = p) : Pol.add (Pol.mul (ofL (ts.set at' a)) P) (ofL (s'.take (at' + m))) = p := by
  have hX : Pol.Bd (at' + m) (Pol.up at' (Pol.smul (GF.of a) (ofL low))) := by
    have := ((Pol.ofL_bd low).smul (GF.of a)).up at'
    rw [hlow, Nat.add_comm] at this
    exact this
  have h1 : ofL s = Pol.add (Pol.cut (at' + m) (ofL s)) (Pol.mono (at' + m) (GF.of a)) := by
    have := cut_top (L := at' + m) (p := ofL s) (by have := Pol.ofL_bd s; rwa [hl] at this)
    rw [show ofL s (at' + m) = GF.of a by show GF.of _ = _; rw [ha]] at this
    exact this
  have h2 : Pol.up at' (Pol.smul (GF.of a) P) = Pol.add (Pol.mono (at' + m) (GF.of a)) (Pol.up at' (Pol.smul (GF.of a) (ofL low))) := by
    rw [hP, Pol.smul_add, up_add', smul_mono, up_mono, GF.mul_one]
  rw [Pol.ofL_take, hs', cut_add, Pol.cut_bd hX, ofL_setq hts h0, Pol.add_mul, Pol.mono_mul, h2, ← e]
  conv => rhs; rw [h1]
  funext i
  show (Pol.mul (ofL ts) P i + (Pol.mono (at' + m) (GF.of a) i + Pol.up at' (Pol.smul (GF.of a) (ofL low)) i)) + (Pol.cut (at' + m) (ofL s) i + Pol.up at' (Pol.smul (GF.of a) (ofL low)) i) = Pol.mul (ofL ts) P i + (Pol.cut (at' + m) (ofL s) i + Pol.mono (at' + m) (GF.of a) i)
  generalize Pol.mul (ofL ts) P i = x
  generalize Pol.mono (at' + m) (GF.of a) i = y
  generalize Pol.up at' (Pol.smul (GF.of a) (ofL low)) i = z
  generalize Pol.cut (at' + m) (ofL s) i = u
  rw [show x + (y + z) + (u + z) = (x + (u + y)) + (z + z) by ac_rfl, GF.add_self, GF.add_zero]
theorem bring_zero {s : List Nat} {L : Nat} (hl : s.length = L + 1) (h0 : s.getD L 0 = 0) : ofL (s.take L) = ofL s := by
  rw [Pol.ofL_take, Pol.cut_bd]
  intro i hi
  rcases Nat.lt_or_ge L i with h | h
  · exact Pol.ofL_bd s i (by omega)
  · obtain rfl : i = L := by omega
    show GF.of _ = 0
    rw [h0]; rfl
/-- A monic list is its front, and 1. -/
theorem mon_front {bs : List Nat} {m : Nat} (hl : bs.length = m + 1) (h : Mon m (ofL bs)) : ofL bs = Pol.add (Pol.mono m 1) (ofL (bs.take m)) := by
  rw [Pol.add_comm, Pol.ofL_take]
  have := cut_top (L := m) (p := ofL bs) (by have := Pol.ofL_bd bs; rwa [hl] at this)
  rw [h.2] at this
  exact this
end Go.Proofs
