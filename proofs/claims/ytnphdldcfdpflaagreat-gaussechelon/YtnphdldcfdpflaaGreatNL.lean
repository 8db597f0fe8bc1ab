/- A row's multiple laid onto another one, cell by cell. Mathematics alone. -/
import Derived.Test.YtnphdldcfdpflaaGreatMN
namespace Go.Proofs
namespace Mx
/-- The first t cells of row p have got a times row q's. -/
def adk (C p q a t : Nat) (xs : List Nat) : List Nat := (List.range xs.length).map fun z => if z / C = p ∧ z % C < t then xs.getD z 0 ^^^ Gf.mul a (xs.getD (q * C + z % C) 0) else xs.getD z 0
theorem adk_length (C p q a t : Nat) (xs : List Nat) : (adk C p q a t xs).length = xs.length := by simp [adk]
theorem adk_zero (C p q a : Nat) (xs : List Nat) : adk C p q a 0 xs = xs := by
  refine List.ext_getElem (adk_length _ _ _ _ _ _) fun i h1 h2 => ?_
  simp [adk, List.getD_eq_getElem?_getD, h2]
theorem adk_full {R C p q a : Nat} {xs : List Nat} (hl : xs.length = R * C) (hpq : p ≠ q) : adk C p q a C xs = addRow C p q a xs := by
  unfold adk addRow
  refine List.map_congr_left fun z hz => ?_
  rw [List.mem_range, hl] at hz
  have hC : 0 < C := by
    rcases Nat.eq_zero_or_pos C with h | h
    · subst h; omega
    · exact h
  have := Nat.mod_lt z hC
  by_cases h : z / C = p
  · rw [if_pos ⟨h, this⟩, if_pos ⟨h, hpq⟩]
  · rw [if_neg (fun k => h k.1), if_neg (fun k => h k.1)]
theorem adk_succ {C p q a t : Nat} {xs : List Nat} (ht : t < C) : (adk C p q a t xs).set (p * C + t) (xs.getD (p * C + t) 0 ^^^ Gf.mul a (xs.getD (q * C + t) 0)) = adk C p q a (t + 1) xs := by
  refine List.ext_getElem (by simp [adk_length]) fun i h1 h2 => ?_
  rw [List.getElem_set]
  simp only [adk, List.getElem_map, List.getElem_range]
  by_cases e : p * C + t = i
  · subst e
    have e1 : (p * C + t) / C = p := cell_div ht
    have e2 : (p * C + t) % C = t := cell_mod ht
    rw [if_pos rfl, if_pos ⟨e1, by omega⟩, e2]
  · rw [if_neg e]
    have hne : ¬ (i / C = p ∧ i % C = t) := fun ⟨h3, h4⟩ => e (by rw [← h3, ← h4]; exact Nat.div_add_mod' i C)
    by_cases h : i / C = p ∧ i % C < t
    · rw [if_pos h, if_pos ⟨h.1, by omega⟩]
    · rw [if_neg h, if_neg]
      rintro ⟨h3, h4⟩
      by_cases h5 : i % C < t
      · exact h ⟨h3, h5⟩
      · exact hne ⟨h3, by omega⟩
theorem adk_byt {C p q a t : Nat} {xs : List Nat} (hb : Pol.Byt xs) (ha : a < 256) : Pol.Byt (adk C p q a t xs) := fun i => by
  by_cases h : i < xs.length
  · have e : (adk C p q a t xs).getD i 0 = if i / C = p ∧ i % C < t then xs.getD i 0 ^^^ Gf.mul a (xs.getD (q * C + i % C) 0) else xs.getD i 0 := by
      unfold adk; rw [getD_range_map _ _ _ h]
    rw [e]
    split
    · exact Nat.xor_lt_two_pow (n := 8) (hb _) (Gf.mul_lt _ _ ha)
    · exact hb _
  · have : xs.length ≤ i := by omega
    simp [List.getD_eq_getElem?_getD, adk_length, this]
end Mx
end Go.Proofs
