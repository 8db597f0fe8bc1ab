/- What comes to nothing, laid onto a column, changes nothing. Mathematics alone. -/
import Derived.Test.YtnphdldcfdpflaaGreatMN
namespace Go.Proofs
namespace Mx
open Pol (Byt ofL toL)
/-- The first t sums of two lists. -/
def xrL (t : Nat) (ys zs : List Nat) : List Nat := (List.range t).map fun i => ys.getD i 0 ^^^ zs.getD i 0
theorem xrL_zero (ys zs : List Nat) : xrL 0 ys zs = [] := rfl
theorem xrL_succ (t : Nat) (ys zs : List Nat) : xrL (t + 1) ys zs = xrL t ys zs ++ [ys.getD t 0 ^^^ zs.getD t 0] := by simp [xrL, List.range_succ]
theorem xrL_length (t : Nat) (ys zs : List Nat) : (xrL t ys zs).length = t := by simp [xrL]
theorem xrL_at {t : Nat} {ys zs : List Nat} {i : Nat} (h : i < t) : (xrL t ys zs).getD i 0 = ys.getD i 0 ^^^ zs.getD i 0 := by unfold xrL; rw [getD_range_map _ _ _ h]
theorem xrL_byt {t : Nat} {ys zs : List Nat} (hy : Byt ys) (hz : Byt zs) : Byt (xrL t ys zs) := fun i => by
  by_cases h : i < t
  · rw [xrL_at h]; exact Gf.xor_lt8 (hy i) (hz i)
  · have : (xrL t ys zs).length ≤ i := by rw [xrL_length]; omega
    simp [List.getD_eq_getElem?_getD, this]
theorem times_xr {R C : Nat} {xs ys zs : List Nat} (hy : Byt ys) (hz : Byt zs) (h : timesL R C xs ys = List.replicate R 0) : timesL R C xs (xrL C ys zs) = timesL R C xs zs := by
  refine List.ext_getElem (by rw [timesL_length, timesL_length]) fun i h1 h2 => ?_
  rw [timesL_length] at h1
  have h0 : dot C (mx C xs i) (ofL ys) = 0 := by
    rw [← timesL_at (R := R) h1, h]
    unfold Pol.ofL
    simp [List.getD_eq_getElem?_getD, h1]
    rfl
  have hs : dot C (mx C xs i) (ofL (xrL C ys zs)) = dot C (mx C xs i) (fun j => ofL ys j + ofL zs j) := by
    unfold dot
    refine sm_congr fun j hj => ?_
    unfold Pol.ofL
    rw [xrL_at hj, GF.of_xor _ _ (hy j) (hz j)]
  have e : dot C (mx C xs i) (ofL (xrL C ys zs)) = dot C (mx C xs i) (ofL zs) := by rw [hs, dot_add, h0, GF.zero_add]
  simp only [timesL, Pol.toL, List.getElem_map, List.getElem_range]
  rw [e]
/-- One of the lists of what comes to nothing. -/
theorem null_mem {R C : Nat} {xs ys L v : List Nat} (h : IsEch R C xs ys L) (hv : v ∈ nullL C ys L) : v.length = C ∧ Byt v ∧ timesL R C xs v = List.replicate R 0 := by
  unfold nullL at hv
  obtain ⟨c, hc, rfl⟩ := List.mem_map.1 hv
  exact ⟨Pol.toL_length _ _, Pol.toL_byt _ _, nulL_times h hc⟩
end Mx
end Go.Proofs
