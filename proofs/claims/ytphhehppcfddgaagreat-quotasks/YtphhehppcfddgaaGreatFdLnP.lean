/- The walk of field's backend of lanes, for pairs of lists. Conditions: lists of one length, of at most a thousand million bytes, no longer than their capacities. -/
import Derived.Test.YtphhehppcfddgaaGreatFdLnL
namespace Go.Proofs
open Go.RowKit Go.Shelf Go.ChangeShapes Go.WideShapes
attribute [local go_sem] Oper.semAt_some
attribute [local go_sem ↓ high] builtin_ap
attribute [local go_sem] ap_sem

/-- The products of pairs of the parts that have come: the other list goes on where the products end. -/
def pairsF (xs ys : List Nat) (n : Nat) (pre : List (Ck n)) : List Nat := pre.foldl (fun acc x => acc ++ (List.range (ckn n x.1)).map fun i => Gf.mul (xs.getD (64 * x.1 + i) 0) (ys.getD (acc.length + i) 0)) []
theorem pairsF_snoc (xs ys : List Nat) (n : Nat) (pre : List (Ck n)) (x : Ck n) : pairsF xs ys n (pre ++ [x]) = pairsF xs ys n pre ++ (List.range (ckn n x.1)).map fun i => Gf.mul (xs.getD (64 * x.1 + i) 0) (ys.getD ((pairsF xs ys n pre).length + i) 0) := by simp [pairsF]
theorem pairsF_len (xs ys : List Nat) (n : Nat) (pre : List (Ck n)) : ∀ acc : List Nat, (pre.foldl (fun acc x => acc ++ (List.range (ckn n x.1)).map fun i => Gf.mul (xs.getD (64 * x.1 + i) 0) (ys.getD (acc.length + i) 0)) acc).length ≤ acc.length + 64 * pre.length := by
  induction pre with
  | nil => intro acc; simp
  | cons x l ih =>
    intro acc
    refine Nat.le_trans (ih _) ?_
    simp only [List.length_append, List.length_map, List.length_range, List.length_cons]
    have := ckn_le n x.1
    omega
theorem pairsF_length (xs ys : List Nat) (n : Nat) (pre : List (Ck n)) : (pairsF xs ys n pre).length ≤ 64 * pre.length := by
  have := pairsF_len xs ys n pre []
  rw [List.length_nil, Nat.zero_add] at this
  exact this
theorem pairsF_upto (xs ys : List Nat) (n k : Nat) : pairsF xs ys n (ckUpto n k) = (List.range (min n (64 * k))).map fun i => Gf.mul (xs.getD i 0) (ys.getD i 0) := by
  induction k with
  | zero => simp [ckUpto, pairsF]
  | succ k ih =>
    by_cases h : 64 * k < n
    · have e : ckUpto n (k + 1) = ckUpto n k ++ [⟨k, h⟩] := by simp [ckUpto, h]
      rw [e, pairsF_snoc, ih]
      have e1 : min n (64 * k) = 64 * k := by omega
      have e2 : min n (64 * (k + 1)) = 64 * k + ckn n k := by unfold ckn; omega
      rw [e1, e2, List.range_add, List.map_append, List.map_map, List.length_map, List.length_range]
      rfl
    · have e : ckUpto n (k + 1) = ckUpto n k := by simp [ckUpto, h]
      rw [e, ih]
      have e1 : min n (64 * k) = min n (64 * (k + 1)) := by omega
      rw [e1]
theorem pairsF_all (xs ys : List Nat) (n : Nat) (hx : xs.length = n) (hy : ys.length = n) : pairsF xs ys n (ckUpto n ((n + 63) / 64)) = List.zipWith Gf.mul xs ys := by
  rw [pairsF_upto]
  have e : min n (64 * ((n + 63) / 64)) = n := by omega
  rw [e, ← hx]
  exact range_zip Gf.mul xs ys (by omega)

end Go.Proofs
