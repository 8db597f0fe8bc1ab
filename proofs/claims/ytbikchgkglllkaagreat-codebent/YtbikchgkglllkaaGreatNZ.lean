/- Texts laid together: Frl, Mk. Each says its own conditions. -/
import Derived.Test.YtbikchgkglllkaaGreatMA
import Derived.Test.YtbikchgkglllkaaGreatMH
import Derived.Test.YtbikchgkglllkaaGreatMG
/- A product of two zeros, written out. Nothing of the program. -/
namespace Go.Proofs
open Pol (IsN Dg ofL Byt vl frL)
theorem frL_12 : frL [1, 2] = [2, 3, 1] := by
  refine (Pol.frL_isN [1, 2]).unique ⟨fun _ => by decide, byt_lit rfl, ?_⟩
  have e : Pol.fr [1, 2] = Pol.add (Pol.up 1 (Pol.lin (GF.of 2))) (Pol.lin (GF.of 2)) := by
    show Pol.mul (Pol.lin (GF.of 1)) (Pol.mul (Pol.lin (GF.of 2)) Pol.one) = _
    rw [Pol.mul_one, Pol.lin_mul, GF.of_one, Pol.one_smul]
  rw [e]
  funext i
  match i with
  | 0 => rfl
  | 1 => rfl
  | 2 => rfl
  | n + 3 =>
    show GF.of ([2, 3, 1].getD (n + 3) 0) = (if 1 ≤ n + 3 then Pol.lin (GF.of 2) (n + 2) else 0) + Pol.lin (GF.of 2) (n + 3)
    rw [if_pos (by omega), (Pol.lin_mon _).1 _ (by omega), (Pol.lin_mon _).1 _ (by omega)]
    simp [List.getD]
    rfl
end Go.Proofs
/- make([]byte, n), read. Condition: a bound on n. -/
namespace Go.Proofs
open Go.RowKit
theorem bs_mk (W : World) (n : Nat) (hn : n ≤ 1000000) : Bs (W.alloc (.cells (madeCells #[.int .u8 0] n) 5)) (some ⟨W.heap.size, 0, none⟩) n (List.replicate n 0) := by
  obtain ⟨q, c, e, hb, -⟩ := (ow_made W (Nat.le_refl _) n (by omega)).tell (n := n) (Pol.byt_rep n) (by simp)
  cases e
  exact hb
end Go.Proofs
