/- The walk of encode.Encode. Conditions: any code; a field that Of has made, or none; a message that does not lie in its table. -/
import Derived.Test.YtjnkkokhkooegaaGreatOD
import Derived.Test.YtjnkkokhkooegaaGreatOA
import Derived.Test.YtjnkkokhkooegaaGreatNX
import Derived.Test.YtjnkkokhkooegaaGreatNU
import Derived.Test.YtjnkkokhkooegaaGreatMK
namespace Go.Proofs
open Go.RowKit Go.ChangeShapes Go.WideShapes
open Pol (IsN Dg ofL Byt)
attribute [local go_sem ↓ high] builtin_ap
attribute [local go_sem] ap_sem

/-! ## What is told -/
theorem ofL_up (S : Nat) (xs : List Nat) : ofL (List.replicate S 0 ++ xs) = Pol.up S (ofL xs) := by
  funext i
  show GF.of ((List.replicate S 0 ++ xs).getD i 0) = _
  rw [Pol.getD_append, List.length_replicate]
  unfold Pol.up
  by_cases hi : i < S
  · rw [if_pos hi, if_neg (by omega)]
    simp [List.getD, hi]; rfl
  · rw [if_neg hi, if_pos (by omega)]; rfl
theorem gen_dg (B S : Nat) : Dg (S + 1) (ofL (Cd.gen B S)) := by have := (Cd.gen_isN B S).dg; rw [Cd.gen_length, ← (Cd.gen_isN B S).eq] at this; exact this
end Go.Proofs
