/- The walk of erratumref01.Div. Condition: bytes. -/
import Derived.Test.YtnphdldcfdpflaaGreatMF
import Derived.Test.YtnphdldcfdpflaaGreatMC
namespace Go.Proofs
open Go.RowKit Go.ChangeShapes Go.WideShapes

set_option maxRecDepth 100000 in
set_option maxHeartbeats 1000000 in
theorem rdiv_calls (a b : Nat) (ha : a < 256) (hb : b < 256) (w : World) :
    Calls Tryz.prog 66 #[.int .u8 a, .int .u8 b] w fun e w' => e = .returned (.int .u8 (Gf.div a b : Nat)) ∧ w' = w := by
  have K : Hid (∀ w, Calls Tryz.prog 26 #[.int .u8 a, .int .u8 (Gf.inv b : Nat)] w fun e w' => e = .returned (.int .u8 (Gf.div a b : Nat)) ∧ w' = w) := fun w => rmul_calls a (Gf.inv b) ha w
  go_enter Tryz.func66, Tryz.ntmps66
  go_wp2_with (first | (go_at_call 72; refine (rinv_calls b hb _).mono ?_; rintro e w1 ⟨rfl, rfl⟩) | (go_at_call 26; refine (K.out _).mono ?_; rintro e w1 ⟨rfl, rfl⟩))
  go_ret
  exact ⟨rfl, rfl⟩
end Go.Proofs
