/- The walks of field's backend of shifts, for single bytes: Mul, Inv, Pow. Conditions: bytes; an int. -/
import Derived.Test.YtphhehppcfddgaaGreatShE
namespace Go.Proofs
open Go.RowKit
set_option maxRecDepth 100000 in
set_option maxHeartbeats 1000000 in
theorem bsinv_calls (a : Nat) (ha : a < 256) (w : World) :
    Calls Tryz.prog 99 #[.agg #[], .int .u8 a] w fun e w' => e = .returned (.tuple #[.int .u8 (Gf.inv a : Nat), .bool (a != 0)]) ∧ Below w.heap.size w w' := by
  go_enter Tryz.func99, Tryz.ntmps99
  go_wp2_with (go_at_call 104; refine (inv_e a _ _ ha rfl rfl _).mono ?_; rintro e w1 ⟨rfl, hb1⟩)
  go_ret2
  exact ⟨rfl, ((Below.refl _ w).alloc (Nat.le_refl _) _).trans (hb1.mono (by simp))⟩
end Go.Proofs
