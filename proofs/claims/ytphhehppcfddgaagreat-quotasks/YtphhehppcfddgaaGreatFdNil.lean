/- The walks of a field's calls where there is no field. Conditions: none but that bytes are bytes. -/
import Derived.Test.YtphhehppcfddgaaGreatProg
import Derived.WalkKit
namespace Go.Proofs
open Go.RowKit
set_option maxRecDepth 100000 in
theorem finv_nil (a : Nat) (w : World) : Calls Tryz.prog 36 #[.pointer none, .int .u8 a] w fun e w' => e = .returned (.tuple #[.int .u8 0, .bool false]) ∧ w' = w := by
  go_enter Tryz.func36, Tryz.ntmps36
  go_wp2
  go_ret2
  exact ⟨rfl, rfl⟩
set_option maxRecDepth 100000 in
theorem feach_nil (a : Nat) (q : Option Addr) (n c : Nat) (w : World) : Calls Tryz.prog 39 #[.pointer none, .int .u8 a, .slice q n c] w fun e w' => e = .returned (.slice none 0 0) ∧ w' = w := by
  go_enter Tryz.func39, Tryz.ntmps39
  go_wp2
  go_ret
  exact ⟨rfl, rfl⟩
end Go.Proofs
