/- The walks of a field's calls where there is no field. Conditions: none but that bytes are bytes. -/
import Derived.Test.YtphhehppcfddgaaProg
import Derived.WalkKit
namespace Go.Proofs
open Go.RowKit
set_option maxRecDepth 100000 in
theorem finv_nil (a : Nat) (w : World) : Calls Try.prog 32 #[.pointer none, .int .u8 a] w fun e w' => e = .returned (.tuple #[.int .u8 0, .bool false]) ∧ w' = w := by
  go_enter Try.func32, Try.ntmps32
  go_wp2
  go_ret2
  exact ⟨rfl, rfl⟩
set_option maxRecDepth 100000 in
theorem feach_nil (a : Nat) (q : Option Addr) (n c : Nat) (w : World) : Calls Try.prog 30 #[.pointer none, .int .u8 a, .slice q n c] w fun e w' => e = .returned (.slice none 0 0) ∧ w' = w := by
  go_enter Try.func30, Try.ntmps30
  go_wp2
  go_ret
  exact ⟨rfl, rfl⟩
end Go.Proofs
