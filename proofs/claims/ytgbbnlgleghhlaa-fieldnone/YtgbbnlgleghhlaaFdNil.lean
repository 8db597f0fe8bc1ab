/- The walks of a field's calls where there is no field. Conditions: none but that bytes are bytes. -/
import Derived.Test.YtgbbnlgleghhlaaProg
import Derived.WalkKit
namespace Go.Proofs
open Go.RowKit
set_option maxRecDepth 100000 in
theorem fbackend_nil (w : World) : Calls Try.prog 19 #[.pointer none] w fun e w' => e = .returned (.int .i64 0) ∧ w' = w := by
  go_enter Try.func19, Try.ntmps19
  go_wp2
  go_ret
  exact ⟨rfl, rfl⟩
set_option maxRecDepth 100000 in
theorem fmul_nil (a b : Nat) (w : World) : Calls Try.prog 12 #[.pointer none, .int .u8 a, .int .u8 b] w fun e w' => e = .returned (.int .u8 0) ∧ w' = w := by
  go_enter Try.func12, Try.ntmps12
  go_wp2
  go_ret
  exact ⟨rfl, rfl⟩
set_option maxRecDepth 100000 in
theorem finv_nil (a : Nat) (w : World) : Calls Try.prog 11 #[.pointer none, .int .u8 a] w fun e w' => e = .returned (.tuple #[.int .u8 0, .bool false]) ∧ w' = w := by
  go_enter Try.func11, Try.ntmps11
  go_wp2
  go_ret2
  exact ⟨rfl, rfl⟩
set_option maxRecDepth 100000 in
theorem fdiv_nil (a b : Nat) (w : World) : Calls Try.prog 18 #[.pointer none, .int .u8 a, .int .u8 b] w fun e w' => e = .returned (.tuple #[.int .u8 0, .bool false]) ∧ w' = w := by
  have hnot : ∀ (x : Bool) (w : World), (Op.unary .not (.bool x)).run Try.prog w = .ok (.bool (!x)) w := fun _ _ => rfl
  go_enter Try.func18, Try.ntmps18
  go_wp2_with (go_at_call 11; refine (finv_nil b _).mono ?_; rintro e w1 ⟨rfl, rfl⟩)
  go_ret2
  exact ⟨rfl, rfl⟩
set_option maxRecDepth 100000 in
theorem fpow_nil (a : Nat) (n : Int) (w : World) : Calls Try.prog 13 #[.pointer none, .int .u8 a, .int .i64 n] w fun e w' => e = .returned (.int .u8 0) ∧ w' = w := by
  go_enter Try.func13, Try.ntmps13
  go_wp2
  go_ret
  exact ⟨rfl, rfl⟩
set_option maxRecDepth 100000 in
theorem feach_nil (a : Nat) (q : Option Addr) (n c : Nat) (w : World) : Calls Try.prog 16 #[.pointer none, .int .u8 a, .slice q n c] w fun e w' => e = .returned (.slice none 0 0) ∧ w' = w := by
  go_enter Try.func16, Try.ntmps16
  go_wp2
  go_ret
  exact ⟨rfl, rfl⟩
set_option maxRecDepth 100000 in
theorem fpairs_nil (q p : Option Addr) (n c m d : Nat) (w : World) : Calls Try.prog 15 #[.pointer none, .slice q n c, .slice p m d] w fun e w' => e = .returned (.slice none 0 0) ∧ w' = w := by
  go_enter Try.func15, Try.ntmps15
  go_wp2
  go_ret
  exact ⟨rfl, rfl⟩
set_option maxRecDepth 100000 in
theorem fdot_nil (q p : Option Addr) (n c m d : Nat) (w : World) : Calls Try.prog 17 #[.pointer none, .slice q n c, .slice p m d] w fun e w' => e = .returned (.int .u8 0) ∧ w' = w := by
  go_enter Try.func17, Try.ntmps17
  go_wp2_with (go_at_call 15; refine (fpairs_nil q p n c m d _).mono ?_; rintro e w1 ⟨rfl, rfl⟩)
  go_loopw [7, 15] (fun s i wr => s = .int .u8 0 ∧ i = .int .i64 0 ∧ wr = w1) (fun _ _ _ => 0)
  case atStart => exact ⟨rfl, rfl, rfl⟩
  case round =>
    obtain ⟨rfl, rfl, rfl⟩ := hrel
    go_wp2
    go_ret
    exact ⟨rfl, rfl⟩
end Go.Proofs
