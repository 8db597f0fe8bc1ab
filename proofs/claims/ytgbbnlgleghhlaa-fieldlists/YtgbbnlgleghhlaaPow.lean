/- The walk of shift.Pow. Conditions: a byte; an int. -/
import Derived.Test.YtgbbnlgleghhlaaPower
import Derived.Test.YtgbbnlgleghhlaaGf2
namespace Go.Proofs
open Go.RowKit Go.Shelf

theorem neg_neg_wrap (m : Nat) (hm : m < 9223372036854775808) : IntKind.u64.wrap (-IntKind.u64.wrap (-(m : Int) - 1)) = ((m + 1 : Nat) : Int) := by
  simp only [IntKind.wrap_u64]
  omega

set_option maxHeartbeats 400000 in
theorem pow_pos_calls (a m : Nat) (ha : a < 256) (hm : m < 9223372036854775808) (w : World) :
    Calls Try.prog 95 #[.int .u8 a, .int .i64 (m : Int)] w fun e w' => e = .returned (.int .u8 (Gf.pow a m)) ∧ Below w.heap.size w w' := by
  go_enter Try.func95, Try.ntmps95
  go_wp2_with (go_at_call 96; refine (power_calls a m ha (by omega) _).mono ?_; rintro e w1 ⟨rfl, hb1⟩)
  go_ret
  exact ⟨rfl, hb1⟩
set_option maxHeartbeats 400000 in
theorem pow_neg_calls (a m : Nat) (ha : a < 256) (hm : m < 9223372036854775808) (w : World) :
    Calls Try.prog 95 #[.int .u8 a, .int .i64 (-(m : Int) - 1)] w fun e w' => e = .returned (.int .u8 (Gf.pow (Gf.inv a) (m + 1))) ∧ Below w.heap.size w w' := by
  have hw := neg_neg_wrap m hm
  have HW : Hid (IntKind.u64.wrap (-IntKind.u64.wrap (-(m : Int) - 1)) = ((m + 1 : Nat) : Int)) := hw
  clear hw
  go_enter Try.func95, Try.ntmps95
  go_wp2_with (go_at_call 94; refine (inv_calls a ha _).mono ?_; rintro e w1 ⟨rfl, hb1⟩)
  simp only [HW.out]
  refine (power_calls (Gf.inv a) (m + 1) (Gf.inv_lt a ha) (by omega) _).mono ?_
  rintro e w2 ⟨rfl, hb2⟩
  go_wp2
  go_ret
  exact ⟨rfl, hb1.trans (hb2.mono hb1.size)⟩
theorem pow_calls (a : Nat) (n : Int) (ha : a < 256) (h1 : -9223372036854775808 ≤ n) (h2 : n < 9223372036854775808) (w : World) :
    Calls Try.prog 95 #[.int .u8 a, .int .i64 n] w fun e w' => e = .returned (.int .u8 (Gf.powZ a n)) ∧ Below w.heap.size w w' := by
  unfold Gf.powZ
  split
  · rename_i h
    have e : n = -(((-n - 1).toNat : Nat) : Int) - 1 := by omega
    have := pow_neg_calls a (-n - 1).toNat ha (by omega) w
    rw [← e, show (-n - 1).toNat + 1 = (-n).toNat by omega] at this
    exact this
  · rename_i h
    have := pow_pos_calls a n.toNat ha (by omega) w
    rw [Int.toNat_of_nonneg (by omega)] at this
    exact this
end Go.Proofs
