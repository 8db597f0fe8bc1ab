/- The walks of shift.Reduce and shift.Mul: what is left modulo 11D, and a product of bytes. Conditions: a uint16; bytes. -/
import Derived.Test.YtphhehppcfddgaaGreatWide
namespace Go.Proofs
open Go.RowKit Go.Shelf

theorem div_cast (x k : Nat) : ((x : Int) / 2 ^ k) = ((x / 2 ^ k : Nat) : Int) := by simp
theorem test16 (x k : Nat) (hx : x < 65536) : (bits .and .u16 ((x : Int) / 2 ^ k) 1 == 1) = x.testBit k := by
  rw [div_cast]
  have h := u16_and_nat (x / 2 ^ k) 1 (Nat.lt_of_le_of_lt (Nat.div_le_self _ _) hx) (by decide)
  rw [show ((1 : Nat) : Int) = 1 from rfl] at h
  rw [h, Nat.and_one_is_mod, Nat.testBit_eq_decide_div_mod_eq]
  generalize x / 2 ^ k = y
  rcases Nat.mod_two_eq_zero_or_one y with e | e <;> rw [e] <;> rfl
theorem xor285 (x j : Nat) (hx : x < 65536) (hj : j ≤ 7) : bits .xor .u16 (x : Int) (IntKind.u16.wrap (285 * 2 ^ j)) = ((x ^^^ 285 * 2 ^ j : Nat) : Int) := by
  have hp : 2 ^ j ≤ 2 ^ 7 := Nat.pow_le_pow_right (by decide) hj
  have e : IntKind.u16.wrap (285 * 2 ^ j) = ((285 * 2 ^ j : Nat) : Int) := by
    have e2 : (285 * 2 ^ j : Int) = ((285 * 2 ^ j : Nat) : Int) := by simp
    rw [IntKind.wrap_u16, e2]
    omega
  rw [e]
  exact u16_xor_nat _ _ hx (by omega)

set_option maxHeartbeats 1000000 in
theorem reduce_calls (x : Nat) (hx : x < 65536) (w : World) :
    Calls Tryz.prog 68 #[.int .u16 x] w fun e w' => e = .returned (.int .u8 (Gf.red x)) ∧ w' = w := by
  go_enter Tryz.func68, Tryz.ntmps68
  go_wp2
  go_loop [0, 5] (fun s i => ∃ k : Nat, k ≤ 8 ∧ i = .int .i64 (k : Int) ∧ s = .int .u16 (Gf.redK x k)) (fun _ i => 8 - (intOf i).toNat)
  case atStart => exact ⟨0, by omega, rfl, rfl⟩
  case round =>
    obtain ⟨k, hk, rfl, rfl⟩ := hrel
    have hl : Gf.redK x k < 65536 := Nat.lt_of_lt_of_le (Gf.redK_lt x hx k hk) (Nat.pow_le_pow_right (by decide : 0 < 2) (by omega) : 2 ^ (16 - k) ≤ 2 ^ 16)
    by_cases hlt : k < 8
    · have ht := test16 (Gf.redK x k) (8 + (7 - k)) hl
      have hxr := xor285 (Gf.redK x k) (7 - k) hl (by omega)
      have hst : Gf.redK x (k + 1) = if (Gf.redK x k).testBit (15 - k) then Gf.redK x k ^^^ (285 * 2 ^ (7 - k)) else Gf.redK x k := rfl
      rw [show 15 - k = 8 + (7 - k) by omega] at hst
      by_cases hb : (Gf.redK x k).testBit (8 + (7 - k)) = true
      · rw [if_pos hb] at hst
        rw [hb] at ht
        have HS : Hid (Gf.redK x (k + 1) = Gf.redK x k ^^^ (285 * 2 ^ (7 - k))) := hst
        clear hst hb
        go_wp2
        go_round
        case rel => exact ⟨k + 1, by omega, by go_num, by rw [HS.out]⟩
        case measure => simp [intOf]; omega
      · rw [if_neg hb] at hst
        rw [Bool.not_eq_true] at hb
        rw [hb] at ht
        have HS : Hid (Gf.redK x (k + 1) = Gf.redK x k) := hst
        clear hst hb hxr
        go_wp2
        go_round
        case rel => exact ⟨k + 1, by omega, by go_num, by rw [HS.out]⟩
        case measure => simp [intOf]; omega
    · have e8 : k = 8 := by omega
      subst e8
      have hr : ((Gf.redK x 8 : Nat) : Int) % 256 = (Gf.red x : Nat) := by
        have := Gf.red_lt x hx
        show ((Gf.red x : Nat) : Int) % 256 = _
        omega
      go_wp2
      go_ret
      exact ⟨rfl, rfl⟩

theorem wide_calls (a b : Nat) (ha : a < 256) (hb : b < 256) (w : World) :
    Calls Tryz.prog 69 #[.int .u8 a, .int .u8 b] w fun e w' => e = .returned (.int .u16 (Gf.wide a b)) ∧ Below w.heap.size w w' :=
  (callsIn_wide (n := 3)).1 (wide_in 3 (by omega) a b ha hb w)

set_option maxHeartbeats 400000 in
theorem mul_calls (a b : Nat) (ha : a < 256) (hb : b < 256) (w : World) :
    Calls Tryz.prog 64 #[.int .u8 a, .int .u8 b] w fun e w' => e = .returned (.int .u8 (Gf.mul a b)) ∧ Below w.heap.size w w' := by
  have hw := Gf.wide_lt a b ha
  go_enter Tryz.func64, Tryz.ntmps64
  go_wp2_with (first | (go_at_call 69; refine (wide_calls a b ha hb _).mono ?_; rintro e w1 ⟨rfl, hb1⟩) | (go_at_call 68; refine (reduce_calls (Gf.wide a b) (by omega) _).mono ?_; rintro e w2 ⟨rfl, rfl⟩))
  go_ret
  exact ⟨rfl, hb1⟩
end Go.Proofs
