/- The walks of the document's product of two bytes (erratumref01.Wide, Reduce, Mul), without layer 1's own. Condition: bytes. -/
import Derived.Test.YtnphdldcfdpflaaGreatProg
import Derived.WalkKit
import Derived.Below
import Derived.Deep.LoopGhost
import Derived.Test.YtnphdldcfdpflaaGreatMA
namespace Go.Proofs.RefMul
open Go.RowKit

theorem div_cast (x k : Nat) : ((x : Int) / 2 ^ k) = ((x / 2 ^ k : Nat) : Int) := by simp
theorem xor285 (x j : Nat) (hx : x < 65536) (hj : j ≤ 7) : bits .xor .u16 (x : Int) (IntKind.u16.wrap (285 * 2 ^ j)) = ((x ^^^ 285 * 2 ^ j : Nat) : Int) := by
  have hp : 2 ^ j ≤ 2 ^ 7 := Nat.pow_le_pow_right (by decide) hj
  have e : IntKind.u16.wrap (285 * 2 ^ j) = ((285 * 2 ^ j : Nat) : Int) := by
    have e2 : (285 * 2 ^ j : Int) = ((285 * 2 ^ j : Nat) : Int) := by simp
    rw [IntKind.wrap_u16, e2]
    omega
  rw [e]
  exact u16_xor_nat _ _ hx (by omega)

theorem bit_rem (x k : Nat) : (((x : Int) / 2 ^ k).tmod 2 == 1) = x.testBit k := by
  rw [div_cast, Nat.testBit_eq_decide_div_mod_eq]
  generalize x / 2 ^ k = y
  have e : (y : Int).tmod 2 = ((y % 2 : Nat) : Int) := rfl
  rw [e]
  rcases Nat.mod_two_eq_zero_or_one y with e | e <;> rw [e] <;> rfl
theorem xor_shl (s a k : Nat) (hs : s < 65536) (ha : a < 256) (hk : k < 8) : bits .xor .u16 (s : Int) (IntKind.u16.wrap ((a : Int) * 2 ^ k)) = ((s ^^^ a * 2 ^ k : Nat) : Int) := by
  have hp : 2 ^ k ≤ 2 ^ 7 := Nat.pow_le_pow_right (by decide) (by omega)
  have hm : a * 2 ^ k ≤ 255 * 128 := Nat.mul_le_mul (by omega) hp
  have e : IntKind.u16.wrap ((a : Int) * 2 ^ k) = ((a * 2 ^ k : Nat) : Int) := by
    have e2 : ((a : Int) * 2 ^ k) = ((a * 2 ^ k : Nat) : Int) := by simp
    rw [IntKind.wrap_u16, e2]
    omega
  rw [e]
  exact u16_xor_nat _ _ hs (by omega)

set_option maxHeartbeats 1000000 in
theorem rwide_calls (a b : Nat) (ha : a < 256) (w : World) :
    Calls Tryz.prog 53 #[.int .u8 a, .int .u8 b] w fun e w' => e = .returned (.int .u16 (Gf.wide a b)) ∧ w' = w := by
  go_enter Tryz.func53, Tryz.ntmps53
  go_wp2
  go_loop [5, 6] (fun s i => ∃ k : Nat, k ≤ 8 ∧ i = .int .i64 (k : Int) ∧ s = .int .u16 (Gf.wideK a b k)) (fun _ i => 8 - (intOf i).toNat)
  case atStart => exact ⟨0, by omega, rfl, rfl⟩
  case round =>
    obtain ⟨k, hk, rfl, rfl⟩ := hrel
    have hl : Gf.wideK a b k < 65536 := Nat.lt_of_lt_of_le (Gf.wideK_lt a b ha k hk) (Nat.pow_le_pow_right (by decide : 0 < 2) (by omega) : 2 ^ (k + 7) ≤ 2 ^ 16)
    by_cases hlt : k < 8
    · have ht := bit_rem b k
      have hxr := xor_shl (Gf.wideK a b k) a k hl ha hlt
      have hst : Gf.wideK a b (k + 1) = if b.testBit k then Gf.wideK a b k ^^^ (a * 2 ^ k) else Gf.wideK a b k := rfl
      by_cases hbt : b.testBit k = true
      · rw [if_pos hbt] at hst
        rw [hbt] at ht
        have HS : Hid (Gf.wideK a b (k + 1) = Gf.wideK a b k ^^^ (a * 2 ^ k)) := hst
        clear hst hbt
        go_wp2
        go_round
        case rel => exact ⟨k + 1, by omega, by go_num, by rw [HS.out]⟩
        case measure => simp [intOf]; omega
      · rw [if_neg hbt] at hst
        rw [Bool.not_eq_true] at hbt
        rw [hbt] at ht
        have HS : Hid (Gf.wideK a b (k + 1) = Gf.wideK a b k) := hst
        clear hst hbt hxr
        go_wp2
        go_round
        case rel => exact ⟨k + 1, by omega, by go_num, by rw [HS.out]⟩
        case measure => simp [intOf]; omega
    · have e8 : k = 8 := by omega
      subst e8
      go_wp2
      go_ret
      exact ⟨rfl, rfl⟩

set_option maxHeartbeats 1000000 in
theorem rreduce_calls (x : Nat) (hx : x < 65536) (w : World) :
    Calls Tryz.prog 52 #[.int .u16 x] w fun e w' => e = .returned (.int .u8 (Gf.red x)) ∧ w' = w := by
  go_enter Tryz.func52, Tryz.ntmps52
  go_wp2
  go_loop [0, 3] (fun s i => ∃ k : Nat, k ≤ 8 ∧ i = .int .i64 (15 - (k : Int)) ∧ s = .int .u16 (Gf.redK x k)) (fun _ i => (intOf i).toNat)
  case atStart => exact ⟨0, by omega, rfl, rfl⟩
  case round =>
    obtain ⟨k, hk, rfl, rfl⟩ := hrel
    have hl : Gf.redK x k < 65536 := Nat.lt_of_lt_of_le (Gf.redK_lt x hx k hk) (Nat.pow_le_pow_right (by decide : 0 < 2) (by omega) : 2 ^ (16 - k) ≤ 2 ^ 16)
    by_cases hlt : k < 8
    · have ht := bit_rem (Gf.redK x k) (15 - k)
      have hxr := xor285 (Gf.redK x k) (15 - k - 8) hl (by omega)
      have hst : Gf.redK x (k + 1) = if (Gf.redK x k).testBit (15 - k) then Gf.redK x k ^^^ (285 * 2 ^ (7 - k)) else Gf.redK x k := rfl
      rw [show 7 - k = 15 - k - 8 by omega] at hst
      by_cases hb : (Gf.redK x k).testBit (15 - k) = true
      · rw [if_pos hb] at hst
        rw [hb] at ht
        have HS : Hid (Gf.redK x (k + 1) = Gf.redK x k ^^^ (285 * 2 ^ (15 - k - 8))) := hst
        clear hst hb
        go_wp2
        go_round
        case rel => exact ⟨k + 1, by omega, by go_num, by rw [HS.out]⟩
        case measure => simp [intOf]; omega
      · rw [if_neg hb] at hst
        rw [Bool.not_eq_true] at hb
        rw [hb] at ht
        have HS : Hid (Gf.redK x (k + 1) = Gf.redK x k) := hst
        clear hst hb hxr
        go_wp2
        go_round
        case rel => exact ⟨k + 1, by omega, by go_num, by rw [HS.out]⟩
        case measure => simp [intOf]; omega
    · have e8 : k = 8 := by omega
      subst e8
      have hr : ((Gf.redK x 8 : Nat) : Int) % 256 = (Gf.red x : Nat) := by
        have := Gf.red_lt x hx
        show ((Gf.red x : Nat) : Int) % 256 = _
        omega
      go_wp2
      go_ret
      exact ⟨rfl, rfl⟩

set_option maxHeartbeats 400000 in
theorem rmul_calls (a b : Nat) (ha : a < 256) (w : World) :
    Calls Tryz.prog 26 #[.int .u8 a, .int .u8 b] w fun e w' => e = .returned (.int .u8 (Gf.mul a b)) ∧ w' = w := by
  have hw := Gf.wide_lt a b ha
  go_enter Tryz.func26, Tryz.ntmps26
  go_wp2_with (first | (go_at_call 53; refine (rwide_calls a b ha _).mono ?_; rintro e w1 ⟨rfl, rfl⟩) | (go_at_call 52; refine (rreduce_calls (Gf.wide a b) (by omega) _).mono ?_; rintro e w2 ⟨rfl, rfl⟩))
  go_ret
  exact ⟨rfl, rfl⟩

theorem rmul_e (a b r : Nat) (ha : a < 256) (h : Gf.mul a b = r) (w : World) :
    Calls Tryz.prog 26 #[.int .u8 a, .int .u8 b] w fun e w' => e = .returned (.int .u8 (r : Nat)) ∧ w' = w := by
  subst h
  exact rmul_calls a b ha w
end Go.Proofs.RefMul
