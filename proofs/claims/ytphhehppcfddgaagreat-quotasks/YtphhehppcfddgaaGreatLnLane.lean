/- The walks of lanes.Lane, Unpack and Pack. Conditions: lanes are bytes. -/
import Derived.Test.YtphhehppcfddgaaGreatLnWalk
import Derived.Test.YtphhehppcfddgaaGreatSlices
namespace Go.Proofs
open Go.RowKit

theorem cast_div_pow (x n : Nat) : ((x : Int) / 2 ^ n) = ((x / 2 ^ n : Nat) : Int) := by simp
/-- The bit n of a plane. -/
theorem plane_bit (x n : Nat) (hx : x < 18446744073709551616) : bits .and .u64 ((x : Int) / 2 ^ n) 1 = (if x.testBit n then 1 else 0 : Nat) := by
  have h1 : x / 2 ^ n < 18446744073709551616 := Nat.lt_of_le_of_lt (Nat.div_le_self _ _) hx
  rw [cast_div_pow, show (1 : Int) = ((1 : Nat) : Int) from rfl, u64_and_nat _ _ h1 (by decide), Nat.and_one_is_mod, Nat.testBit_eq_decide_div_mod_eq]
  rcases Nat.mod_two_eq_zero_or_one (x / 2 ^ n) with e | e <;> rw [e] <;> rfl
theorem byte_or_bit (a k : Nat) (hk : k < 8) (b : Bool) : bits .or .u8 ((a : Int) % 2 ^ k) (((if b then 1 else 0 : Nat) : Int) % 256 * 2 ^ k % 256) = ((a % 2 ^ k ^^^ (if b then 2 ^ k else 0) : Nat) : Int) := by
  have hp : 2 ^ k ≤ 2 ^ 7 := Nat.pow_le_pow_right (by decide) (by omega)
  have hm := Nat.mod_lt a (Nat.two_pow_pos k)
  have e1 : ((a : Int) % 2 ^ k) = ((a % 2 ^ k : Nat) : Int) := by simp
  have e2 : (((if b then 1 else 0 : Nat) : Int) % 256 * 2 ^ k % 256) = ((if b then 2 ^ k else 0 : Nat) : Int) := by
    cases b
    · simp
    · have : ((2 : Int) ^ k) = ((2 ^ k : Nat) : Int) := by simp
      simp only [if_true]
      rw [this]
      omega
  rw [e1, e2, u8_or_nat _ _ (by omega) (by split <;> omega)]
  congr 1
  apply Nat.eq_of_testBit_eq
  intro i
  rw [Nat.testBit_or, Nat.testBit_xor, Nat.testBit_mod_two_pow, Ln.bit_pow]
  by_cases e : i = k
  · subst e; simp
  · simp [e]
theorem mod_step (a k : Nat) : a % 2 ^ (k + 1) = a % 2 ^ k ^^^ (if a.testBit k then 2 ^ k else 0) := by
  have h := Gf.bit_off (a % 2 ^ (k + 1)) k (Nat.mod_lt _ (Nat.two_pow_pos _))
  rw [Nat.mod_mod_of_dvd _ (Nat.pow_dvd_pow 2 (Nat.le_succ k)), Nat.testBit_mod_two_pow] at h
  simpa using h
theorem lane_round (l : Nat → Nat) (n k : Nat) (hn : n < 64) (hk : k < 8) :
    bits .or .u8 ((l n : Int) % 2 ^ k) (bits .and .u64 ((Ln.pk l k : Int) / 2 ^ n) 1 % 256 * 2 ^ k % 256) = ((l n % 2 ^ (k + 1) : Nat) : Int) := by
  rw [plane_bit _ _ (Ln.pk_lt l k), byte_or_bit _ _ hk, mod_step, Ln.pk_bit]
  simp [hn]

set_option maxHeartbeats 1000000 in
theorem llane_in (l : Nat → Nat) (n : Nat) (hn : n < 64) (hl : l n < 256) (w : World) :
    Calls Tryz.prog 121 #[V8 l, .int .i64 (n : Int)] w fun e w' => e = .returned (.int .u8 (l n : Nat)) ∧ Below w.heap.size w w' := by
  go_enter Tryz.func121, Tryz.ntmps121
  go_wp2
  go_loopw [5, 13] (fun b i wr => ∃ k : Nat, k ≤ 8 ∧ i = .int .i64 (k : Int) ∧ b = .int .u8 (l n % 2 ^ k : Nat) ∧ Pl wr w.heap.size 8 l ∧ Below w.heap.size w wr) (fun _ i _ => 8 - (intOf i).toNat)
  case atStart =>
    exact ⟨0, by omega, rfl, by simp [Nat.mod_one], pl_box w rfl l 142, (Below.refl _ _).alloc (Nat.le_refl _) _⟩
  case round =>
    obtain ⟨k, hk, rfl, rfl, hL, hB⟩ := hrel
    by_cases hlt : k < 8
    · have cL := hL.cell k hlt
      have HM : Hid (Pl wr w.heap.size 8 l ∧ Below w.heap.size w wr) := ⟨hL, hB⟩
      clear hL hB
      have HR := lane_round l n k hn hlt
      go_wp2
      go_roundw
      case rel => exact ⟨k + 1, by omega, by go_num, rfl, HM.out⟩
      case measure => simp [intOf]; omega
    · have e8 : k = 8 := by omega
      subst e8
      have hr : l n % 2 ^ 8 = l n := Nat.mod_eq_of_lt hl
      rw [hr]
      clear hr
      have HB : Hid (Below w.heap.size w wr) := hB
      clear hB hL
      go_wp2
      go_ret
      exact ⟨rfl, HB.out⟩
theorem llane_out (l : Nat → Nat) (n : Int) (hn : n < 0 ∨ 64 ≤ n) (w : World) :
    Calls Tryz.prog 121 #[V8 l, .int .i64 n] w fun e w' => e = .returned (.int .u8 0) ∧ Below w.heap.size w w' := by
  rcases hn with h | h
  · go_enter Tryz.func121, Tryz.ntmps121
    go_wp2
    go_ret
    exact ⟨rfl, (Below.refl _ _).alloc (Nat.le_refl _) _⟩
  · have h0 : ¬ n < 0 := by omega
    go_enter Tryz.func121, Tryz.ntmps121
    go_wp2
    go_ret
    exact ⟨rfl, (Below.refl _ _).alloc (Nat.le_refl _) _⟩
end Go.Proofs
