/- The walk of the chapter's examples (known). No conditions. -/
import Derived.Test.YtfpeabdgajpcjaaPow
namespace Go.Proofs
open Go.RowKit Go.Shelf
theorem mul_e (a b r : Nat) (ha : a < 256) (hb : b < 256) (hr : Gf.mul a b = r) (w : World) :
    Calls Try.prog 16 #[.int .u8 a, .int .u8 b] w fun e w' => e = .returned (.int .u8 r) ∧ Below w.heap.size w w' := by
  subst hr; exact mul_calls a b ha hb w
theorem wide_e (a b r : Nat) (ha : a < 256) (hb : b < 256) (hr : Gf.wide a b = r) (w : World) :
    Calls Try.prog 12 #[.int .u8 a, .int .u8 b] w fun e w' => e = .returned (.int .u16 r) ∧ Below w.heap.size w w' := by
  subst hr; exact wide_calls a b ha hb w
theorem reduce_e (x r : Nat) (hx : x < 65536) (hr : Gf.red x = r) (w : World) :
    Calls Try.prog 14 #[.int .u16 x] w fun e w' => e = .returned (.int .u8 r) ∧ Below w.heap.size w w' := by
  subst hr
  exact (reduce_calls x hx w).mono fun e w' ⟨h1, h2⟩ => ⟨h1, by rw [h2]; exact Below.refl _ _⟩
theorem inv_e (a r : Nat) (b : Bool) (ha : a < 256) (hr : Gf.inv a = r) (hb : (a != 0) = b) (w : World) :
    Calls Try.prog 9 #[.int .u8 a] w fun e w' => e = .returned (.tuple #[.int .u8 r, .bool b]) ∧ Below w.heap.size w w' := by
  subst hr hb; exact inv_calls a ha w
theorem pow_e (a : Nat) (n : Int) (r : Nat) (ha : a < 256) (h1 : -9223372036854775808 ≤ n) (h2 : n < 9223372036854775808) (hr : Gf.powZ a n = r) (w : World) :
    Calls Try.prog 18 #[.int .u8 a, .int .i64 n] w fun e w' => e = .returned (.int .u8 r) ∧ Below w.heap.size w w' := by
  subst hr; exact pow_calls a n ha h1 h2 w

set_option maxHeartbeats 1000000 in
theorem known01_calls (w : World) : Calls Try.prog 11 #[] w fun e w' => e = .returned (.bool true) ∧ Below w.heap.size w w' := by
  have HB : Below w.heap.size w w := Below.refl _ _
  go_enter Try.func11, Try.ntmps11
  go_wp2_with fail
  refine (inv_e 2 142 true (by decide) (Gf.inv_unique 2 142 (by decide) (by decide) (by decide +kernel)).symm rfl _).mono ?_
  rintro e w1 ⟨rfl, hb⟩
  replace HB := HB.trans (hb.mono HB.size)
  clear hb
  go_wp2_with fail
  refine (mul_e 128 2 29 (by decide) (by decide) (by decide +kernel) _).mono ?_
  rintro e w2 ⟨rfl, hb⟩
  replace HB := HB.trans (hb.mono HB.size)
  clear hb
  go_wp2_with fail
  refine (wide_e 3 3 5 (by decide) (by decide) (by decide +kernel) _).mono ?_
  rintro e w3 ⟨rfl, hb⟩
  replace HB := HB.trans (hb.mono HB.size)
  clear hb
  go_wp2_with fail
  refine (reduce_e 285 0 (by decide) (by decide +kernel) _).mono ?_
  rintro e w4 ⟨rfl, hb⟩
  replace HB := HB.trans (hb.mono HB.size)
  clear hb
  go_wp2_with fail
  refine (pow_e 2 8 29 (by decide) (by decide) (by decide) (by decide +kernel) _).mono ?_
  rintro e w5 ⟨rfl, hb⟩
  replace HB := HB.trans (hb.mono HB.size)
  clear hb
  go_wp2
  go_ret
  exact ⟨rfl, HB⟩
end Go.Proofs
