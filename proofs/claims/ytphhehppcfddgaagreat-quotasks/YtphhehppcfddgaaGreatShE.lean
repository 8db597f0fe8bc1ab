/- The contracts of layer 1 by equation. Conditions: bytes, an int. -/
import Derived.Test.YtphhehppcfddgaaGreatPow
namespace Go.Proofs
open Go.RowKit Go.Shelf
theorem mul_e (a b r : Nat) (ha : a < 256) (hb : b < 256) (hr : Gf.mul a b = r) (w : World) :
    Calls Tryz.prog 64 #[.int .u8 a, .int .u8 b] w fun e w' => e = .returned (.int .u8 r) ∧ Below w.heap.size w w' := by
  subst hr; exact mul_calls a b ha hb w
theorem wide_e (a b r : Nat) (ha : a < 256) (hb : b < 256) (hr : Gf.wide a b = r) (w : World) :
    Calls Tryz.prog 69 #[.int .u8 a, .int .u8 b] w fun e w' => e = .returned (.int .u16 r) ∧ Below w.heap.size w w' := by
  subst hr; exact wide_calls a b ha hb w
theorem reduce_e (x r : Nat) (hx : x < 65536) (hr : Gf.red x = r) (w : World) :
    Calls Tryz.prog 68 #[.int .u16 x] w fun e w' => e = .returned (.int .u8 r) ∧ Below w.heap.size w w' := by
  subst hr
  exact (reduce_calls x hx w).mono fun e w' ⟨h1, h2⟩ => ⟨h1, by rw [h2]; exact Below.refl _ _⟩
theorem inv_e (a r : Nat) (b : Bool) (ha : a < 256) (hr : Gf.inv a = r) (hb : (a != 0) = b) (w : World) :
    Calls Tryz.prog 104 #[.int .u8 a] w fun e w' => e = .returned (.tuple #[.int .u8 r, .bool b]) ∧ Below w.heap.size w w' := by
  subst hr hb; exact inv_calls a ha w

end Go.Proofs
