/- Lists of bytes that a call has told, of a length that is named. -/
import Derived.Test.YtphhehppcfddgaaGreatFdL
namespace Go.Proofs
open Go.RowKit
theorem Ow.tell {W : World} {base : Nat} {v : Value} {xs : List Nat} {n : Nat} (h : Ow W base v xs) (hx : ∀ i, xs.getD i 0 < 256) (hl : xs.length = n) : ∃ q c, v = .slice q n c ∧ Bs W q n xs ∧ n ≤ c ∧ ∀ T, T < base → Off T n q := by
  subst hl; exact h.told hx
end Go.Proofs
