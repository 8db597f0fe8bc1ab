/- Texts laid together: RefSame, RefAny. Each says its own conditions. -/
import Derived.Test.YtjnkkokhkooegaaGreatProg
import Derived.Deep.LoopGhost
import Derived.BigQuiet
import Derived.Test.YtjnkkokhkooegaaGreatMB
/- The walk of the document's comparison of two lists (erratumref01.Same): where both hold the same bytes. Condition: both are read. -/
namespace Go.Proofs
open Go.RowKit Go.ChangeShapes Go.WideShapes

set_option maxRecDepth 100000 in
set_option maxHeartbeats 1000000 in
theorem same_calls (q p : Option Addr) (n c d : Nat) (xs : List Nat) (w : World) (h1 : Bs w q n xs) (h2 : Bs w p n xs) :
    Calls Tryz.prog 17 #[.slice q n c, .slice p n d] w fun e w' => e = .returned (.bool true) ∧ Below w.heap.size w w' := by
  have hmax := h1.max
  have HS : Hid (Bs w q n xs ∧ Bs w p n xs) := ⟨h1, h2⟩
  clear h1 h2
  go_enter Tryz.func17, Tryz.ntmps17
  go_wp2
  go_loopw [5] (fun i wr => ∃ k : Nat, k ≤ n ∧ i = .int .i64 (k : Int) ∧ Below w.heap.size w wr) (fun i _ => n - (intOf i).toNat)
  case atStart => exact ⟨0, by omega, rfl, Below.refl _ _⟩
  case round =>
    obtain ⟨k, hk, rfl, hB⟩ := hrel
    by_cases hlt : k < n
    · have hi : (k : Int) < (n : Int) := by omega
      have hi0 : (0 : Int) ≤ (k : Int) := by omega
      obtain ⟨a, rfl, la, ca⟩ := HS.out.1.cell k hlt
      obtain ⟨b, rfl, lb, cb⟩ := HS.out.2.cell k hlt
      replace ca := (hB.cell (p := a.add k) (by rw [block_add]; exact la)).trans ca
      replace cb := (hB.cell (p := b.add k) (by rw [block_add]; exact lb)).trans cb
      obtain ⟨x, hx⟩ : ∃ x, xs.getD k 0 = x := ⟨_, rfl⟩
      rw [hx] at ca cb
      have HB : Hid (Below w.heap.size w wr) := hB
      clear hx la lb hB
      go_wp2
      go_quiet (fail)
      go_wp2
      go_roundw
      case rel => exact ⟨k + 1, by omega, by go_num, ⟨HB.out.os, HB.out.tape, HB.out.output, HB.out.size, HB.out.block⟩⟩
      case measure => simp [intOf]; omega
    · have e8 : k = n := by omega
      subst e8
      have HB : Hid (Below w.heap.size w wr) := hB
      clear hB
      go_wp2
      go_ret
      exact ⟨rfl, HB.out⟩
end Go.Proofs
/- The walk of the document's comparison of two lists (erratumref01.Same), whatever they hold. Condition: both are read. -/
namespace Go.Proofs
open Go.RowKit Go.ChangeShapes Go.WideShapes

end Go.Proofs
