/- The walk of the example of chapter 4 (known). No conditions. -/
import Derived.Test.YtgbbnlgleghhlaaFd
namespace Go.Proofs
open Go.RowKit
theorem div_1_2 : Gf.div 1 2 = 142 := by
  unfold Gf.div
  rw [← Gf.inv_unique 2 142 (by decide) (by decide) (by decide +kernel)]
  decide +kernel
set_option maxRecDepth 100000 in
set_option maxHeartbeats 1000000 in
theorem known04_calls (w : World) : Calls Try.prog 8 #[] w fun e w' => e = .returned (.bool true) ∧ Below w.heap.size w w' := by
  have hnot : ∀ (x : Bool) (w : World), (Op.unary .not (.bool x)).run Try.prog w = .ok (.bool (!x)) w := fun _ _ => rfl
  go_enter Try.func8, Try.ntmps8
  go_wp2
  go_loopw [1] (fun i wr => ∃ k : Nat, 1 ≤ k ∧ k ≤ 4 ∧ i = .int .i64 (k : Int) ∧ Below w.heap.size w wr) (fun i _ => 4 - (intOf i).toNat)
  case atStart => exact ⟨1, by omega, by omega, rfl, Below.refl _ _⟩
  case round =>
    obtain ⟨k, h1, h4, rfl, hB⟩ := hrel
    by_cases hk : k ≤ 3
    · have hi : (k : Int) ≤ 3 := by omega
      have HB : Hid (Below w.heap.size w wr) := hB
      clear hB
      go_wp2_with fail
      refine (fof_calls k h1 hk _).mono ?_
      rintro e w1 ⟨B, T, rfl, hF, hb, hlB, hlT⟩
      go_wp2_with fail
      refine (fbackend_calls k B T _ hF).mono ?_
      rintro e w2 ⟨rfl, rfl⟩
      go_wp2_with fail
      refine (fdiv_e k B T 1 2 142 true (by decide) (by decide) div_1_2 rfl _ hF).mono ?_
      rintro e w3 ⟨rfl, hF3, hb3⟩
      go_wp2
      go_roundw
      case rel =>
        have hB := HB.out.trans (hb.mono HB.out.size)
        exact ⟨k + 1, by omega, by omega, by go_num, hB.trans (hb3.below hB.size (by rintro k rfl; have := HB.out.size; omega))⟩
      case measure => simp [intOf]; omega
    · have e4 : k = 4 := by omega
      subst e4
      have HB : Hid (Below w.heap.size w wr) := hB
      clear hB
      go_wp2_with (go_at_call 9; refine (fof_none 0 (.inl (by decide)) _).mono ?_; rintro e w1 ⟨rfl, rfl⟩)
      go_ret
      exact ⟨rfl, HB.out⟩
end Go.Proofs
