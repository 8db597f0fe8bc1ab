/- The walks of the examples of chapter 2 (known), and of the document's answers of layer 2. Conditions: a byte; an int. -/
import Derived.Test.YtkmincjhdieonaaTabCalls
import Derived.Test.YtkmincjhdieonaaRef01
namespace Go.Proofs
open Go.RowKit

theorem tnew_any (w : World) : Calls Try.prog 8 #[] w fun e w' => ∃ B, e = .returned (.pointer (some ⟨B, 0, none⟩)) ∧ Fresh B w' ∧ Below w.heap.size w w' ∧ B = w.heap.size :=
  (tnew_calls w).mono fun _ _ ⟨h1, h2⟩ => ⟨w.heap.size, h1, by rw [h2]; exact fresh_new w, by rw [h2]; exact (Below.refl _ w).alloc (Nat.le_refl _) _, rfl⟩
theorem below_of {P : Program} {f : FuncId} {args : Array Value} {v : Value} {w : World} (h : Calls P f args w fun e w' => e = .returned v ∧ w' = w) : Calls P f args w fun e w' => e = .returned v ∧ Below w.heap.size w w' :=
  h.mono fun _ _ ⟨h1, h2⟩ => ⟨h1, by rw [h2]; exact Below.refl _ _⟩
theorem lg_29 : Gf.lg 29 = 8 := by decide +kernel
theorem two_8 : Gf.powZ 2 8 = 29 := by decide +kernel

set_option maxHeartbeats 1000000 in
theorem known02_calls (w : World) : Calls Try.prog 13 #[] w fun e w' => e = .returned (.bool true) ∧ Below w.heap.size w w' := by
  have HB : Below w.heap.size w w := Below.refl _ _
  go_enter Try.func13, Try.ntmps13
  go_wp2_with fail
  refine (tnew_any _).mono ?_
  rintro e w1 ⟨B, rfl, HF_B, hb, hn⟩
  have HL_B : w.heap.size ≤ B := by rw [hn]; exact HB.size
  replace HB := HB.trans (hb.mono HB.size)
  clear hb hn
  go_wp2_with fail
  refine (tmade_calls B 0 _ HF_B.made).mono ?_
  rintro e w2 ⟨rfl, rfl⟩
  go_wp2_with fail
  refine (tlog_e B 29 8 true (by decide) lg_29 rfl _ (.inl HF_B)).mono ?_
  rintro e w3 ⟨rfl, hm, hb⟩
  replace HB := HB.trans (hb.below HB.size (by rintro k rfl; exact HL_B))
  clear HF_B hb
  have HM_B := hm
  clear hm
  go_wp2_with fail
  refine (texp_e B 8 29 two_8 _ (.inr HM_B)).mono ?_
  rintro e w4 ⟨rfl, hm, hb⟩
  replace HB := HB.trans (hb.below HB.size (by rintro k rfl; exact HL_B))
  clear HM_B hb
  have HM_B := hm
  clear hm
  go_wp2_with fail
  refine (tmade_calls B 1 _ HM_B.made).mono ?_
  rintro e w5 ⟨rfl, rfl⟩
  go_wp2
  go_ret
  exact ⟨rfl, HB⟩

/-- The document's logarithm, by trying all. -/
theorem lg_find (a k : Nat) (hk : k < 255) (h : Gf.pow 2 k = a) : Gf.lg a = k ∧ (a != 0) = true := by
  subst h
  refine ⟨Gf.lg_pow k hk, ?_⟩
  simp [Gf.pow_ne_zero 2 k (by decide) (by decide)]
set_option maxRecDepth 100000 in
set_option maxHeartbeats 1000000 in
theorem rlog_calls (a : Nat) (ha : a < 256) (w : World) :
    Calls Try.prog 12 #[.int .u8 a] w fun e w' => e = .returned (.tuple #[.int .i64 (Gf.lg a : Nat), .bool (a != 0)]) ∧ w' = w := by
  obtain ⟨iv, hiv⟩ : ∃ iv, Gf.lg a = iv := ⟨_, rfl⟩
  obtain ⟨bz, hbz⟩ : ∃ bz, (a != 0) = bz := ⟨_, rfl⟩
  rw [hiv, hbz]
  have HIV : Hid (Gf.lg a = iv) := hiv
  have HBZ : Hid ((a != 0) = bz) := hbz
  clear hiv hbz
  go_enter Try.func12, Try.ntmps12
  go_wp2
  go_loopw [4, 5] (fun x i wr => ∃ k : Nat, k ≤ 255 ∧ i = .int .i64 (k : Int) ∧ x = .int .u8 (Gf.pow 2 k : Nat) ∧ (∀ j, j < k → Gf.pow 2 j ≠ a) ∧ wr = w) (fun _ i _ => 255 - (intOf i).toNat)
  case atStart => exact ⟨0, by omega, rfl, rfl, fun j hj => absurd hj (Nat.not_lt_zero j), rfl⟩
  case round =>
    obtain ⟨k, hk, rfl, rfl, hn, rfl⟩ := hrel
    by_cases hlt : k < 255
    · by_cases hm : Gf.pow 2 k = a
      · obtain ⟨e1, e2⟩ := lg_find a k hlt hm
        have ev : iv = k := HIV.out.symm.trans e1
        have eb : bz = true := HBZ.out.symm.trans e2
        subst ev eb
        clear hn e1 e2
        rw [hm]
        clear hm
        go_wp2
        go_ret2
        exact ⟨rfl, rfl⟩
      · have hp := Gf.pow_lt 2 k (by decide)
        have HP : Hid (Gf.mul (Gf.pow 2 k) 2 = Gf.pow 2 (k + 1)) := (rfl : Gf.mul (Gf.pow 2 k) 2 = Gf.pow 2 (k + 1))
        have HN : Hid (∀ j, j < k + 1 → Gf.pow 2 j ≠ a) := by
          intro j hj
          rcases Nat.lt_succ_iff_lt_or_eq.1 hj with h | h
          · exact hn j h
          · rw [h]; exact hm
        obtain ⟨q, hq⟩ : ∃ q, Gf.pow 2 k = q := ⟨_, rfl⟩
        rw [hq] at hp HP hm ⊢
        have ht : ((q : Int) == (a : Int)) = false := by simp; omega
        clear hn hm hq
        go_wp2_with (go_at_call 15; refine (rmul_calls q 2 hp _).mono ?_; rintro e w1 ⟨rfl, rfl⟩)
        go_roundw
        case rel => exact ⟨k + 1, by omega, by go_num, by rw [HP.out], HN.out, by trivial⟩
        case measure => simp [intOf]; omega
    · have hz : a = 0 := by
        rcases Nat.eq_zero_or_pos a with h | h
        · exact h
        · exact absurd (Gf.pow_lg a ha (by omega)) (hn _ (by have := Gf.lg_lt a ha; omega))
      have ev : iv = 0 := by rw [← HIV.out, hz]; rfl
      have eb : bz = false := by rw [← HBZ.out, hz]; rfl
      subst ev eb
      clear hn hz
      go_wp2
      go_ret2
      exact ⟨rfl, rfl⟩
theorem rexp_calls (n : Int) (w : World) :
    Calls Try.prog 17 #[.int .i64 n] w fun e w' => e = .returned (.int .u8 (Gf.powZ 2 n)) ∧ w' = w := by
  go_enter Try.func17, Try.ntmps17
  go_wp2_with (go_at_call 19; refine (rpow_calls 2 n (by decide) _).mono ?_; rintro e w1 ⟨rfl, rfl⟩)
  go_ret
  exact ⟨rfl, rfl⟩
end Go.Proofs
