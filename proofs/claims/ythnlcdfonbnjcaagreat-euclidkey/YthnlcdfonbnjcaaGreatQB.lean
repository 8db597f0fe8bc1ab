/- The walk of massey.missed: what a register misses a byte of a list by. Conditions: a field that Of has made; lists apart from its table; a register that is no longer than the list is as far as there. -/
import Derived.Deep.RegionHeld3
import Derived.Test.YthnlcdfonbnjcaaGreatNU
import Derived.Test.YthnlcdfonbnjcaaGreatMG
import Derived.Test.YthnlcdfonbnjcaaGreatMF
import Derived.Test.YthnlcdfonbnjcaaGreatNA
namespace Go.Proofs
open Go.RowKit Go.ChangeShapes Go.WideShapes
open Pol (IsN Dg ofL Byt)

set_option maxRecDepth 100000 in
set_option maxHeartbeats 2000000 in
theorem missed_calls (k B T : Nat) (q p : Option Addr) (m c n d i r : Nat) (cs xs : List Nat) (hr : (Pol.mul (ofL cs) (ofL xs) i).val = r) (hm : m ≤ i + 1) (hi : i < n) (hn : n ≤ 1000000) (w : World) (h : Fd k B T w) (h1 : Tl w T q m c cs) (h2 : Tl w T p n d xs) :
    Calls Tryz.prog 36 #[.pointer (some ⟨B, 0, none⟩), .slice q m c, .slice p n d, .int .i64 (i : Nat)] w fun e w' => e = .returned (.int .u8 (r : Nat)) ∧ Fd k B T w' ∧ But (· = T) w w' := by
  have hmax := h2.bs.max
  have HS : Hid (Fd k B T w ∧ Tl w T q m c cs ∧ Tl w T p n d xs ∧ Ms.smv cs xs (fun t => t) (fun t => i - t) m = r) := ⟨h, h1, h2, by rw [← h1.bs.len, Ms.smv_full (by rw [h1.bs.len]; exact hm)]; exact hr⟩
  clear h h1 h2 hr
  go_enter Tryz.func36, Tryz.ntmps36
  go_wp2
  go_loopw [9, 13] (fun s jj wr => ∃ j : Nat, j ≤ m ∧ jj = .int .i64 (j : Int) ∧ s = .int .u8 (Ms.smv cs xs (fun t => t) (fun t => i - t) j : Nat) ∧ Fd k B T wr ∧ But (· = T) w wr) (fun _ jj _ => m - (intOf jj).toNat)
  case atStart => exact ⟨0, by omega, rfl, rfl, HS.out.1, But.refl _ _⟩
  case round =>
    obtain ⟨j, hj, rfl, rfl, hF, hB⟩ := hrel
    by_cases hlt : j < m
    · have hji : (j : Int) < (m : Int) := by omega
      have hj0 : (0 : Int) ≤ (j : Int) := by omega
      obtain ⟨t, ht⟩ : ∃ t, i - j = t := ⟨_, rfl⟩
      have hti : (i : Int) - (j : Int) = (t : Int) := by omega
      have hwt := wrap_nat t (by omega)
      have ht0 : (0 : Int) ≤ (t : Int) := by omega
      have htn : (t : Int) < (n : Int) := by omega
      obtain ⟨a, ea, _, _⟩ := HS.out.2.1.bs.cell j hlt
      obtain ⟨b, eb, _, _⟩ := HS.out.2.2.1.bs.cell t (by omega)
      obtain ⟨x, hx⟩ : ∃ x, cs.getD j 0 = x := ⟨_, rfl⟩
      obtain ⟨y, hy⟩ : ∃ y, xs.getD t 0 = y := ⟨_, rfl⟩
      have hx8 : x < 256 := by rw [← hx]; exact HS.out.2.1.bs.byte j
      have hy8 : y < 256 := by rw [← hy]; exact HS.out.2.2.1.bs.byte t
      have hsu := Ms.smv_succ HS.out.2.1.bs.byte HS.out.2.2.1.bs.byte (fun t => t) (fun t => i - t) j
      rw [ht, hx, hy] at hsu
      have hs8 := Ms.smv_lt cs xs (fun t => t) (fun t => i - t) j
      obtain ⟨s, hs⟩ : ∃ s, Ms.smv cs xs (fun t => t) (fun t => i - t) j = s := ⟨_, rfl⟩
      rw [hs] at hsu hs8 ⊢
      have hxo := u8_xor_nat s (Gf.mul x y) hs8 (Gf.mul_lt _ _ hx8)
      have HC : Hid (∀ W, But (· = T) w W → W.cell? (a.add j) = some (.int .u8 (x : Nat)) ∧ W.cell? (b.add t) = some (.int .u8 (y : Nat))) := fun W hW => by
        obtain ⟨a', e1, _, c1⟩ := (HS.out.2.1.but hW).bs.cell j hlt
        obtain ⟨b', e2, _, c2⟩ := (HS.out.2.2.1.but hW).bs.cell t (by omega)
        rw [ea] at e1; cases e1
        rw [eb] at e2; cases e2
        rw [hx] at c1
        rw [hy] at c2
        exact ⟨c1, c2⟩
      have KM : Hid (∀ W, Fd k B T W → Calls Tryz.prog 56 #[.pointer (some ⟨B, 0, none⟩), .int .u8 (x : Nat), .int .u8 (y : Nat)] W fun e w' => e = .returned (.int .u8 (Gf.mul x y : Nat)) ∧ Fd k B T w' ∧ But (· = T) W w') := fun W hW => fmul_calls k B T x y hx8 hy8 W hW
      have HP : Hid (Ms.smv cs xs (fun t => t) (fun t => i - t) (j + 1) = s ^^^ Gf.mul x y) := hsu
      obtain ⟨ca, cb⟩ := HC.out wr hB
      have hB0 := hB.drew
      have hT0 := hF.drew
      subst ea eb
      clear hs hsu hs8 hx hy hx8 hy8 ht hF hB
      go_wp2
      go_region_held3 (fun w' => w'.cell? (a.add j) = some (.int .u8 (x : Nat)) ∧ w'.cell? (b.add t) = some (.int .u8 (y : Nat)))
        (first | (with_reducible exact HC.out _ hB1) | (with_reducible exact HC.out _ hB0))
        (first
          | (go_at_call 56; with_reducible refine (KM.out _ hT0).mono ?_; rintro e w7 ⟨rfl, hT1, hb1⟩; have hB1 := hB0.trans hb1))
      have HZ : Hid (Fd k B T w7 ∧ But (· = T) w w7) := ⟨hT1, hB1⟩
      clear KM HC hT0 hT1 hB0 hB1 hb1 ca cb
      go_wp2
      go_roundw
      case rel => exact ⟨j + 1, by omega, by go_num, by rw [HP.out], HZ.out⟩
      case measure => simp [intOf]; omega
    · obtain rfl : m = j := by omega
      rw [HS.out.2.2.2]
      have HZ : Hid (Fd k B T wr ∧ But (· = T) w wr) := ⟨hF, hB⟩
      clear hF hB
      go_wp2
      go_ret
      exact ⟨rfl, HZ.out⟩
end Go.Proofs
