/- Texts laid together: VUn, Ref07. Each says its own conditions. -/
import Derived.BigQuiet
import Derived.Test.YtjnkkokhkooegaaGreatMA
import Derived.Test.YtjnkkokhkooegaaGreatMO
import Derived.Test.YtjnkkokhkooegaaGreatMG
import Derived.Test.YtjnkkokhkooegaaGreatMV
import Derived.Test.YtjnkkokhkooegaaGreatMS
import Derived.Test.YtjnkkokhkooegaaGreatMC
/- The walk of erratumlaw07.Unlike: some bytes of a list, each once. Conditions: a list that is read; at most a thousand are asked for. -/
namespace Go.Proofs
open Go.RowKit Go.ChangeShapes Go.WideShapes
attribute [local go_sem ↓ high] builtin_ap
attribute [local go_sem] ap_sem
open Pol (Byt unl unK)

theorem Ow.drewN {W : World} {base : Nat} {v : Value} {xs : List Nat} (h : Ow W base v xs) (n : Nat) : Ow (W.drewN n) base v xs := h.block fun _ _ => rfl
theorem below_drewN {b : Nat} {W W' : World} (h : Below b W W') (n : Nat) : Below b W (W'.drewN n) := ⟨h.os, h.tape, h.output, h.size, h.block⟩
end Go.Proofs
/- The walks of the document's values (erratumref07): At, All, Derive, Zeros, From. Conditions: lists of at most a million bytes. -/
namespace Go.Proofs
open Go.RowKit Go.ChangeShapes Go.WideShapes
attribute [local go_sem ↓ high] builtin_ap
attribute [local go_sem] ap_sem
open Pol (IsN Dg ofL Byt vl vlK zl zlK frL deK)

set_option maxRecDepth 100000 in
set_option maxHeartbeats 1000000 in
theorem r7from_calls (q : Option Addr) (n c : Nat) (xs : List Nat) (hn : n ≤ 1000000) (w : World) (hs : Bs w q n xs) :
    Calls Tryz.prog 49 #[.slice q n c] w fun e w' => ∃ v, e = .returned v ∧ Ow w' w.heap.size v (frL xs) ∧ Below w.heap.size w w' := by
  obtain ⟨R, hR⟩ : ∃ R, w.heap.size = R := ⟨_, rfl⟩
  have HS : Hid (Bs w q n xs) := hs
  have HI : Hid (Ow (w.alloc (.cells #[.int .u8 1] 5)) R (.slice (some ⟨R, 0, none⟩) 1 1) [1] ∧ Below R w (w.alloc (.cells #[.int .u8 1] 5))) := ⟨hR ▸ ow_one w (Nat.le_refl _) 1, hR ▸ (Below.refl _ w).alloc (Nat.le_refl _) _⟩
  clear hs
  go_enter Tryz.func49, Tryz.ntmps49
  go_wp2
  go_loopw [3, 4] (fun o i wr => ∃ t : Nat, t ≤ n ∧ i = .int .i64 (t : Int) ∧ Ow wr R o (frL (xs.take t)) ∧ Below R w wr) (fun _ i _ => n - (intOf i).toNat)
  case atStart => exact ⟨0, by omega, rfl, by rw [List.take_zero, Pol.frL_nil]; exact HI.out.1, HI.out.2⟩
  case round =>
    clear HI
    obtain ⟨t, ht, rfl, hO, hB⟩ := hrel
    by_cases hlt : t < n
    · have hi : (t : Int) < (n : Int) := by omega
      have hi0 : (0 : Int) ≤ (t : Int) := by omega
      have hk6 : (t : Int) ≤ 1000000 := by omega
      have hRw : R ≤ wr.heap.size := hR ▸ hB.size
      obtain ⟨a, rfl, la, ca⟩ := (HS.out.below (hR.symm ▸ hB)).cell t hlt
      have hbx := HS.out.byte t
      have hN := Pol.frL_snoc (xs.take t) (xs.getD t 0)
      rw [← Pol.take_snoc' xs t (by rw [HS.out.len]; exact hlt)] at hN
      obtain ⟨z, hze⟩ : ∃ z, xs.getD t 0 = z := ⟨_, rfl⟩
      rw [hze] at ca hbx hN
      obtain ⟨q2, c2, rfl, S2, C2, -⟩ := hO.tell (n := t + 1) (Pol.frL_isN _).byt (by rw [Pol.frL_length, List.length_take, HS.out.len]; omega)
      have S : Bs (wr.alloc (.cells #[.int .u8 (z : Nat), .int .u8 1] 5)) (some ⟨wr.heap.size, 0, none⟩) 2 [z, 1] := bs_lits wr _ [z, 1] _ 2 rfl rfl rfl (by simp [hbx]) (by simp)
      have K := rpmul_calls q2 (some ⟨wr.heap.size, 0, none⟩) (t + 1) c2 2 2 _ [z, 1] _ hN (by omega) (by omega) _ (S2.alloc _) S
      have HB : Hid (Below R w (wr.alloc (.cells #[.int .u8 (z : Nat), .int .u8 1] 5))) := hB.alloc hRw _
      clear hO hB S2 S hN hze hbx la
      go_wp2_with fail
      refine K.mono ?_
      rintro e w1 ⟨v, rfl, hO, hb⟩
      clear K
      have HZ : Hid (Ow w1 R v (frL (xs.take (t + 1))) ∧ Below R w w1) := ⟨hO.mono (by simp; omega), HB.out.trans (hb.mono (by simp; omega))⟩
      clear hO hb HB
      go_wp2
      go_roundw
      case rel => exact ⟨t + 1, by omega, by go_num, HZ.out⟩
      case measure => simp [intOf]; omega
    · obtain rfl : t = n := by omega
      have e0 : xs.take t = xs := List.take_of_length_le (by rw [HS.out.len]; exact Nat.le_refl _)
      rw [e0] at hO
      go_wp2
      go_ret
      exact ⟨_, rfl, hR.symm ▸ hO, hR.symm ▸ hB⟩
end Go.Proofs
