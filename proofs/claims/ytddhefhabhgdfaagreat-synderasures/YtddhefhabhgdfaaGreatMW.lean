/- Texts laid together: VUn, Ref07. Each says its own conditions. -/
import Derived.BigQuiet
import Derived.Test.YtddhefhabhgdfaaGreatMA
import Derived.Test.YtddhefhabhgdfaaGreatMO
import Derived.Test.YtddhefhabhgdfaaGreatMG
import Derived.Test.YtddhefhabhgdfaaGreatMV
import Derived.Test.YtddhefhabhgdfaaGreatMS
import Derived.Test.YtddhefhabhgdfaaGreatMC
/- The walk of erratumlaw07.Unlike: some bytes of a list, each once. Conditions: a list that is read; at most a thousand are asked for. -/
namespace Go.Proofs
open Go.RowKit Go.ChangeShapes Go.WideShapes
attribute [local go_sem ↓ high] builtin_ap
attribute [local go_sem] ap_sem
open Pol (Byt unl unK)

theorem Ow.drewN {W : World} {base : Nat} {v : Value} {xs : List Nat} (h : Ow W base v xs) (n : Nat) : Ow (W.drewN n) base v xs := h.block fun _ _ => rfl
theorem below_drewN {b : Nat} {W W' : World} (h : Below b W W') (n : Nat) : Below b W (W'.drewN n) := ⟨h.os, h.tape, h.output, h.size, h.block⟩
end Go.Proofs
/- The walks of the document's values (erratumref07): At, All, Derive, Zeros, From. Conditions: lists of at most a million bytes. -/
namespace Go.Proofs
open Go.RowKit Go.ChangeShapes Go.WideShapes
attribute [local go_sem ↓ high] builtin_ap
attribute [local go_sem] ap_sem
open Pol (IsN Dg ofL Byt vl vlK zl zlK frL deK)

set_option maxRecDepth 100000 in
set_option maxHeartbeats 1000000 in
theorem r7at_calls (q : Option Addr) (n c x : Nat) (xs : List Nat) (hx : x < 256) (hn : n ≤ 1000000) (w : World) (hs : Bs w q n xs) :
    Calls Tryz.prog 75 #[.slice q n c, .int .u8 x] w fun e w' => e = .returned (.int .u8 (vl xs x : Nat)) ∧ Below w.heap.size w w' := by
  have HS : Hid (Bs w q n xs) := hs
  clear hs
  go_enter Tryz.func75, Tryz.ntmps75
  go_wp2
  go_loopw [5, 6] (fun s i wr => ∃ k : Nat, k ≤ n ∧ i = .int .i64 (k : Int) ∧ s = .int .u8 (vlK xs x k : Nat) ∧ But (fun _ => False) w wr) (fun _ i _ => n - (intOf i).toNat)
  case atStart => exact ⟨0, by omega, rfl, rfl, But.refl _ _⟩
  case round =>
    obtain ⟨k, hk, rfl, rfl, hB⟩ := hrel
    by_cases hlt : k < n
    · have hi : (k : Int) < (n : Int) := by omega
      have hi0 : (0 : Int) ≤ (k : Int) := by omega
      have hk6 : (k : Int) ≤ 1000000 := by omega
      obtain ⟨a, rfl, la, ca⟩ := HS.out.cell k hlt
      replace ca := (hB.cell (p := a.add k) (by rw [block_add]; exact la) id).trans ca
      have hbx := HS.out.byte k
      have hst := Pol.vlK_succ xs x k HS.out.byte hx
      have hpl := Gf.powZ_lt x (k : Int) hx
      have C1 : Hid (∀ W, Calls Tryz.prog 77 #[.int .u8 x, .int .i64 (k : Int)] W fun e w' => e = .returned (.int .u8 (Gf.powZ x (k : Int) : Nat)) ∧ w' = W) := fun W => rpow_calls x (k : Int) hx W
      obtain ⟨b, hb⟩ : ∃ b, Gf.powZ x (k : Int) = b := ⟨_, rfl⟩
      obtain ⟨y, hy⟩ : ∃ y, xs.getD k 0 = y := ⟨_, rfl⟩
      rw [hb] at C1 hst hpl
      rw [hy] at ca hbx hst
      have C2 : Hid (∀ W, Calls Tryz.prog 76 #[.int .u8 y, .int .u8 b] W fun e w' => e = .returned (.int .u8 (Gf.mul y b : Nat)) ∧ w' = W) := fun W => rmul_calls y b hbx W
      have hsl := Pol.vlK_lt xs x k
      obtain ⟨s, hse⟩ : ∃ s, vlK xs x k = s := ⟨_, rfl⟩
      rw [hse] at hst hsl ⊢
      have hxo := u8_xor_nat s (Gf.mul y b) hsl (Gf.mul_lt _ _ hbx)
      have HW : Hid (vlK xs x (k + 1) = s ^^^ Gf.mul y b ∧ But (fun _ => False) w wr) := ⟨hst, hB⟩
      clear hst hB hb hy hse la hbx hsl hpl
      go_wp2
      go_quiet ((first | (go_at_call 77; with_reducible refine Calls.quiet_of_same (C1.out _)) | (go_at_call 76; with_reducible refine Calls.quiet_of_same (C2.out _))))
      go_wp2
      go_roundw
      case rel => exact ⟨k + 1, by omega, by go_num, by rw [HW.out.1], HW.out.2.trans (But.drewN _ _ _)⟩
      case measure => simp [intOf]; omega
    · obtain rfl : k = n := by omega
      have e0 : vlK xs x k = vl xs x := by rw [← HS.out.len]; rfl
      rw [e0]
      have HB : Hid (Below w.heap.size w wr) := hB.below (Nat.le_refl _) (fun _ h => h.elim)
      clear hB e0
      go_wp2
      go_ret
      exact ⟨rfl, HB.out⟩

set_option maxRecDepth 100000 in
set_option maxHeartbeats 1000000 in
theorem r7all_calls (q p : Option Addr) (n c m d : Nat) (xs ys : List Nat) (hn : n ≤ 1000000) (hm : m ≤ 1000000) (w : World) (hs : Bs w q n xs) (hy : Bs w p m ys) :
    Calls Tryz.prog 58 #[.slice q n c, .slice p m d] w fun e w' => ∃ v, e = .returned v ∧ Ow w' w.heap.size v (ys.map (vl xs)) ∧ Below w.heap.size w w' := by
  have HS : Hid (Bs w q n xs ∧ Bs w p m ys) := ⟨hs, hy⟩
  obtain ⟨R, hR⟩ : ∃ R, w.heap.size = R := ⟨_, rfl⟩
  clear hs hy
  go_enter Tryz.func58, Tryz.ntmps58
  go_wp2
  go_loopw [5, 6] (fun o i wr => ∃ k : Nat, k ≤ m ∧ i = .int .i64 (k : Int) ∧ Ow wr R o ((ys.take k).map (vl xs)) ∧ Below R w wr) (fun _ i _ => m - (intOf i).toNat)
  case atStart => exact ⟨0, by omega, rfl, ow_nil _ _, Below.refl _ _⟩
  case round =>
    obtain ⟨k, hk, rfl, hO, hB⟩ := hrel
    by_cases hlt : k < m
    · have hi : (k : Int) < (m : Int) := by omega
      have hi0 : (0 : Int) ≤ (k : Int) := by omega
      have hk6 : (k : Int) ≤ 1000000 := by omega
      obtain ⟨a, rfl, la, ca⟩ := (HS.out.2.below (hR.symm ▸ hB)).cell k hlt
      have hbx := HS.out.2.byte k
      have hts := Pol.take_snoc' ys k (by rw [HS.out.2.len]; exact hlt)
      obtain ⟨x, hx⟩ : ∃ x, ys.getD k 0 = x := ⟨_, rfl⟩
      rw [hx] at ca hbx hts
      have K := r7at_calls q n c x xs hbx hn wr (HS.out.1.below (hR.symm ▸ hB))
      have hlu : ((ys.take k).map (vl xs)).length ≤ 1000000000 := by rw [List.length_map, List.length_take]; omega
      have hmp : (ys.take (k + 1)).map (vl xs) = (ys.take k).map (vl xs) ++ [vl xs x] := by rw [hts, List.map_append]; rfl
      obtain ⟨us, hus⟩ : ∃ us, (ys.take k).map (vl xs) = us := ⟨_, rfl⟩
      rw [hus] at hO hlu hmp
      have hRw : R ≤ wr.heap.size := hR ▸ hB.size
      have HO : Hid (Ow wr R u5 us ∧ Below R w wr ∧ us.length ≤ 1000000000) := ⟨hO, hB, hlu⟩
      clear hO hB hlu hx hts hus la
      go_wp2_with fail
      refine K.mono ?_
      rintro e w1 ⟨rfl, hb⟩
      clear K
      obtain ⟨y, hye⟩ : ∃ y, vl xs x = y := ⟨_, rfl⟩
      rw [hye] at hmp ⊢
      have hO1 := HO.out.1.below hb
      have hRw1 : R ≤ w1.heap.size := Nat.le_trans hRw hb.size
      obtain ⟨g, cg, W', hap, hO', hbw⟩ := run_append_one w1 R _ us y hO1 HO.out.2.2 hRw1
      obtain ⟨L, hL⟩ : ∃ L, (us ++ [y]).length = L := ⟨_, rfl⟩
      rw [hL] at hap hO'
      have ha1 := ap_ok hap
      have ha2 := ap_v hap
      have ha3 := ap_w hap
      have HZ : Hid (Ow W' R (.slice (some ⟨g, 0, none⟩) L cg) ((ys.take (k + 1)).map (vl xs)) ∧ Below R w W') := ⟨by rw [hmp]; exact hO', (HO.out.2.1.trans (hb.mono hRw)).trans (hbw _ (Nat.le_refl _))⟩
      clear hO' hbw hap hL hO1 hb hmp hye HO ca
      go_wp2
      go_roundw
      case rel => exact ⟨k + 1, by omega, by go_num, HZ.out⟩
      case measure => simp [intOf]; omega
    · obtain rfl : k = m := by omega
      have e0 : ys.take k = ys := List.take_of_length_le (by rw [HS.out.2.len]; exact Nat.le_refl _)
      rw [e0] at hO
      go_wp2
      go_ret
      exact ⟨_, rfl, hR.symm ▸ hO, hR.symm ▸ hB⟩



set_option maxRecDepth 100000 in
set_option maxHeartbeats 1000000 in
theorem r7from_calls (q : Option Addr) (n c : Nat) (xs : List Nat) (hn : n ≤ 1000000) (w : World) (hs : Bs w q n xs) :
    Calls Tryz.prog 64 #[.slice q n c] w fun e w' => ∃ v, e = .returned v ∧ Ow w' w.heap.size v (frL xs) ∧ Below w.heap.size w w' := by
  obtain ⟨R, hR⟩ : ∃ R, w.heap.size = R := ⟨_, rfl⟩
  have HS : Hid (Bs w q n xs) := hs
  have HI : Hid (Ow (w.alloc (.cells #[.int .u8 1] 5)) R (.slice (some ⟨R, 0, none⟩) 1 1) [1] ∧ Below R w (w.alloc (.cells #[.int .u8 1] 5))) := ⟨hR ▸ ow_one w (Nat.le_refl _) 1, hR ▸ (Below.refl _ w).alloc (Nat.le_refl _) _⟩
  clear hs
  go_enter Tryz.func64, Tryz.ntmps64
  go_wp2
  go_loopw [3, 4] (fun o i wr => ∃ t : Nat, t ≤ n ∧ i = .int .i64 (t : Int) ∧ Ow wr R o (frL (xs.take t)) ∧ Below R w wr) (fun _ i _ => n - (intOf i).toNat)
  case atStart => exact ⟨0, by omega, rfl, by rw [List.take_zero, Pol.frL_nil]; exact HI.out.1, HI.out.2⟩
  case round =>
    clear HI
    obtain ⟨t, ht, rfl, hO, hB⟩ := hrel
    by_cases hlt : t < n
    · have hi : (t : Int) < (n : Int) := by omega
      have hi0 : (0 : Int) ≤ (t : Int) := by omega
      have hk6 : (t : Int) ≤ 1000000 := by omega
      have hRw : R ≤ wr.heap.size := hR ▸ hB.size
      obtain ⟨a, rfl, la, ca⟩ := (HS.out.below (hR.symm ▸ hB)).cell t hlt
      have hbx := HS.out.byte t
      have hN := Pol.frL_snoc (xs.take t) (xs.getD t 0)
      rw [← Pol.take_snoc' xs t (by rw [HS.out.len]; exact hlt)] at hN
      obtain ⟨z, hze⟩ : ∃ z, xs.getD t 0 = z := ⟨_, rfl⟩
      rw [hze] at ca hbx hN
      obtain ⟨q2, c2, rfl, S2, C2, -⟩ := hO.tell (n := t + 1) (Pol.frL_isN _).byt (by rw [Pol.frL_length, List.length_take, HS.out.len]; omega)
      have S : Bs (wr.alloc (.cells #[.int .u8 (z : Nat), .int .u8 1] 5)) (some ⟨wr.heap.size, 0, none⟩) 2 [z, 1] := bs_lits wr _ [z, 1] _ 2 rfl rfl rfl (by simp [hbx]) (by simp)
      have K := rpmul_calls q2 (some ⟨wr.heap.size, 0, none⟩) (t + 1) c2 2 2 _ [z, 1] _ hN (by omega) (by omega) _ (S2.alloc _) S
      have HB : Hid (Below R w (wr.alloc (.cells #[.int .u8 (z : Nat), .int .u8 1] 5))) := hB.alloc hRw _
      clear hO hB S2 S hN hze hbx la
      go_wp2_with fail
      refine K.mono ?_
      rintro e w1 ⟨v, rfl, hO, hb⟩
      clear K
      have HZ : Hid (Ow w1 R v (frL (xs.take (t + 1))) ∧ Below R w w1) := ⟨hO.mono (by simp; omega), HB.out.trans (hb.mono (by simp; omega))⟩
      clear hO hb HB
      go_wp2
      go_roundw
      case rel => exact ⟨t + 1, by omega, by go_num, HZ.out⟩
      case measure => simp [intOf]; omega
    · obtain rfl : t = n := by omega
      have e0 : xs.take t = xs := List.take_of_length_le (by rw [HS.out.len]; exact Nat.le_refl _)
      rw [e0] at hO
      go_wp2
      go_ret
      exact ⟨_, rfl, hR.symm ▸ hO, hR.symm ▸ hB⟩
end Go.Proofs
