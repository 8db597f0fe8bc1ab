/- The walks of the document's codes (erratumref10): Right, Space, Point, Roots, Generator, Parity, Has. Conditions: any numbers that ints hold; words of at most a million bytes. -/
import Derived.Test.YtjnkkokhkooegaaGreatNX
import Derived.Test.YtjnkkokhkooegaaGreatMW
namespace Go.Proofs
open Go.RowKit Go.ChangeShapes Go.WideShapes
attribute [local go_sem ↓ high] builtin_ap
attribute [local go_sem] ap_sem
open Pol (Byt frL vl)

set_option maxRecDepth 100000 in
set_option maxHeartbeats 1000000 in
theorem r10right_calls (N K B : Int) (w : World) :
    Calls Tryz.prog 26 #[.agg #[.int .i64 N, .int .i64 K, .int .i64 B]] w fun e w' => e = .returned (.int .i64 (cdE N K B)) ∧ Below w.heap.size w w' := by
  have HX : Hid (Below w.heap.size w (w.alloc (.cells #[.int .i64 N, .int .i64 K, .int .i64 B] 26))) := (Below.refl _ w).alloc (Nat.le_refl _) _
  by_cases h1 : K < 1
  · rw [cdE_no (by simp [cdB]; omega)]
    go_enter Tryz.func26, Tryz.ntmps26
    go_wp2
    go_ret
    exact ⟨rfl, HX.out⟩
  have h1' : (K < 1) = False := eq_false h1
  by_cases h2 : N ≤ K
  · rw [cdE_no (by simp [cdB]; omega)]
    clear h1
    go_enter Tryz.func26, Tryz.ntmps26
    go_wp2
    go_ret
    exact ⟨rfl, HX.out⟩
  have h2' : (N ≤ K) = False := eq_false h2
  by_cases h3 : 255 < N
  · rw [cdE_no (by simp [cdB]; omega)]
    clear h1 h2
    go_enter Tryz.func26, Tryz.ntmps26
    go_wp2
    go_ret
    exact ⟨rfl, HX.out⟩
  have h3' : (255 < N) = False := eq_false h3
  by_cases h4 : B < 0
  · rw [cdE_no (by simp [cdB]; omega)]
    clear h1 h2 h3
    go_enter Tryz.func26, Tryz.ntmps26
    go_wp2
    go_ret
    exact ⟨rfl, HX.out⟩
  have h4' : (B < 0) = False := eq_false h4
  by_cases h5 : 254 < B
  · rw [cdE_no (by simp [cdB]; omega)]
    clear h1 h2 h3 h4
    go_enter Tryz.func26, Tryz.ntmps26
    go_wp2
    go_ret
    exact ⟨rfl, HX.out⟩
  have h5' : (254 < B) = False := eq_false h5
  rw [cdE_yes (cdB_true.2 ⟨by omega, by omega, by omega, by omega, by omega⟩)]
  clear h1 h2 h3 h4 h5
  go_enter Tryz.func26, Tryz.ntmps26
  go_wp2
  go_ret
  exact ⟨rfl, HX.out⟩

set_option maxRecDepth 100000 in
set_option maxHeartbeats 1000000 in
theorem r10space_calls (N K B : Int) (w : World) :
    Calls Tryz.prog 27 #[.agg #[.int .i64 N, .int .i64 K, .int .i64 B]] w fun e w' => e = .returned (.int .i64 (cdS N K B)) ∧ Below w.heap.size w w' := by
  obtain ⟨R, hR⟩ : ∃ R, w.heap.size = R := ⟨_, rfl⟩
  obtain ⟨W0, hW0⟩ : ∃ W0, w.alloc (.cells #[.int .i64 N, .int .i64 K, .int .i64 B] 26) = W0 := ⟨_, rfl⟩
  have hb0 : Below w.heap.size w W0 := hW0 ▸ (Below.refl _ w).alloc (Nat.le_refl _) _
  have hC : Cb W0 R N K B := by rw [← hW0, ← hR]; exact cb_new w _ _ _
  have K1 := r10right_calls N K B W0
  have HB : Hid (Below w.heap.size w W0 ∧ Cb W0 R N K B) := ⟨hb0, hC⟩
  have c0 := (hC).c0
  have c1 := (hC).c1
  have c2 := (hC).c2
  clear hb0 hC
  cases hc : cdB N K B with
  | false =>
    rw [cdE_no hc] at K1
    rw [cdS_no hc]
    go_enter Tryz.func27, Tryz.ntmps27
    go_wp2_with fail
    refine K1.mono ?_
    rintro e w1 ⟨rfl, hb⟩
    go_wp2
    go_ret
    exact ⟨rfl, HB.out.1.trans (hb.mono HB.out.1.size)⟩
  | true =>
    rw [cdE_yes hc] at K1
    rw [cdS_yes hc]
    obtain ⟨g1, g2, g3, _, _⟩ := cdB_true.1 hc
    clear hc
    go_enter Tryz.func27, Tryz.ntmps27
    go_wp2_with fail
    refine K1.mono ?_
    rintro e w1 ⟨rfl, hb⟩
    clear c0 c1 c2
    have hC1 := HB.out.2.below hb
    have hz : wrap64 (N - K) = N - K := by unfold wrap64; omega
    have HB1 : Hid (Below w.heap.size w w1) := HB.out.1.trans (hb.mono HB.out.1.size)
    have c0 := (hC1).c0
    have c1 := (hC1).c1
    have c2 := (hC1).c2
    clear hb hC1 g1 g2 g3
    go_wp2
    go_ret
    exact ⟨by rw [hz]; rfl, HB1.out⟩

set_option maxRecDepth 100000 in
theorem r10point_calls (n : Int) (r : Nat) (hr : Gf.powZ 2 n = r) (w : World) :
    Calls Tryz.prog 69 #[.int .i64 n] w fun e w' => e = .returned (.int .u8 (r : Nat)) ∧ w' = w := by
  subst hr
  have K1 := rpow_calls 2 n (by decide) w
  go_enter Tryz.func69, Tryz.ntmps69
  go_wp2_with fail
  refine K1.mono ?_
  rintro e w ⟨rfl, hw⟩
  subst hw
  go_wp2
  go_ret
  exact ⟨rfl, rfl⟩

set_option maxRecDepth 100000 in
set_option maxHeartbeats 1000000 in
theorem r10roots_calls (N K B S : Nat) (h : Cod N K B) (hS : N - K = S) (w : World) :
    Calls Tryz.prog 50 #[.agg #[.int .i64 (N : Nat), .int .i64 (K : Nat), .int .i64 (B : Nat)]] w fun e w' => ∃ v, e = .returned v ∧ Ow w' w.heap.size v (Cd.rts B S) ∧ Below w.heap.size w w' := by
  obtain ⟨R, hR⟩ : ∃ R, w.heap.size = R := ⟨_, rfl⟩
  obtain ⟨W0, hW0⟩ : ∃ W0, w.alloc (.cells #[.int .i64 (N : Nat), .int .i64 (K : Nat), .int .i64 (B : Nat)] 26) = W0 := ⟨_, rfl⟩
  have hb0 : Below w.heap.size w W0 := hW0 ▸ (Below.refl _ w).alloc (Nat.le_refl _) _
  have hC : Cb W0 R (N : Nat) (K : Nat) (B : Nat) := by rw [← hW0, ← hR]; exact cb_new w _ _ _
  have hs0 : W0.heap.size = R + 1 := by rw [← hW0, ← hR]; simp
  have KS : Hid (∀ W, Calls Tryz.prog 27 #[.agg #[.int .i64 (N : Nat), .int .i64 (K : Nat), .int .i64 (B : Nat)]] W fun e w' => e = .returned (.int .i64 (S : Nat)) ∧ Below W.heap.size W w') := fun W => by
    have := r10space_calls (N : Int) (K : Int) (B : Int) W
    rw [cdS_nat h, hS] at this
    exact this
  have hS255 : S ≤ 255 := by have := h.m; omega
  have hB255 : B ≤ 254 := h.b
  have HB : Hid (Below w.heap.size w W0 ∧ Cb W0 R (N : Nat) (K : Nat) (B : Nat)) := ⟨hb0, hC⟩
  clear hb0 hC h hS
  go_enter Tryz.func50, Tryz.ntmps50
  go_wp2
  go_loopw [3, 4] (fun v i wr => ∃ t : Nat, t ≤ S ∧ i = .int .i64 (t : Int) ∧ Ow wr (R + 1) v (Cd.rts B t) ∧ Below (R + 1) W0 wr) (fun _ i _ => S - (intOf i).toNat)
  case atStart => exact ⟨0, by omega, rfl, ow_nil _ _, Below.refl _ _⟩
  case round =>
    obtain ⟨t, ht, rfl, hO, hB⟩ := hrel
    have hC := HB.out.2.below (hs0.symm ▸ hB)
    have KS1 := KS.out wr
    have hRw : R + 1 ≤ wr.heap.size := hs0 ▸ hB.size
    have HO : Hid (Ow wr (R + 1) u3 (Cd.rts B t) ∧ Below (R + 1) W0 wr) := ⟨hO, hB⟩
    clear hO hB
    have c0 := (hC).c0
    have c1 := (hC).c1
    have c2 := (hC).c2
    clear hC
    by_cases hlt : t < S
    · have hi : (t : Int) < (S : Int) := by omega
      go_wp2_with fail
      refine KS1.mono ?_
      rintro e w1 ⟨rfl, hb⟩
      clear c0 c1 c2
      clear KS1
      have hO1 := HO.out.1.below hb
      have hB1 := HO.out.2.trans (hb.mono hRw)
      have hRw1 : R + 1 ≤ w1.heap.size := Nat.le_trans hRw hb.size
      have hC := HB.out.2.below (hs0.symm ▸ hB1)
      have KP : Hid (Calls Tryz.prog 69 #[.int .i64 ((B + t : Nat) : Int)] w1 fun e w' => e = .returned (.int .u8 (Cd.pt (B + t) : Nat)) ∧ w' = w1) := r10point_calls ((B + t : Nat) : Int) _ (pt_nat _) w1
      have hrs := Cd.rts_succ B t
      obtain ⟨x, hx⟩ : ∃ x, Cd.pt (B + t) = x := ⟨_, rfl⟩
      rw [hx] at KP hrs
      have hlu : (Cd.rts B t).length ≤ 1000000000 := by rw [Cd.rts_length]; omega
      obtain ⟨us, hus⟩ : ∃ us, Cd.rts B t = us := ⟨_, rfl⟩
      rw [hus] at hO1 hlu hrs
      obtain ⟨g, cg, W', hap, hO', hbw⟩ := run_append_one w1 (R + 1) _ us x hO1 hlu hRw1
      obtain ⟨L, hL⟩ : ∃ L, (us ++ [x]).length = L := ⟨_, rfl⟩
      rw [hL] at hap hO'
      have ha1 := ap_ok hap
      have ha2 := ap_v hap
      have ha3 := ap_w hap
      have HZ : Hid (Ow W' (R + 1) (.slice (some ⟨g, 0, none⟩) L cg) (Cd.rts B (t + 1)) ∧ Below (R + 1) W0 W') := ⟨by rw [hrs]; exact hO', hB1.trans (hbw _ (Nat.le_refl _))⟩
      obtain ⟨m, hm⟩ : ∃ m : Nat, B + t = m := ⟨_, rfl⟩
      rw [hm] at KP
      have hmi : (B : Int) + (t : Int) = (m : Int) := by omega
      have hm6 : (m : Int) ≤ 1000 := by omega
      clear hO' hbw hap hL hO1 hb hx hus hrs hlu hB1 hm HO
      have c0 := (hC).c0
      have c1 := (hC).c1
      have c2 := (hC).c2
      clear hC
      go_wp2_with fail
      refine KP.out.mono ?_
      rintro e w1 ⟨rfl, hw⟩
      subst hw
      clear KP
      go_wp2
      go_roundw
      case rel => exact ⟨t + 1, by omega, by go_num, HZ.out⟩
      case measure => simp [intOf]; omega
    · obtain rfl : t = S := by omega
      go_wp2_with fail
      refine KS1.mono ?_
      rintro e w1 ⟨rfl, hb⟩
      clear c0 c1 c2
      clear KS1
      have HZ : Hid (Ow w1 R u3 (Cd.rts B t) ∧ Below R w w1) := ⟨(HO.out.1.below hb).mono (by omega), (hR ▸ HB.out.1).trans ((HO.out.2.trans (hb.mono hRw)).mono (by omega))⟩
      clear hb
      go_wp2
      go_ret
      exact ⟨_, rfl, hR.symm ▸ HZ.out⟩

set_option maxRecDepth 100000 in
set_option maxHeartbeats 1000000 in
theorem r10gen_calls (N K B S : Nat) (h : Cod N K B) (hS : N - K = S) (w : World) :
    Calls Tryz.prog 30 #[.agg #[.int .i64 (N : Nat), .int .i64 (K : Nat), .int .i64 (B : Nat)]] w fun e w' => ∃ v, e = .returned v ∧ Ow w' w.heap.size v (Cd.gen B S) ∧ Below w.heap.size w w' := by
  obtain ⟨R, hR⟩ : ∃ R, w.heap.size = R := ⟨_, rfl⟩
  obtain ⟨W0, hW0⟩ : ∃ W0, w.alloc (.cells #[.int .i64 (N : Nat), .int .i64 (K : Nat), .int .i64 (B : Nat)] 26) = W0 := ⟨_, rfl⟩
  have hb0 : Below w.heap.size w W0 := hW0 ▸ (Below.refl _ w).alloc (Nat.le_refl _) _
  have hC : Cb W0 R (N : Nat) (K : Nat) (B : Nat) := by rw [← hW0, ← hR]; exact cb_new w _ _ _
  have K1 := r10right_calls (N : Int) (K : Int) (B : Int) W0
  rw [cdE_yes h.yes] at K1
  have KR : Hid (∀ W, Calls Tryz.prog 50 #[.agg #[.int .i64 (N : Nat), .int .i64 (K : Nat), .int .i64 (B : Nat)]] W fun e w' => ∃ v, e = .returned v ∧ Ow w' W.heap.size v (Cd.rts B S) ∧ Below W.heap.size W w') := fun W => r10roots_calls N K B S h hS W
  have HB : Hid (Below w.heap.size w W0 ∧ Cb W0 R (N : Nat) (K : Nat) (B : Nat) ∧ S ≤ 1000000) := ⟨hb0, hC, by have := h.m; omega⟩
  clear hb0 h hS
  have c0 := (hC).c0
  have c1 := (hC).c1
  have c2 := (hC).c2
  clear hC
  go_enter Tryz.func30, Tryz.ntmps30
  go_wp2_with fail
  refine K1.mono ?_
  rintro e w1 ⟨rfl, hb⟩
  clear K1
  clear c0 c1 c2
  have hC := HB.out.2.1.below hb
  have HB1 : Hid (Below w.heap.size w w1) := HB.out.1.trans (hb.mono HB.out.1.size)
  have KR1 := KR.out w1
  clear hb KR
  have c0 := (hC).c0
  have c1 := (hC).c1
  have c2 := (hC).c2
  clear hC
  go_wp2_with fail
  refine KR1.mono ?_
  rintro e w2 ⟨v, rfl, hO, hb⟩
  clear KR1
  clear c0 c1 c2
  obtain ⟨q, c, rfl, S2, C2, -⟩ := hO.tell (n := S) (Cd.rts_byt B S) (Cd.rts_length B S)
  have K2 := r7from_calls q S c (Cd.rts B S) HB.out.2.2 w2 S2
  have HB2 : Hid (Below w.heap.size w w2) := HB1.out.trans (hb.mono HB1.out.size)
  clear hO hb S2
  go_wp2_with fail
  refine K2.mono ?_
  rintro e w3 ⟨v, rfl, hO, hb⟩
  clear K2
  have HZ : Hid (Ow w3 w.heap.size v (Cd.gen B S) ∧ Below w.heap.size w w3) := ⟨hO.mono HB2.out.size, HB2.out.trans (hb.mono HB2.out.size)⟩
  clear hO hb
  go_wp2
  go_ret
  exact ⟨_, rfl, HZ.out⟩
end Go.Proofs
