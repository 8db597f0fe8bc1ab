/- Texts laid together: Ref10, Ref10p. Each says its own conditions. -/
import Derived.Test.YtbikchgkglllkaaGreatNX
import Derived.Test.YtbikchgkglllkaaGreatMW
import Derived.Test.YtbikchgkglllkaaGreatNF
import Derived.Test.YtbikchgkglllkaaGreatMO
/- The walks of the document's codes (erratumref10): Right, Space, Point, Roots, Generator, Parity, Has. Conditions: any numbers that ints hold; words of at most a million bytes. -/
namespace Go.Proofs
open Go.RowKit Go.ChangeShapes Go.WideShapes
attribute [local go_sem ↓ high] builtin_ap
attribute [local go_sem] ap_sem
open Pol (Byt frL vl)

set_option maxRecDepth 100000 in
set_option maxHeartbeats 1000000 in
theorem r10right_calls (N K B : Int) (w : World) :
    Calls Tryz.prog 12 #[.agg #[.int .i64 N, .int .i64 K, .int .i64 B]] w fun e w' => e = .returned (.int .i64 (cdE N K B)) ∧ Below w.heap.size w w' := by
  have HX : Hid (Below w.heap.size w (w.alloc (.cells #[.int .i64 N, .int .i64 K, .int .i64 B] 23))) := (Below.refl _ w).alloc (Nat.le_refl _) _
  by_cases h1 : K < 1
  · rw [cdE_no (by simp [cdB]; omega)]
    go_enter Tryz.func12, Tryz.ntmps12
    go_wp2
    go_ret
    exact ⟨rfl, HX.out⟩
  have h1' : (K < 1) = False := eq_false h1
  by_cases h2 : N ≤ K
  · rw [cdE_no (by simp [cdB]; omega)]
    clear h1
    go_enter Tryz.func12, Tryz.ntmps12
    go_wp2
    go_ret
    exact ⟨rfl, HX.out⟩
  have h2' : (N ≤ K) = False := eq_false h2
  by_cases h3 : 255 < N
  · rw [cdE_no (by simp [cdB]; omega)]
    clear h1 h2
    go_enter Tryz.func12, Tryz.ntmps12
    go_wp2
    go_ret
    exact ⟨rfl, HX.out⟩
  have h3' : (255 < N) = False := eq_false h3
  by_cases h4 : B < 0
  · rw [cdE_no (by simp [cdB]; omega)]
    clear h1 h2 h3
    go_enter Tryz.func12, Tryz.ntmps12
    go_wp2
    go_ret
    exact ⟨rfl, HX.out⟩
  have h4' : (B < 0) = False := eq_false h4
  by_cases h5 : 254 < B
  · rw [cdE_no (by simp [cdB]; omega)]
    clear h1 h2 h3 h4
    go_enter Tryz.func12, Tryz.ntmps12
    go_wp2
    go_ret
    exact ⟨rfl, HX.out⟩
  have h5' : (254 < B) = False := eq_false h5
  rw [cdE_yes (cdB_true.2 ⟨by omega, by omega, by omega, by omega, by omega⟩)]
  clear h1 h2 h3 h4 h5
  go_enter Tryz.func12, Tryz.ntmps12
  go_wp2
  go_ret
  exact ⟨rfl, HX.out⟩

set_option maxRecDepth 100000 in
set_option maxHeartbeats 1000000 in
theorem r10space_calls (N K B : Int) (w : World) :
    Calls Tryz.prog 17 #[.agg #[.int .i64 N, .int .i64 K, .int .i64 B]] w fun e w' => e = .returned (.int .i64 (cdS N K B)) ∧ Below w.heap.size w w' := by
  obtain ⟨R, hR⟩ : ∃ R, w.heap.size = R := ⟨_, rfl⟩
  obtain ⟨W0, hW0⟩ : ∃ W0, w.alloc (.cells #[.int .i64 N, .int .i64 K, .int .i64 B] 23) = W0 := ⟨_, rfl⟩
  have hb0 : Below w.heap.size w W0 := hW0 ▸ (Below.refl _ w).alloc (Nat.le_refl _) _
  have hC : Cb W0 R N K B := by rw [← hW0, ← hR]; exact cb_new w _ _ _
  have K1 := r10right_calls N K B W0
  have HB : Hid (Below w.heap.size w W0 ∧ Cb W0 R N K B) := ⟨hb0, hC⟩
  have c0 := (hC).c0
  have c1 := (hC).c1
  have c2 := (hC).c2
  clear hb0 hC
  cases hc : cdB N K B with
  | false =>
    rw [cdE_no hc] at K1
    rw [cdS_no hc]
    go_enter Tryz.func17, Tryz.ntmps17
    go_wp2_with fail
    refine K1.mono ?_
    rintro e w1 ⟨rfl, hb⟩
    go_wp2
    go_ret
    exact ⟨rfl, HB.out.1.trans (hb.mono HB.out.1.size)⟩
  | true =>
    rw [cdE_yes hc] at K1
    rw [cdS_yes hc]
    obtain ⟨g1, g2, g3, _, _⟩ := cdB_true.1 hc
    clear hc
    go_enter Tryz.func17, Tryz.ntmps17
    go_wp2_with fail
    refine K1.mono ?_
    rintro e w1 ⟨rfl, hb⟩
    clear c0 c1 c2
    have hC1 := HB.out.2.below hb
    have hz : wrap64 (N - K) = N - K := by unfold wrap64; omega
    have HB1 : Hid (Below w.heap.size w w1) := HB.out.1.trans (hb.mono HB.out.1.size)
    have c0 := (hC1).c0
    have c1 := (hC1).c1
    have c2 := (hC1).c2
    clear hb hC1 g1 g2 g3
    go_wp2
    go_ret
    exact ⟨by rw [hz]; rfl, HB1.out⟩

set_option maxRecDepth 100000 in
theorem r10point_calls (n : Int) (r : Nat) (hr : Gf.powZ 2 n = r) (w : World) :
    Calls Tryz.prog 34 #[.int .i64 n] w fun e w' => e = .returned (.int .u8 (r : Nat)) ∧ w' = w := by
  subst hr
  have K1 := rpow_calls 2 n (by decide) w
  go_enter Tryz.func34, Tryz.ntmps34
  go_wp2_with fail
  refine K1.mono ?_
  rintro e w ⟨rfl, hw⟩
  subst hw
  go_wp2
  go_ret
  exact ⟨rfl, rfl⟩

set_option maxRecDepth 100000 in
set_option maxHeartbeats 1000000 in
theorem r10roots_calls (N K B S : Nat) (h : Cod N K B) (hS : N - K = S) (w : World) :
    Calls Tryz.prog 35 #[.agg #[.int .i64 (N : Nat), .int .i64 (K : Nat), .int .i64 (B : Nat)]] w fun e w' => ∃ v, e = .returned v ∧ Ow w' w.heap.size v (Cd.rts B S) ∧ Below w.heap.size w w' := by
  obtain ⟨R, hR⟩ : ∃ R, w.heap.size = R := ⟨_, rfl⟩
  obtain ⟨W0, hW0⟩ : ∃ W0, w.alloc (.cells #[.int .i64 (N : Nat), .int .i64 (K : Nat), .int .i64 (B : Nat)] 23) = W0 := ⟨_, rfl⟩
  have hb0 : Below w.heap.size w W0 := hW0 ▸ (Below.refl _ w).alloc (Nat.le_refl _) _
  have hC : Cb W0 R (N : Nat) (K : Nat) (B : Nat) := by rw [← hW0, ← hR]; exact cb_new w _ _ _
  have hs0 : W0.heap.size = R + 1 := by rw [← hW0, ← hR]; simp
  have KS : Hid (∀ W, Calls Tryz.prog 17 #[.agg #[.int .i64 (N : Nat), .int .i64 (K : Nat), .int .i64 (B : Nat)]] W fun e w' => e = .returned (.int .i64 (S : Nat)) ∧ Below W.heap.size W w') := fun W => by
    have := r10space_calls (N : Int) (K : Int) (B : Int) W
    rw [cdS_nat h, hS] at this
    exact this
  have hS255 : S ≤ 255 := by have := h.m; omega
  have hB255 : B ≤ 254 := h.b
  have HB : Hid (Below w.heap.size w W0 ∧ Cb W0 R (N : Nat) (K : Nat) (B : Nat)) := ⟨hb0, hC⟩
  clear hb0 hC h hS
  go_enter Tryz.func35, Tryz.ntmps35
  go_wp2
  go_loopw [3, 4] (fun v i wr => ∃ t : Nat, t ≤ S ∧ i = .int .i64 (t : Int) ∧ Ow wr (R + 1) v (Cd.rts B t) ∧ Below (R + 1) W0 wr) (fun _ i _ => S - (intOf i).toNat)
  case atStart => exact ⟨0, by omega, rfl, ow_nil _ _, Below.refl _ _⟩
  case round =>
    obtain ⟨t, ht, rfl, hO, hB⟩ := hrel
    have hC := HB.out.2.below (hs0.symm ▸ hB)
    have KS1 := KS.out wr
    have hRw : R + 1 ≤ wr.heap.size := hs0 ▸ hB.size
    have HO : Hid (Ow wr (R + 1) u3 (Cd.rts B t) ∧ Below (R + 1) W0 wr) := ⟨hO, hB⟩
    clear hO hB
    have c0 := (hC).c0
    have c1 := (hC).c1
    have c2 := (hC).c2
    clear hC
    by_cases hlt : t < S
    · have hi : (t : Int) < (S : Int) := by omega
      go_wp2_with fail
      refine KS1.mono ?_
      rintro e w1 ⟨rfl, hb⟩
      clear c0 c1 c2
      clear KS1
      have hO1 := HO.out.1.below hb
      have hB1 := HO.out.2.trans (hb.mono hRw)
      have hRw1 : R + 1 ≤ w1.heap.size := Nat.le_trans hRw hb.size
      have hC := HB.out.2.below (hs0.symm ▸ hB1)
      have KP : Hid (Calls Tryz.prog 34 #[.int .i64 ((B + t : Nat) : Int)] w1 fun e w' => e = .returned (.int .u8 (Cd.pt (B + t) : Nat)) ∧ w' = w1) := r10point_calls ((B + t : Nat) : Int) _ (pt_nat _) w1
      have hrs := Cd.rts_succ B t
      obtain ⟨x, hx⟩ : ∃ x, Cd.pt (B + t) = x := ⟨_, rfl⟩
      rw [hx] at KP hrs
      have hlu : (Cd.rts B t).length ≤ 1000000000 := by rw [Cd.rts_length]; omega
      obtain ⟨us, hus⟩ : ∃ us, Cd.rts B t = us := ⟨_, rfl⟩
      rw [hus] at hO1 hlu hrs
      obtain ⟨g, cg, W', hap, hO', hbw⟩ := run_append_one w1 (R + 1) _ us x hO1 hlu hRw1
      obtain ⟨L, hL⟩ : ∃ L, (us ++ [x]).length = L := ⟨_, rfl⟩
      rw [hL] at hap hO'
      have ha1 := ap_ok hap
      have ha2 := ap_v hap
      have ha3 := ap_w hap
      have HZ : Hid (Ow W' (R + 1) (.slice (some ⟨g, 0, none⟩) L cg) (Cd.rts B (t + 1)) ∧ Below (R + 1) W0 W') := ⟨by rw [hrs]; exact hO', hB1.trans (hbw _ (Nat.le_refl _))⟩
      obtain ⟨m, hm⟩ : ∃ m : Nat, B + t = m := ⟨_, rfl⟩
      rw [hm] at KP
      have hmi : (B : Int) + (t : Int) = (m : Int) := by omega
      have hm6 : (m : Int) ≤ 1000 := by omega
      clear hO' hbw hap hL hO1 hb hx hus hrs hlu hB1 hm HO
      have c0 := (hC).c0
      have c1 := (hC).c1
      have c2 := (hC).c2
      clear hC
      go_wp2_with fail
      refine KP.out.mono ?_
      rintro e w1 ⟨rfl, hw⟩
      subst hw
      clear KP
      go_wp2
      go_roundw
      case rel => exact ⟨t + 1, by omega, by go_num, HZ.out⟩
      case measure => simp [intOf]; omega
    · obtain rfl : t = S := by omega
      go_wp2_with fail
      refine KS1.mono ?_
      rintro e w1 ⟨rfl, hb⟩
      clear c0 c1 c2
      clear KS1
      have HZ : Hid (Ow w1 R u3 (Cd.rts B t) ∧ Below R w w1) := ⟨(HO.out.1.below hb).mono (by omega), (hR ▸ HB.out.1).trans ((HO.out.2.trans (hb.mono hRw)).mono (by omega))⟩
      clear hb
      go_wp2
      go_ret
      exact ⟨_, rfl, hR.symm ▸ HZ.out⟩

set_option maxRecDepth 100000 in
set_option maxHeartbeats 1000000 in
theorem r10roots_none (N K B : Int) (hc : cdB N K B = false) (w : World) :
    Calls Tryz.prog 35 #[.agg #[.int .i64 N, .int .i64 K, .int .i64 B]] w fun e w' => e = .returned (.slice none 0 0) ∧ Below w.heap.size w w' := by
  obtain ⟨R, hR⟩ : ∃ R, w.heap.size = R := ⟨_, rfl⟩
  obtain ⟨W0, hW0⟩ : ∃ W0, w.alloc (.cells #[.int .i64 N, .int .i64 K, .int .i64 B] 23) = W0 := ⟨_, rfl⟩
  have hb0 : Below w.heap.size w W0 := hW0 ▸ (Below.refl _ w).alloc (Nat.le_refl _) _
  have hC : Cb W0 R N K B := by rw [← hW0, ← hR]; exact cb_new w _ _ _
  have KS := r10space_calls N K B W0
  rw [cdS_no hc] at KS
  have HB : Hid (Below w.heap.size w W0) := hb0
  clear hb0 hc
  have c0 := (hC).c0
  have c1 := (hC).c1
  have c2 := (hC).c2
  clear hC
  go_enter Tryz.func35, Tryz.ntmps35
  go_wp2
  go_loopw [3, 4] (fun v i wr => i = .int .i64 0 ∧ v = .slice none 0 0 ∧ W0 = wr) (fun _ _ _ => 0)
  case atStart => exact ⟨rfl, rfl, rfl⟩
  case round =>
    obtain ⟨rfl, rfl, rfl⟩ := hrel
    go_wp2_with fail
    refine KS.mono ?_
    rintro e w1 ⟨rfl, hb⟩
    go_wp2
    go_ret
    exact ⟨rfl, HB.out.trans (hb.mono HB.out.size)⟩

set_option maxRecDepth 100000 in
set_option maxHeartbeats 1000000 in
theorem r10gen_calls (N K B S : Nat) (h : Cod N K B) (hS : N - K = S) (w : World) :
    Calls Tryz.prog 36 #[.agg #[.int .i64 (N : Nat), .int .i64 (K : Nat), .int .i64 (B : Nat)]] w fun e w' => ∃ v, e = .returned v ∧ Ow w' w.heap.size v (Cd.gen B S) ∧ Below w.heap.size w w' := by
  obtain ⟨R, hR⟩ : ∃ R, w.heap.size = R := ⟨_, rfl⟩
  obtain ⟨W0, hW0⟩ : ∃ W0, w.alloc (.cells #[.int .i64 (N : Nat), .int .i64 (K : Nat), .int .i64 (B : Nat)] 23) = W0 := ⟨_, rfl⟩
  have hb0 : Below w.heap.size w W0 := hW0 ▸ (Below.refl _ w).alloc (Nat.le_refl _) _
  have hC : Cb W0 R (N : Nat) (K : Nat) (B : Nat) := by rw [← hW0, ← hR]; exact cb_new w _ _ _
  have K1 := r10right_calls (N : Int) (K : Int) (B : Int) W0
  rw [cdE_yes h.yes] at K1
  have KR : Hid (∀ W, Calls Tryz.prog 35 #[.agg #[.int .i64 (N : Nat), .int .i64 (K : Nat), .int .i64 (B : Nat)]] W fun e w' => ∃ v, e = .returned v ∧ Ow w' W.heap.size v (Cd.rts B S) ∧ Below W.heap.size W w') := fun W => r10roots_calls N K B S h hS W
  have HB : Hid (Below w.heap.size w W0 ∧ Cb W0 R (N : Nat) (K : Nat) (B : Nat) ∧ S ≤ 1000000) := ⟨hb0, hC, by have := h.m; omega⟩
  clear hb0 h hS
  have c0 := (hC).c0
  have c1 := (hC).c1
  have c2 := (hC).c2
  clear hC
  go_enter Tryz.func36, Tryz.ntmps36
  go_wp2_with fail
  refine K1.mono ?_
  rintro e w1 ⟨rfl, hb⟩
  clear K1
  clear c0 c1 c2
  have hC := HB.out.2.1.below hb
  have HB1 : Hid (Below w.heap.size w w1) := HB.out.1.trans (hb.mono HB.out.1.size)
  have KR1 := KR.out w1
  clear hb KR
  have c0 := (hC).c0
  have c1 := (hC).c1
  have c2 := (hC).c2
  clear hC
  go_wp2_with fail
  refine KR1.mono ?_
  rintro e w2 ⟨v, rfl, hO, hb⟩
  clear KR1
  clear c0 c1 c2
  obtain ⟨q, c, rfl, S2, C2, -⟩ := hO.tell (n := S) (Cd.rts_byt B S) (Cd.rts_length B S)
  have K2 := r7from_calls q S c (Cd.rts B S) HB.out.2.2 w2 S2
  have HB2 : Hid (Below w.heap.size w w2) := HB1.out.trans (hb.mono HB1.out.size)
  clear hO hb S2
  go_wp2_with fail
  refine K2.mono ?_
  rintro e w3 ⟨v, rfl, hO, hb⟩
  clear K2
  have HZ : Hid (Ow w3 w.heap.size v (Cd.gen B S) ∧ Below w.heap.size w w3) := ⟨hO.mono HB2.out.size, HB2.out.trans (hb.mono HB2.out.size)⟩
  clear hO hb
  go_wp2
  go_ret
  exact ⟨_, rfl, HZ.out⟩
set_option maxRecDepth 100000 in
set_option maxHeartbeats 1000000 in
theorem r10gen_none (N K B : Int) (hc : cdB N K B = false) (w : World) :
    Calls Tryz.prog 36 #[.agg #[.int .i64 N, .int .i64 K, .int .i64 B]] w fun e w' => e = .returned (.slice none 0 0) ∧ Below w.heap.size w w' := by
  obtain ⟨R, hR⟩ : ∃ R, w.heap.size = R := ⟨_, rfl⟩
  obtain ⟨W0, hW0⟩ : ∃ W0, w.alloc (.cells #[.int .i64 N, .int .i64 K, .int .i64 B] 23) = W0 := ⟨_, rfl⟩
  have hb0 : Below w.heap.size w W0 := hW0 ▸ (Below.refl _ w).alloc (Nat.le_refl _) _
  have hC : Cb W0 R N K B := by rw [← hW0, ← hR]; exact cb_new w _ _ _
  have K1 := r10right_calls N K B W0
  rw [cdE_no hc] at K1
  have HB : Hid (Below w.heap.size w W0) := hb0
  clear hb0 hc
  have c0 := (hC).c0
  have c1 := (hC).c1
  have c2 := (hC).c2
  clear hC
  go_enter Tryz.func36, Tryz.ntmps36
  go_wp2_with fail
  refine K1.mono ?_
  rintro e w1 ⟨rfl, hb⟩
  clear K1
  clear c0 c1 c2
  have HZ : Hid (Below w.heap.size w w1) := HB.out.trans (hb.mono HB.out.size)
  clear hb
  go_wp2
  go_ret
  exact ⟨rfl, HZ.out⟩

set_option maxRecDepth 100000 in
set_option maxHeartbeats 1000000 in
theorem r10has_calls (N K B S n c : Nat) (q : Option Addr) (xs : List Nat) (h : Cod N K B) (hS : N - K = S) (w : World) (hs : Bs w q n xs) :
    Calls Tryz.prog 39 #[.agg #[.int .i64 (N : Nat), .int .i64 (K : Nat), .int .i64 (B : Nat)], .slice q n c] w fun e w' => e = .returned (.bool (decide (Cd.IsW N S B xs))) ∧ Below w.heap.size w w' := by
  obtain ⟨b, hb⟩ : ∃ b, decide (Cd.IsW N S B xs) = b := ⟨_, rfl⟩
  rw [hb]
  have HD : Hid (decide (Cd.IsW N S B xs) = b) := hb
  clear hb
  obtain ⟨R, hR⟩ : ∃ R, w.heap.size = R := ⟨_, rfl⟩
  obtain ⟨W0, hW0⟩ : ∃ W0, w.alloc (.cells #[.int .i64 (N : Nat), .int .i64 (K : Nat), .int .i64 (B : Nat)] 23) = W0 := ⟨_, rfl⟩
  have hb0 : Below w.heap.size w W0 := hW0 ▸ (Below.refl _ w).alloc (Nat.le_refl _) _
  have hC : Cb W0 R (N : Nat) (K : Nat) (B : Nat) := by rw [← hW0, ← hR]; exact cb_new w _ _ _
  have K1 := r10right_calls (N : Int) (K : Int) (B : Int) W0
  rw [cdE_yes h.yes] at K1
  have KR : Hid (∀ W, Calls Tryz.prog 35 #[.agg #[.int .i64 (N : Nat), .int .i64 (K : Nat), .int .i64 (B : Nat)]] W fun e w' => ∃ v, e = .returned v ∧ Ow w' W.heap.size v (Cd.rts B S) ∧ Below W.heap.size W w') := fun W => r10roots_calls N K B S h hS W
  have HB : Hid (Below w.heap.size w W0 ∧ Cb W0 R (N : Nat) (K : Nat) (B : Nat) ∧ Bs w q n xs ∧ xs.length = n ∧ N ≤ 255) := ⟨hb0, hC, hs, hs.len, h.m⟩
  have hS255 : S ≤ 255 := by have := h.m; omega
  clear hb0 h hS hs
  have c0 := (hC).c0
  have c1 := (hC).c1
  have c2 := (hC).c2
  clear hC
  by_cases hn : n = N
  · subst hn
    go_enter Tryz.func39, Tryz.ntmps39
    go_wp2_with fail
    refine K1.mono ?_
    rintro e w1 ⟨rfl, hb⟩
    clear K1
    clear c0 c1 c2
    have hC := HB.out.2.1.below hb
    have HB1 : Hid (Below w.heap.size w w1) := HB.out.1.trans (hb.mono HB.out.1.size)
    have KR1 := KR.out w1
    clear hb KR
    have c0 := (hC).c0
    have c1 := (hC).c1
    have c2 := (hC).c2
    clear hC
    go_wp2_with fail
    refine KR1.mono ?_
    rintro e w2 ⟨v, rfl, hO, hb⟩
    clear KR1
    clear c0 c1 c2
    obtain ⟨p, d, rfl, S2, C2, -⟩ := hO.tell (n := S) (Cd.rts_byt B S) (Cd.rts_length B S)
    have HB2 : Hid (Below w.heap.size w w2 ∧ Bs w2 p S (Cd.rts B S)) := ⟨HB1.out.trans (hb.mono HB1.out.size), S2⟩
    clear hO hb S2
    go_wp2
    go_loopw [6] (fun i wr => ∃ t : Nat, t ≤ S ∧ i = .int .i64 (t : Int) ∧ (∀ j, j < t → vl xs (Cd.pt (B + j)) = 0) ∧ Below w2.heap.size w2 wr) (fun i _ => S - (intOf i).toNat)
    case atStart => exact ⟨0, by omega, rfl, fun j hj => absurd hj (Nat.not_lt_zero j), Below.refl _ _⟩
    case round =>
      obtain ⟨t, ht, rfl, hz, hB⟩ := hrel
      have HZ : Hid (∀ j, j < t → vl xs (Cd.pt (B + j)) = 0) := hz
      clear hz
      by_cases hlt : t < S
      · have hi : (t : Int) < (S : Int) := by omega
        have hi0 : (0 : Int) ≤ (t : Int) := by omega
        obtain ⟨a, rfl, _, ca⟩ := (HB2.out.2.below hB).cell t hlt
        rw [Cd.rts_at hlt] at ca
        have hbx := Cd.pt_lt (B + t)
        obtain ⟨x, hx⟩ : ∃ x, Cd.pt (B + t) = x := ⟨_, rfl⟩
        rw [hx] at ca hbx
        have hBw : Below w.heap.size w wr := HB2.out.1.trans (hB.mono HB2.out.1.size)
        have KA := r7at_calls q n c x xs hbx (by have := HB.out.2.2.2.2; omega) wr (HB.out.2.2.1.below hBw)
        obtain ⟨y, hy⟩ : ∃ y, vl xs x = y := ⟨_, rfl⟩
        rw [hy] at KA
        have HX : Hid (Below w2.heap.size w2 wr ∧ vl xs (Cd.pt (B + t)) = y) := ⟨hB, by rw [hx]; exact hy⟩
        clear hB hBw hx hy
        by_cases h0 : y = 0
        · subst h0
          go_wp2_with fail
          refine KA.mono ?_
          rintro e w3 ⟨rfl, hb⟩
          clear KA
          have HF : Hid (Below w2.heap.size w2 w3) := HX.out.1.trans (hb.mono HX.out.1.size)
          clear hb ca
          go_wp2
          go_roundw
          case rel => exact ⟨t + 1, by omega, by go_num, fun j hj => by
            rcases Nat.lt_or_ge j t with h1 | h1
            · exact HZ.out j h1
            · obtain rfl : j = t := by omega
              exact HX.out.2, HF.out⟩
          case measure => simp [intOf]; omega
        · have h0' : ((y : Int) != 0) = true := by simp; omega
          have HN : Hid (b = false) := by show b = false; rw [← HD.out]; exact decide_eq_false fun hw => h0 (by rw [← HX.out.2]; exact hw.2 t hlt)
          go_wp2_with fail
          refine KA.mono ?_
          rintro e w3 ⟨rfl, hb⟩
          clear KA
          have HF : Hid (Below w.heap.size w w3) := (HB2.out.1.trans (HX.out.1.mono HB2.out.1.size)).trans (hb.mono (Nat.le_trans HB2.out.1.size HX.out.1.size))
          clear hb ca
          go_wp2
          go_ret
          exact ⟨by rw [HN.out]; rfl, HF.out⟩
      · obtain rfl : t = S := by omega
        have HN : Hid (b = true) := by show b = true; rw [← HD.out]; exact decide_eq_true ⟨HB.out.2.2.2.1, HZ.out⟩
        have HF : Hid (Below w.heap.size w wr) := HB2.out.1.trans (hB.mono HB2.out.1.size)
        clear hB
        go_wp2
        go_ret
        exact ⟨by rw [HN.out]; rfl, HF.out⟩
  · have hno : b = false := by rw [← HD.out]; exact decide_eq_false fun hw => hn (by rw [← hw.1]; exact HB.out.2.2.2.1.symm)
    have hni : ((n : Int) != (N : Int)) = true := by simp; omega
    subst hno
    go_enter Tryz.func39, Tryz.ntmps39
    go_wp2_with fail
    refine K1.mono ?_
    rintro e w1 ⟨rfl, hb⟩
    clear K1
    clear c0 c1 c2
    have hC := HB.out.2.1.below hb
    have HB1 : Hid (Below w.heap.size w w1) := HB.out.1.trans (hb.mono HB.out.1.size)
    clear hb KR
    have c0 := (hC).c0
    have c1 := (hC).c1
    have c2 := (hC).c2
    clear hC
    go_wp2
    go_ret
    exact ⟨rfl, HB1.out⟩
set_option maxRecDepth 100000 in
set_option maxHeartbeats 1000000 in
theorem r10has_none (N K B : Int) (q : Option Addr) (n c : Nat) (hc : cdB N K B = false) (w : World) :
    Calls Tryz.prog 39 #[.agg #[.int .i64 N, .int .i64 K, .int .i64 B], .slice q n c] w fun e w' => e = .returned (.bool false) ∧ Below w.heap.size w w' := by
  obtain ⟨R, hR⟩ : ∃ R, w.heap.size = R := ⟨_, rfl⟩
  obtain ⟨W0, hW0⟩ : ∃ W0, w.alloc (.cells #[.int .i64 N, .int .i64 K, .int .i64 B] 23) = W0 := ⟨_, rfl⟩
  have hb0 : Below w.heap.size w W0 := hW0 ▸ (Below.refl _ w).alloc (Nat.le_refl _) _
  have hC : Cb W0 R N K B := by rw [← hW0, ← hR]; exact cb_new w _ _ _
  have K1 := r10right_calls N K B W0
  rw [cdE_no hc] at K1
  have HB : Hid (Below w.heap.size w W0) := hb0
  clear hb0 hc
  have c0 := (hC).c0
  have c1 := (hC).c1
  have c2 := (hC).c2
  clear hC
  go_enter Tryz.func39, Tryz.ntmps39
  go_wp2_with fail
  refine K1.mono ?_
  rintro e w1 ⟨rfl, hb⟩
  clear K1
  clear c0 c1 c2
  have HZ : Hid (Below w.heap.size w w1) := HB.out.trans (hb.mono HB.out.size)
  clear hb
  go_wp2
  go_ret
  exact ⟨rfl, HZ.out⟩
end Go.Proofs
/- The walk of the document's Parity (erratumref10). Conditions: any numbers that ints hold. -/
namespace Go.Proofs
open Go.RowKit Go.ChangeShapes Go.WideShapes
attribute [local go_sem ↓ high] builtin_ap
attribute [local go_sem] ap_sem
open Pol (Byt frL vl)

/-- A matrix in the box X whose cells, xs, are grown by append from Y on. -/
structure Gy (W : World) (X Y : Nat) (v0 v1 v : Value) (xs : List Nat) : Prop where
  mb : Mb W X v0 v1 v
  fz : W.frozen? ⟨X, 2, none⟩ = false
  ow : Ow W Y v xs
  sz : Y ≤ W.heap.size
  lt : X < Y
theorem Gy.below {W W' : World} {X Y : Nat} {v0 v1 v : Value} {xs : List Nat} (h : Gy W X Y v0 v1 v xs) (hb : Below W.heap.size W W') : Gy W' X Y v0 v1 v xs := ⟨h.mb.below hb, (hb.frozen (p := ⟨X, 2, none⟩) h.mb.blt).trans h.fz, h.ow.below hb, Nat.le_trans h.sz hb.size, h.lt⟩
theorem Gy.one {W : World} {X Y : Nat} {v0 v1 v : Value} {xs : List Nat} (h : Gy W X Y v0 v1 v xs) (x : Nat) (hn : xs.length ≤ 10000000) :
    ∃ g c' W', (Builtin.append_ #[24, 24] 24 #[v, .slice (some ⟨W.heap.size, 0, none⟩) 1 1]).run Tryz.prog (W.alloc (.cells #[.int .u8 (x : Nat)] 5)) = .ok (.slice (some ⟨g, 0, none⟩) (xs ++ [x]).length c') W' ∧ W'.cell? ⟨X, 2, none⟩ = some v ∧ W'.frozen? ⟨X, 2, none⟩ = false ∧ Gy (W'.setCell ⟨X, 2, none⟩ (.slice (some ⟨g, 0, none⟩) (xs ++ [x]).length c')) X Y v0 v1 (.slice (some ⟨g, 0, none⟩) (xs ++ [x]).length c') (xs ++ [x]) ∧ But (fun k => k = X ∨ Y ≤ k) W (W'.setCell ⟨X, 2, none⟩ (.slice (some ⟨g, 0, none⟩) (xs ++ [x]).length c')) := by
  obtain ⟨g, c', W', hap, hO, hb⟩ := run_append_one W Y v xs x h.ow (by omega) h.sz
  have hk : But (fun k => Y ≤ k) W W' := but_at (hb _ (Nat.le_refl _))
  have hlt := h.lt
  have hM := h.mb.but hk (by omega)
  have hf : W'.frozen? ⟨X, 2, none⟩ = false := (hk.frozen (p := ⟨X, 2, none⟩) h.mb.blt (by show ¬ Y ≤ X; omega)).trans h.fz
  refine ⟨g, c', W', hap, ?_⟩
  obtain ⟨v', hv'⟩ : ∃ v', Value.slice (some ⟨g, 0, none⟩) (xs ++ [x]).length c' = v' := ⟨_, rfl⟩
  rw [hv'] at hO ⊢
  have hset : But (· = X) W' (W'.setCell ⟨X, 2, none⟩ v') := (But.refl (· = X) W').setCell (p := ⟨X, 2, none⟩) (.inl rfl) _
  have c2 := hM.c2
  refine ⟨c2, hf, ?_, ?_⟩
  · refine ⟨⟨?_, ?_, ?_⟩, ?_, ?_, ?_, hlt⟩
    · exact (World.cell?_setCell_other _ _ _ _ (by intro c; cases c)).trans hM.c0
    · exact (World.cell?_setCell_other _ _ _ _ (by intro c; cases c)).trans hM.c1
    · simp [go_sem, c2]
    · rw [World.frozen?_setCell]; exact hf
    · exact hO.block fun i hi => hset.block i (hO.lt i hi).2 (by have := (hO.lt i hi).1; omega)
    · have h1 := hset.size; have h2 := hk.size; have h3 := h.sz; omega
  · exact (hk.mono (fun i hi => .inr hi)).trans (hset.mono (fun i hi => .inl hi))

set_option maxRecDepth 100000 in
set_option maxHeartbeats 4000000 in
theorem r10par_calls (N K B S : Nat) (h : Cod N K B) (hS : N - K = S) (w : World) :
    Calls Tryz.prog 38 #[.agg #[.int .i64 (N : Nat), .int .i64 (K : Nat), .int .i64 (B : Nat)]] w fun e w' => ∃ v, e = .returned (.agg #[.int .i64 (S : Nat), .int .i64 (N : Nat), v]) ∧ Ow w' w.heap.size v (Cd.par N S B) ∧ Below w.heap.size w w' := by
  obtain ⟨R, hR⟩ : ∃ R, w.heap.size = R := ⟨_, rfl⟩
  obtain ⟨P1, hP1⟩ : ∃ P1, w.alloc (.cells #[.int .i64 (N : Nat), .int .i64 (K : Nat), .int .i64 (B : Nat)] 23) = P1 := ⟨_, rfl⟩
  obtain ⟨W0, hW0⟩ : ∃ W0, P1.alloc (.cells #[.int .i64 0, .int .i64 0, .slice none 0 0] 43) = W0 := ⟨_, rfl⟩
  have hs1 : P1.heap.size = R + 1 := by rw [← hP1, ← hR]; simp
  have hZ := z3_new P1
  rw [hs1, hW0] at hZ
  have hb0 : Below w.heap.size w W0 := by rw [← hW0, ← hP1]; exact ((Below.refl _ w).alloc (Nat.le_refl _) _).alloc (by simp) _
  have hC : Cb W0 R (N : Nat) (K : Nat) (B : Nat) := by
    rw [← hW0]
    have h1 := cb_new w (N : Int) (K : Int) (B : Int)
    rw [hP1, hR] at h1
    exact h1.below ((Below.refl _ P1).alloc (Nat.le_refl _) _)
  have K1 := r10right_calls (N : Int) (K : Int) (B : Int) W0
  rw [cdE_yes h.yes] at K1
  have KR : Hid (∀ W, Calls Tryz.prog 35 #[.agg #[.int .i64 (N : Nat), .int .i64 (K : Nat), .int .i64 (B : Nat)]] W fun e w' => ∃ v, e = .returned v ∧ Ow w' W.heap.size v (Cd.rts B S) ∧ Below W.heap.size W w') := fun W => r10roots_calls N K B S h hS W
  have KS : Hid (∀ W, (Below w.heap.size w W ∧ Cb W R (N : Nat) (K : Nat) (B : Nat) ∧ Z3 W (R + 1)) → Calls Tryz.prog 17 #[.agg #[.int .i64 (N : Nat), .int .i64 (K : Nat), .int .i64 (B : Nat)]] W fun e w' => e = .returned (.int .i64 (S : Nat)) ∧ (Below w.heap.size w w' ∧ Cb w' R (N : Nat) (K : Nat) (B : Nat) ∧ Z3 w' (R + 1)) ∧ Below W.heap.size W w') := fun W hW => by
    have := r10space_calls (N : Int) (K : Int) (B : Int) W
    rw [cdS_nat h, hS] at this
    exact this.mono fun e w' ⟨he, hb⟩ => ⟨he, ⟨hW.1.trans (hb.mono hW.1.size), hW.2.1.below hb, hW.2.2.below hb⟩, hb⟩
  have hS255 : S ≤ 255 := by have := h.m; omega
  have hN255 : N ≤ 255 := h.m
  have HB : Hid (Below w.heap.size w W0 ∧ Cb W0 R (N : Nat) (K : Nat) (B : Nat) ∧ Z3 W0 (R + 1)) := ⟨hb0, hC, hZ⟩
  clear hb0 hZ h hS
  have c0 := (hC).c0
  have c1 := (hC).c1
  have c2 := (hC).c2
  clear hC
  go_enter Tryz.func38, Tryz.ntmps38
  go_wp2_with fail
  refine K1.mono ?_
  rintro e w1 ⟨rfl, hb⟩
  clear K1
  clear c0 c1 c2
  have hC := HB.out.2.1.below hb
  have hT0 : Below w.heap.size w w1.drew ∧ Cb w1.drew R (N : Nat) (K : Nat) (B : Nat) ∧ Z3 w1.drew (R + 1) := ⟨HB.out.1.trans (hb.drew.mono HB.out.1.size), hC.drew, HB.out.2.2.below hb.drew⟩
  have hRw1 : R + 1 < w1.heap.size := (HB.out.2.2.below hb).blt
  have hT0a : Below w.heap.size w ((w1.alloc (.cells #[.int .i64 0, .int .i64 0, .slice none 0 0] 43)).drew) ∧ Cb ((w1.alloc (.cells #[.int .i64 0, .int .i64 0, .slice none 0 0] 43)).drew) R (N : Nat) (K : Nat) (B : Nat) ∧ Z3 ((w1.alloc (.cells #[.int .i64 0, .int .i64 0, .slice none 0 0] 43)).drew) (R + 1) := by
    have hba : Below w1.heap.size w1 ((w1.alloc (.cells #[.int .i64 0, .int .i64 0, .slice none 0 0] 43)).drew) := ((Below.refl _ w1).alloc (Nat.le_refl _) _).drew
    exact ⟨(HB.out.1.trans (hb.mono HB.out.1.size)).trans (hba.mono (Nat.le_trans HB.out.1.size hb.size)), hC.below hba, (HB.out.2.2.below hb).below hba⟩
  have hZa : Z3 ((w1.alloc (.cells #[.int .i64 0, .int .i64 0, .slice none 0 0] 43)).drew) w1.heap.size := (z3_new w1).below (Below.refl _ _).drew
  obtain ⟨X1, hX1⟩ : ∃ X1, w1.heap.size = X1 := ⟨_, rfl⟩
  rw [hX1] at hRw1 hZa
  have hne1 : ¬ X1 = R := by omega
  have hne2 : ¬ R = X1 := by omega
  have HX : Hid (R + 1 < X1) := hRw1
  clear hb hW0 hP1 hRw1
  have c0 := (hC).c0
  have c1 := (hC).c1
  have c2 := (hC).c2
  clear hC
  go_wp2
  go_region_held3 (fun w' => w'.cell? ⟨R, 0, none⟩ = some (.int .i64 (N : Nat)) ∧ w'.cell? ⟨R, 1, none⟩ = some (.int .i64 (K : Nat)) ∧ w'.cell? ⟨R, 2, none⟩ = some (.int .i64 (B : Nat)))
    (first | (with_reducible exact ⟨hT1.2.1.c0, hT1.2.1.c1, hT1.2.1.c2⟩) | (with_reducible exact ⟨cell_alloc_l _ hT1.2.1.c0, cell_alloc_l _ hT1.2.1.c1, cell_alloc_l _ hT1.2.1.c2⟩) | (with_reducible exact ⟨(hbt.cell (p := ⟨R, 0, none⟩) hT1.2.1.blt hne2).trans hT1.2.1.c0, (hbt.cell (p := ⟨R, 1, none⟩) hT1.2.1.blt hne2).trans hT1.2.1.c1, (hbt.cell (p := ⟨R, 2, none⟩) hT1.2.1.blt hne2).trans hT1.2.1.c2⟩) | (go_keep; done))
    (first
      | (go_at_call 17; with_reducible refine (KS.out _ hT0).mono ?_; rintro e w2 ⟨rfl, hT1, hb2⟩)
      | (go_at_call 17; with_reducible refine (KS.out _ hT0a).mono ?_; rintro e w2 ⟨rfl, hT1, hb2⟩; have hz := hZa.below hb2; have z0 := hz.c0; have z1 := hz.c1; have z2 := hz.c2; have y0 := hz.f0; have y1 := hz.f1; have y2 := hz.f2; have hbt := but_set3 w2 X1 (.int .i64 (S : Nat)) (.int .i64 (N : Nat)) (.slice none 0 0)))
  case' refine_2.refine_3.refine_3.refine_3.refine_1.refine_2.refine_3.refine_1.refine_2.refine_1.refine_2 =>
    obtain ⟨X, hX⟩ : ∃ X, w2.heap.size = X := ⟨_, rfl⟩
    obtain ⟨P4, hP4⟩ : ∃ P4, w2.alloc (.cells #[.int .i64 (S : Nat), .int .i64 (N : Nat), .slice none 0 0] 43) = P4 := ⟨_, rfl⟩
    have hb24 : Below w2.heap.size w2 P4 := hP4 ▸ (Below.refl _ w2).alloc (Nat.le_refl _) _
    have HP : Hid (Mb P4 X (.int .i64 (S : Nat)) (.int .i64 (N : Nat)) (.slice none 0 0) ∧ P4.frozen? ⟨X, 2, none⟩ = false ∧ Below w.heap.size w P4 ∧ Cb P4 R (N : Nat) (K : Nat) (B : Nat) ∧ Z3 P4 (R + 1) ∧ R + 1 < X) := by
      have h1 := gm_new w2 (.int .i64 (S : Nat)) (.int .i64 (N : Nat))
      rw [hP4, hX] at h1
      exact ⟨h1.mb, h1.fz, hT1.1.trans (hb24.mono hT1.1.size), hT1.2.1.below hb24, hT1.2.2.below hb24, hX ▸ hT1.2.2.blt⟩
    rw [hX, hP4]
    clear hb24 hP4 hX hb2
  case' refine_2.refine_3.refine_3.refine_3.refine_2.refine_1.refine_2.refine_1.refine_2.refine_3.refine_1.refine_2 =>
    obtain ⟨X, hX⟩ : ∃ X, X1 = X := ⟨_, rfl⟩
    rw [hX] at hbt hz HX hne2
    obtain ⟨P4, hP4⟩ : ∃ P4, ((w2.setCell ⟨X, 0, none⟩ (.int .i64 (S : Nat))).setCell ⟨X, 1, none⟩ (.int .i64 (N : Nat))).setCell ⟨X, 2, none⟩ (.slice none 0 0) = P4 := ⟨_, rfl⟩
    have HP : Hid (Mb P4 X (.int .i64 (S : Nat)) (.int .i64 (N : Nat)) (.slice none 0 0) ∧ P4.frozen? ⟨X, 2, none⟩ = false ∧ Below w.heap.size w P4 ∧ Cb P4 R (N : Nat) (K : Nat) (B : Nat) ∧ Z3 P4 (R + 1) ∧ R + 1 < X) := by
      have h1 := mb_set3 hz (.int .i64 (S : Nat)) (.int .i64 (N : Nat)) (.slice none 0 0)
      have hfz : P4.frozen? ⟨X, 2, none⟩ = false := by rw [← hP4, World.frozen?_setCell, World.frozen?_setCell, World.frozen?_setCell]; exact hz.f2
      rw [hP4] at h1 hbt
      exact ⟨h1, hfz, hT1.1.trans (hbt.below hT1.1.size (fun k hk => by have := HX.out; omega)), hT1.2.1.but hbt hne2, hT1.2.2.but hbt (by have := HX.out; omega), HX.out⟩
    rw [hX, hP4]
    clear hz z0 z1 z2 y0 y1 y2 hbt hP4 hX hb2
  all_goals
    clear hT1 HX hne1 hne2 hT0 hT0a hZa
    have KR4 := KR.out P4
    have hC := HP.out.2.2.2.1
    have c0 := (hC).c0
    have c1 := (hC).c1
    have c2 := (hC).c2
    clear hC
    go_wp2_with fail
    refine KR4.mono ?_
    rintro e w5 ⟨v, rfl, hO, hb⟩
    clear KR4
    clear c0 c1 c2
    obtain ⟨p, d, rfl, S5, C5, hQ⟩ := hO.tell (n := S) (Cd.rts_byt B S) (Cd.rts_length B S)
    obtain ⟨Y, hY⟩ : ∃ Y, w5.heap.size = Y := ⟨_, rfl⟩
    have hXP : X < P4.heap.size := HP.out.1.blt
    have HQ : Hid (Below w.heap.size w w5 ∧ Cb w5 R (N : Nat) (K : Nat) (B : Nat) ∧ Z3 w5 (R + 1) ∧ R + 1 < X ∧ X < Y ∧ Bs w5 p S (Cd.rts B S) ∧ Off X S p ∧ Gy w5 X Y (.int .i64 (S : Nat)) (.int .i64 (N : Nat)) (.slice none 0 0) []) :=
      ⟨HP.out.2.2.1.trans (hb.mono HP.out.2.2.1.size), HP.out.2.2.2.1.below hb, HP.out.2.2.2.2.1.below hb, HP.out.2.2.2.2.2, by have := hb.size; omega, S5, hQ X hXP,
        ⟨HP.out.1.below hb, (hb.frozen (p := ⟨X, 2, none⟩) hXP).trans HP.out.2.1, ow_nil _ _, by omega, by have := hb.size; omega⟩⟩
    clear hO hb S5 hQ hXP
    go_wp2
    go_loopw [5, 6] (fun j _ wr => ∃ (t : Nat) (v : Value), t ≤ S ∧ j = .int .i64 (t : Int) ∧ Gy wr X Y (.int .i64 (S : Nat)) (.int .i64 (N : Nat)) v (Cd.par N t B) ∧ But (fun k => k = X ∨ Y ≤ k) w5 wr) (fun j _ _ => S - (intOf j).toNat)
    case atStart => exact ⟨0, _, by omega, rfl, by rw [par_zero]; exact HQ.out.2.2.2.2.2.2.2, But.refl _ _⟩
    case round =>
      obtain ⟨t, v, ht, rfl, hG, hB⟩ := hrel
      by_cases hlt : t < S
      · have hi : (t : Int) < (S : Int) := by omega
        have hi0 : (0 : Int) ≤ (t : Int) := by omega
        obtain ⟨a, rfl, la, ca⟩ := HQ.out.2.2.2.2.2.1.cell t hlt
        rw [Cd.rts_at hlt] at ca
        have hbx := Cd.pt_lt (B + t)
        have hpsz := par_succ N t B
        obtain ⟨x, hx⟩ : ∃ x, Cd.pt (B + t) = x := ⟨_, rfl⟩
        rw [hx] at ca hbx hpsz
        have hoff := HQ.out.2.2.2.2.2.2.1 (by omega) a rfl
        have HC : Hid (∀ W, But (fun k => k = X ∨ Y ≤ k) w5 W → W.cell? (a.add t) = some (.int .u8 (x : Nat))) := fun W hW => (hW.cell (p := a.add t) (by rw [block_add]; exact la) (by rw [block_add]; omega)).trans ca
        have HR : Hid (But (fun k => k = X ∨ Y ≤ k) w5 wr ∧ Cd.par N (t + 1) B = Cd.par N t B ++ pws 1 x N ∧ t * N ≤ 65025 ∧ Gy wr X Y (.int .i64 (S : Nat)) (.int .i64 (N : Nat)) v (Cd.par N t B ++ pws 1 x 0)) := ⟨hB, hpsz, (Nat.mul_le_mul (Nat.le_trans ht hS255) hN255 : t * N ≤ 255 * 255), by rw [pws, List.append_nil]; exact hG⟩
        clear hB hG la ca hx hpsz hoff
        go_wp2
        go_loopw [6] (fun i wi => ∃ (u : Nat) (v : Value), u ≤ N ∧ i = .int .i64 (u : Int) ∧ Gy wi X Y (.int .i64 (S : Nat)) (.int .i64 (N : Nat)) v (Cd.par N t B ++ pws 1 x u) ∧ But (fun k => k = X ∨ Y ≤ k) w5 wi) (fun i _ => N - (intOf i).toNat)
        case atStart => exact ⟨0, _, by omega, rfl, HR.out.2.2.2, HR.out.1⟩
        case round =>
          obtain ⟨u, v, hu, rfl, hG, hB⟩ := hrel
          have hRY : R + 1 < X ∧ X < Y := ⟨HQ.out.2.2.2.1, HQ.out.2.2.2.2.1⟩
          have c0 := (HQ.out.2.1.but hB (by omega)).c0
          by_cases hlu : u < N
          · have hui : (u : Int) < (N : Int) := by omega
            have hu6 : (u : Int) ≤ 1000000 := by omega
            have ca := HC.out wr hB
            have hps : pws 1 x (u + 1) = pws 1 x u ++ [pwr 1 x u] := rfl
            have hpy : Gf.powZ x (u : Int) = pwr 1 x u := by rw [pwr_one]; unfold Gf.powZ; rw [if_neg (by omega), Int.toNat_natCast]
            have KP : Hid (Calls Tryz.prog 54 #[.int .u8 (x : Nat), .int .i64 (u : Int)] wr.drew fun e w' => e = .returned (.int .u8 (pwr 1 x u : Nat)) ∧ w' = wr.drew) := by
              have := rpow_calls x (u : Int) hbx wr.drew
              rw [hpy] at this
              exact this
            obtain ⟨y, hy⟩ : ∃ y, pwr 1 x u = y := ⟨_, rfl⟩
            rw [hy] at KP hps
            obtain ⟨us, hus⟩ : ∃ us, Cd.par N t B ++ pws 1 x u = us := ⟨_, rfl⟩
            have hlen : us.length ≤ 10000000 := by rw [← hus, List.length_append, Cd.par_length, pws_length]; have := Nat.mul_le_mul (Nat.le_trans ht hS255) hN255; omega
            have hnx : Cd.par N t B ++ pws 1 x (u + 1) = us ++ [y] := by rw [hps, ← List.append_assoc, hus]
            rw [hus] at hG
            obtain ⟨g, cg, W7, hap, cw7, fw7, hG7, hB7⟩ := (hG.below (Below.refl _ wr).drew).one y hlen
            obtain ⟨L, hL⟩ : ∃ L, (us ++ [y]).length = L := ⟨_, rfl⟩
            rw [hL] at hap hG7 hB7
            have HZ : Hid (Gy (W7.setCell ⟨X, 2, none⟩ (.slice (some ⟨g, 0, none⟩) L cg)) X Y (.int .i64 (S : Nat)) (.int .i64 (N : Nat)) (.slice (some ⟨g, 0, none⟩) L cg) (Cd.par N t B ++ pws 1 x (u + 1)) ∧ But (fun k => k = X ∨ Y ≤ k) w5 (W7.setCell ⟨X, 2, none⟩ (.slice (some ⟨g, 0, none⟩) L cg))) := ⟨by rw [hnx]; exact hG7, hB.trans ((But.refl _ wr).drew.trans hB7)⟩
            rw [show wr.drew.heap.size = wr.heap.size from rfl, show wr.drew.alloc (.cells #[.int .u8 (y : Nat)] 5) = (wr.alloc (.cells #[.int .u8 (y : Nat)] 5)).drew from rfl] at hap
            have hgm := hG.mb
            obtain ⟨qv, mv, cv0, rfl⟩ := hG.ow.isSlice
            have b0 := (hgm).c0
            have b1 := (hgm).c1
            have b2 := (hgm).c2
            have hw1 := World.new_ne wr (a.add t) ca
            have hw2 : (wr.alloc (.cells #[.int .u8 (y : Nat)] 5)).cell? ⟨X, 2, none⟩ = some (.slice qv mv cv0) := (hgm.below ((Below.refl _ wr).alloc (Nat.le_refl _) _)).c2
            clear hgm hG hG7 hB7 hL hnx hus hy hps hpy hlen hB
            go_wp2
            go_region_law
              (first
                | (refine step_go rfl (by go_simp) KP.out ?_; rintro e w9 ⟨rfl, hw9⟩; subst hw9; refine ⟨_, rfl, ?_⟩)
                | (refine step_ap9 rfl (.tmp 31) (.tmp 38) 24 rfl rfl hap rfl rfl ?_))
            all_goals
              go_wp2
              go_roundw
              case rel => exact ⟨u + 1, _, by omega, by go_num, HZ.out⟩
              case measure => simp [intOf]; omega
          · obtain rfl : u = N := by omega
            have HZ : Hid (Gy wr X Y (.int .i64 (S : Nat)) (.int .i64 (u : Nat)) v (Cd.par u (t + 1) B) ∧ But (fun k => k = X ∨ Y ≤ k) w5 wr) := ⟨by rw [HR.out.2.1]; exact hG, hB⟩
            clear hG hB
            go_wp2
            go_roundw
            case rel => exact ⟨t + 1, _, by omega, by go_num, HZ.out⟩
            case measure => simp [intOf]; omega
      · obtain rfl : t = S := by omega
        have hRY : R + 1 < X ∧ X < Y := ⟨HQ.out.2.2.2.1, HQ.out.2.2.2.2.1⟩
        have hZ := HQ.out.2.2.1.but hB (by omega)
        have z0 := hZ.c0
        have z1 := hZ.c1
        have z2 := hZ.c2
        have y0 := hZ.f0
        have y1 := hZ.f1
        have y2 := hZ.f2
        have hgm := hG.mb
        obtain ⟨qv, mv, cv0, rfl⟩ := hG.ow.isSlice
        have b0 := (hgm).c0
        have b1 := (hgm).c1
        have b2 := (hgm).c2
        have HZ : Hid (Z3 wr (R + 1) ∧ Ow wr Y (.slice qv mv cv0) (Cd.par N t B) ∧ Below R w wr) := ⟨hZ, hG.ow, (hR ▸ HQ.out.1).trans (hB.below (by omega) (fun k hk => by rcases hk with rfl | hk <;> omega))⟩
        have hlw : w.heap.size ≤ wr.heap.size := Nat.le_trans HQ.out.1.size hB.size
        clear hgm hZ hG hB
        go_wp2
        have hbt := but_set3 wr (R + 1) (.int .i64 (t : Nat)) (.int .i64 (N : Nat)) (.slice qv mv cv0)
        refine bodyPost_ret (results_cell Tryz.results38 rfl (load_set3 HZ.out.1 _ _ _)) rfl ⟨_, rfl, ?_, ?_⟩
        · exact (HZ.out.2.1.block fun i hi => hbt.block i (HZ.out.2.1.lt i hi).2 (by have := (HZ.out.2.1.lt i hi).1; omega)).mono (by omega)
        · exact (hR.symm ▸ HZ.out.2.2).trans (hbt.below hlw (fun k hk => by omega))

set_option maxRecDepth 100000 in
set_option maxHeartbeats 1000000 in
theorem r10par_none (N K B : Int) (hc : cdB N K B = false) (w : World) :
    Calls Tryz.prog 38 #[.agg #[.int .i64 N, .int .i64 K, .int .i64 B]] w fun e w' => e = .returned (.agg #[.int .i64 0, .int .i64 0, .slice none 0 0]) ∧ Below w.heap.size w w' := by
  obtain ⟨R, hR⟩ : ∃ R, w.heap.size = R := ⟨_, rfl⟩
  obtain ⟨P1, hP1⟩ : ∃ P1, w.alloc (.cells #[.int .i64 N, .int .i64 K, .int .i64 B] 23) = P1 := ⟨_, rfl⟩
  obtain ⟨W0, hW0⟩ : ∃ W0, P1.alloc (.cells #[.int .i64 0, .int .i64 0, .slice none 0 0] 43) = W0 := ⟨_, rfl⟩
  have hs1 : P1.heap.size = R + 1 := by rw [← hP1, ← hR]; simp
  have hZ := z3_new P1
  rw [hs1, hW0] at hZ
  have hb0 : Below w.heap.size w W0 := by rw [← hW0, ← hP1]; exact ((Below.refl _ w).alloc (Nat.le_refl _) _).alloc (by simp) _
  have hC : Cb W0 R N K B := by
    rw [← hW0]
    have h1 := cb_new w N K B
    rw [hP1, hR] at h1
    exact h1.below ((Below.refl _ P1).alloc (Nat.le_refl _) _)
  have K1 := r10right_calls N K B W0
  rw [cdE_no hc] at K1
  have HB : Hid (Below w.heap.size w W0 ∧ Z3 W0 (R + 1)) := ⟨hb0, hZ⟩
  clear hb0 hc hZ
  have c0 := (hC).c0
  have c1 := (hC).c1
  have c2 := (hC).c2
  clear hC
  go_enter Tryz.func38, Tryz.ntmps38
  go_wp2_with fail
  refine K1.mono ?_
  rintro e w1 ⟨rfl, hb1⟩
  clear K1
  clear c0 c1 c2
  have HZ : Hid (Below w.heap.size w w1 ∧ Z3 w1 (R + 1)) := ⟨HB.out.1.trans (hb1.mono HB.out.1.size), HB.out.2.below hb1⟩
  have z0 := HZ.out.2.c0
  have z1 := HZ.out.2.c1
  have z2 := HZ.out.2.c2
  have y0 := HZ.out.2.f0
  have y1 := HZ.out.2.f1
  have y2 := HZ.out.2.f2
  clear hb1
  go_wp2
  have hbt := but_set3 w1 (R + 1) (.int .i64 0) (.int .i64 0) (.slice none 0 0)
  exact bodyPost_ret (results_cell Tryz.results38 rfl (load_set3 HZ.out.2 _ _ _)) rfl ⟨rfl, HZ.out.1.trans (hbt.below HZ.out.1.size (fun k hk => by omega))⟩
end Go.Proofs
