/- The walk of erratumlaw10.asks: all calls of a code are what the chapter says. Conditions: any code; a list of at most 300 bytes. -/
import Derived.Test.YtbikchgkglllkaaGreatOB
import Derived.Test.YtbikchgkglllkaaGreatNY
import Derived.Test.YtbikchgkglllkaaGreatNR
import Derived.Test.YtbikchgkglllkaaGreatMR
import Derived.Test.YtbikchgkglllkaaGreatMH
namespace Go.Proofs
open Go.RowKit Go.ChangeShapes Go.WideShapes
open Pol (IsN Dg ofL Byt vl frL)

set_option maxRecDepth 100000 in
set_option maxHeartbeats 8000000 in
theorem lasks_yes (j N K B S : Nat) (i : Int) (q : Option Addr) (n c : Nat) (xs : List Nat) (h : Cod N K B) (hS : N - K = S) (h1 : -9223372036854775808 ≤ i) (h2 : i < 9223372036854775808) (hn : n ≤ 1000000) (w : World) (hs : Bs w q n xs) (hc : n ≤ c) :
    Calls Tryz.prog 13 #[.int .u8 j, .agg #[.int .i64 (N : Nat), .int .i64 (K : Nat), .int .i64 (B : Nat)], .int .i64 i, .slice q n c] w fun e w' => e = .returned (.bool true) ∧ Below w.heap.size w w' := by
  obtain ⟨M, hM⟩ : ∃ M, S * N = M := ⟨_, rfl⟩
  obtain ⟨r, hr⟩ : ∃ r, Gf.powZ 2 i = r := ⟨_, rfl⟩
  obtain ⟨b, hb⟩ : ∃ b, decide (Cd.IsW N S B xs) = b := ⟨_, rfl⟩
  have HM : Hid (Cod N K B ∧ N - K = S ∧ S * N = M ∧ Gf.powZ 2 i = r ∧ decide (Cd.IsW N S B xs) = b ∧ -9223372036854775808 ≤ i ∧ i < 9223372036854775808 ∧ n ≤ 1000000) := ⟨h, hS, hM, hr, hb, h1, h2, hn⟩
  clear h hS hM hr hb h1 h2 hn
  obtain ⟨f, hf⟩ : ∃ f : Nat, 1 + j % 3 = f := ⟨_, rfl⟩
  have hf1 : 1 ≤ f := by omega
  have hf3 : f ≤ 3 := by omega
  have hfi : (1 : Int) + (j : Int) % 3 = (f : Int) := by omega
  obtain ⟨P, hP⟩ : ∃ P, w.heap.size = P := ⟨_, rfl⟩
  obtain ⟨W0, hW0⟩ : ∃ W0, w.alloc (.cells #[.int .i64 (N : Nat), .int .i64 (K : Nat), .int .i64 (B : Nat)] 23) = W0 := ⟨_, rfl⟩
  have hb0 : Below w.heap.size w W0 := hW0 ▸ (Below.refl _ w).alloc (Nat.le_refl _) _
  have hC0 : Cb W0 P (N : Nat) (K : Nat) (B : Nat) := by rw [← hW0, ← hP]; exact cb_new w _ _ _
  have K0 := fof_calls f hf1 hf3 W0
  have H0 : Hid (Below w.heap.size w W0 ∧ Cb W0 P (N : Nat) (K : Nat) (B : Nat) ∧ Bs w q n xs ∧ n ≤ c) := ⟨hb0, hC0, hs, hc⟩
  clear hf hf1 hf3 hb0 hC0 hs hc
  go_enter Tryz.func13, Tryz.ntmps13
  go_wp2_with fail
  refine K0.mono ?_
  rintro e w1 ⟨B_f, T_f, rfl, hF, hb, hlB, hlT⟩
  clear K0 hfi
  have hT1 : Tc f B_f T_f P (N : Nat) (K : Nat) (B : Nat) w w1 := ⟨⟨hF, But.of_below (H0.out.1.trans (hb.mono H0.out.1.size))⟩, H0.out.2.1.below hb, by have := H0.out.2.1.blt; omega⟩
  have HTf : Hid (w.heap.size ≤ T_f) := Nat.le_trans H0.out.1.size hlT
  have HX : Hid (∀ W, Tc f B_f T_f P (N : Nat) (K : Nat) (B : Nat) w W → Tl W T_f q n c xs) := fun W hW => (⟨H0.out.2.2.1, H0.out.2.2.2, H0.out.2.2.1.off HTf.out⟩ : Tl w T_f q n c xs).but hW.tw.but
  clear hF hb hlB hlT hW0 hP
  have K1 : Hid (∀ W, Tc f B_f T_f P (N : Nat) (K : Nat) (B : Nat) w W → Calls Tryz.prog 15 #[.agg #[.int .i64 (N : Nat), .int .i64 (K : Nat), .int .i64 (B : Nat)]] W fun e w' => e = .returned (.int .u16 0) ∧ Tc f B_f T_f P (N : Nat) (K : Nat) (B : Nat) w w' ∧ But (· = T_f) W w') := fun W hW => (cright_e _ _ _ 0 (cdE_yes HM.out.1.yes) W).mono fun _ _ ⟨e, hb⟩ => ⟨e, hW.below hb, But.of_below hb⟩
  have K2 : Hid (∀ W, Tc f B_f T_f P (N : Nat) (K : Nat) (B : Nat) w W → Calls Tryz.prog 12 #[.agg #[.int .i64 (N : Nat), .int .i64 (K : Nat), .int .i64 (B : Nat)]] W fun e w' => e = .returned (.int .i64 0) ∧ Tc f B_f T_f P (N : Nat) (K : Nat) (B : Nat) w w' ∧ But (· = T_f) W w') := fun W hW => by
    have := r10right_calls (N : Int) (K : Int) (B : Int) W
    rw [cdE_yes HM.out.1.yes] at this
    exact this.mono fun _ _ ⟨e, hb⟩ => ⟨e, hW.below hb, But.of_below hb⟩
  have K3 : Hid (∀ W, _ → _) := kspace f B_f T_f P N K B S w HM.out.1 HM.out.2.1
  have K4 : Hid (∀ W, Tc f B_f T_f P (N : Nat) (K : Nat) (B : Nat) w W → Calls Tryz.prog 17 #[.agg #[.int .i64 (N : Nat), .int .i64 (K : Nat), .int .i64 (B : Nat)]] W fun e w' => e = .returned (.int .i64 (S : Nat)) ∧ Tc f B_f T_f P (N : Nat) (K : Nat) (B : Nat) w w' ∧ But (· = T_f) W w') := fun W hW => by
    have := r10space_calls (N : Int) (K : Int) (B : Int) W
    rw [cdS_nat HM.out.1, HM.out.2.1] at this
    exact this.mono fun _ _ ⟨e, hb⟩ => ⟨e, hW.below hb, But.of_below hb⟩
  have K5 : Hid (∀ W, Tc f B_f T_f P (N : Nat) (K : Nat) (B : Nat) w W → Calls Tryz.prog 29 #[.pointer (some ⟨B_f, 0, none⟩), .int .i64 i] W fun e w' => e = .returned (.int .u8 (r : Nat)) ∧ Tc f B_f T_f P (N : Nat) (K : Nat) (B : Nat) w w' ∧ But (· = T_f) W w') := fun W hW => (cpoint_e f B_f T_f i r HM.out.2.2.2.2.2.1 HM.out.2.2.2.2.2.2.1 HM.out.2.2.2.1 W hW.tw.fd).mono fun _ _ ⟨e, hF, hb⟩ => ⟨e, hW.next hF hb, hb⟩
  have K6 : Hid (∀ W, Calls Tryz.prog 34 #[.int .i64 i] W fun e w' => e = .returned (.int .u8 (r : Nat)) ∧ w' = W) := fun W => r10point_calls i r HM.out.2.2.2.1 W
  have K7 : Hid (∀ W, _ → _) := kroots f B_f T_f P N K B S w HM.out.1 HM.out.2.1
  have K8 : Hid (∀ W, Tc f B_f T_f P (N : Nat) (K : Nat) (B : Nat) w W → Calls Tryz.prog 35 #[.agg #[.int .i64 (N : Nat), .int .i64 (K : Nat), .int .i64 (B : Nat)]] W fun e w' => ∃ q c, e = .returned (.slice q S c) ∧ Tl w' T_f q S c (Cd.rts B S) ∧ Tc f B_f T_f P (N : Nat) (K : Nat) (B : Nat) w w' ∧ But (· = T_f) W w') := fun W hW => (r10roots_calls N K B S HM.out.1 HM.out.2.1 W).mono fun e w' ⟨v, he, hO, hb⟩ => by
    obtain ⟨q, c, rfl, t⟩ := hO.tl hW.lt (Cd.rts_byt B S) (Cd.rts_length B S)
    exact ⟨q, c, he, t, hW.below hb, But.of_below hb⟩
  have K9 : Hid (∀ q p n c d xs W, Tc f B_f T_f P (N : Nat) (K : Nat) (B : Nat) w W → Tl W T_f q n c xs → Tl W T_f p n d xs → Calls Tryz.prog 33 #[.slice q n c, .slice p n d] W fun e w' => e = .returned (.bool true) ∧ Tc f B_f T_f P (N : Nat) (K : Nat) (B : Nat) w w' ∧ But (· = T_f) W w') := fun q p n c d xs W hW g1 g2 => (same_calls q p n c d xs W g1.bs g2.bs).mono fun _ _ ⟨e, hb⟩ => ⟨e, hW.below hb, But.of_below hb⟩
  have KA : Hid (∀ W, _ → _) := kgen f B_f T_f P N K B S w HM.out.1 HM.out.2.1
  have KB : Hid (∀ W, Tc f B_f T_f P (N : Nat) (K : Nat) (B : Nat) w W → Calls Tryz.prog 36 #[.agg #[.int .i64 (N : Nat), .int .i64 (K : Nat), .int .i64 (B : Nat)]] W fun e w' => ∃ q c, e = .returned (.slice q (S + 1) c) ∧ Tl w' T_f q (S + 1) c (Cd.gen B S) ∧ Tc f B_f T_f P (N : Nat) (K : Nat) (B : Nat) w w' ∧ But (· = T_f) W w') := fun W hW => (r10gen_calls N K B S HM.out.1 HM.out.2.1 W).mono fun e w' ⟨v, he, hO, hb⟩ => by
    obtain ⟨q, c, rfl, t⟩ := hO.tl hW.lt (Cd.gen_isN B S).byt (Cd.gen_length B S)
    exact ⟨q, c, he, t, hW.below hb, But.of_below hb⟩
  have KC : Hid (∀ W, _ → _) := kpar f B_f T_f P N K B S w M HM.out.1 HM.out.2.1 HM.out.2.2.1
  have KD : Hid (∀ W, Tc f B_f T_f P (N : Nat) (K : Nat) (B : Nat) w W → Calls Tryz.prog 38 #[.agg #[.int .i64 (N : Nat), .int .i64 (K : Nat), .int .i64 (B : Nat)]] W fun e w' => ∃ q c, e = .returned (.agg #[.int .i64 (S : Nat), .int .i64 (N : Nat), .slice q M c]) ∧ Tl w' T_f q M c (Cd.par N S B) ∧ Tc f B_f T_f P (N : Nat) (K : Nat) (B : Nat) w w' ∧ But (· = T_f) W w') := fun W hW => (r10par_calls N K B S HM.out.1 HM.out.2.1 W).mono fun e w' ⟨v, he, hO, hb⟩ => by
    obtain ⟨q, c, rfl, t⟩ := hO.tl hW.lt (Cd.par_byt N S B) (by rw [Cd.par_length, HM.out.2.2.1])
    exact ⟨q, c, he, t, hW.below hb, But.of_below hb⟩
  have KE : Hid (∀ q p c d W, Tc f B_f T_f P (N : Nat) (K : Nat) (B : Nat) w W → Tl W T_f q M c (Cd.par N S B) → Tl W T_f p M d (Cd.par N S B) → Calls Tryz.prog 37 #[.agg #[.int .i64 (S : Nat), .int .i64 (N : Nat), .slice q M c], .agg #[.int .i64 (S : Nat), .int .i64 (N : Nat), .slice p M d]] W fun e w' => e = .returned (.bool true) ∧ Tc f B_f T_f P (N : Nat) (K : Nat) (B : Nat) w w' ∧ But (· = T_f) W w') := fun q p c d W hW g1 g2 => (rsame_calls S N q p M c d _ W g1.bs g2.bs).mono fun _ _ ⟨e, hb⟩ => ⟨e, hW.below hb, But.of_below hb⟩
  have KF : Hid (∀ W, Tc f B_f T_f P (N : Nat) (K : Nat) (B : Nat) w W → _) := fun W hW => khas f B_f T_f P N K B S w q n c xs b HM.out.1 HM.out.2.1 HM.out.2.2.2.2.1 W hW (HX.out W hW)
  have KG : Hid (∀ W, Tc f B_f T_f P (N : Nat) (K : Nat) (B : Nat) w W → Calls Tryz.prog 39 #[.agg #[.int .i64 (N : Nat), .int .i64 (K : Nat), .int .i64 (B : Nat)], .slice q n c] W fun e w' => e = .returned (.bool b) ∧ Tc f B_f T_f P (N : Nat) (K : Nat) (B : Nat) w w' ∧ But (· = T_f) W w') := fun W hW => by
    have := r10has_calls N K B S n c q xs HM.out.1 HM.out.2.1 W (HX.out W hW).bs
    rw [HM.out.2.2.2.2.1] at this
    exact this.mono fun _ _ ⟨e, hb⟩ => ⟨e, hW.below hb, But.of_below hb⟩
  have hT0 := hT1.drew
  have hC := hT1.cb
  clear hT1
  have c0 := (hC).c0
  have c1 := (hC).c1
  have c2 := (hC).c2
  clear hC
  go_wp2
  go_region_held3 (fun w' => w'.cell? ⟨P, 0, none⟩ = some (.int .i64 (N : Nat)) ∧ w'.cell? ⟨P, 1, none⟩ = some (.int .i64 (K : Nat)) ∧ w'.cell? ⟨P, 2, none⟩ = some (.int .i64 (B : Nat)))
    (first | (with_reducible exact ⟨hTg.cb.c0, hTg.cb.c1, hTg.cb.c2⟩) | (with_reducible exact ⟨hTf.cb.c0, hTf.cb.c1, hTf.cb.c2⟩) | (with_reducible exact ⟨hTe.cb.c0, hTe.cb.c1, hTe.cb.c2⟩) | (with_reducible exact ⟨hTd.cb.c0, hTd.cb.c1, hTd.cb.c2⟩) | (with_reducible exact ⟨hTc.cb.c0, hTc.cb.c1, hTc.cb.c2⟩) | (with_reducible exact ⟨hTb.cb.c0, hTb.cb.c1, hTb.cb.c2⟩) | (with_reducible exact ⟨hTa.cb.c0, hTa.cb.c1, hTa.cb.c2⟩) | (with_reducible exact ⟨hT9.cb.c0, hT9.cb.c1, hT9.cb.c2⟩) | (with_reducible exact ⟨hT8.cb.c0, hT8.cb.c1, hT8.cb.c2⟩) | (with_reducible exact ⟨hT7.cb.c0, hT7.cb.c1, hT7.cb.c2⟩) | (with_reducible exact ⟨hT6.cb.c0, hT6.cb.c1, hT6.cb.c2⟩) | (with_reducible exact ⟨hT5.cb.c0, hT5.cb.c1, hT5.cb.c2⟩) | (with_reducible exact ⟨hT4.cb.c0, hT4.cb.c1, hT4.cb.c2⟩) | (with_reducible exact ⟨hT3.cb.c0, hT3.cb.c1, hT3.cb.c2⟩) | (with_reducible exact ⟨hT2.cb.c0, hT2.cb.c1, hT2.cb.c2⟩) | (with_reducible exact ⟨hT1.cb.c0, hT1.cb.c1, hT1.cb.c2⟩) | (with_reducible exact ⟨hT0.cb.c0, hT0.cb.c1, hT0.cb.c2⟩))
    (first
      | (go_at_call 15; with_reducible refine (K1.out _ hT0).mono ?_; rintro e x1 ⟨rfl, hT1, -⟩)
      | (go_at_call 12; with_reducible refine (K2.out _ hT1).mono ?_; rintro e x2 ⟨rfl, hT2, -⟩)
      | (go_at_call 16; with_reducible refine (K3.out _ hT2).mono ?_; rintro e x3 ⟨rfl, hT3, -⟩)
      | (go_at_call 17; with_reducible refine (K4.out _ hT3).mono ?_; rintro e x4 ⟨rfl, hT4, -⟩)
      | (go_at_call 29; with_reducible refine (K5.out _ hT4).mono ?_; rintro e x5 ⟨rfl, hT5, -⟩)
      | (go_at_call 34; with_reducible refine (K6.out x5).mono ?_; rintro e x5 ⟨rfl, hx5⟩; subst hx5)
      | (go_at_call 28; with_reducible refine (K7.out _ hT5).mono ?_; rintro e x6 ⟨q6, c6, rfl, l6, hT6, -⟩)
      | (go_at_call 35; with_reducible refine (K8.out _ hT6).mono ?_; rintro e x7 ⟨q7, c7, rfl, l7, hT7, hb7⟩; have l67 := l6.but hb7)
      | (go_at_call 33; with_reducible refine (K9.out _ _ _ _ _ _ _ hT7 l67 l7).mono ?_; rintro e x8 ⟨rfl, hT8, -⟩)
      | (go_at_call 19; with_reducible refine (KA.out _ hT8).mono ?_; rintro e x9 ⟨q9, c9, rfl, l9, hT9, -⟩)
      | (go_at_call 36; with_reducible refine (KB.out _ hT9).mono ?_; rintro e xa ⟨qa, ca, rfl, la, hTa, hba⟩; have l9a := l9.but hba)
      | (go_at_call 33; with_reducible refine (K9.out _ _ _ _ _ _ _ hTa l9a la).mono ?_; rintro e xb ⟨rfl, hTb, -⟩)
      | (go_at_call 23; with_reducible refine (KC.out _ hTb).mono ?_; rintro e xc ⟨qc, cc, rfl, lc, hTc, -⟩)
      | (go_at_call 38; with_reducible refine (KD.out _ hTc).mono ?_; rintro e xd ⟨qd, cd, rfl, ld, hTd, hbd⟩; have lcd := lc.but hbd)
      | (go_at_call 37; with_reducible refine (KE.out _ _ _ _ _ hTd lcd ld).mono ?_; rintro e xe ⟨rfl, hTe, -⟩)
      | (go_at_call 24; with_reducible refine (KF.out _ hTe).mono ?_; rintro e xf ⟨rfl, hTf, -⟩)
      | (go_at_call 39; with_reducible refine (KG.out _ hTf).mono ?_; rintro e xg ⟨rfl, hTg, -⟩))
  go_wp2
  go_ret
  exact ⟨rfl, hTg.tw.but.below (Nat.le_refl _) (by rintro k rfl; exact HTf.out)⟩
set_option maxRecDepth 100000 in
set_option maxHeartbeats 8000000 in
theorem lasks_no (j : Nat) (N K B : Int) (i : Int) (q : Option Addr) (n c : Nat) (xs : List Nat) (h : cdB N K B = false) (h1 : -9223372036854775808 ≤ i) (h2 : i < 9223372036854775808) (w : World) (hs : Bs w q n xs) (hc : n ≤ c) :
    Calls Tryz.prog 13 #[.int .u8 j, .agg #[.int .i64 N, .int .i64 K, .int .i64 B], .int .i64 i, .slice q n c] w fun e w' => e = .returned (.bool true) ∧ Below w.heap.size w w' := by
  obtain ⟨r, hr⟩ : ∃ r, Gf.powZ 2 i = r := ⟨_, rfl⟩
  have HM : Hid (cdB N K B = false ∧ Gf.powZ 2 i = r ∧ -9223372036854775808 ≤ i ∧ i < 9223372036854775808) := ⟨h, hr, h1, h2⟩
  clear h hr h1 h2
  obtain ⟨f, hf⟩ : ∃ f : Nat, 1 + j % 3 = f := ⟨_, rfl⟩
  have hf1 : 1 ≤ f := by omega
  have hf3 : f ≤ 3 := by omega
  have hfi : (1 : Int) + (j : Int) % 3 = (f : Int) := by omega
  obtain ⟨P, hP⟩ : ∃ P, w.heap.size = P := ⟨_, rfl⟩
  obtain ⟨W0, hW0⟩ : ∃ W0, w.alloc (.cells #[.int .i64 N, .int .i64 K, .int .i64 B] 23) = W0 := ⟨_, rfl⟩
  have hb0 : Below w.heap.size w W0 := hW0 ▸ (Below.refl _ w).alloc (Nat.le_refl _) _
  have hC0 : Cb W0 P N K B := by rw [← hW0, ← hP]; exact cb_new w _ _ _
  have K0 := fof_calls f hf1 hf3 W0
  have H0 : Hid (Below w.heap.size w W0 ∧ Cb W0 P N K B ∧ Bs w q n xs ∧ n ≤ c) := ⟨hb0, hC0, hs, hc⟩
  clear hf hf1 hf3 hb0 hC0 hs hc
  go_enter Tryz.func13, Tryz.ntmps13
  go_wp2_with fail
  refine K0.mono ?_
  rintro e w1 ⟨B_f, T_f, rfl, hF, hb, hlB, hlT⟩
  clear K0 hfi
  have hT1 : Tc f B_f T_f P N K B w w1 := ⟨⟨hF, But.of_below (H0.out.1.trans (hb.mono H0.out.1.size))⟩, H0.out.2.1.below hb, by have := H0.out.2.1.blt; omega⟩
  have HTf : Hid (w.heap.size ≤ T_f) := Nat.le_trans H0.out.1.size hlT
  have HX : Hid (∀ W, Tc f B_f T_f P N K B w W → Tl W T_f q n c xs) := fun W hW => (⟨H0.out.2.2.1, H0.out.2.2.2, H0.out.2.2.1.off HTf.out⟩ : Tl w T_f q n c xs).but hW.tw.but
  clear hF hb hlB hlT hW0 hP
  have hno : ((some (⟨B_f, 0, none⟩ : Addr)).isSome && cdB N K B) = false := by rw [HM.out.1]; rfl
  have KX : Hid (∀ W, Tc f B_f T_f P N K B w W → Tc f B_f T_f P N K B w W) := fun W h => h
  have K1 : Hid (∀ W, Tc f B_f T_f P N K B w W → Calls Tryz.prog 15 #[.agg #[.int .i64 N, .int .i64 K, .int .i64 B]] W fun e w' => e = .returned (.int .u16 10) ∧ Tc f B_f T_f P N K B w w') := fun W hW => (cright_e _ _ _ 10 (cdE_no HM.out.1) W).mono fun _ _ ⟨e, hb⟩ => ⟨e, hW.below hb⟩
  have K2 : Hid (∀ W, Tc f B_f T_f P N K B w W → Calls Tryz.prog 12 #[.agg #[.int .i64 N, .int .i64 K, .int .i64 B]] W fun e w' => e = .returned (.int .i64 10) ∧ Tc f B_f T_f P N K B w w') := fun W hW => by
    have := r10right_calls N K B W
    rw [cdE_no HM.out.1] at this
    exact this.mono fun _ _ ⟨e, hb⟩ => ⟨e, hW.below hb⟩
  have K3 : Hid (∀ W, Tc f B_f T_f P N K B w W → Calls Tryz.prog 16 #[.agg #[.int .i64 N, .int .i64 K, .int .i64 B]] W fun e w' => e = .returned (.int .i64 0) ∧ Tc f B_f T_f P N K B w w') := fun W hW => (cspace_i _ _ _ 0 (cdS_no HM.out.1) W).mono fun _ _ ⟨e, hb⟩ => ⟨e, hW.below hb⟩
  have K4 : Hid (∀ W, Tc f B_f T_f P N K B w W → Calls Tryz.prog 17 #[.agg #[.int .i64 N, .int .i64 K, .int .i64 B]] W fun e w' => e = .returned (.int .i64 0) ∧ Tc f B_f T_f P N K B w w') := fun W hW => by
    have := r10space_calls N K B W
    rw [cdS_no HM.out.1] at this
    exact this.mono fun _ _ ⟨e, hb⟩ => ⟨e, hW.below hb⟩
  have K5 : Hid (∀ W, Tc f B_f T_f P N K B w W → Calls Tryz.prog 29 #[.pointer (some ⟨B_f, 0, none⟩), .int .i64 i] W fun e w' => e = .returned (.int .u8 (r : Nat)) ∧ Tc f B_f T_f P N K B w w') := fun W hW => (cpoint_e f B_f T_f i r HM.out.2.2.1 HM.out.2.2.2 HM.out.2.1 W hW.tw.fd).mono fun _ _ ⟨e, hF, hb⟩ => ⟨e, hW.next hF hb⟩
  have K6 : Hid (∀ W, Calls Tryz.prog 34 #[.int .i64 i] W fun e w' => e = .returned (.int .u8 (r : Nat)) ∧ w' = W) := fun W => r10point_calls i r HM.out.2.1 W
  have K7 : Hid (∀ W, Tc f B_f T_f P N K B w W → Calls Tryz.prog 28 #[.pointer (some ⟨B_f, 0, none⟩), .agg #[.int .i64 N, .int .i64 K, .int .i64 B]] W fun e w' => e = .returned (.slice none 0 0) ∧ Tc f B_f T_f P N K B w w') := fun W hW => (croots_none _ N K B hno W).mono fun _ _ ⟨e, hb⟩ => ⟨e, hW.below hb⟩
  have K8 : Hid (∀ W, Tc f B_f T_f P N K B w W → Calls Tryz.prog 35 #[.agg #[.int .i64 N, .int .i64 K, .int .i64 B]] W fun e w' => e = .returned (.slice none 0 0) ∧ Tc f B_f T_f P N K B w w') := fun W hW => (r10roots_none N K B HM.out.1 W).mono fun _ _ ⟨e, hb⟩ => ⟨e, hW.below hb⟩
  have K9 : Hid (∀ W, Tc f B_f T_f P N K B w W → Calls Tryz.prog 33 #[.slice none 0 0, .slice none 0 0] W fun e w' => e = .returned (.bool true) ∧ Tc f B_f T_f P N K B w w') := fun W hW => (same_calls none none 0 0 0 [] W (bs_nil _) (bs_nil _)).mono fun _ _ ⟨e, hb⟩ => ⟨e, hW.below hb⟩
  have KA : Hid (∀ W, Tc f B_f T_f P N K B w W → Calls Tryz.prog 19 #[.pointer (some ⟨B_f, 0, none⟩), .agg #[.int .i64 N, .int .i64 K, .int .i64 B]] W fun e w' => e = .returned (.slice none 0 0) ∧ Tc f B_f T_f P N K B w w') := fun W hW => (cgen_none _ N K B hno W).mono fun _ _ ⟨e, hb⟩ => ⟨e, hW.below hb⟩
  have KB : Hid (∀ W, Tc f B_f T_f P N K B w W → Calls Tryz.prog 36 #[.agg #[.int .i64 N, .int .i64 K, .int .i64 B]] W fun e w' => e = .returned (.slice none 0 0) ∧ Tc f B_f T_f P N K B w w') := fun W hW => (r10gen_none N K B HM.out.1 W).mono fun _ _ ⟨e, hb⟩ => ⟨e, hW.below hb⟩
  have KC : Hid (∀ W, Tc f B_f T_f P N K B w W → Calls Tryz.prog 23 #[.pointer (some ⟨B_f, 0, none⟩), .agg #[.int .i64 N, .int .i64 K, .int .i64 B]] W fun e w' => e = .returned (.agg #[.int .i64 0, .int .i64 0, .slice none 0 0]) ∧ Tc f B_f T_f P N K B w w') := fun W hW => (cpar_none _ N K B hno W).mono fun _ _ ⟨e, hb⟩ => ⟨e, hW.below hb⟩
  have KD : Hid (∀ W, Tc f B_f T_f P N K B w W → Calls Tryz.prog 38 #[.agg #[.int .i64 N, .int .i64 K, .int .i64 B]] W fun e w' => e = .returned (.agg #[.int .i64 0, .int .i64 0, .slice none 0 0]) ∧ Tc f B_f T_f P N K B w w') := fun W hW => (r10par_none N K B HM.out.1 W).mono fun _ _ ⟨e, hb⟩ => ⟨e, hW.below hb⟩
  have KE : Hid (∀ W, Tc f B_f T_f P N K B w W → Calls Tryz.prog 37 #[.agg #[.int .i64 0, .int .i64 0, .slice none 0 0], .agg #[.int .i64 0, .int .i64 0, .slice none 0 0]] W fun e w' => e = .returned (.bool true) ∧ Tc f B_f T_f P N K B w w') := fun W hW => (rsame_calls 0 0 none none 0 0 0 [] W (bs_nil _) (bs_nil _)).mono fun _ _ ⟨e, hb⟩ => ⟨e, hW.below hb⟩
  have KF : Hid (∀ W, Tc f B_f T_f P N K B w W → Calls Tryz.prog 24 #[.pointer (some ⟨B_f, 0, none⟩), .agg #[.int .i64 N, .int .i64 K, .int .i64 B], .slice q n c] W fun e w' => e = .returned (.bool false) ∧ Tc f B_f T_f P N K B w w') := fun W hW => (chas_none _ N K B q n c hno W).mono fun _ _ ⟨e, hb⟩ => ⟨e, hW.below hb⟩
  have KG : Hid (∀ W, Tc f B_f T_f P N K B w W → Calls Tryz.prog 39 #[.agg #[.int .i64 N, .int .i64 K, .int .i64 B], .slice q n c] W fun e w' => e = .returned (.bool false) ∧ Tc f B_f T_f P N K B w w') := fun W hW => (r10has_none N K B q n c HM.out.1 W).mono fun _ _ ⟨e, hb⟩ => ⟨e, hW.below hb⟩
  have hT0 := hT1.drew
  have hC := hT1.cb
  clear hT1 hno KX
  have c0 := (hC).c0
  have c1 := (hC).c1
  have c2 := (hC).c2
  clear hC
  go_wp2
  go_region_held3 (fun w' => w'.cell? ⟨P, 0, none⟩ = some (.int .i64 N) ∧ w'.cell? ⟨P, 1, none⟩ = some (.int .i64 K) ∧ w'.cell? ⟨P, 2, none⟩ = some (.int .i64 B))
    (first | (with_reducible exact ⟨hTg.cb.c0, hTg.cb.c1, hTg.cb.c2⟩) | (with_reducible exact ⟨hTf.cb.c0, hTf.cb.c1, hTf.cb.c2⟩) | (with_reducible exact ⟨hTe.cb.c0, hTe.cb.c1, hTe.cb.c2⟩) | (with_reducible exact ⟨hTd.cb.c0, hTd.cb.c1, hTd.cb.c2⟩) | (with_reducible exact ⟨hTc.cb.c0, hTc.cb.c1, hTc.cb.c2⟩) | (with_reducible exact ⟨hTb.cb.c0, hTb.cb.c1, hTb.cb.c2⟩) | (with_reducible exact ⟨hTa.cb.c0, hTa.cb.c1, hTa.cb.c2⟩) | (with_reducible exact ⟨hT9.cb.c0, hT9.cb.c1, hT9.cb.c2⟩) | (with_reducible exact ⟨hT8.cb.c0, hT8.cb.c1, hT8.cb.c2⟩) | (with_reducible exact ⟨hT7.cb.c0, hT7.cb.c1, hT7.cb.c2⟩) | (with_reducible exact ⟨hT6.cb.c0, hT6.cb.c1, hT6.cb.c2⟩) | (with_reducible exact ⟨hT5.cb.c0, hT5.cb.c1, hT5.cb.c2⟩) | (with_reducible exact ⟨hT4.cb.c0, hT4.cb.c1, hT4.cb.c2⟩) | (with_reducible exact ⟨hT3.cb.c0, hT3.cb.c1, hT3.cb.c2⟩) | (with_reducible exact ⟨hT2.cb.c0, hT2.cb.c1, hT2.cb.c2⟩) | (with_reducible exact ⟨hT1.cb.c0, hT1.cb.c1, hT1.cb.c2⟩) | (with_reducible exact ⟨hT0.cb.c0, hT0.cb.c1, hT0.cb.c2⟩))
    (first
      | (go_at_call 15; with_reducible refine (K1.out _ hT0).mono ?_; rintro e x1 ⟨rfl, hT1⟩)
      | (go_at_call 12; with_reducible refine (K2.out _ hT1).mono ?_; rintro e x2 ⟨rfl, hT2⟩)
      | (go_at_call 16; with_reducible refine (K3.out _ hT2).mono ?_; rintro e x3 ⟨rfl, hT3⟩)
      | (go_at_call 17; with_reducible refine (K4.out _ hT3).mono ?_; rintro e x4 ⟨rfl, hT4⟩)
      | (go_at_call 29; with_reducible refine (K5.out _ hT4).mono ?_; rintro e x5 ⟨rfl, hT5⟩)
      | (go_at_call 34; with_reducible refine (K6.out x5).mono ?_; rintro e x5 ⟨rfl, hx5⟩; subst hx5)
      | (go_at_call 28; with_reducible refine (K7.out _ hT5).mono ?_; rintro e x6 ⟨rfl, hT6⟩)
      | (go_at_call 35; with_reducible refine (K8.out _ hT6).mono ?_; rintro e x7 ⟨rfl, hT7⟩)
      | (go_at_call 33; with_reducible refine (K9.out _ hT7).mono ?_; rintro e x8 ⟨rfl, hT8⟩)
      | (go_at_call 19; with_reducible refine (KA.out _ hT8).mono ?_; rintro e x9 ⟨rfl, hT9⟩)
      | (go_at_call 36; with_reducible refine (KB.out _ hT9).mono ?_; rintro e xa ⟨rfl, hTa⟩)
      | (go_at_call 33; with_reducible refine (K9.out _ hTa).mono ?_; rintro e xb ⟨rfl, hTb⟩)
      | (go_at_call 23; with_reducible refine (KC.out _ hTb).mono ?_; rintro e xc ⟨rfl, hTc⟩)
      | (go_at_call 38; with_reducible refine (KD.out _ hTc).mono ?_; rintro e xd ⟨rfl, hTd⟩)
      | (go_at_call 37; with_reducible refine (KE.out _ hTd).mono ?_; rintro e xe ⟨rfl, hTe⟩)
      | (go_at_call 24; with_reducible refine (KF.out _ hTe).mono ?_; rintro e xf ⟨rfl, hTf⟩)
      | (go_at_call 39; with_reducible refine (KG.out _ hTf).mono ?_; rintro e xg ⟨rfl, hTg⟩))
  go_wp2
  go_ret
  exact ⟨rfl, hTg.tw.but.below (Nat.le_refl _) (by rintro k rfl; exact HTf.out)⟩
theorem lasks_any (j : Nat) (N K B : Int) (i : Int) (q : Option Addr) (n c : Nat) (xs : List Nat) (h1 : -9223372036854775808 ≤ i) (h2 : i < 9223372036854775808) (hn : n ≤ 1000000) (w : World) (hs : Bs w q n xs) (hc : n ≤ c) :
    Calls Tryz.prog 13 #[.int .u8 j, .agg #[.int .i64 N, .int .i64 K, .int .i64 B], .int .i64 i, .slice q n c] w fun e w' => e = .returned (.bool true) ∧ Below w.heap.size w w' := by
  cases h : cdB N K B with
  | false => exact lasks_no j N K B i q n c xs h h1 h2 w hs hc
  | true =>
    obtain ⟨n', k', b', rfl, rfl, rfl, hcod⟩ := cod_of h
    exact lasks_yes j n' k' b' _ i q n c xs hcod rfl h1 h2 hn w hs hc
end Go.Proofs
