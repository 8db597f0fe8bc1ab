/- The walk of erratumlaw11.asks: all calls of a code and a list are what the chapter says. Conditions: any code; any list, no longer than its capacity. -/
import Derived.Test.YtagkpjbadmodbaaGreatOH
import Derived.Test.YtagkpjbadmodbaaGreatOG
namespace Go.Proofs
open Go.RowKit Go.ChangeShapes Go.WideShapes
open Pol (IsN Dg ofL Byt)

set_option maxRecDepth 100000 in
set_option maxHeartbeats 4000000 in
theorem asks11_calls (j : Nat) (N K B : Int) (q : Option Addr) (n c : Nat) (xs : List Nat) (w : World) (hs : Bs w q n xs) (hc : n ≤ c) :
    Calls Tryz.prog 10 #[.int .u8 j, .agg #[.int .i64 N, .int .i64 K, .int .i64 B], .slice q n c] w fun e w' => e = .returned (.bool true) ∧ Below w.heap.size w w' := by
  obtain ⟨ws, r, hE⟩ := isEn_exists N K B hs.byte
  obtain ⟨ms, r', hM⟩ := isMe_exists N K B xs
  obtain ⟨l, hl⟩ : ∃ l, ws.length = l := ⟨_, rfl⟩
  obtain ⟨m, hm⟩ : ∃ m, ms.length = m := ⟨_, rfl⟩
  have hr := wrap_nat r (by have := hE.num; omega)
  have hr' := wrap_nat r' (by have := hM.num; omega)
  have HM : Hid (IsEn N K B xs ws r ∧ IsMe N K B xs ms r' ∧ ws.length = l ∧ ms.length = m) := ⟨hE, hM, hl, hm⟩
  clear hE hM hl hm
  obtain ⟨f, hf⟩ : ∃ f : Nat, 1 + j % 3 = f := ⟨_, rfl⟩
  have hf1 : 1 ≤ f := by omega
  have hf3 : f ≤ 3 := by omega
  have hfi : (1 : Int) + (j : Int) % 3 = (f : Int) := by omega
  obtain ⟨P, hP⟩ : ∃ P, w.heap.size = P := ⟨_, rfl⟩
  obtain ⟨W0, hW0⟩ : ∃ W0, w.alloc (.cells #[.int .i64 N, .int .i64 K, .int .i64 B] 23) = W0 := ⟨_, rfl⟩
  have hb0 : Below w.heap.size w W0 := hW0 ▸ (Below.refl _ w).alloc (Nat.le_refl _) _
  have hC0 : Cb W0 P N K B := by rw [← hW0, ← hP]; exact cb_new w _ _ _
  have K0 := fof_calls f hf1 hf3 W0
  have H0 : Hid (Below w.heap.size w W0 ∧ Cb W0 P N K B ∧ Bs w q n xs ∧ n ≤ c) := ⟨hb0, hC0, hs, hc⟩
  clear hf hf1 hf3 hb0 hC0 hs hc
  go_enter Tryz.func10, Tryz.ntmps10
  go_wp2_with fail
  refine K0.mono ?_
  rintro e w1 ⟨B_f, T_f, rfl, hF, hb, hlB, hlT⟩
  clear K0 hfi
  have hT1 : Tc f B_f T_f P N K B w w1 := ⟨⟨hF, But.of_below (H0.out.1.trans (hb.mono H0.out.1.size))⟩, H0.out.2.1.below hb, by have := H0.out.2.1.blt; omega⟩
  have HTf : Hid (w.heap.size ≤ T_f) := Nat.le_trans H0.out.1.size hlT
  have HX : Hid (∀ W, Tc f B_f T_f P N K B w W → Tl W T_f q n c xs) := fun W hW => (⟨H0.out.2.2.1, H0.out.2.2.2, H0.out.2.2.1.off HTf.out⟩ : Tl w T_f q n c xs).but hW.tw.but
  have KX := kenc f B_f T_f P N K B N K B w q n c l r xs ws HM.out.1 HM.out.2.2.1 w1 hT1 (HX.out _ hT1)
  have hC := hT1.cb
  clear hF hb hlB hlT hW0 hP hT1
  have u0 := (hC).c0
  have u1 := (hC).c1
  have u2 := (hC).c2
  clear hC
  go_wp2_with fail
  refine KX.mono ?_
  rintro e w2 ⟨q2, c2, rfl, l2, hT2, -⟩
  clear KX
  clear u0 u1 u2
  have KX := (r11en_u N K B q n c xs ws r HM.out.1 H0.out.2.2.2 w2 (HX.out _ hT2).bs)
  have H2 : Hid (Tc f B_f T_f P N K B w w2 ∧ Tl w2 T_f q2 l c2 ws) := ⟨hT2, l2⟩
  have hC := hT2.cb
  clear hT2 l2
  have u0 := (hC).c0
  have u1 := (hC).c1
  have u2 := (hC).c2
  clear hC
  go_wp2_with fail
  refine KX.mono ?_
  rintro e w3 ⟨v, rfl, hO, hb⟩
  clear KX
  clear u0 u1 u2
  obtain ⟨q3, c3, rfl, l3⟩ := hO.tl H2.out.1.lt HM.out.1.byt HM.out.2.2.1
  have hT3 := H2.out.1.below hb
  have KX := kmsg f B_f T_f P N K B N K B w q n c m r' xs ms HM.out.2.1 HM.out.2.2.2 w3 hT3 (HX.out _ hT3)
  have H3 : Hid (∀ W, But (· = T_f) w3 W → Tl W T_f q2 l c2 ws ∧ Tl W T_f q3 l c3 ws) := fun W hW => ⟨(H2.out.2.below hb).but hW, l3.but hW⟩
  have hC := hT3.cb
  clear hT3 l3 hO hb H2
  have u0 := (hC).c0
  have u1 := (hC).c1
  have u2 := (hC).c2
  clear hC
  go_wp2_with fail
  refine KX.mono ?_
  rintro e w4 ⟨q4, c4, rfl, l4, hT4, hb4⟩
  clear KX
  clear u0 u1 u2
  have KX := (r11me_u N K B q n c xs ms r' HM.out.2.1 H0.out.2.2.2 w4 (HX.out _ hT4).bs)
  have H4 : Hid (Tc f B_f T_f P N K B w w4 ∧ Tl w4 T_f q4 m c4 ms ∧ But (· = T_f) w3 w4) := ⟨hT4, l4, hb4⟩
  have hC := hT4.cb
  clear hT4 l4 hb4
  have u0 := (hC).c0
  have u1 := (hC).c1
  have u2 := (hC).c2
  clear hC
  go_wp2_with fail
  refine KX.mono ?_
  rintro e w5 ⟨v, rfl, hO, hb⟩
  clear KX
  clear u0 u1 u2
  obtain ⟨q5, c5, rfl, l5⟩ := hO.tl H4.out.1.lt (HM.out.2.1.byt H0.out.2.2.1.byte) HM.out.2.2.2
  have hT5 := H4.out.1.below hb
  have hb35 := H4.out.2.2.trans (But.of_below hb)
  have KX := ksame f B_f T_f P N K B w q2 q3 l c2 c3 ws w5 hT5 (H3.out _ hb35).1 (H3.out _ hb35).2
  have H5 : Hid (∀ W, But (· = T_f) w5 W → Tl W T_f q4 m c4 ms ∧ Tl W T_f q5 m c5 ms) := fun W hW => ⟨(H4.out.2.1.below hb).but hW, l5.but hW⟩
  clear hT5 l5 hO hb hb35 H4 H3
  go_wp2_with fail
  refine KX.mono ?_
  rintro e w6 ⟨rfl, hT6, hb6⟩
  clear KX
  have KX := ksame f B_f T_f P N K B w q4 q5 m c4 c5 ms w6 hT6 (H5.out _ hb6).1 (H5.out _ hb6).2
  clear hT6 hb6 H5
  go_wp2_with fail
  refine KX.mono ?_
  rintro e w7 ⟨rfl, hT7, -⟩
  clear KX
  go_wp2
  go_ret
  exact ⟨rfl, hT7.tw.but.below (Nat.le_refl _) (by rintro k rfl; exact HTf.out)⟩
end Go.Proofs
