/- CheckBudget holds for every input: what fits still fits with less; an error costs as much as two erasures. No conditions. -/
import Derived.Test.YtjnkkokhkooegaaGreatRows
import Derived.Test.YtjnkkokhkooegaaGreatMB
import Derived.Test.YtjnkkokhkooegaaGreatOY
namespace Go.Proofs.YtjnkkokhkooegaaGreat.checkBudget
open Go.ChangeShapes Go.WideShapes Go.ChangeAt Go.RowKit

theorem wr (x : Int) (h1 : -100000 ≤ x) (h2 : x ≤ 100000) : wrap64 x = x ∧ IntKind.i64.wrap x = x := ⟨by unfold wrap64; omega, by rw [IntKind.wrap_i64]; omega⟩
set_option maxRecDepth 100000 in
set_option maxHeartbeats 4000000 in
theorem walk (n k b x y : Nat) (w : World) (hn : n < 256) (hk : k < 256) (hb : b < 256) (_hx : x < 256) (_hy : y < 256) :
    Calls Tryz.prog 5 #[.int .u8 n, .int .u8 k, .int .u8 b, .int .u8 x, .int .u8 y] w fun e w' => e = .returned (.bool true) ∧ Below w.heap.size w w' := by
  have hnot : ∀ (x : Bool) (w : World), (Op.unary .not (.bool x)).run Tryz.prog w = .ok (.bool (!x)) w := fun _ _ => rfl
  have K0 := lcode_calls n k b hn hk hb w
  have hcod := ck_cod n k b
  have hle := ckN_le n k
  obtain ⟨N, hN⟩ : ∃ N, ckN n k = N := ⟨_, rfl⟩
  obtain ⟨K, hK⟩ : ∃ K, ckK n k = K := ⟨_, rfl⟩
  obtain ⟨B, hB⟩ : ∃ B, ckB b = B := ⟨_, rfl⟩
  obtain ⟨S, hS⟩ : ∃ S, N - K = S := ⟨_, rfl⟩
  rw [hN, hK, hB] at K0 hcod
  rw [hN] at hle
  obtain ⟨U, hU⟩ : ∃ U : Nat, x % 30 = U := ⟨_, rfl⟩
  obtain ⟨V, hV⟩ : ∃ V : Nat, y % 60 = V := ⟨_, rfl⟩
  have hUi : (x : Int) % 30 = (U : Int) := by omega
  have hVi : (y : Int) % 60 = (V : Int) := by omega
  have hUt : (x : Int).tmod 30 = (U : Int) := by rw [← hU]; exact (Int.ofNat_tmod x 30).symm
  have hVt : (y : Int).tmod 60 = (V : Int) := by rw [← hV]; exact (Int.ofNat_tmod y 60).symm
  have hU30 : (U : Int) ≤ 29 := by omega
  have hV60 : (V : Int) ≤ 59 := by omega
  have hU0 : (0 : Int) ≤ (U : Int) := by omega
  have hV0 : (0 : Int) ≤ (V : Int) := by omega
  have hSi : (N : Int) - (K : Int) = (S : Int) := by have := hcod.n; omega
  have hS6 : (S : Int) ≤ 255 := by have := hcod.m; omega
  obtain ⟨D, hD⟩ : ∃ D : Int, 2 * (U : Int) = D := ⟨_, rfl⟩
  obtain ⟨C, hCC⟩ : ∃ C : Int, D + (V : Int) = C := ⟨_, rfl⟩
  obtain ⟨A1, hA1⟩ : ∃ A : Int, (U : Int) - 1 = A := ⟨_, rfl⟩
  obtain ⟨A2, hA2⟩ : ∃ A : Int, (V : Int) + 2 = A := ⟨_, rfl⟩
  obtain ⟨A3, hA3⟩ : ∃ A : Int, (V : Int) - 1 = A := ⟨_, rfl⟩
  obtain ⟨A4, hA4⟩ : ∃ A : Int, -1 - (U : Int) = A := ⟨_, rfl⟩
  obtain ⟨A5, hA5⟩ : ∃ A : Int, -1 - (V : Int) = A := ⟨_, rfl⟩
  have hfit : ∀ G H : Int, fitB (N : Int) (K : Int) (B : Int) G H = (decide (0 ≤ G) && decide (0 ≤ H) && decide (2 * G + H ≤ (S : Int))) := fun G H => by rw [fitB_yes hcod.yes, hSi]
  have HF : Hid (∀ W W', (Cb W w.heap.size (N : Nat) (K : Nat) (B : Nat) ∧ Below w.heap.size w W) → Below W.heap.size W W' → (Cb W' w.heap.size (N : Nat) (K : Nat) (B : Nat) ∧ Below w.heap.size w W')) := fun W W' h hb => ⟨h.1.below hb, h.2.trans (hb.mono h.2.size)⟩
  have KK : ∀ P, Hid (∀ W, (Cb W P (N : Nat) (K : Nat) (B : Nat) ∧ Below w.heap.size w W) → Calls Tryz.prog 16 #[] W fun e w' => e = .returned (.bool true) ∧ (Cb w' P (N : Nat) (K : Nat) (B : Nat) ∧ Below w.heap.size w w')) := fun P W h => (known13_calls W).mono fun e w' ⟨he, hb⟩ => ⟨he, h.1.below hb, h.2.trans (hb.mono h.2.size)⟩
  have KF : ∀ P (G H : Int) (r : Bool), (decide (0 ≤ G) && decide (0 ≤ H) && decide (2 * G + H ≤ (S : Int))) = r → Hid (∀ W, (Cb W P (N : Nat) (K : Nat) (B : Nat) ∧ Below w.heap.size w W) → Calls Tryz.prog 22 #[.agg #[.int .i64 (N : Nat), .int .i64 (K : Nat), .int .i64 (B : Nat)], .int .i64 G, .int .i64 H] W fun e w' => e = .returned (.bool r) ∧ (Cb w' P (N : Nat) (K : Nat) (B : Nat) ∧ Below w.heap.size w w')) := fun P G H r hr W h => (fits_calls N K B G H W).mono fun e w' ⟨he, hb⟩ => ⟨by rw [← hr, ← hfit]; exact he, h.1.below hb, h.2.trans (hb.mono h.2.size)⟩
  clear HF
  have KN := KK
  have k1 := fun r h P => KF P U V r h
  have k2 := fun r h P => KF P A1 A2 r h
  have k3 := fun r h P => KF P U A3 r h
  have k4 := fun r h P => KF P A4 V r h
  have k5 := fun r h P => KF P U A5 r h
  have HW : Hid ((wrap64 D = D ∧ IntKind.i64.wrap D = D) ∧ (wrap64 C = C ∧ IntKind.i64.wrap C = C) ∧ (wrap64 A1 = A1 ∧ IntKind.i64.wrap A1 = A1) ∧ (wrap64 A2 = A2 ∧ IntKind.i64.wrap A2 = A2) ∧ (wrap64 A3 = A3 ∧ IntKind.i64.wrap A3 = A3) ∧ (wrap64 A4 = A4 ∧ IntKind.i64.wrap A4 = A4) ∧ (wrap64 A5 = A5 ∧ IntKind.i64.wrap A5 = A5)) := ⟨wr D (by omega) (by omega), wr C (by omega) (by omega), wr A1 (by omega) (by omega), wr A2 (by omega) (by omega), wr A3 (by omega) (by omega), wr A4 (by omega) (by omega), wr A5 (by omega) (by omega)⟩
  clear KK KF hfit hn hk hb _hx _hy hN hK hB hS hU hV hcod hle
  have k4' := k4 false (by simp; omega)
  have k5' := k5 false (by simp; omega)
  clear k4 k5
  by_cases h : C ≤ (S : Int)
  · have hc : (C ≤ (S : Int)) = True := eq_true h
    have k1' := k1 true (by simp; omega)
    clear k1
    by_cases hU1 : (U : Int) = 0
    · have eU : ((U : Int) == 0) = true := by simp [hU1]
      clear k2
      by_cases hV1 : (V : Int) = 0
      · have eV : ((V : Int) == 0) = true := by simp [hV1]
        clear k3 hU1 hV1 h hA1 hA2 hA3
        obtain ⟨⟨wa1, wa2⟩, ⟨wb1, wb2⟩, ⟨wc1, wc2⟩, ⟨wd1, wd2⟩, ⟨we1, we2⟩, ⟨wf1, wf2⟩, wg1, wg2⟩ := HW.out
        clear HW
        go_enter Tryz.func5, Tryz.ntmps5
        go_wp2_with fail
        refine K0.mono ?_
        rintro e w1 ⟨rfl, hb1⟩
        obtain ⟨P, hP⟩ : ∃ P, w1.heap.size = P := ⟨_, rfl⟩
        obtain ⟨W2, hW2⟩ : ∃ W2, w1.alloc (.cells #[.int .i64 (N : Nat), .int .i64 (K : Nat), .int .i64 (B : Nat)] 26) = W2 := ⟨_, rfl⟩
        have hC : Cb W2 P (N : Nat) (K : Nat) (B : Nat) := by rw [← hW2, ← hP]; exact cb_new w1 _ _ _
        have HT1 : Hid (Cb W2 P (N : Nat) (K : Nat) (B : Nat) ∧ Below w.heap.size w W2) := ⟨hC, hW2 ▸ hb1.alloc hb1.size _⟩
        clear K0 hb1
        have u0 := (hC).c0
        have u1 := (hC).c1
        have u2 := (hC).c2
        clear hC
        go_wp2_with fail
        refine ((k1' P).out _ HT1.out).mono ?_
        rintro e w2 ⟨rfl, hT⟩
        clear u0 u1 u2
        have HT2 : Hid (Cb w2 P (N : Nat) (K : Nat) (B : Nat) ∧ Below w.heap.size w w2) := hT
        have hC := hT.1
        clear hT
        have u0 := (hC).c0
        have u1 := (hC).c1
        have u2 := (hC).c2
        clear hC
        go_wp2_with fail
        refine ((KN P).out _ HT2.out).mono ?_
        rintro e w3 ⟨rfl, hT⟩
        clear u0 u1 u2
        have HT3 : Hid (Cb w3 P (N : Nat) (K : Nat) (B : Nat) ∧ Below w.heap.size w w3) := hT
        have hC := hT.1
        clear hT
        have u0 := (hC).c0
        have u1 := (hC).c1
        have u2 := (hC).c2
        clear hC
        go_wp2_with fail
        refine ((k4' P).out _ HT3.out).mono ?_
        rintro e w4 ⟨rfl, hT⟩
        clear u0 u1 u2
        have HT4 : Hid (Cb w4 P (N : Nat) (K : Nat) (B : Nat) ∧ Below w.heap.size w w4) := hT
        have hC := hT.1
        clear hT
        have u0 := (hC).c0
        have u1 := (hC).c1
        have u2 := (hC).c2
        clear hC
        go_wp2_with fail
        refine ((k5' P).out _ HT4.out).mono ?_
        rintro e w5 ⟨rfl, hT⟩
        clear u0 u1 u2
        have HT5 : Hid (Cb w5 P (N : Nat) (K : Nat) (B : Nat) ∧ Below w.heap.size w w5) := hT
        have hC := hT.1
        clear hT
        clear hC
        go_wp2
        go_ret
        exact ⟨rfl, HT5.out.2⟩
      · have eV : ((V : Int) == 0) = false := by simp; omega
        have k3' := k3 true (by simp; omega)
        clear k3 hU1 hV1 h hA1 hA2
        obtain ⟨⟨wa1, wa2⟩, ⟨wb1, wb2⟩, ⟨wc1, wc2⟩, ⟨wd1, wd2⟩, ⟨we1, we2⟩, ⟨wf1, wf2⟩, wg1, wg2⟩ := HW.out
        clear HW
        go_enter Tryz.func5, Tryz.ntmps5
        go_wp2_with fail
        refine K0.mono ?_
        rintro e w1 ⟨rfl, hb1⟩
        obtain ⟨P, hP⟩ : ∃ P, w1.heap.size = P := ⟨_, rfl⟩
        obtain ⟨W2, hW2⟩ : ∃ W2, w1.alloc (.cells #[.int .i64 (N : Nat), .int .i64 (K : Nat), .int .i64 (B : Nat)] 26) = W2 := ⟨_, rfl⟩
        have hC : Cb W2 P (N : Nat) (K : Nat) (B : Nat) := by rw [← hW2, ← hP]; exact cb_new w1 _ _ _
        have HT1 : Hid (Cb W2 P (N : Nat) (K : Nat) (B : Nat) ∧ Below w.heap.size w W2) := ⟨hC, hW2 ▸ hb1.alloc hb1.size _⟩
        clear K0 hb1
        have u0 := (hC).c0
        have u1 := (hC).c1
        have u2 := (hC).c2
        clear hC
        go_wp2_with fail
        refine ((k1' P).out _ HT1.out).mono ?_
        rintro e w2 ⟨rfl, hT⟩
        clear u0 u1 u2
        have HT2 : Hid (Cb w2 P (N : Nat) (K : Nat) (B : Nat) ∧ Below w.heap.size w w2) := hT
        have hC := hT.1
        clear hT
        have u0 := (hC).c0
        have u1 := (hC).c1
        have u2 := (hC).c2
        clear hC
        go_wp2_with fail
        refine ((KN P).out _ HT2.out).mono ?_
        rintro e w3 ⟨rfl, hT⟩
        clear u0 u1 u2
        have HT3 : Hid (Cb w3 P (N : Nat) (K : Nat) (B : Nat) ∧ Below w.heap.size w w3) := hT
        have hC := hT.1
        clear hT
        have u0 := (hC).c0
        have u1 := (hC).c1
        have u2 := (hC).c2
        clear hC
        go_wp2_with fail
        refine ((k3' P).out _ HT3.out).mono ?_
        rintro e w4 ⟨rfl, hT⟩
        clear u0 u1 u2
        have HT4 : Hid (Cb w4 P (N : Nat) (K : Nat) (B : Nat) ∧ Below w.heap.size w w4) := hT
        have hC := hT.1
        clear hT
        have u0 := (hC).c0
        have u1 := (hC).c1
        have u2 := (hC).c2
        clear hC
        go_wp2_with fail
        refine ((k4' P).out _ HT4.out).mono ?_
        rintro e w5 ⟨rfl, hT⟩
        clear u0 u1 u2
        have HT5 : Hid (Cb w5 P (N : Nat) (K : Nat) (B : Nat) ∧ Below w.heap.size w w5) := hT
        have hC := hT.1
        clear hT
        have u0 := (hC).c0
        have u1 := (hC).c1
        have u2 := (hC).c2
        clear hC
        go_wp2_with fail
        refine ((k5' P).out _ HT5.out).mono ?_
        rintro e w6 ⟨rfl, hT⟩
        clear u0 u1 u2
        have HT6 : Hid (Cb w6 P (N : Nat) (K : Nat) (B : Nat) ∧ Below w.heap.size w w6) := hT
        have hC := hT.1
        clear hT
        clear hC
        go_wp2
        go_ret
        exact ⟨rfl, HT6.out.2⟩
    · have eU : ((U : Int) == 0) = false := by simp; omega
      have k2' := k2 true (by simp; omega)
      clear k2
      by_cases hV1 : (V : Int) = 0
      · have eV : ((V : Int) == 0) = true := by simp [hV1]
        clear k3 hU1 hV1 h hA3
        obtain ⟨⟨wa1, wa2⟩, ⟨wb1, wb2⟩, ⟨wc1, wc2⟩, ⟨wd1, wd2⟩, ⟨we1, we2⟩, ⟨wf1, wf2⟩, wg1, wg2⟩ := HW.out
        clear HW
        go_enter Tryz.func5, Tryz.ntmps5
        go_wp2_with fail
        refine K0.mono ?_
        rintro e w1 ⟨rfl, hb1⟩
        obtain ⟨P, hP⟩ : ∃ P, w1.heap.size = P := ⟨_, rfl⟩
        obtain ⟨W2, hW2⟩ : ∃ W2, w1.alloc (.cells #[.int .i64 (N : Nat), .int .i64 (K : Nat), .int .i64 (B : Nat)] 26) = W2 := ⟨_, rfl⟩
        have hC : Cb W2 P (N : Nat) (K : Nat) (B : Nat) := by rw [← hW2, ← hP]; exact cb_new w1 _ _ _
        have HT1 : Hid (Cb W2 P (N : Nat) (K : Nat) (B : Nat) ∧ Below w.heap.size w W2) := ⟨hC, hW2 ▸ hb1.alloc hb1.size _⟩
        clear K0 hb1
        have u0 := (hC).c0
        have u1 := (hC).c1
        have u2 := (hC).c2
        clear hC
        go_wp2_with fail
        refine ((k1' P).out _ HT1.out).mono ?_
        rintro e w2 ⟨rfl, hT⟩
        clear u0 u1 u2
        have HT2 : Hid (Cb w2 P (N : Nat) (K : Nat) (B : Nat) ∧ Below w.heap.size w w2) := hT
        have hC := hT.1
        clear hT
        have u0 := (hC).c0
        have u1 := (hC).c1
        have u2 := (hC).c2
        clear hC
        go_wp2_with fail
        refine ((KN P).out _ HT2.out).mono ?_
        rintro e w3 ⟨rfl, hT⟩
        clear u0 u1 u2
        have HT3 : Hid (Cb w3 P (N : Nat) (K : Nat) (B : Nat) ∧ Below w.heap.size w w3) := hT
        have hC := hT.1
        clear hT
        have u0 := (hC).c0
        have u1 := (hC).c1
        have u2 := (hC).c2
        clear hC
        go_wp2_with fail
        refine ((k2' P).out _ HT3.out).mono ?_
        rintro e w4 ⟨rfl, hT⟩
        clear u0 u1 u2
        have HT4 : Hid (Cb w4 P (N : Nat) (K : Nat) (B : Nat) ∧ Below w.heap.size w w4) := hT
        have hC := hT.1
        clear hT
        have u0 := (hC).c0
        have u1 := (hC).c1
        have u2 := (hC).c2
        clear hC
        go_wp2_with fail
        refine ((k4' P).out _ HT4.out).mono ?_
        rintro e w5 ⟨rfl, hT⟩
        clear u0 u1 u2
        have HT5 : Hid (Cb w5 P (N : Nat) (K : Nat) (B : Nat) ∧ Below w.heap.size w w5) := hT
        have hC := hT.1
        clear hT
        have u0 := (hC).c0
        have u1 := (hC).c1
        have u2 := (hC).c2
        clear hC
        go_wp2_with fail
        refine ((k5' P).out _ HT5.out).mono ?_
        rintro e w6 ⟨rfl, hT⟩
        clear u0 u1 u2
        have HT6 : Hid (Cb w6 P (N : Nat) (K : Nat) (B : Nat) ∧ Below w.heap.size w w6) := hT
        have hC := hT.1
        clear hT
        clear hC
        go_wp2
        go_ret
        exact ⟨rfl, HT6.out.2⟩
      · have eV : ((V : Int) == 0) = false := by simp; omega
        have k3' := k3 true (by simp; omega)
        clear k3 hU1 hV1 h
        obtain ⟨⟨wa1, wa2⟩, ⟨wb1, wb2⟩, ⟨wc1, wc2⟩, ⟨wd1, wd2⟩, ⟨we1, we2⟩, ⟨wf1, wf2⟩, wg1, wg2⟩ := HW.out
        clear HW
        go_enter Tryz.func5, Tryz.ntmps5
        go_wp2_with fail
        refine K0.mono ?_
        rintro e w1 ⟨rfl, hb1⟩
        obtain ⟨P, hP⟩ : ∃ P, w1.heap.size = P := ⟨_, rfl⟩
        obtain ⟨W2, hW2⟩ : ∃ W2, w1.alloc (.cells #[.int .i64 (N : Nat), .int .i64 (K : Nat), .int .i64 (B : Nat)] 26) = W2 := ⟨_, rfl⟩
        have hC : Cb W2 P (N : Nat) (K : Nat) (B : Nat) := by rw [← hW2, ← hP]; exact cb_new w1 _ _ _
        have HT1 : Hid (Cb W2 P (N : Nat) (K : Nat) (B : Nat) ∧ Below w.heap.size w W2) := ⟨hC, hW2 ▸ hb1.alloc hb1.size _⟩
        clear K0 hb1
        have u0 := (hC).c0
        have u1 := (hC).c1
        have u2 := (hC).c2
        clear hC
        go_wp2_with fail
        refine ((k1' P).out _ HT1.out).mono ?_
        rintro e w2 ⟨rfl, hT⟩
        clear u0 u1 u2
        have HT2 : Hid (Cb w2 P (N : Nat) (K : Nat) (B : Nat) ∧ Below w.heap.size w w2) := hT
        have hC := hT.1
        clear hT
        have u0 := (hC).c0
        have u1 := (hC).c1
        have u2 := (hC).c2
        clear hC
        go_wp2_with fail
        refine ((KN P).out _ HT2.out).mono ?_
        rintro e w3 ⟨rfl, hT⟩
        clear u0 u1 u2
        have HT3 : Hid (Cb w3 P (N : Nat) (K : Nat) (B : Nat) ∧ Below w.heap.size w w3) := hT
        have hC := hT.1
        clear hT
        have u0 := (hC).c0
        have u1 := (hC).c1
        have u2 := (hC).c2
        clear hC
        go_wp2_with fail
        refine ((k2' P).out _ HT3.out).mono ?_
        rintro e w4 ⟨rfl, hT⟩
        clear u0 u1 u2
        have HT4 : Hid (Cb w4 P (N : Nat) (K : Nat) (B : Nat) ∧ Below w.heap.size w w4) := hT
        have hC := hT.1
        clear hT
        have u0 := (hC).c0
        have u1 := (hC).c1
        have u2 := (hC).c2
        clear hC
        go_wp2_with fail
        refine ((k3' P).out _ HT4.out).mono ?_
        rintro e w5 ⟨rfl, hT⟩
        clear u0 u1 u2
        have HT5 : Hid (Cb w5 P (N : Nat) (K : Nat) (B : Nat) ∧ Below w.heap.size w w5) := hT
        have hC := hT.1
        clear hT
        have u0 := (hC).c0
        have u1 := (hC).c1
        have u2 := (hC).c2
        clear hC
        go_wp2_with fail
        refine ((k4' P).out _ HT5.out).mono ?_
        rintro e w6 ⟨rfl, hT⟩
        clear u0 u1 u2
        have HT6 : Hid (Cb w6 P (N : Nat) (K : Nat) (B : Nat) ∧ Below w.heap.size w w6) := hT
        have hC := hT.1
        clear hT
        have u0 := (hC).c0
        have u1 := (hC).c1
        have u2 := (hC).c2
        clear hC
        go_wp2_with fail
        refine ((k5' P).out _ HT6.out).mono ?_
        rintro e w7 ⟨rfl, hT⟩
        clear u0 u1 u2
        have HT7 : Hid (Cb w7 P (N : Nat) (K : Nat) (B : Nat) ∧ Below w.heap.size w w7) := hT
        have hC := hT.1
        clear hT
        clear hC
        go_wp2
        go_ret
        exact ⟨rfl, HT7.out.2⟩
  · have hc : (C ≤ (S : Int)) = False := eq_false h
    have k1' := k1 false (by simp; omega)
    clear k1 k2 k3 h hA1 hA2 hA3
    obtain ⟨⟨wa1, wa2⟩, ⟨wb1, wb2⟩, ⟨wc1, wc2⟩, ⟨wd1, wd2⟩, ⟨we1, we2⟩, ⟨wf1, wf2⟩, wg1, wg2⟩ := HW.out
    clear HW
    go_enter Tryz.func5, Tryz.ntmps5
    go_wp2_with fail
    refine K0.mono ?_
    rintro e w1 ⟨rfl, hb1⟩
    obtain ⟨P, hP⟩ : ∃ P, w1.heap.size = P := ⟨_, rfl⟩
    obtain ⟨W2, hW2⟩ : ∃ W2, w1.alloc (.cells #[.int .i64 (N : Nat), .int .i64 (K : Nat), .int .i64 (B : Nat)] 26) = W2 := ⟨_, rfl⟩
    have hC : Cb W2 P (N : Nat) (K : Nat) (B : Nat) := by rw [← hW2, ← hP]; exact cb_new w1 _ _ _
    have HT1 : Hid (Cb W2 P (N : Nat) (K : Nat) (B : Nat) ∧ Below w.heap.size w W2) := ⟨hC, hW2 ▸ hb1.alloc hb1.size _⟩
    clear K0 hb1
    have u0 := (hC).c0
    have u1 := (hC).c1
    have u2 := (hC).c2
    clear hC
    go_wp2_with fail
    refine ((k1' P).out _ HT1.out).mono ?_
    rintro e w2 ⟨rfl, hT⟩
    clear u0 u1 u2
    have HT2 : Hid (Cb w2 P (N : Nat) (K : Nat) (B : Nat) ∧ Below w.heap.size w w2) := hT
    have hC := hT.1
    clear hT
    have u0 := (hC).c0
    have u1 := (hC).c1
    have u2 := (hC).c2
    clear hC
    go_wp2_with fail
    refine ((KN P).out _ HT2.out).mono ?_
    rintro e w3 ⟨rfl, hT⟩
    clear u0 u1 u2
    have HT3 : Hid (Cb w3 P (N : Nat) (K : Nat) (B : Nat) ∧ Below w.heap.size w w3) := hT
    have hC := hT.1
    clear hT
    have u0 := (hC).c0
    have u1 := (hC).c1
    have u2 := (hC).c2
    clear hC
    go_wp2_with fail
    refine ((k4' P).out _ HT3.out).mono ?_
    rintro e w4 ⟨rfl, hT⟩
    clear u0 u1 u2
    have HT4 : Hid (Cb w4 P (N : Nat) (K : Nat) (B : Nat) ∧ Below w.heap.size w w4) := hT
    have hC := hT.1
    clear hT
    have u0 := (hC).c0
    have u1 := (hC).c1
    have u2 := (hC).c2
    clear hC
    go_wp2_with fail
    refine ((k5' P).out _ HT4.out).mono ?_
    rintro e w5 ⟨rfl, hT⟩
    clear u0 u1 u2
    have HT5 : Hid (Cb w5 P (N : Nat) (K : Nat) (B : Nat) ∧ Below w.heap.size w w5) := hT
    have hC := hT.1
    clear hT
    clear hC
    go_wp2
    go_ret
    exact ⟨rfl, HT5.out.2⟩
theorem own : ownKnob Tryz.prog.godebug = none := by kernel_rfl
set_option maxRecDepth 100000 in
theorem lifted (os : Os) (started : os.Started) (H : Type) (enc : TypeId × Value → H) :
    ReturnsInHanded {} Tryz.checked os 5 .any (Rows.checkBudgetSpec.pre6 enc Tryz.prog Tryz.f5 Rows.checkBudgetRow.domain false) (Rows.checkBudgetSpec.post enc Tryz.prog Tryz.f5 false true false false) := by
  refine returnsInHanded_of_change (C := Tryz.checked) own started (by kernel_rfl) Tryz.func5
    (ChangeSpec.witness6 (enc := enc) (C := Tryz.checked) false ⟨#[], #[.int .u8 0, .int .u8 0, .int .u8 0, .int .u8 0, .int .u8 0], []⟩ 8 (by kernel_rfl) (by kernel_rfl) (by kernel_rfl) (by kernel_rfl)) ?_
  intro W base args ds gs before hval0 hW _ _
  have hval : ∀ (j : Nat) t v, Tryz.f5.params[j]? = some t → args[j]? = some v → Value.okWide Tryz.prog W .any base t v := hval0
  have hW' := hW
  obtain ⟨p, q, hA0, hV, rfl, _, _⟩ := hW
  have hA : DataW.TrodAll enc Tryz.prog W 0 (fun _ => true) true Tryz.f5.params.toList args.toList ds p := hA0
  rw [Tryz.params5] at hA hval
  obtain ⟨v0, vs0, d0, ds0, p0, q0, hargs, rfl, rfl, h0, r0⟩ := trodAll_cons hA
  obtain ⟨v1, vs1, d1, ds1, p1, q1, rfl, rfl, rfl, h1, r1⟩ := trodAll_cons r0
  obtain ⟨v2, vs2, d2, ds2, p2, q2, rfl, rfl, rfl, h2, r2⟩ := trodAll_cons r1
  obtain ⟨v3, vs3, d3, ds3, p3, q3, rfl, rfl, rfl, h3, r3⟩ := trodAll_cons r2
  obtain ⟨v4, vs4, d4, ds4, p4, q4, rfl, rfl, rfl, h4, r4⟩ := trodAll_cons r3
  obtain ⟨rfl, rfl, rfl⟩ := trodAll_nil r4
  obtain rfl : args = #[v0, v1, v2, v3, v4] := by cases args; simp_all
  obtain ⟨rfl, rfl⟩ := trodVars_none hV
  obtain ⟨a0, rfl, rfl, rfl, w0⟩ := open_int Tryz.underlying5 (hval 0 5 v0 rfl rfl) h0
  obtain ⟨n0, b0, rfl⟩ := nat_of_u8 w0
  obtain ⟨a1, rfl, rfl, rfl, w1⟩ := open_int Tryz.underlying5 (hval 1 5 v1 rfl rfl) h1
  obtain ⟨n1, b1, rfl⟩ := nat_of_u8 w1
  obtain ⟨a2, rfl, rfl, rfl, w2⟩ := open_int Tryz.underlying5 (hval 2 5 v2 rfl rfl) h2
  obtain ⟨n2, b2, rfl⟩ := nat_of_u8 w2
  obtain ⟨a3, rfl, rfl, rfl, w3⟩ := open_int Tryz.underlying5 (hval 3 5 v3 rfl rfl) h3
  obtain ⟨n3, b3, rfl⟩ := nat_of_u8 w3
  obtain ⟨a4, rfl, rfl, rfl, w4⟩ := open_int Tryz.underlying5 (hval 4 5 v4 rfl rfl) h4
  obtain ⟨n4, b4, rfl⟩ := nat_of_u8 w4
  clear hA0 hval0
  simp only [List.append_nil] at hW'
  refine (walk (w := W) n0 n1 n2 n3 n4 b0 b1 b2 b3 b4).mono fun e W' ⟨he, bel⟩ => ?_
  subst he
  exact ⟨_, rfl, _, _, _, [], _, [], hW', trodAll_mk1 (shut_bool Tryz.underlying4 _), (trodAll_cons_mk (shut_int Tryz.underlying5 w0) (trodAll_cons_mk (shut_int Tryz.underlying5 w1) (trodAll_cons_mk (shut_int Tryz.underlying5 w2) (trodAll_cons_mk (shut_int Tryz.underlying5 w3) (trodAll_cons_mk (shut_int Tryz.underlying5 w4) trodAll_mk0))))), rfl, bel.frame _, fun h => by cases h⟩
theorem over : Rows.checkBudgetRow.holds Tryz.pinned (OpenSpec.ofChange Rows.checkBudgetSpec) :=
  OpenClaim.holds_of_wide 5 Tryz.f5 rfl rfl rfl rfl rfl rfl rfl ⟨rfl, rfl, rfl, rfl, rfl⟩ rfl rfl rfl rfl rfl (by kernel_rfl) Tryz.func5 (by kernel_rfl)
    (of_decide_eq_true (by kernel_rfl)) (by unfold Func.isWrapper; first | (rw [if_pos (by decide +kernel)]; kernel_rfl) | (rw [if_neg (by decide +kernel)]; exact ⟨rfl, rfl⟩))
    (fun os started H enc _ => lifted os started H enc)
theorem proved : Rows.CheckBudgetSaid := over
#print axioms proved
end Go.Proofs.YtjnkkokhkooegaaGreat.checkBudget
