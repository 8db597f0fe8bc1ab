/- GaussAsks holds for every input: all calls of any matrices and columns, and of choices, are what the chapter says. No conditions. -/
import Derived.Test.YtnphdldcfdpflaaGreatRows
import Derived.Test.YtnphdldcfdpflaaGreatMB
import Derived.Test.YtnphdldcfdpflaaGreatNP
import Derived.Test.YtnphdldcfdpflaaGreatNT
import Derived.Test.YtnphdldcfdpflaaGreatNG
namespace Go.Proofs.YtnphdldcfdpflaaGreat.gaussAsks
open Go.ChangeShapes Go.WideShapes Go.ChangeAt Go.RowKit
open Mx (mx chL thL timesL)
open Pol (ofL Byt)

theorem field_cells (v0 v1 : Value) (q : Option Addr) (n c : Nat) (W : World) : (Instr.field 24 (.agg #[v0, v1, .slice q n c]) 2).run Tryz.prog W = .ok (.slice q n c) W := by
  simp [Instr.field, go_sem, asAgg]
attribute [local go_sem] field_cells

set_option maxRecDepth 100000 in
set_option maxHeartbeats 4000000 in
theorem walk (j : Nat) (R0 C0 : Int) (q : Option Addr) (n c : Nat) (xs : List Nat) (q2 : Option Addr) (n2 c2 : Nat) (xs2 : List Nat) (q3 : Option Addr) (n3 c3 : Nat) (xs3 : List Nat) (k l b : Nat) (w : World) (hj : j < 256) (hR0 : -9223372036854775808 ≤ R0 ∧ R0 < 9223372036854775808) (hC0 : -9223372036854775808 ≤ C0 ∧ C0 < 9223372036854775808) (S_a : Bs w q n xs) (C_a : n ≤ c) (S_b : Bs w q2 n2 xs2) (y_b : n2 ≤ c2 ∧ c2 ≤ 140737488351232) (S_c : Bs w q3 n3 xs3) (_ : n3 ≤ c3 ∧ c3 ≤ 140737488351232) (hk : k < 256) (hl : l < 256) (hbt : b < 256) :
    Calls Tryz.prog 3 #[.int .u8 j, .agg #[.int .i64 R0, .int .i64 C0, .slice q n c], .slice q2 n2 c2, .slice q3 n3 c3, .int .u8 k, .int .u8 l, .int .u8 b] w fun e w' => e = .returned (.bool true) ∧ Below w.heap.size w w' := by
  obtain ⟨R, hR⟩ : ∃ R : Nat, k % 7 = R := ⟨_, rfl⟩
  have hRi : (k : Int) % 7 = (R : Int) := by omega
  have hR5 : R ≤ 100 := by omega
  obtain ⟨C, hC⟩ : ∃ C : Nat, l % 7 = C := ⟨_, rfl⟩
  have hCi : (l : Int) % 7 = (C : Int) := by omega
  have hC5 : C ≤ 100 := by omega
  obtain ⟨N, hN⟩ : ∃ N : Nat, 1 + k % 6 = N := ⟨_, rfl⟩
  have hNi : (1 : Int) + (k : Int) % 6 = (N : Int) := by omega
  have hN5 : N ≤ 100 := by omega
  have C_b := y_b.1
  have hmx := S_a.max
  clear hR hC hN y_b
  have HB : Below w.heap.size w w := Below.refl _ _
  go_enter Tryz.func3, Tryz.ntmps3
  obtain ⟨P_ba, hP_ba⟩ : ∃ P, w.heap.size = P := ⟨_, rfl⟩
  obtain ⟨w1, hw1⟩ : ∃ W, w.alloc (.cells #[.int .i64 R0, .int .i64 C0, .slice q n c] 24) = W := ⟨_, rfl⟩
  have hb : Below w.heap.size w w1 := hw1 ▸ (Below.refl _ w).alloc (Nat.le_refl _) _
  have M_ba : Mb w1 P_ba (.int .i64 R0) (.int .i64 C0) (.slice q n c) := by rw [← hP_ba, ← hw1]; exact mb_new w _ _ _
  replace HB := HB.trans (hb.mono HB.size)
  replace S_a := S_a.below hb
  replace S_b := S_b.below hb
  replace S_c := S_c.below hb
  clear hb
  have u_ba0 := M_ba.c0
  have u_ba1 := M_ba.c1
  have u_ba2 := M_ba.c2
  by_cases hb1 : 200 < n
  · have hi1 : (200 : Int) < (n : Int) := by omega
    go_wp2_with fail
    refine (known09_calls _).mono ?_
    rintro e w2 ⟨rfl, hb⟩
    replace HB := HB.trans (hb.mono HB.size)
    replace S_a := S_a.below hb
    replace S_b := S_b.below hb
    replace S_c := S_c.below hb
    replace M_ba := M_ba.below hb
    clear hb
    clear hP_ba hw1 u_ba0 u_ba1 u_ba2
    go_wp2
    go_ret
    exact ⟨rfl, HB⟩
  by_cases hb2 : 60 < n2
  · have hi1 : ¬ (200 : Int) < (n : Int) := by omega
    have hi2 : (60 : Int) < (n2 : Int) := by omega
    go_wp2_with fail
    refine (known09_calls _).mono ?_
    rintro e w2 ⟨rfl, hb⟩
    replace HB := HB.trans (hb.mono HB.size)
    replace S_a := S_a.below hb
    replace S_b := S_b.below hb
    replace S_c := S_c.below hb
    replace M_ba := M_ba.below hb
    clear hb
    clear hP_ba hw1 u_ba0 u_ba1 u_ba2
    go_wp2
    go_ret
    exact ⟨rfl, HB⟩
  by_cases hb3 : 200 < n3
  · have hi1 : ¬ (200 : Int) < (n : Int) := by omega
    have hi2 : ¬ (60 : Int) < (n2 : Int) := by omega
    have hi3 : (200 : Int) < (n3 : Int) := by omega
    go_wp2_with fail
    refine (known09_calls _).mono ?_
    rintro e w2 ⟨rfl, hb⟩
    replace HB := HB.trans (hb.mono HB.size)
    replace S_a := S_a.below hb
    replace S_b := S_b.below hb
    replace S_c := S_c.below hb
    replace M_ba := M_ba.below hb
    clear hb
    clear hP_ba hw1 u_ba0 u_ba1 u_ba2
    go_wp2
    go_ret
    exact ⟨rfl, HB⟩
  have hi1 : ¬ (200 : Int) < (n : Int) := by omega
  have hi2 : ¬ (60 : Int) < (n2 : Int) := by omega
  have hi3 : ¬ (200 : Int) < (n3 : Int) := by omega
  have hn29 : n2 ≤ 1000000 := by omega
  have hn39 : n3 ≤ 1000000 := by omega
  clear hb1 hb2 hb3
  go_wp2_with fail
  refine (known09_calls _).mono ?_
  rintro e w2 ⟨rfl, hb⟩
  replace HB := HB.trans (hb.mono HB.size)
  replace S_a := S_a.below hb
  replace S_b := S_b.below hb
  replace S_c := S_c.below hb
  replace M_ba := M_ba.below hb
  clear hb
  clear hP_ba hw1 u_ba0 u_ba1 u_ba2
  obtain ⟨s, hs⟩ : ∃ s, R * C = s := ⟨_, rfl⟩
  obtain ⟨t, ht⟩ : ∃ t, N * N = t := ⟨_, rfl⟩
  have HX : Hid (R * C = s ∧ N * N = t ∧ Byt xs2 ∧ Byt xs3) := ⟨hs, ht, S_b.byte, S_c.byte⟩
  clear hs ht
  go_wp2_with fail
  refine (lthin_calls R C n3 c3 b q3 xs3 hR5 hC5 hn39 hbt _ S_c).mono ?_
  rintro e w3 ⟨v, rfl, hO, hb⟩
  obtain ⟨q_x, c_x, rfl, S_x, C_x, hQ⟩ := hO.tell (n := s) (Mx.thL_byt HX.out.2.2.2 _ _ hbt) (by rw [Mx.thL_length]; exact HX.out.1)
  clear hO
  clear hQ
  replace HB := HB.trans (hb.mono HB.size)
  replace S_a := S_a.below hb
  replace S_b := S_b.below hb
  replace S_c := S_c.below hb
  replace M_ba := M_ba.below hb
  clear hb
  obtain ⟨es, hes⟩ : ∃ es, thL xs3 R C b = es := ⟨_, rfl⟩
  rw [hes] at S_x
  clear hes hi1 hi2 hi3
  obtain ⟨P_bx, hP_bx⟩ : ∃ P, w3.heap.size = P := ⟨_, rfl⟩
  obtain ⟨w4, hw4⟩ : ∃ W, w3.alloc (.cells #[.int .i64 (R : Nat), .int .i64 (C : Nat), .slice q_x s c_x] 24) = W := ⟨_, rfl⟩
  have hb : Below w3.heap.size w3 w4 := hw4 ▸ (Below.refl _ w3).alloc (Nat.le_refl _) _
  have M_bx : Mb w4 P_bx (.int .i64 (R : Nat)) (.int .i64 (C : Nat)) (.slice q_x s c_x) := by rw [← hP_bx, ← hw4]; exact mb_new w3 _ _ _
  replace HB := HB.trans (hb.mono HB.size)
  replace S_a := S_a.below hb
  replace S_b := S_b.below hb
  replace S_c := S_c.below hb
  replace S_x := S_x.below hb
  replace M_ba := M_ba.below hb
  clear hb
  go_wp2_with fail
  refine (lthin_calls N N n3 c3 b q3 xs3 hN5 hN5 hn39 hbt _ S_c).mono ?_
  rintro e w5 ⟨v, rfl, hO, hb⟩
  obtain ⟨q_y, c_y, rfl, S_y, C_y, hQ⟩ := hO.tell (n := t) (Mx.thL_byt HX.out.2.2.2 _ _ hbt) (by rw [Mx.thL_length]; exact HX.out.2.1)
  clear hO
  clear hQ
  replace HB := HB.trans (hb.mono HB.size)
  replace S_a := S_a.below hb
  replace S_b := S_b.below hb
  replace S_c := S_c.below hb
  replace S_x := S_x.below hb
  replace M_ba := M_ba.below hb
  replace M_bx := M_bx.below hb
  clear hb
  clear hP_bx hw4
  clear S_c hn39 hNi hRi hCi
  obtain ⟨fs, hfs⟩ : ∃ fs, thL xs3 N N b = fs := ⟨_, rfl⟩
  rw [hfs] at S_y
  clear hfs
  obtain ⟨P_by, hP_by⟩ : ∃ P, w5.heap.size = P := ⟨_, rfl⟩
  obtain ⟨w6, hw6⟩ : ∃ W, w5.alloc (.cells #[.int .i64 (N : Nat), .int .i64 (N : Nat), .slice q_y t c_y] 24) = W := ⟨_, rfl⟩
  have hb : Below w5.heap.size w5 w6 := hw6 ▸ (Below.refl _ w5).alloc (Nat.le_refl _) _
  have M_by : Mb w6 P_by (.int .i64 (N : Nat)) (.int .i64 (N : Nat)) (.slice q_y t c_y) := by rw [← hP_by, ← hw6]; exact mb_new w5 _ _ _
  replace HB := HB.trans (hb.mono HB.size)
  replace S_a := S_a.below hb
  replace S_b := S_b.below hb
  replace S_x := S_x.below hb
  replace S_y := S_y.below hb
  replace M_ba := M_ba.below hb
  replace M_bx := M_bx.below hb
  clear hb
  have u_bx0 := M_bx.c0
  have u_bx1 := M_bx.c1
  have u_bx2 := M_bx.c2
  go_wp2_with fail
  refine (lof_calls R 1 n2 c2 q2 xs2 hR5 (by decide) hn29 _ S_b).mono ?_
  rintro e w7 ⟨v, rfl, hO, hb⟩
  obtain ⟨q_o, c_o, rfl, S_o, C_o, hQ⟩ := hO.tell (n := R) (Mx.chL_byt HX.out.2.2.1 _) (by rw [Mx.chL_length, Nat.mul_one])
  clear hO
  clear hQ
  replace HB := HB.trans (hb.mono HB.size)
  replace S_a := S_a.below hb
  replace S_b := S_b.below hb
  replace S_x := S_x.below hb
  replace S_y := S_y.below hb
  replace M_ba := M_ba.below hb
  replace M_bx := M_bx.below hb
  replace M_by := M_by.below hb
  clear hb
  clear hP_by hw6 u_bx0 u_bx1 u_bx2
  obtain ⟨os, hos⟩ : ∃ os, chL xs2 (R * 1) = os := ⟨_, rfl⟩
  rw [hos] at S_o
  clear hos
  obtain ⟨P_bo, hP_bo⟩ : ∃ P, w7.heap.size = P := ⟨_, rfl⟩
  obtain ⟨w8, hw8⟩ : ∃ W, w7.alloc (.cells #[.int .i64 (R : Nat), .int .i64 1, .slice q_o R c_o] 24) = W := ⟨_, rfl⟩
  have hb : Below w7.heap.size w7 w8 := hw8 ▸ (Below.refl _ w7).alloc (Nat.le_refl _) _
  have M_bo : Mb w8 P_bo (.int .i64 (R : Nat)) (.int .i64 1) (.slice q_o R c_o) := by rw [← hP_bo, ← hw8]; exact mb_new w7 _ _ _
  replace HB := HB.trans (hb.mono HB.size)
  replace S_a := S_a.below hb
  replace S_b := S_b.below hb
  replace S_x := S_x.below hb
  replace S_y := S_y.below hb
  replace S_o := S_o.below hb
  replace M_ba := M_ba.below hb
  replace M_bx := M_bx.below hb
  replace M_by := M_by.below hb
  clear hb
  have u_bx0 := M_bx.c0
  have u_bx1 := M_bx.c1
  have u_bx2 := M_bx.c2
  go_wp2
  obtain ⟨vs, hvs⟩ : ∃ vs, chL xs2 (C * 1) = vs := ⟨_, rfl⟩
  have HV : Hid (Byt vs ∧ vs.length = C) := by rw [← hvs]; exact ⟨Mx.chL_byt HX.out.2.2.1 _, by rw [Mx.chL_length, Nat.mul_one]⟩
  obtain ⟨ts, hts⟩ : ∃ ts, timesL R C es vs = ts := ⟨_, rfl⟩
  have HT : Hid (Byt ts ∧ ts.length = R) := ⟨hts ▸ Mx.timesL_byt _ _ _ _, hts ▸ Mx.timesL_length _ _ _ _⟩
  have KO : Hid (Calls Tryz.prog 12 #[.slice q2 n2 c2, .int .i64 (C : Nat), .int .i64 1] w8.drew fun e w' => ∃ qv cv, e = .returned (.agg #[.int .i64 (C : Nat), .int .i64 1, .slice qv C cv]) ∧ Bs w' qv C vs ∧ Below w8.heap.size w8 w') := by
    refine (lof_calls C 1 n2 c2 q2 xs2 hC5 (by decide) hn29 w8.drew S_b.drew).mono ?_
    rintro e w' ⟨v, rfl, hO, hb⟩
    rw [hvs] at hO
    obtain ⟨qv, cv, rfl, Sv, -, -⟩ := hO.tell (n := C) HV.out.1 HV.out.2
    exact ⟨qv, cv, rfl, Sv, ((Below.refl _ w8).drew).trans hb⟩
  have KT : Hid (∀ W qv cv, Below w8.heap.size w8 W → Bs W qv C vs → Calls Tryz.prog 13 #[.agg #[.int .i64 (R : Nat), .int .i64 (C : Nat), .slice q_x s c_x], .slice qv C cv] W fun e w' => ∃ qt ct, e = .returned (.tuple #[.slice qt R ct, .bool true]) ∧ Bs w' qt R ts ∧ R ≤ ct ∧ Below w8.heap.size w8 w') := fun W qv cv hb hv => by
    refine (rtimes_calls R C q_x qv s c_x cv es vs HX.out.1.symm C_x (by omega) (by omega) W (S_x.below hb) hv).mono ?_
    rintro e w' ⟨v, rfl, hO, hb'⟩
    rw [hts] at hO
    obtain ⟨qt, ct, rfl, St, Ct, -⟩ := hO.tell (n := R) HT.out.1 HT.out.2
    exact ⟨qt, ct, rfl, St, Ct, hb.trans (hb'.mono hb.size)⟩
  have HM : Hid (∀ w', Below w8.heap.size w8 w' → w'.cell? ⟨P_bx, 0, none⟩ = some (.int .i64 (R : Nat)) ∧ w'.cell? ⟨P_bx, 1, none⟩ = some (.int .i64 (C : Nat)) ∧ w'.cell? ⟨P_bx, 2, none⟩ = some (.slice q_x s c_x)) := fun w' h => ⟨(M_bx.below h).c0, (M_bx.below h).c1, (M_bx.below h).c2⟩
  clear hvs hts
  go_region_held3 (fun w' => w'.cell? ⟨P_bx, 0, none⟩ = some (.int .i64 (R : Nat)) ∧ w'.cell? ⟨P_bx, 1, none⟩ = some (.int .i64 (C : Nat)) ∧ w'.cell? ⟨P_bx, 2, none⟩ = some (.slice q_x s c_x))
    (first | exact HM.out _ hb | exact HM.out _ hT1 | (go_keep; done))
    (first
      | (go_at_call 12; refine (KO.out).mono ?_; rintro e w5 ⟨qv, cv, rfl, Sv, hT1⟩)
      | (go_at_call 13; refine (KT.out _ _ _ hT1 Sv).mono ?_; rintro e w9 ⟨q_t, c_t, rfl, S_t, C_t, hb⟩))
  clear KO KT HM hT1 Sv
  replace HB := HB.trans (hb.mono HB.size)
  replace S_a := S_a.below hb
  replace S_b := S_b.below hb
  replace S_x := S_x.below hb
  replace S_y := S_y.below hb
  replace S_o := S_o.below hb
  replace M_ba := M_ba.below hb
  replace M_bx := M_bx.below hb
  replace M_by := M_by.below hb
  replace M_bo := M_bo.below hb
  clear hb
  clear hP_bo hw8 u_bx0 u_bx1 u_bx2
  have u_ba0 := M_ba.c0
  have u_ba1 := M_ba.c1
  have u_ba2 := M_ba.c2
  go_wp2_with fail
  refine (asks_calls j R0 C0 q q2 n c n2 c2 xs xs2 hj hR0.1 hR0.2 hC0.1 hC0.2 C_a C_b _ S_a S_b).mono ?_
  rintro e w10 ⟨rfl, hb⟩
  replace HB := HB.trans (hb.mono HB.size)
  replace S_a := S_a.below hb
  replace S_b := S_b.below hb
  replace S_x := S_x.below hb
  replace S_y := S_y.below hb
  replace S_o := S_o.below hb
  replace S_t := S_t.below hb
  replace M_ba := M_ba.below hb
  replace M_bx := M_bx.below hb
  replace M_by := M_by.below hb
  replace M_bo := M_bo.below hb
  clear hb
  clear u_ba0 u_ba1 u_ba2
  have u_bx0 := M_bx.c0
  have u_bx1 := M_bx.c1
  have u_bx2 := M_bx.c2
  go_wp2_with fail
  refine (asks_calls j (R : Int) (C : Int) q_x q2 s c_x n2 c2 es xs2 hj (by omega) (by omega) (by omega) (by omega) C_x C_b _ S_x S_b).mono ?_
  rintro e w11 ⟨rfl, hb⟩
  replace HB := HB.trans (hb.mono HB.size)
  replace S_a := S_a.below hb
  replace S_b := S_b.below hb
  replace S_x := S_x.below hb
  replace S_y := S_y.below hb
  replace S_o := S_o.below hb
  replace S_t := S_t.below hb
  replace M_ba := M_ba.below hb
  replace M_bx := M_bx.below hb
  replace M_by := M_by.below hb
  replace M_bo := M_bo.below hb
  clear hb
  clear u_bx0 u_bx1 u_bx2
  have u_bx0 := M_bx.c0
  have u_bx1 := M_bx.c1
  have u_bx2 := M_bx.c2
  have u_bo0 := M_bo.c0
  have u_bo1 := M_bo.c1
  have u_bo2 := M_bo.c2
  go_wp2_with fail
  refine (asks_calls j (R : Int) (C : Int) q_x q_o s c_x R c_o es os hj (by omega) (by omega) (by omega) (by omega) C_x C_o _ S_x S_o).mono ?_
  rintro e w12 ⟨rfl, hb⟩
  replace HB := HB.trans (hb.mono HB.size)
  replace S_a := S_a.below hb
  replace S_b := S_b.below hb
  replace S_x := S_x.below hb
  replace S_y := S_y.below hb
  replace S_o := S_o.below hb
  replace S_t := S_t.below hb
  replace M_ba := M_ba.below hb
  replace M_bx := M_bx.below hb
  replace M_by := M_by.below hb
  replace M_bo := M_bo.below hb
  clear hb
  clear u_bx0 u_bx1 u_bx2 u_bo0 u_bo1 u_bo2
  have u_bx0 := M_bx.c0
  have u_bx1 := M_bx.c1
  have u_bx2 := M_bx.c2
  go_wp2_with fail
  refine (asks_calls j (R : Int) (C : Int) q_x q_t s c_x R c_t es ts hj (by omega) (by omega) (by omega) (by omega) C_x C_t _ S_x S_t).mono ?_
  rintro e w13 ⟨rfl, hb⟩
  replace HB := HB.trans (hb.mono HB.size)
  replace S_a := S_a.below hb
  replace S_b := S_b.below hb
  replace S_x := S_x.below hb
  replace S_y := S_y.below hb
  replace S_o := S_o.below hb
  replace S_t := S_t.below hb
  replace M_ba := M_ba.below hb
  replace M_bx := M_bx.below hb
  replace M_by := M_by.below hb
  replace M_bo := M_bo.below hb
  clear hb
  clear u_bx0 u_bx1 u_bx2
  have u_by0 := M_by.c0
  have u_by1 := M_by.c1
  have u_by2 := M_by.c2
  go_wp2_with fail
  refine (asks_calls j (N : Int) (N : Int) q_y q2 t c_y n2 c2 fs xs2 hj (by omega) (by omega) (by omega) (by omega) C_y C_b _ S_y S_b).mono ?_
  rintro e w14 ⟨rfl, hb⟩
  replace HB := HB.trans (hb.mono HB.size)
  replace S_a := S_a.below hb
  replace S_b := S_b.below hb
  replace S_x := S_x.below hb
  replace S_y := S_y.below hb
  replace S_o := S_o.below hb
  replace S_t := S_t.below hb
  replace M_ba := M_ba.below hb
  replace M_bx := M_bx.below hb
  replace M_by := M_by.below hb
  replace M_bo := M_bo.below hb
  clear hb
  clear u_by0 u_by1 u_by2
  go_wp2
  go_ret
  exact ⟨rfl, HB⟩
theorem own : ownKnob Tryz.prog.godebug = none := by kernel_rfl
theorem laidOut : laidOutB Tryz.prog = true := by kernel_rfl
set_option maxRecDepth 100000 in
theorem lifted (os : Os) (started : os.Started) (H : Type) (enc : TypeId × Value → H) :
    ReturnsInHanded {} Tryz.checked os 3 .any (Rows.gaussAsksSpec.pre6 enc Tryz.prog Tryz.f3 Rows.gaussAsksRow.domain false) (Rows.gaussAsksSpec.post enc Tryz.prog Tryz.f3 false true false false) := by
  refine returnsInHanded_of_change_sized (C := Tryz.checked) own started (by kernel_rfl) Tryz.func3
    (ChangeSpec.witness6 (enc := enc) (C := Tryz.checked) false ⟨#[], #[.int .u8 0, .agg #[.int .i64 0, .int .i64 0, .slice none 0 0], .slice none 0 0, .slice none 0 0, .int .u8 0, .int .u8 0, .int .u8 0], []⟩ 8 (by kernel_rfl) (by kernel_rfl) (by kernel_rfl) (by kernel_rfl)) ?_
  intro W base args ds gs before hval0 hW _ hz _
  have hval : ∀ (j : Nat) t v, Tryz.f3.params[j]? = some t → args[j]? = some v → Value.okWide Tryz.prog W .any base t v := hval0
  have hW' := hW
  obtain ⟨p, q, hA0, hV, rfl, _, _⟩ := hW
  have hA : DataW.TrodAll enc Tryz.prog W 0 (fun _ => true) true Tryz.f3.params.toList args.toList ds p := hA0
  rw [Tryz.params3] at hA hval
  obtain ⟨v0, vs0, d0, ds0, p0, q0, hargs, rfl, rfl, h0, r0⟩ := trodAll_cons hA
  obtain ⟨v1, vs1, d1, ds1, p1, q1, rfl, rfl, rfl, h1, r1⟩ := trodAll_cons r0
  obtain ⟨v2, vs2, d2, ds2, p2, q2, rfl, rfl, rfl, h2, r2⟩ := trodAll_cons r1
  obtain ⟨v3, vs3, d3, ds3, p3, q3, rfl, rfl, rfl, h3, r3⟩ := trodAll_cons r2
  obtain ⟨v4, vs4, d4, ds4, p4, q4, rfl, rfl, rfl, h4, r4⟩ := trodAll_cons r3
  obtain ⟨v5, vs5, d5, ds5, p5, q5, rfl, rfl, rfl, h5, r5⟩ := trodAll_cons r4
  obtain ⟨v6, vs6, d6, ds6, p6, q6, rfl, rfl, rfl, h6, r6⟩ := trodAll_cons r5
  obtain ⟨rfl, rfl, rfl⟩ := trodAll_nil r6
  obtain rfl : args = #[v0, v1, v2, v3, v4, v5, v6] := by cases args; simp_all
  obtain ⟨rfl, rfl⟩ := trodVars_none hV
  obtain ⟨a0, rfl, rfl, rfl, w0⟩ := open_int Tryz.underlying5 (hval 0 5 v0 rfl rfl) h0
  obtain ⟨n0, b0, rfl⟩ := nat_of_u8 w0
  have k1 := h1
  obtain ⟨R1, C1, q1, n1, c1, xs1, rfl, bR1, bC1, w1, m1⟩ := open_matrix Tryz.underlying24 ⟨rfl, rfl⟩ ⟨rfl, rfl⟩ ⟨rfl, rfl⟩ Tryz.underlying3 (by kernel_rfl) Tryz.underlying22 (by kernel_rfl) Tryz.underlying5 (by kernel_rfl) (by kernel_rfl) (hval 1 24 v1 rfl rfl) h1
  have k2 := h2
  obtain ⟨q2, n2, c2, xs2, rfl, w2, m2⟩ := open_bytes_sz Tryz.underlying22 Tryz.underlying5 (by kernel_rfl) (hval 2 22 v2 rfl rfl) h2
  have y2 : n2 ≤ c2 ∧ c2 ≤ 140737488351232 := ⟨m2.1, m2.2 _ fun el sp hd => by have := sized_slice (j := 2) (t := 22) (e := 5) (elems := el) (spare := sp) hz (by kernel_rfl) (by first | (rw [← hd]; done) | (rw [← hd]; rfl)) Tryz.underlying22; have hbe : Tryz.checked.prog.bytesOf 5 = 1 := (by kernel_rfl); have hre : reachBytes = 140737488351232 := rfl; rw [hbe, hre] at this; omega⟩
  have k3 := h3
  obtain ⟨q3, n3, c3, xs3, rfl, w3, m3⟩ := open_bytes_sz Tryz.underlying22 Tryz.underlying5 (by kernel_rfl) (hval 3 22 v3 rfl rfl) h3
  have y3 : n3 ≤ c3 ∧ c3 ≤ 140737488351232 := ⟨m3.1, m3.2 _ fun el sp hd => by have := sized_slice (j := 3) (t := 22) (e := 5) (elems := el) (spare := sp) hz (by kernel_rfl) (by first | (rw [← hd]; done) | (rw [← hd]; rfl)) Tryz.underlying22; have hbe : Tryz.checked.prog.bytesOf 5 = 1 := (by kernel_rfl); have hre : reachBytes = 140737488351232 := rfl; rw [hbe, hre] at this; omega⟩
  obtain ⟨a4, rfl, rfl, rfl, w4⟩ := open_int Tryz.underlying5 (hval 4 5 v4 rfl rfl) h4
  obtain ⟨n4, b4, rfl⟩ := nat_of_u8 w4
  obtain ⟨a5, rfl, rfl, rfl, w5⟩ := open_int Tryz.underlying5 (hval 5 5 v5 rfl rfl) h5
  obtain ⟨n5, b5, rfl⟩ := nat_of_u8 w5
  obtain ⟨a6, rfl, rfl, rfl, w6⟩ := open_int Tryz.underlying5 (hval 6 5 v6 rfl rfl) h6
  obtain ⟨n6, b6, rfl⟩ := nat_of_u8 w6
  clear hA0 hval0
  simp only [List.append_nil] at hW'
  refine (walk (w := W) n0 R1 C1 q1 n1 c1 xs1 q2 n2 c2 xs2 q3 n3 c3 xs3 n4 n5 n6 b0 bR1 bC1 w1 m1 w2 y2 w3 y3 b4 b5 b6).mono fun e W' ⟨he, bel⟩ => ?_
  subst he
  exact ⟨_, rfl, _, _, _, [], _, [], hW', trodAll_mk1 (shut_bool Tryz.underlying4 _), (trodAll_cons_mk (shut_int Tryz.underlying5 w0) (trodAll_cons_mk (shut_same laidOut (by kernel_rfl) (of_decide_eq_true (by kernel_rfl)) k1 bel) (trodAll_cons_mk (shut_same laidOut (by kernel_rfl) (of_decide_eq_true (by kernel_rfl)) k2 bel) (trodAll_cons_mk (shut_same laidOut (by kernel_rfl) (of_decide_eq_true (by kernel_rfl)) k3 bel) (trodAll_cons_mk (shut_int Tryz.underlying5 w4) (trodAll_cons_mk (shut_int Tryz.underlying5 w5) (trodAll_cons_mk (shut_int Tryz.underlying5 w6) trodAll_mk0))))))), rfl, bel.frame _, fun h => by cases h⟩
theorem over : Rows.gaussAsksRow.holds Tryz.pinned (OpenSpec.ofChange Rows.gaussAsksSpec) :=
  OpenClaim.holds_of_wide 3 Tryz.f3 rfl rfl rfl rfl rfl rfl rfl ⟨rfl, rfl, rfl, rfl, rfl⟩ rfl rfl rfl rfl rfl (by kernel_rfl) Tryz.func3 (by kernel_rfl)
    (of_decide_eq_true (by kernel_rfl)) (by unfold Func.isWrapper; first | (rw [if_pos (by decide +kernel)]; kernel_rfl) | (rw [if_neg (by decide +kernel)]; exact ⟨rfl, rfl⟩))
    (fun os started H enc _ => lifted os started H enc)
theorem proved : Rows.GaussAsksSaid := over
#print axioms proved
end Go.Proofs.YtnphdldcfdpflaaGreat.gaussAsks
