/- GaussSolves holds for every input: what is solved is put in again; of a column that comes of some there is a solution. No conditions. -/
import Derived.Test.YtnphdldcfdpflaaGreatRows
import Derived.Test.YtnphdldcfdpflaaGreatMB
import Derived.Test.YtnphdldcfdpflaaGreatKnown09
import Derived.Test.YtnphdldcfdpflaaGreatNG
import Derived.Test.YtnphdldcfdpflaaGreatNJ
namespace Go.Proofs.YtnphdldcfdpflaaGreat.gaussSolves
open Go.ChangeShapes Go.WideShapes Go.ChangeAt Go.RowKit
open Mx (mx IsEch IsSol chL thL timesL)
open Pol (ofL Byt)

set_option maxRecDepth 100000 in
set_option maxHeartbeats 4000000 in
theorem walk (j : Nat) (q : Option Addr) (n c : Nat) (xs : List Nat) (q2 : Option Addr) (n2 c2 : Nat) (xs2 : List Nat) (q3 : Option Addr) (n3 c3 : Nat) (xs3 : List Nat) (k l b : Nat) (w : World) (hj : j < 256) (S_c : Bs w q n xs) (y_c : n ≤ c ∧ c ≤ 140737488351232) (S_v : Bs w q2 n2 xs2) (y_v : n2 ≤ c2 ∧ c2 ≤ 140737488351232) (S_b : Bs w q3 n3 xs3) (y_b : n3 ≤ c3 ∧ c3 ≤ 140737488351232) (hk : k < 256) (hl : l < 256) (hbt : b < 256) :
    Calls Tryz.prog 4 #[.int .u8 j, .slice q n c, .slice q2 n2 c2, .slice q3 n3 c3, .int .u8 k, .int .u8 l, .int .u8 b] w fun e w' => e = .returned (.bool true) ∧ Below w.heap.size w w' := by
  obtain ⟨g, hg⟩ : ∃ g : Nat, 1 + j % 3 = g := ⟨_, rfl⟩
  have hg1 : 1 ≤ g := by omega
  have hg3 : g ≤ 3 := by omega
  have hgi : (1 : Int) + (j : Int) % 3 = (g : Int) := by omega
  obtain ⟨R, hR⟩ : ∃ R : Nat, k % 7 = R := ⟨_, rfl⟩
  have hRi : (k : Int) % 7 = (R : Int) := by omega
  have hR5 : R ≤ 100 := by omega
  obtain ⟨C, hC⟩ : ∃ C : Nat, l % 7 = C := ⟨_, rfl⟩
  have hCi : (l : Int) % 7 = (C : Int) := by omega
  have hC5 : C ≤ 100 := by omega
  clear hg hR hC
  have HB : Below w.heap.size w w := Below.refl _ _
  have HW : Hid (wrap64 ((n : Int) + (n2 : Int)) = (n : Int) + (n2 : Int)) := by show _ = _; unfold wrap64; omega
  have HW2 : Hid (wrap64 ((n : Int) + (n2 : Int) + (n3 : Int)) = (n : Int) + (n2 : Int) + (n3 : Int)) := by show _ = _; unfold wrap64; omega
  clear y_c y_v y_b
  go_enter Tryz.func4, Tryz.ntmps4
  go_wp2_with fail
  refine (fof_calls g hg1 hg3 _).mono ?_
  rintro e w1 ⟨B_f, T_f, rfl, HF_f, hb, hlB, hlT⟩
  have HL_f : w.heap.size ≤ T_f := Nat.le_trans HB.size hlT
  have Q_c_f := S_c.off hlT
  have Q_v_f := S_v.off hlT
  have Q_b_f := S_b.off hlT
  replace HB := HB.trans (hb.mono HB.size)
  replace S_c := S_c.below hb
  replace S_v := S_v.below hb
  replace S_b := S_b.below hb
  clear hb hlB hlT
  clear hgi
  by_cases hbig : 300 < n + n2 + n3
  · have hb1 : (300 : Int) < (n : Int) + (n2 : Int) + (n3 : Int) := by omega
    have hs1 := HW.out
    have hs2 := HW2.out
    go_wp2_with fail
    refine (known09_calls _).mono ?_
    rintro e w2 ⟨rfl, hb⟩
    replace HB := HB.trans (hb.mono HB.size)
    replace HF_f := HF_f.below hb
    replace S_c := S_c.below hb
    replace S_v := S_v.below hb
    replace S_b := S_b.below hb
    clear hb
    go_wp2
    go_ret
    exact ⟨rfl, HB⟩
  · have hb1 : ((300 : Int) < (n : Int) + (n2 : Int) + (n3 : Int)) = False := eq_false (by omega)
    have hn9 : n ≤ 1000000 := by omega
    have hn29 : n2 ≤ 1000000 := by omega
    have hn39 : n3 ≤ 1000000 := by omega
    clear hbig
    obtain ⟨s, hs⟩ : ∃ s, R * C = s := ⟨_, rfl⟩
    have HX : Hid (R * C = s ∧ Byt xs ∧ Byt xs2 ∧ Byt xs3) := ⟨hs, S_c.byte, S_v.byte, S_b.byte⟩
    clear hs
    go_wp2_with fail
    refine (lthin_calls R C n c b q xs hR5 hC5 hn9 hbt _ S_c).mono ?_
    rintro e w2 ⟨v, rfl, hO, hb⟩
    obtain ⟨q_x, c_x, rfl, S_x, C_x, hQ⟩ := hO.tell (n := s) (Mx.thL_byt HX.out.2.1 _ _ hbt) (by rw [Mx.thL_length]; exact HX.out.1)
    clear hO
    have Q_x_f := hQ _ HF_f.lt
    clear hQ
    replace HB := HB.trans (hb.mono HB.size)
    replace HF_f := HF_f.below hb
    replace S_c := S_c.below hb
    replace S_v := S_v.below hb
    replace S_b := S_b.below hb
    clear hb
    clear S_c hb1 hRi hCi hn9
    obtain ⟨es, hes⟩ : ∃ es, thL xs R C b = es := ⟨_, rfl⟩
    rw [hes] at S_x
    clear hes
    obtain ⟨P_bx, hP_bx⟩ : ∃ P, w2.heap.size = P := ⟨_, rfl⟩
    obtain ⟨w3, hw3⟩ : ∃ W, w2.alloc (.cells #[.int .i64 (R : Nat), .int .i64 (C : Nat), .slice q_x s c_x] 24) = W := ⟨_, rfl⟩
    have hb : Below w2.heap.size w2 w3 := hw3 ▸ (Below.refl _ w2).alloc (Nat.le_refl _) _
    have N_bx_f : ¬ P_bx = T_f := by have := HF_f.lt; omega
    have M_bx : Mb w3 P_bx (.int .i64 (R : Nat)) (.int .i64 (C : Nat)) (.slice q_x s c_x) := by rw [← hP_bx, ← hw3]; exact mb_new w2 _ _ _
    replace HB := HB.trans (hb.mono HB.size)
    replace HF_f := HF_f.below hb
    replace S_v := S_v.below hb
    replace S_b := S_b.below hb
    replace S_x := S_x.below hb
    clear hb
    have u_bx0 := M_bx.c0
    have u_bx1 := M_bx.c1
    have u_bx2 := M_bx.c2
    go_wp2_with fail
    refine (lof_calls C 1 n2 c2 q2 xs2 hC5 (by decide) hn29 _ S_v).mono ?_
    rintro e w4 ⟨v, rfl, hO, hb⟩
    obtain ⟨q_y, c_y, rfl, S_y, C_y, hQ⟩ := hO.tell (n := C) (Mx.chL_byt HX.out.2.2.1 _) (by rw [Mx.chL_length, Nat.mul_one])
    clear hO
    have Q_y_f := hQ _ HF_f.lt
    clear hQ
    replace HB := HB.trans (hb.mono HB.size)
    replace HF_f := HF_f.below hb
    replace S_v := S_v.below hb
    replace S_b := S_b.below hb
    replace S_x := S_x.below hb
    replace M_bx := M_bx.below hb
    clear hb
    clear hP_bx hw3 u_bx0 u_bx1 u_bx2
    clear S_v hn29
    obtain ⟨bs, hbs⟩ : ∃ bs, chL xs2 (C * 1) = bs := ⟨_, rfl⟩
    rw [hbs] at S_y
    clear hbs
    obtain ⟨P_by, hP_by⟩ : ∃ P, w4.heap.size = P := ⟨_, rfl⟩
    obtain ⟨w5, hw5⟩ : ∃ W, w4.alloc (.cells #[.int .i64 (C : Nat), .int .i64 1, .slice q_y C c_y] 24) = W := ⟨_, rfl⟩
    have hb : Below w4.heap.size w4 w5 := hw5 ▸ (Below.refl _ w4).alloc (Nat.le_refl _) _
    have N_by_f : ¬ P_by = T_f := by have := HF_f.lt; omega
    have M_by : Mb w5 P_by (.int .i64 (C : Nat)) (.int .i64 1) (.slice q_y C c_y) := by rw [← hP_by, ← hw5]; exact mb_new w4 _ _ _
    replace HB := HB.trans (hb.mono HB.size)
    replace HF_f := HF_f.below hb
    replace S_b := S_b.below hb
    replace S_x := S_x.below hb
    replace S_y := S_y.below hb
    replace M_bx := M_bx.below hb
    clear hb
    obtain ⟨ts, hts⟩ : ∃ ts, timesL R C es bs = ts := ⟨_, rfl⟩
    have HT : Hid (timesL R C es bs = ts ∧ Byt ts ∧ ts.length = R) := ⟨hts, hts ▸ Mx.timesL_byt _ _ _ _, hts ▸ Mx.timesL_length _ _ _ _⟩
    clear hts
    have u_bx0 := M_bx.c0
    have u_bx1 := M_bx.c1
    have u_bx2 := M_bx.c2
    have u_by0 := M_by.c0
    have u_by1 := M_by.c1
    have u_by2 := M_by.c2
    go_wp2_with fail
    refine (mtimes_calls g B_f T_f R C s c_x c_y q_x q_y es bs HX.out.1.symm C_x C_y (by omega) (by omega) _ HF_f S_x S_y Q_x_f Q_y_f).mono ?_
    rintro e w6 ⟨v, rfl, hO, hF, hb⟩
    obtain ⟨q_t, c_t, rfl, S_t, C_t, hQ⟩ := hO.tell (n := R) (Mx.timesL_byt _ _ _ _) (Mx.timesL_length _ _ _ _)
    clear hO
    have Q_t_f := hQ _ HF_f.lt
    clear hQ
    replace HB := HB.trans (hb.below HB.size (by rintro k rfl; exact HL_f))
    replace S_b := S_b.but hb Q_b_f
    replace S_x := S_x.but hb Q_x_f
    replace S_y := S_y.but hb Q_y_f
    replace M_bx := M_bx.but hb N_bx_f
    replace M_by := M_by.but hb N_by_f
    clear HF_f hb
    have HF_f := hF
    clear hF
    clear hP_by hw5 u_bx0 u_bx1 u_bx2 u_by0 u_by1 u_by2
    rw [HT.out.1] at S_t
    obtain ⟨ss, hss⟩ := Mx.solves_times R C es bs
    rw [HT.out.1] at hss
    have HSS : Hid (SlO (R : Int) (C : Int) s es R ts ss true ∧ IsSol R C es ts ss ∧ timesL R C es ss = ts) := ⟨.inl ⟨rfl, right_nat (by omega) (by omega) HX.out.1.symm, rfl, hss⟩, hss, hss.back HT.out.2.1 HT.out.2.2⟩
    clear hss
    have u_bx0 := M_bx.c0
    have u_bx1 := M_bx.c1
    have u_bx2 := M_bx.c2
    go_wp2_with fail
    refine (gsolve1_calls g B_f T_f (R : Int) (C : Int) q_x q_t s c_x R c_t es ts ss true HSS.out.1 (by omega) (by omega) (by omega) (by omega) C_x C_t _ S_x S_t HF_f).mono ?_
    rintro e w7 ⟨v, rfl, hO, hF, hb⟩
    obtain ⟨q_u, c_u, rfl, S_u, C_u, hQ⟩ := hO.tell (n := C) HSS.out.2.1.byt HSS.out.2.1.len
    clear hO
    have Q_u_f := hQ _ HF_f.lt
    clear hQ
    replace HB := HB.trans (hb.below HB.size (by rintro k rfl; exact HL_f))
    replace S_b := S_b.but hb Q_b_f
    replace S_x := S_x.but hb Q_x_f
    replace S_y := S_y.but hb Q_y_f
    replace S_t := S_t.but hb Q_t_f
    replace M_bx := M_bx.but hb N_bx_f
    replace M_by := M_by.but hb N_by_f
    clear HF_f hb
    have HF_f := hF
    clear hF
    clear u_bx0 u_bx1 u_bx2
    have u_bx0 := M_bx.c0
    have u_bx1 := M_bx.c1
    have u_bx2 := M_bx.c2
    go_wp2_with fail
    refine (mtimes_calls g B_f T_f R C s c_x c_u q_x q_u es ss HX.out.1.symm C_x C_u (by omega) (by omega) _ HF_f S_x S_u Q_x_f Q_u_f).mono ?_
    rintro e w8 ⟨v, rfl, hO, hF, hb⟩
    obtain ⟨q_a, c_a, rfl, S_a, C_a, hQ⟩ := hO.tell (n := R) (Mx.timesL_byt _ _ _ _) (Mx.timesL_length _ _ _ _)
    clear hO
    have Q_a_f := hQ _ HF_f.lt
    clear hQ
    replace HB := HB.trans (hb.below HB.size (by rintro k rfl; exact HL_f))
    replace S_b := S_b.but hb Q_b_f
    replace S_x := S_x.but hb Q_x_f
    replace S_y := S_y.but hb Q_y_f
    replace S_t := S_t.but hb Q_t_f
    replace S_u := S_u.but hb Q_u_f
    replace M_bx := M_bx.but hb N_bx_f
    replace M_by := M_by.but hb N_by_f
    clear HF_f hb
    have HF_f := hF
    clear hF
    clear u_bx0 u_bx1 u_bx2
    rw [HSS.out.2.2] at S_a
    have u_bx0 := M_bx.c0
    have u_bx1 := M_bx.c1
    have u_bx2 := M_bx.c2
    go_wp2_with fail
    refine (lof_calls R 1 n3 c3 q3 xs3 hR5 (by decide) hn39 _ S_b).mono ?_
    rintro e w9 ⟨v, rfl, hO, hb⟩
    obtain ⟨q_o, c_o, rfl, S_o, C_o, hQ⟩ := hO.tell (n := R) (Mx.chL_byt HX.out.2.2.2 _) (by rw [Mx.chL_length, Nat.mul_one])
    clear hO
    have Q_o_f := hQ _ HF_f.lt
    clear hQ
    replace HB := HB.trans (hb.mono HB.size)
    replace HF_f := HF_f.below hb
    replace S_b := S_b.below hb
    replace S_x := S_x.below hb
    replace S_y := S_y.below hb
    replace S_t := S_t.below hb
    replace S_u := S_u.below hb
    replace S_a := S_a.below hb
    replace M_bx := M_bx.below hb
    replace M_by := M_by.below hb
    clear hb
    clear u_bx0 u_bx1 u_bx2
    clear S_b hn39
    obtain ⟨os, hos⟩ : ∃ os, chL xs3 (R * 1) = os := ⟨_, rfl⟩
    have HOS : Hid (Byt os ∧ os.length = R) := by rw [← hos]; exact ⟨Mx.chL_byt HX.out.2.2.2 _, by rw [Mx.chL_length, Nat.mul_one]⟩
    rw [hos] at S_o
    clear hos
    obtain ⟨P_bo, hP_bo⟩ : ∃ P, w9.heap.size = P := ⟨_, rfl⟩
    obtain ⟨w10, hw10⟩ : ∃ W, w9.alloc (.cells #[.int .i64 (R : Nat), .int .i64 1, .slice q_o R c_o] 24) = W := ⟨_, rfl⟩
    have hb : Below w9.heap.size w9 w10 := hw10 ▸ (Below.refl _ w9).alloc (Nat.le_refl _) _
    have N_bo_f : ¬ P_bo = T_f := by have := HF_f.lt; omega
    have M_bo : Mb w10 P_bo (.int .i64 (R : Nat)) (.int .i64 1) (.slice q_o R c_o) := by rw [← hP_bo, ← hw10]; exact mb_new w9 _ _ _
    replace HB := HB.trans (hb.mono HB.size)
    replace HF_f := HF_f.below hb
    replace S_x := S_x.below hb
    replace S_y := S_y.below hb
    replace S_t := S_t.below hb
    replace S_u := S_u.below hb
    replace S_a := S_a.below hb
    replace S_o := S_o.below hb
    replace M_bx := M_bx.below hb
    replace M_by := M_by.below hb
    clear hb
    obtain ⟨z, ok, hz⟩ := slO_exists (R : Int) (C : Int) s es R os
    cases ok with
    | true =>
      obtain ⟨hz1, hz2⟩ : IsSol R C es os z ∧ timesL R C es z = os := by
        rcases hz with ⟨_, _, _, h⟩ | ⟨h, _⟩
        · have h' : IsSol R C es os z := h
          exact ⟨h', h'.back HOS.out.1 HOS.out.2⟩
        · cases h
      have HZ : Hid (SlO (R : Int) (C : Int) s es R os z true ∧ IsSol R C es os z ∧ timesL R C es z = os) := ⟨hz, hz1, hz2⟩
      clear hz hz1 hz2
      have u_bx0 := M_bx.c0
      have u_bx1 := M_bx.c1
      have u_bx2 := M_bx.c2
      have u_bo0 := M_bo.c0
      have u_bo1 := M_bo.c1
      have u_bo2 := M_bo.c2
      go_wp2_with fail
      refine (gsolve1_calls g B_f T_f (R : Int) (C : Int) q_x q_o s c_x R c_o es os z true HZ.out.1 (by omega) (by omega) (by omega) (by omega) C_x C_o _ S_x S_o HF_f).mono ?_
      rintro e w11 ⟨v, rfl, hO, hF, hb⟩
      obtain ⟨q_z, c_z, rfl, S_z, C_z, hQ⟩ := hO.tell (n := C) HZ.out.2.1.byt HZ.out.2.1.len
      clear hO
      have Q_z_f := hQ _ HF_f.lt
      clear hQ
      replace HB := HB.trans (hb.below HB.size (by rintro k rfl; exact HL_f))
      replace S_x := S_x.but hb Q_x_f
      replace S_y := S_y.but hb Q_y_f
      replace S_t := S_t.but hb Q_t_f
      replace S_u := S_u.but hb Q_u_f
      replace S_a := S_a.but hb Q_a_f
      replace S_o := S_o.but hb Q_o_f
      replace M_bx := M_bx.but hb N_bx_f
      replace M_by := M_by.but hb N_by_f
      replace M_bo := M_bo.but hb N_bo_f
      clear HF_f hb
      have HF_f := hF
      clear hF
      clear hP_bo hw10 u_bx0 u_bx1 u_bx2 u_bo0 u_bo1 u_bo2
      have u_bx0 := M_bx.c0
      have u_bx1 := M_bx.c1
      have u_bx2 := M_bx.c2
      go_wp2_with fail
      refine (mtimes_calls g B_f T_f R C s c_x c_z q_x q_z es z HX.out.1.symm C_x C_z (by omega) (by omega) _ HF_f S_x S_z Q_x_f Q_z_f).mono ?_
      rintro e w12 ⟨v, rfl, hO, hF, hb⟩
      obtain ⟨q_r, c_r, rfl, S_r, C_r, hQ⟩ := hO.tell (n := R) (Mx.timesL_byt _ _ _ _) (Mx.timesL_length _ _ _ _)
      clear hO
      have Q_r_f := hQ _ HF_f.lt
      clear hQ
      replace HB := HB.trans (hb.below HB.size (by rintro k rfl; exact HL_f))
      replace S_x := S_x.but hb Q_x_f
      replace S_y := S_y.but hb Q_y_f
      replace S_t := S_t.but hb Q_t_f
      replace S_u := S_u.but hb Q_u_f
      replace S_a := S_a.but hb Q_a_f
      replace S_o := S_o.but hb Q_o_f
      replace S_z := S_z.but hb Q_z_f
      replace M_bx := M_bx.but hb N_bx_f
      replace M_by := M_by.but hb N_by_f
      replace M_bo := M_bo.but hb N_bo_f
      clear HF_f hb
      have HF_f := hF
      clear hF
      clear u_bx0 u_bx1 u_bx2
      rw [HZ.out.2.2] at S_r
      go_wp2_with fail
      refine (known09_calls _).mono ?_
      rintro e w13 ⟨rfl, hb⟩
      replace HB := HB.trans (hb.mono HB.size)
      replace HF_f := HF_f.below hb
      replace S_x := S_x.below hb
      replace S_y := S_y.below hb
      replace S_t := S_t.below hb
      replace S_u := S_u.below hb
      replace S_a := S_a.below hb
      replace S_o := S_o.below hb
      replace S_z := S_z.below hb
      replace S_r := S_r.below hb
      replace M_bx := M_bx.below hb
      replace M_by := M_by.below hb
      replace M_bo := M_bo.below hb
      clear hb
      go_wp2_with fail
      refine (same_any q_a q_t R R c_a c_t ts ts true (by simp) _ S_a S_t).mono ?_
      rintro e w14 ⟨rfl, hb⟩
      replace HB := HB.trans (hb.mono HB.size)
      replace HF_f := HF_f.below hb
      replace S_x := S_x.below hb
      replace S_y := S_y.below hb
      replace S_t := S_t.below hb
      replace S_u := S_u.below hb
      replace S_a := S_a.below hb
      replace S_o := S_o.below hb
      replace S_z := S_z.below hb
      replace S_r := S_r.below hb
      replace M_bx := M_bx.below hb
      replace M_by := M_by.below hb
      replace M_bo := M_bo.below hb
      clear hb
      have u_bo0 := M_bo.c0
      have u_bo1 := M_bo.c1
      have u_bo2 := M_bo.c2
      go_wp2_with fail
      refine (same_any q_r q_o R R c_r c_o os os true (by simp) _ S_r S_o).mono ?_
      rintro e w15 ⟨rfl, hb⟩
      replace HB := HB.trans (hb.mono HB.size)
      replace HF_f := HF_f.below hb
      replace S_x := S_x.below hb
      replace S_y := S_y.below hb
      replace S_t := S_t.below hb
      replace S_u := S_u.below hb
      replace S_a := S_a.below hb
      replace S_o := S_o.below hb
      replace S_z := S_z.below hb
      replace S_r := S_r.below hb
      replace M_bx := M_bx.below hb
      replace M_by := M_by.below hb
      replace M_bo := M_bo.below hb
      clear hb
      clear u_bo0 u_bo1 u_bo2
      go_wp2
      go_ret
      exact ⟨rfl, HB⟩
    | false =>
      obtain rfl : z = [] := by
        rcases hz with ⟨h, _⟩ | ⟨_, h, _⟩
        · cases h
        · exact h
      have HZ : Hid (SlO (R : Int) (C : Int) s es R os [] false) := hz
      clear hz
      have u_bx0 := M_bx.c0
      have u_bx1 := M_bx.c1
      have u_bx2 := M_bx.c2
      have u_bo0 := M_bo.c0
      have u_bo1 := M_bo.c1
      have u_bo2 := M_bo.c2
      go_wp2_with fail
      refine (gsolve1_calls g B_f T_f (R : Int) (C : Int) q_x q_o s c_x R c_o es os [] false HZ.out (by omega) (by omega) (by omega) (by omega) C_x C_o _ S_x S_o HF_f).mono ?_
      rintro e w11 ⟨v, rfl, hO, hF, hb⟩
      obtain ⟨q_z, c_z, rfl, S_z, C_z, hQ⟩ := hO.tell (n := 0) (fun i => by simp) rfl
      clear hO
      have Q_z_f := hQ _ HF_f.lt
      clear hQ
      replace HB := HB.trans (hb.below HB.size (by rintro k rfl; exact HL_f))
      replace S_x := S_x.but hb Q_x_f
      replace S_y := S_y.but hb Q_y_f
      replace S_t := S_t.but hb Q_t_f
      replace S_u := S_u.but hb Q_u_f
      replace S_a := S_a.but hb Q_a_f
      replace S_o := S_o.but hb Q_o_f
      replace M_bx := M_bx.but hb N_bx_f
      replace M_by := M_by.but hb N_by_f
      replace M_bo := M_bo.but hb N_bo_f
      clear HF_f hb
      have HF_f := hF
      clear hF
      clear hP_bo hw10 u_bx0 u_bx1 u_bx2 u_bo0 u_bo1 u_bo2
      by_cases hC0 : C = 0
      · subst hC0
        have u_bx0 := M_bx.c0
        have u_bx1 := M_bx.c1
        have u_bx2 := M_bx.c2
        go_wp2_with fail
        refine (mtimes_calls g B_f T_f R 0 s c_x c_z q_x q_z es [] HX.out.1.symm C_x C_z (by omega) (by omega) _ HF_f S_x S_z Q_x_f Q_z_f).mono ?_
        rintro e w12 ⟨v, rfl, hO, hF, hb⟩
        obtain ⟨q_r, c_r, rfl, S_r, C_r, hQ⟩ := hO.tell (n := R) (Mx.timesL_byt _ _ _ _) (Mx.timesL_length _ _ _ _)
        clear hO
        have Q_r_f := hQ _ HF_f.lt
        clear hQ
        replace HB := HB.trans (hb.below HB.size (by rintro k rfl; exact HL_f))
        replace S_x := S_x.but hb Q_x_f
        replace S_y := S_y.but hb Q_y_f
        replace S_t := S_t.but hb Q_t_f
        replace S_u := S_u.but hb Q_u_f
        replace S_a := S_a.but hb Q_a_f
        replace S_o := S_o.but hb Q_o_f
        replace S_z := S_z.but hb Q_z_f
        replace M_bx := M_bx.but hb N_bx_f
        replace M_by := M_by.but hb N_by_f
        replace M_bo := M_bo.but hb N_bo_f
        clear HF_f hb
        have HF_f := hF
        clear hF
        clear u_bx0 u_bx1 u_bx2
        go_wp2_with fail
        refine (known09_calls _).mono ?_
        rintro e w13 ⟨rfl, hb⟩
        replace HB := HB.trans (hb.mono HB.size)
        replace HF_f := HF_f.below hb
        replace S_x := S_x.below hb
        replace S_y := S_y.below hb
        replace S_t := S_t.below hb
        replace S_u := S_u.below hb
        replace S_a := S_a.below hb
        replace S_o := S_o.below hb
        replace S_z := S_z.below hb
        replace S_r := S_r.below hb
        replace M_bx := M_bx.below hb
        replace M_by := M_by.below hb
        replace M_bo := M_bo.below hb
        clear hb
        go_wp2_with fail
        refine (same_any q_a q_t R R c_a c_t ts ts true (by simp) _ S_a S_t).mono ?_
        rintro e w14 ⟨rfl, hb⟩
        replace HB := HB.trans (hb.mono HB.size)
        replace HF_f := HF_f.below hb
        replace S_x := S_x.below hb
        replace S_y := S_y.below hb
        replace S_t := S_t.below hb
        replace S_u := S_u.below hb
        replace S_a := S_a.below hb
        replace S_o := S_o.below hb
        replace S_z := S_z.below hb
        replace S_r := S_r.below hb
        replace M_bx := M_bx.below hb
        replace M_by := M_by.below hb
        replace M_bo := M_bo.below hb
        clear hb
        go_wp2
        go_ret
        exact ⟨rfl, HB⟩
      · have hC0' : ¬ 0 = C := fun e => hC0 e.symm
        have u_bx0 := M_bx.c0
        have u_bx1 := M_bx.c1
        have u_bx2 := M_bx.c2
        go_wp2_with fail
        refine (mtimes_none g B_f T_f R C s c_x 0 c_z q_x q_z HX.out.1.symm (by omega) (by omega) hC0' _ HF_f).mono ?_
        rintro e w12 ⟨rfl, hF, hb⟩
        replace HB := HB.trans (hb.below HB.size (by rintro k rfl; exact HL_f))
        replace S_x := S_x.but hb Q_x_f
        replace S_y := S_y.but hb Q_y_f
        replace S_t := S_t.but hb Q_t_f
        replace S_u := S_u.but hb Q_u_f
        replace S_a := S_a.but hb Q_a_f
        replace S_o := S_o.but hb Q_o_f
        replace S_z := S_z.but hb Q_z_f
        replace M_bx := M_bx.but hb N_bx_f
        replace M_by := M_by.but hb N_by_f
        replace M_bo := M_bo.but hb N_bo_f
        clear HF_f hb
        have HF_f := hF
        clear hF
        clear u_bx0 u_bx1 u_bx2
        go_wp2_with fail
        refine (known09_calls _).mono ?_
        rintro e w13 ⟨rfl, hb⟩
        replace HB := HB.trans (hb.mono HB.size)
        replace HF_f := HF_f.below hb
        replace S_x := S_x.below hb
        replace S_y := S_y.below hb
        replace S_t := S_t.below hb
        replace S_u := S_u.below hb
        replace S_a := S_a.below hb
        replace S_o := S_o.below hb
        replace S_z := S_z.below hb
        replace M_bx := M_bx.below hb
        replace M_by := M_by.below hb
        replace M_bo := M_bo.below hb
        clear hb
        go_wp2_with fail
        refine (same_any q_a q_t R R c_a c_t ts ts true (by simp) _ S_a S_t).mono ?_
        rintro e w14 ⟨rfl, hb⟩
        replace HB := HB.trans (hb.mono HB.size)
        replace HF_f := HF_f.below hb
        replace S_x := S_x.below hb
        replace S_y := S_y.below hb
        replace S_t := S_t.below hb
        replace S_u := S_u.below hb
        replace S_a := S_a.below hb
        replace S_o := S_o.below hb
        replace S_z := S_z.below hb
        replace M_bx := M_bx.below hb
        replace M_by := M_by.below hb
        replace M_bo := M_bo.below hb
        clear hb
        go_wp2
        go_ret
        exact ⟨rfl, HB⟩
theorem own : ownKnob Tryz.prog.godebug = none := by kernel_rfl
theorem laidOut : laidOutB Tryz.prog = true := by kernel_rfl
set_option maxRecDepth 100000 in
theorem lifted (os : Os) (started : os.Started) (H : Type) (enc : TypeId × Value → H) :
    ReturnsInHanded {} Tryz.checked os 4 .any (Rows.gaussSolvesSpec.pre6 enc Tryz.prog Tryz.f4 Rows.gaussSolvesRow.domain false) (Rows.gaussSolvesSpec.post enc Tryz.prog Tryz.f4 false true false false) := by
  refine returnsInHanded_of_change_sized (C := Tryz.checked) own started (by kernel_rfl) Tryz.func4
    (ChangeSpec.witness6 (enc := enc) (C := Tryz.checked) false ⟨#[], #[.int .u8 0, .slice none 0 0, .slice none 0 0, .slice none 0 0, .int .u8 0, .int .u8 0, .int .u8 0], []⟩ 8 (by kernel_rfl) (by kernel_rfl) (by kernel_rfl) (by kernel_rfl)) ?_
  intro W base args ds gs before hval0 hW _ hz _
  have hval : ∀ (j : Nat) t v, Tryz.f4.params[j]? = some t → args[j]? = some v → Value.okWide Tryz.prog W .any base t v := hval0
  have hW' := hW
  obtain ⟨p, q, hA0, hV, rfl, _, _⟩ := hW
  have hA : DataW.TrodAll enc Tryz.prog W 0 (fun _ => true) true Tryz.f4.params.toList args.toList ds p := hA0
  rw [Tryz.params4] at hA hval
  obtain ⟨v0, vs0, d0, ds0, p0, q0, hargs, rfl, rfl, h0, r0⟩ := trodAll_cons hA
  obtain ⟨v1, vs1, d1, ds1, p1, q1, rfl, rfl, rfl, h1, r1⟩ := trodAll_cons r0
  obtain ⟨v2, vs2, d2, ds2, p2, q2, rfl, rfl, rfl, h2, r2⟩ := trodAll_cons r1
  obtain ⟨v3, vs3, d3, ds3, p3, q3, rfl, rfl, rfl, h3, r3⟩ := trodAll_cons r2
  obtain ⟨v4, vs4, d4, ds4, p4, q4, rfl, rfl, rfl, h4, r4⟩ := trodAll_cons r3
  obtain ⟨v5, vs5, d5, ds5, p5, q5, rfl, rfl, rfl, h5, r5⟩ := trodAll_cons r4
  obtain ⟨v6, vs6, d6, ds6, p6, q6, rfl, rfl, rfl, h6, r6⟩ := trodAll_cons r5
  obtain ⟨rfl, rfl, rfl⟩ := trodAll_nil r6
  obtain rfl : args = #[v0, v1, v2, v3, v4, v5, v6] := by cases args; simp_all
  obtain ⟨rfl, rfl⟩ := trodVars_none hV
  obtain ⟨a0, rfl, rfl, rfl, w0⟩ := open_int Tryz.underlying5 (hval 0 5 v0 rfl rfl) h0
  obtain ⟨n0, b0, rfl⟩ := nat_of_u8 w0
  have k1 := h1
  obtain ⟨q1, n1, c1, xs1, rfl, w1, m1⟩ := open_bytes_sz Tryz.underlying22 Tryz.underlying5 (by kernel_rfl) (hval 1 22 v1 rfl rfl) h1
  have y1 : n1 ≤ c1 ∧ c1 ≤ 140737488351232 := ⟨m1.1, m1.2 _ fun el sp hd => by have := sized_slice (j := 1) (t := 22) (e := 5) (elems := el) (spare := sp) hz (by kernel_rfl) (by first | (rw [← hd]; done) | (rw [← hd]; rfl)) Tryz.underlying22; have hbe : Tryz.checked.prog.bytesOf 5 = 1 := (by kernel_rfl); have hre : reachBytes = 140737488351232 := rfl; rw [hbe, hre] at this; omega⟩
  have k2 := h2
  obtain ⟨q2, n2, c2, xs2, rfl, w2, m2⟩ := open_bytes_sz Tryz.underlying22 Tryz.underlying5 (by kernel_rfl) (hval 2 22 v2 rfl rfl) h2
  have y2 : n2 ≤ c2 ∧ c2 ≤ 140737488351232 := ⟨m2.1, m2.2 _ fun el sp hd => by have := sized_slice (j := 2) (t := 22) (e := 5) (elems := el) (spare := sp) hz (by kernel_rfl) (by first | (rw [← hd]; done) | (rw [← hd]; rfl)) Tryz.underlying22; have hbe : Tryz.checked.prog.bytesOf 5 = 1 := (by kernel_rfl); have hre : reachBytes = 140737488351232 := rfl; rw [hbe, hre] at this; omega⟩
  have k3 := h3
  obtain ⟨q3, n3, c3, xs3, rfl, w3, m3⟩ := open_bytes_sz Tryz.underlying22 Tryz.underlying5 (by kernel_rfl) (hval 3 22 v3 rfl rfl) h3
  have y3 : n3 ≤ c3 ∧ c3 ≤ 140737488351232 := ⟨m3.1, m3.2 _ fun el sp hd => by have := sized_slice (j := 3) (t := 22) (e := 5) (elems := el) (spare := sp) hz (by kernel_rfl) (by first | (rw [← hd]; done) | (rw [← hd]; rfl)) Tryz.underlying22; have hbe : Tryz.checked.prog.bytesOf 5 = 1 := (by kernel_rfl); have hre : reachBytes = 140737488351232 := rfl; rw [hbe, hre] at this; omega⟩
  obtain ⟨a4, rfl, rfl, rfl, w4⟩ := open_int Tryz.underlying5 (hval 4 5 v4 rfl rfl) h4
  obtain ⟨n4, b4, rfl⟩ := nat_of_u8 w4
  obtain ⟨a5, rfl, rfl, rfl, w5⟩ := open_int Tryz.underlying5 (hval 5 5 v5 rfl rfl) h5
  obtain ⟨n5, b5, rfl⟩ := nat_of_u8 w5
  obtain ⟨a6, rfl, rfl, rfl, w6⟩ := open_int Tryz.underlying5 (hval 6 5 v6 rfl rfl) h6
  obtain ⟨n6, b6, rfl⟩ := nat_of_u8 w6
  clear hA0 hval0
  simp only [List.append_nil] at hW'
  refine (walk (w := W) n0 q1 n1 c1 xs1 q2 n2 c2 xs2 q3 n3 c3 xs3 n4 n5 n6 b0 w1 y1 w2 y2 w3 y3 b4 b5 b6).mono fun e W' ⟨he, bel⟩ => ?_
  subst he
  exact ⟨_, rfl, _, _, _, [], _, [], hW', trodAll_mk1 (shut_bool Tryz.underlying4 _), (trodAll_cons_mk (shut_int Tryz.underlying5 w0) (trodAll_cons_mk (shut_same laidOut (by kernel_rfl) (of_decide_eq_true (by kernel_rfl)) k1 bel) (trodAll_cons_mk (shut_same laidOut (by kernel_rfl) (of_decide_eq_true (by kernel_rfl)) k2 bel) (trodAll_cons_mk (shut_same laidOut (by kernel_rfl) (of_decide_eq_true (by kernel_rfl)) k3 bel) (trodAll_cons_mk (shut_int Tryz.underlying5 w4) (trodAll_cons_mk (shut_int Tryz.underlying5 w5) (trodAll_cons_mk (shut_int Tryz.underlying5 w6) trodAll_mk0))))))), rfl, bel.frame _, fun h => by cases h⟩
theorem over : Rows.gaussSolvesRow.holds Tryz.pinned (OpenSpec.ofChange Rows.gaussSolvesSpec) :=
  OpenClaim.holds_of_wide 4 Tryz.f4 rfl rfl rfl rfl rfl rfl rfl ⟨rfl, rfl, rfl, rfl, rfl⟩ rfl rfl rfl rfl rfl (by kernel_rfl) Tryz.func4 (by kernel_rfl)
    (of_decide_eq_true (by kernel_rfl)) (by unfold Func.isWrapper; first | (rw [if_pos (by decide +kernel)]; kernel_rfl) | (rw [if_neg (by decide +kernel)]; exact ⟨rfl, rfl⟩))
    (fun os started H enc _ => lifted os started H enc)
theorem proved : Rows.GaussSolvesSaid := over
#print axioms proved
end Go.Proofs.YtnphdldcfdpflaaGreat.gaussSolves
