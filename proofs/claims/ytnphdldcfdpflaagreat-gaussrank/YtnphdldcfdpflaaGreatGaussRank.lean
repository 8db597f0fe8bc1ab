/- GaussRank holds for every input: a product's rank is no greater than its parts', and what has an inverse keeps it. No conditions. -/
import Derived.Test.YtnphdldcfdpflaaGreatRows
import Derived.Test.YtnphdldcfdpflaaGreatMB
import Derived.Test.YtnphdldcfdpflaaGreatKnown09
import Derived.Test.YtnphdldcfdpflaaGreatNG
import Derived.Test.YtnphdldcfdpflaaGreatNK
namespace Go.Proofs.YtnphdldcfdpflaaGreat.gaussRank
open Go.ChangeShapes Go.WideShapes Go.ChangeAt Go.RowKit
open Mx (mx IsEch IsInv chL thL mulL oneL)
open Pol (ofL Byt)

set_option maxRecDepth 100000 in
set_option maxHeartbeats 4000000 in
theorem walk (j : Nat) (q : Option Addr) (n c : Nat) (xs : List Nat) (q2 : Option Addr) (n2 c2 : Nat) (xs2 : List Nat) (q3 : Option Addr) (n3 c3 : Nat) (xs3 : List Nat) (k l m b : Nat) (w : World) (hj : j < 256) (S_c : Bs w q n xs) (y_c : n ≤ c ∧ c ≤ 140737488351232) (S_v : Bs w q2 n2 xs2) (y_v : n2 ≤ c2 ∧ c2 ≤ 140737488351232) (S_b : Bs w q3 n3 xs3) (y_b : n3 ≤ c3 ∧ c3 ≤ 140737488351232) (hk : k < 256) (hl : l < 256) (hm : m < 256) (hbt : b < 256) :
    Calls Tryz.prog 9 #[.int .u8 j, .slice q n c, .slice q2 n2 c2, .slice q3 n3 c3, .int .u8 k, .int .u8 l, .int .u8 m, .int .u8 b] w fun e w' => e = .returned (.bool true) ∧ Below w.heap.size w w' := by
  obtain ⟨g, hg⟩ : ∃ g : Nat, 1 + j % 3 = g := ⟨_, rfl⟩
  have hg1 : 1 ≤ g := by omega
  have hg3 : g ≤ 3 := by omega
  have hgi : (1 : Int) + (j : Int) % 3 = (g : Int) := by omega
  obtain ⟨R, hR⟩ : ∃ R : Nat, k % 6 = R := ⟨_, rfl⟩
  have hRi : (k : Int) % 6 = (R : Int) := by omega
  have hR5 : R ≤ 100 := by omega
  obtain ⟨N, hN⟩ : ∃ N : Nat, l % 6 = N := ⟨_, rfl⟩
  have hNi : (l : Int) % 6 = (N : Int) := by omega
  have hN5 : N ≤ 100 := by omega
  obtain ⟨C, hC⟩ : ∃ C : Nat, m % 6 = C := ⟨_, rfl⟩
  have hCi : (m : Int) % 6 = (C : Int) := by omega
  have hC5 : C ≤ 100 := by omega
  clear hg hR hN hC
  have HB : Below w.heap.size w w := Below.refl _ _
  have HW : Hid (wrap64 ((n : Int) + (n2 : Int)) = (n : Int) + (n2 : Int)) := by show _ = _; unfold wrap64; omega
  have HW2 : Hid (wrap64 ((n : Int) + (n2 : Int) + (n3 : Int)) = (n : Int) + (n2 : Int) + (n3 : Int)) := by show _ = _; unfold wrap64; omega
  clear y_c y_v y_b
  go_enter Tryz.func9, Tryz.ntmps9
  go_wp2_with fail
  refine (fof_calls g hg1 hg3 _).mono ?_
  rintro e w1 ⟨B_f, T_f, rfl, HF_f, hb, hlB, hlT⟩
  have HL_f : w.heap.size ≤ T_f := Nat.le_trans HB.size hlT
  have Q_c_f := S_c.off hlT
  have Q_v_f := S_v.off hlT
  have Q_b_f := S_b.off hlT
  replace HB := HB.trans (hb.mono HB.size)
  replace S_c := S_c.below hb
  replace S_v := S_v.below hb
  replace S_b := S_b.below hb
  clear hb hlB hlT
  clear hgi
  by_cases hbig : 300 < n + n2 + n3
  · have hb1 : (300 : Int) < (n : Int) + (n2 : Int) + (n3 : Int) := by omega
    have hs1 := HW.out
    have hs2 := HW2.out
    go_wp2_with fail
    refine (known09_calls _).mono ?_
    rintro e w2 ⟨rfl, hb⟩
    replace HB := HB.trans (hb.mono HB.size)
    replace HF_f := HF_f.below hb
    replace S_c := S_c.below hb
    replace S_v := S_v.below hb
    replace S_b := S_b.below hb
    clear hb
    go_wp2
    go_ret
    exact ⟨rfl, HB⟩
  · have hb1 : ((300 : Int) < (n : Int) + (n2 : Int) + (n3 : Int)) = False := eq_false (by omega)
    have hn9 : n ≤ 1000000 := by omega
    have hn29 : n2 ≤ 1000000 := by omega
    have hn39 : n3 ≤ 1000000 := by omega
    clear hbig
    obtain ⟨n_x, hsx⟩ : ∃ s, R * N = s := ⟨_, rfl⟩
    obtain ⟨n_y, hsy⟩ : ∃ s, N * C = s := ⟨_, rfl⟩
    obtain ⟨n_p, hsp⟩ : ∃ s, R * C = s := ⟨_, rfl⟩
    obtain ⟨n_s, hss⟩ : ∃ s, R * R = s := ⟨_, rfl⟩
    have HX : Hid (R * N = n_x ∧ N * C = n_y ∧ R * C = n_p ∧ R * R = n_s ∧ Byt xs ∧ Byt xs2 ∧ Byt xs3) := ⟨hsx, hsy, hsp, hss, S_c.byte, S_v.byte, S_b.byte⟩
    clear hsx hsy hsp hss
    go_wp2_with fail
    refine (lthin_calls R N n c b q xs hR5 hN5 hn9 hbt _ S_c).mono ?_
    rintro e w2 ⟨v, rfl, hO, hb⟩
    obtain ⟨q_x, c_x, rfl, S_x, C_x, hQ⟩ := hO.tell (n := n_x) (Mx.thL_byt HX.out.2.2.2.2.1 _ _ hbt) (by rw [Mx.thL_length]; exact HX.out.1)
    clear hO
    have Q_x_f := hQ _ HF_f.lt
    clear hQ
    replace HB := HB.trans (hb.mono HB.size)
    replace HF_f := HF_f.below hb
    replace S_c := S_c.below hb
    replace S_v := S_v.below hb
    replace S_b := S_b.below hb
    clear hb
    clear S_c hb1 hn9
    obtain ⟨es, hes⟩ : ∃ es, thL xs R N b = es := ⟨_, rfl⟩
    rw [hes] at S_x
    clear hes
    obtain ⟨P_bx, hP_bx⟩ : ∃ P, w2.heap.size = P := ⟨_, rfl⟩
    obtain ⟨w3, hw3⟩ : ∃ W, w2.alloc (.cells #[.int .i64 (R : Nat), .int .i64 (N : Nat), .slice q_x n_x c_x] 24) = W := ⟨_, rfl⟩
    have hb : Below w2.heap.size w2 w3 := hw3 ▸ (Below.refl _ w2).alloc (Nat.le_refl _) _
    have N_bx_f : ¬ P_bx = T_f := by have := HF_f.lt; omega
    have M_bx : Mb w3 P_bx (.int .i64 (R : Nat)) (.int .i64 (N : Nat)) (.slice q_x n_x c_x) := by rw [← hP_bx, ← hw3]; exact mb_new w2 _ _ _
    replace HB := HB.trans (hb.mono HB.size)
    replace HF_f := HF_f.below hb
    replace S_v := S_v.below hb
    replace S_b := S_b.below hb
    replace S_x := S_x.below hb
    clear hb
    go_wp2_with fail
    refine (lthin_calls N C n2 c2 b q2 xs2 hN5 hC5 hn29 hbt _ S_v).mono ?_
    rintro e w4 ⟨v, rfl, hO, hb⟩
    obtain ⟨q_y, c_y, rfl, S_y, C_y, hQ⟩ := hO.tell (n := n_y) (Mx.thL_byt HX.out.2.2.2.2.2.1 _ _ hbt) (by rw [Mx.thL_length]; exact HX.out.2.1)
    clear hO
    have Q_y_f := hQ _ HF_f.lt
    clear hQ
    replace HB := HB.trans (hb.mono HB.size)
    replace HF_f := HF_f.below hb
    replace S_v := S_v.below hb
    replace S_b := S_b.below hb
    replace S_x := S_x.below hb
    replace M_bx := M_bx.below hb
    clear hb
    clear hP_bx hw3
    clear S_v hn29 hNi hCi
    obtain ⟨fs, hfs⟩ : ∃ fs, thL xs2 N C b = fs := ⟨_, rfl⟩
    rw [hfs] at S_y
    clear hfs
    obtain ⟨P_by, hP_by⟩ : ∃ P, w4.heap.size = P := ⟨_, rfl⟩
    obtain ⟨w5, hw5⟩ : ∃ W, w4.alloc (.cells #[.int .i64 (N : Nat), .int .i64 (C : Nat), .slice q_y n_y c_y] 24) = W := ⟨_, rfl⟩
    have hb : Below w4.heap.size w4 w5 := hw5 ▸ (Below.refl _ w4).alloc (Nat.le_refl _) _
    have N_by_f : ¬ P_by = T_f := by have := HF_f.lt; omega
    have M_by : Mb w5 P_by (.int .i64 (N : Nat)) (.int .i64 (C : Nat)) (.slice q_y n_y c_y) := by rw [← hP_by, ← hw5]; exact mb_new w4 _ _ _
    replace HB := HB.trans (hb.mono HB.size)
    replace HF_f := HF_f.below hb
    replace S_b := S_b.below hb
    replace S_x := S_x.below hb
    replace S_y := S_y.below hb
    replace M_bx := M_bx.below hb
    clear hb
    have u_bx0 := M_bx.c0
    have u_bx1 := M_bx.c1
    have u_bx2 := M_bx.c2
    have u_by0 := M_by.c0
    have u_by1 := M_by.c1
    have u_by2 := M_by.c2
    go_wp2_with fail
    refine (mmul_calls g B_f T_f R N C n_x c_x n_y c_y q_x q_y es fs HX.out.1.symm HX.out.2.1.symm C_x C_y (by omega) (by omega) (by omega) _ HF_f S_x S_y Q_x_f).mono ?_
    rintro e w6 ⟨v, rfl, hO, hF, hb⟩
    obtain ⟨q_p, c_p, rfl, S_p, C_p, hQ⟩ := hO.tell (n := n_p) (Mx.cells_byt _ _ _) (by rw [mulL, Mx.cells_length]; exact HX.out.2.2.1)
    clear hO
    have Q_p_f := hQ _ HF_f.lt
    clear hQ
    replace HB := HB.trans (hb.below HB.size (by rintro k rfl; exact HL_f))
    replace S_b := S_b.but hb Q_b_f
    replace S_x := S_x.but hb Q_x_f
    replace S_y := S_y.but hb Q_y_f
    replace M_bx := M_bx.but hb N_bx_f
    replace M_by := M_by.but hb N_by_f
    clear HF_f hb
    have HF_f := hF
    clear hF
    clear hP_by hw5 u_bx0 u_bx1 u_bx2 u_by0 u_by1 u_by2
    obtain ⟨P_bp, hP_bp⟩ : ∃ P, w6.heap.size = P := ⟨_, rfl⟩
    obtain ⟨w7, hw7⟩ : ∃ W, w6.alloc (.cells #[.int .i64 (R : Nat), .int .i64 (C : Nat), .slice q_p n_p c_p] 24) = W := ⟨_, rfl⟩
    have hb : Below w6.heap.size w6 w7 := hw7 ▸ (Below.refl _ w6).alloc (Nat.le_refl _) _
    have N_bp_f : ¬ P_bp = T_f := by have := HF_f.lt; omega
    have M_bp : Mb w7 P_bp (.int .i64 (R : Nat)) (.int .i64 (C : Nat)) (.slice q_p n_p c_p) := by rw [← hP_bp, ← hw7]; exact mb_new w6 _ _ _
    replace HB := HB.trans (hb.mono HB.size)
    replace HF_f := HF_f.below hb
    replace S_b := S_b.below hb
    replace S_x := S_x.below hb
    replace S_y := S_y.below hb
    replace S_p := S_p.below hb
    replace M_bx := M_bx.below hb
    replace M_by := M_by.below hb
    clear hb
    go_wp2_with fail
    refine (lof_calls R R n3 c3 q3 xs3 hR5 hR5 hn39 _ S_b).mono ?_
    rintro e w8 ⟨v, rfl, hO, hb⟩
    obtain ⟨q_s, c_s, rfl, S_s, C_s, hQ⟩ := hO.tell (n := n_s) (Mx.chL_byt HX.out.2.2.2.2.2.2 _) (by rw [Mx.chL_length]; exact HX.out.2.2.2.1)
    clear hO
    have Q_s_f := hQ _ HF_f.lt
    clear hQ
    replace HB := HB.trans (hb.mono HB.size)
    replace HF_f := HF_f.below hb
    replace S_b := S_b.below hb
    replace S_x := S_x.below hb
    replace S_y := S_y.below hb
    replace S_p := S_p.below hb
    replace M_bx := M_bx.below hb
    replace M_by := M_by.below hb
    replace M_bp := M_bp.below hb
    clear hb
    clear hP_bp hw7
    clear S_b hn39 hRi
    obtain ⟨gs, hgs⟩ : ∃ gs, chL xs3 (R * R) = gs := ⟨_, rfl⟩
    rw [hgs] at S_s
    clear hgs
    obtain ⟨P_bs, hP_bs⟩ : ∃ P, w8.heap.size = P := ⟨_, rfl⟩
    obtain ⟨w9, hw9⟩ : ∃ W, w8.alloc (.cells #[.int .i64 (R : Nat), .int .i64 (R : Nat), .slice q_s n_s c_s] 24) = W := ⟨_, rfl⟩
    have hb : Below w8.heap.size w8 w9 := hw9 ▸ (Below.refl _ w8).alloc (Nat.le_refl _) _
    have N_bs_f : ¬ P_bs = T_f := by have := HF_f.lt; omega
    have M_bs : Mb w9 P_bs (.int .i64 (R : Nat)) (.int .i64 (R : Nat)) (.slice q_s n_s c_s) := by rw [← hP_bs, ← hw9]; exact mb_new w8 _ _ _
    replace HB := HB.trans (hb.mono HB.size)
    replace HF_f := HF_f.below hb
    replace S_x := S_x.below hb
    replace S_y := S_y.below hb
    replace S_p := S_p.below hb
    replace S_s := S_s.below hb
    replace M_bx := M_bx.below hb
    replace M_by := M_by.below hb
    replace M_bp := M_bp.below hb
    clear hb
    have u_bs0 := M_bs.c0
    have u_bs1 := M_bs.c1
    have u_bs2 := M_bs.c2
    have u_bx0 := M_bx.c0
    have u_bx1 := M_bx.c1
    have u_bx2 := M_bx.c2
    go_wp2_with fail
    refine (mmul_calls g B_f T_f R R N n_s c_s n_x c_x q_s q_x gs es HX.out.2.2.2.1.symm HX.out.1.symm C_s C_x (by omega) (by omega) (by omega) _ HF_f S_s S_x Q_s_f).mono ?_
    rintro e w10 ⟨v, rfl, hO, hF, hb⟩
    obtain ⟨q_t, c_t, rfl, S_t, C_t, hQ⟩ := hO.tell (n := n_x) (Mx.cells_byt _ _ _) (by rw [mulL, Mx.cells_length]; exact HX.out.1)
    clear hO
    have Q_t_f := hQ _ HF_f.lt
    clear hQ
    replace HB := HB.trans (hb.below HB.size (by rintro k rfl; exact HL_f))
    replace S_x := S_x.but hb Q_x_f
    replace S_y := S_y.but hb Q_y_f
    replace S_p := S_p.but hb Q_p_f
    replace S_s := S_s.but hb Q_s_f
    replace M_bx := M_bx.but hb N_bx_f
    replace M_by := M_by.but hb N_by_f
    replace M_bp := M_bp.but hb N_bp_f
    replace M_bs := M_bs.but hb N_bs_f
    clear HF_f hb
    have HF_f := hF
    clear hF
    clear hP_bs hw9 u_bs0 u_bs1 u_bs2 u_bx0 u_bx1 u_bx2
    obtain ⟨P_bt, hP_bt⟩ : ∃ P, w10.heap.size = P := ⟨_, rfl⟩
    obtain ⟨w11, hw11⟩ : ∃ W, w10.alloc (.cells #[.int .i64 (R : Nat), .int .i64 (N : Nat), .slice q_t n_x c_t] 24) = W := ⟨_, rfl⟩
    have hb : Below w10.heap.size w10 w11 := hw11 ▸ (Below.refl _ w10).alloc (Nat.le_refl _) _
    have N_bt_f : ¬ P_bt = T_f := by have := HF_f.lt; omega
    have M_bt : Mb w11 P_bt (.int .i64 (R : Nat)) (.int .i64 (N : Nat)) (.slice q_t n_x c_t) := by rw [← hP_bt, ← hw11]; exact mb_new w10 _ _ _
    replace HB := HB.trans (hb.mono HB.size)
    replace HF_f := HF_f.below hb
    replace S_x := S_x.below hb
    replace S_y := S_y.below hb
    replace S_p := S_p.below hb
    replace S_s := S_s.below hb
    replace S_t := S_t.below hb
    replace M_bx := M_bx.below hb
    replace M_by := M_by.below hb
    replace M_bp := M_bp.below hb
    replace M_bs := M_bs.below hb
    clear hb
    obtain ⟨mi, zi, oi, hzi⟩ := inO_exists (R : Int) (R : Int) n_s gs
    obtain ⟨ni, hni⟩ : ∃ ni, zi.length = ni := ⟨_, rfl⟩
    obtain ⟨x1, L1, h1⟩ := Mx.isEch_exists R N es
    obtain ⟨x2, L2, h2⟩ := Mx.isEch_exists R C (mulL R N C es fs)
    obtain ⟨x3, L3, h3⟩ := Mx.isEch_exists N C fs
    obtain ⟨x4, L4, h4⟩ := Mx.isEch_exists R N (mulL R R N gs es)
    obtain ⟨r1, e1⟩ : ∃ r, L1.length = r := ⟨_, rfl⟩
    obtain ⟨r2, e2⟩ : ∃ r, L2.length = r := ⟨_, rfl⟩
    obtain ⟨r3, e3⟩ : ∃ r, L3.length = r := ⟨_, rfl⟩
    obtain ⟨r4, e4⟩ : ∃ r, L4.length = r := ⟨_, rfl⟩
    have h21 : r2 ≤ r1 := e2 ▸ e1 ▸ Mx.rank_mul_left h2 h1
    have h23 : r2 ≤ r3 := e2 ▸ e3 ▸ Mx.rank_mul_right h2 h3
    have h41 : oi = true → r4 = r1 := fun e => by
      subst e
      rcases hzi with ⟨_, _, e5, _, h⟩ | ⟨h, _⟩
      · have e6 : R = mi := by omega
        rw [← e6] at h
        exact e4 ▸ e1 ▸ Mx.rank_mul_inv h h4 h1
      · cases h
    have HO : Hid (InO (R : Int) (R : Int) n_s gs mi zi oi ∧ Byt zi ∧ zi.length = ni ∧ (EchO (R : Int) (N : Int) n_x es R N x1 L1 ∧ L1.length = r1) ∧ (EchO (R : Int) (C : Int) n_p (mulL R N C es fs) R C x2 L2 ∧ L2.length = r2) ∧ (EchO (N : Int) (C : Int) n_y fs N C x3 L3 ∧ L3.length = r3) ∧ (EchO (R : Int) (N : Int) n_x (mulL R R N gs es) R N x4 L4 ∧ L4.length = r4)) :=
      ⟨hzi, inO_byt hzi, hni, ⟨.inl ⟨right_nat (by omega) (by omega) HX.out.1.symm, rfl, rfl, h1⟩, e1⟩, ⟨.inl ⟨right_nat (by omega) (by omega) HX.out.2.2.1.symm, rfl, rfl, h2⟩, e2⟩, ⟨.inl ⟨right_nat (by omega) (by omega) HX.out.2.1.symm, rfl, rfl, h3⟩, e3⟩, ⟨.inl ⟨right_nat (by omega) (by omega) HX.out.1.symm, rfl, rfl, h4⟩, e4⟩⟩
    clear hzi hni h1 h2 h3 h4 e1 e2 e3 e4
    obtain ⟨ps, hps⟩ : ∃ ps, mulL R N C es fs = ps := ⟨_, rfl⟩
    rw [hps] at S_p HO
    obtain ⟨ts, hts⟩ : ∃ ts, mulL R R N gs es = ts := ⟨_, rfl⟩
    rw [hts] at S_t HO
    clear hps hts
    have u_bs0 := M_bs.c0
    have u_bs1 := M_bs.c1
    have u_bs2 := M_bs.c2
    go_wp2_with fail
    refine (ginv_calls g B_f T_f (R : Int) (R : Int) q_s n_s c_s gs mi zi oi HO.out.1 (by omega) (by omega) (by omega) (by omega) C_s _ S_s HF_f).mono ?_
    rintro e w12 ⟨v, rfl, hO, hF, hb⟩
    obtain ⟨q_i, c_i, rfl, S_i, C_i, hQ⟩ := hO.tell (n := ni) HO.out.2.1 HO.out.2.2.1
    clear hO
    have Q_i_f := hQ _ HF_f.lt
    clear hQ
    replace HB := HB.trans (hb.below HB.size (by rintro k rfl; exact HL_f))
    replace S_x := S_x.but hb Q_x_f
    replace S_y := S_y.but hb Q_y_f
    replace S_p := S_p.but hb Q_p_f
    replace S_s := S_s.but hb Q_s_f
    replace S_t := S_t.but hb Q_t_f
    replace M_bx := M_bx.but hb N_bx_f
    replace M_by := M_by.but hb N_by_f
    replace M_bp := M_bp.but hb N_bp_f
    replace M_bs := M_bs.but hb N_bs_f
    replace M_bt := M_bt.but hb N_bt_f
    clear HF_f hb
    have HF_f := hF
    clear hF
    clear hP_bt hw11 u_bs0 u_bs1 u_bs2
    obtain ⟨P_bi, hP_bi⟩ : ∃ P, w12.heap.size = P := ⟨_, rfl⟩
    obtain ⟨w13, hw13⟩ : ∃ W, w12.alloc (.cells #[.int .i64 (mi : Nat), .int .i64 (mi : Nat), .slice q_i ni c_i] 24) = W := ⟨_, rfl⟩
    have hb : Below w12.heap.size w12 w13 := hw13 ▸ (Below.refl _ w12).alloc (Nat.le_refl _) _
    have N_bi_f : ¬ P_bi = T_f := by have := HF_f.lt; omega
    have M_bi : Mb w13 P_bi (.int .i64 (mi : Nat)) (.int .i64 (mi : Nat)) (.slice q_i ni c_i) := by rw [← hP_bi, ← hw13]; exact mb_new w12 _ _ _
    replace HB := HB.trans (hb.mono HB.size)
    replace HF_f := HF_f.below hb
    replace S_x := S_x.below hb
    replace S_y := S_y.below hb
    replace S_p := S_p.below hb
    replace S_s := S_s.below hb
    replace S_t := S_t.below hb
    replace S_i := S_i.below hb
    replace M_bx := M_bx.below hb
    replace M_by := M_by.below hb
    replace M_bp := M_bp.below hb
    replace M_bs := M_bs.below hb
    replace M_bt := M_bt.below hb
    clear hb
    have u_bx0 := M_bx.c0
    have u_bx1 := M_bx.c1
    have u_bx2 := M_bx.c2
    go_wp2_with fail
    refine (grank_calls g B_f T_f (R : Int) (N : Int) q_x n_x c_x es R N x1 L1 r1 HO.out.2.2.2.1.1 HO.out.2.2.2.1.2 (by omega) (by omega) (by omega) (by omega) C_x _ S_x HF_f Q_x_f).mono ?_
    rintro e w14 ⟨rfl, hF, hb⟩
    replace HB := HB.trans (hb.below HB.size (by rintro k rfl; exact HL_f))
    replace S_x := S_x.but hb Q_x_f
    replace S_y := S_y.but hb Q_y_f
    replace S_p := S_p.but hb Q_p_f
    replace S_s := S_s.but hb Q_s_f
    replace S_t := S_t.but hb Q_t_f
    replace S_i := S_i.but hb Q_i_f
    replace M_bx := M_bx.but hb N_bx_f
    replace M_by := M_by.but hb N_by_f
    replace M_bp := M_bp.but hb N_bp_f
    replace M_bs := M_bs.but hb N_bs_f
    replace M_bt := M_bt.but hb N_bt_f
    replace M_bi := M_bi.but hb N_bi_f
    clear HF_f hb
    have HF_f := hF
    clear hF
    clear hP_bi hw13 u_bx0 u_bx1 u_bx2
    have i21 : (r2 : Int) ≤ (r1 : Int) := by omega
    have i23 : (r2 : Int) ≤ (r3 : Int) := by omega
    go_wp2
    have KRp : Hid (∀ W', But (· = T_f) w14 W' → Fd g B_f T_f W' → Calls Tryz.prog 20 #[.pointer (some ⟨B_f, 0, none⟩), .agg #[.int .i64 (R : Nat), .int .i64 (C : Nat), .slice q_p n_p c_p]] W' fun e w' => e = .returned (.int .i64 (r2 : Nat)) ∧ Fd g B_f T_f w' ∧ But (· = T_f) W' w') := fun W' k1 k2 => grank_calls g B_f T_f (R : Int) (C : Int) q_p n_p c_p ps R C x2 L2 r2 HO.out.2.2.2.2.1.1 HO.out.2.2.2.2.1.2 (by omega) (by omega) (by omega) (by omega) C_p W' (S_p.but k1 Q_p_f) k2 Q_p_f
    have KRy : Hid (∀ W', But (· = T_f) w14 W' → Fd g B_f T_f W' → Calls Tryz.prog 20 #[.pointer (some ⟨B_f, 0, none⟩), .agg #[.int .i64 (N : Nat), .int .i64 (C : Nat), .slice q_y n_y c_y]] W' fun e w' => e = .returned (.int .i64 (r3 : Nat)) ∧ Fd g B_f T_f w' ∧ But (· = T_f) W' w') := fun W' k1 k2 => grank_calls g B_f T_f (N : Int) (C : Int) q_y n_y c_y fs N C x3 L3 r3 HO.out.2.2.2.2.2.1.1 HO.out.2.2.2.2.2.1.2 (by omega) (by omega) (by omega) (by omega) C_y W' (S_y.but k1 Q_y_f) k2 Q_y_f
    have KRt : Hid (∀ W', But (· = T_f) w14 W' → Fd g B_f T_f W' → Calls Tryz.prog 20 #[.pointer (some ⟨B_f, 0, none⟩), .agg #[.int .i64 (R : Nat), .int .i64 (N : Nat), .slice q_t n_x c_t]] W' fun e w' => e = .returned (.int .i64 (r4 : Nat)) ∧ Fd g B_f T_f w' ∧ But (· = T_f) W' w') := fun W' k1 k2 => grank_calls g B_f T_f (R : Int) (N : Int) q_t n_x c_t ts R N x4 L4 r4 HO.out.2.2.2.2.2.2.1 HO.out.2.2.2.2.2.2.2 (by omega) (by omega) (by omega) (by omega) C_t W' (S_t.but k1 Q_t_f) k2 Q_t_f
    have HM : Hid (∀ W', But (· = T_f) w14 W' → W'.cell? ⟨P_bp, 0, none⟩ = some (.int .i64 (R : Nat)) ∧ W'.cell? ⟨P_bp, 1, none⟩ = some (.int .i64 (C : Nat)) ∧ W'.cell? ⟨P_bp, 2, none⟩ = some (.slice q_p n_p c_p) ∧ W'.cell? ⟨P_by, 0, none⟩ = some (.int .i64 (N : Nat)) ∧ W'.cell? ⟨P_by, 1, none⟩ = some (.int .i64 (C : Nat)) ∧ W'.cell? ⟨P_by, 2, none⟩ = some (.slice q_y n_y c_y) ∧ W'.cell? ⟨P_bt, 0, none⟩ = some (.int .i64 (R : Nat)) ∧ W'.cell? ⟨P_bt, 1, none⟩ = some (.int .i64 (N : Nat)) ∧ W'.cell? ⟨P_bt, 2, none⟩ = some (.slice q_t n_x c_t)) := fun W' h => ⟨(M_bp.but h N_bp_f).c0, (M_bp.but h N_bp_f).c1, (M_bp.but h N_bp_f).c2, (M_by.but h N_by_f).c0, (M_by.but h N_by_f).c1, (M_by.but h N_by_f).c2, (M_bt.but h N_bt_f).c0, (M_bt.but h N_bt_f).c1, (M_bt.but h N_bt_f).c2⟩
    have HBt : But (· = T_f) w14 w14.drew := (But.refl _ w14).drew
    have HFd : Fd g B_f T_f w14.drew := HF_f.drew
    have b0 := (M_bp).c0
    have b1 := (M_bp).c1
    have b2 := (M_bp).c2
    have d0 := (M_by).c0
    have d1 := (M_by).c1
    have d2 := (M_by).c2
    have y0 := (M_bt).c0
    have y1 := (M_bt).c1
    have y2 := (M_bt).c2
    clear S_x S_y S_p S_s S_t S_i M_bx M_by M_bp M_bs M_bt M_bi HF_f
    cases oi with
    | true =>
      obtain rfl := h41 rfl
      clear h41 h21 h23
      go_region_held3 (fun w' => w'.cell? ⟨P_bp, 0, none⟩ = some (.int .i64 (R : Nat)) ∧ w'.cell? ⟨P_bp, 1, none⟩ = some (.int .i64 (C : Nat)) ∧ w'.cell? ⟨P_bp, 2, none⟩ = some (.slice q_p n_p c_p) ∧ w'.cell? ⟨P_by, 0, none⟩ = some (.int .i64 (N : Nat)) ∧ w'.cell? ⟨P_by, 1, none⟩ = some (.int .i64 (C : Nat)) ∧ w'.cell? ⟨P_by, 2, none⟩ = some (.slice q_y n_y c_y) ∧ w'.cell? ⟨P_bt, 0, none⟩ = some (.int .i64 (R : Nat)) ∧ w'.cell? ⟨P_bt, 1, none⟩ = some (.int .i64 (N : Nat)) ∧ w'.cell? ⟨P_bt, 2, none⟩ = some (.slice q_t n_x c_t))
        (first | exact HM.out _ HBt | (go_keep; done))
        (first
          | (go_at_call 10; refine (known09_calls _).mono ?_; rintro e w1 ⟨rfl, hb⟩; replace HBt := HBt.trans (But.of_below hb); replace HFd := HFd.below hb)
          | (go_at_call 20; with_reducible refine (KRp.out _ HBt HFd).mono ?_; rintro e w1 ⟨rfl, hF, hb⟩; replace HBt := HBt.trans hb; clear HFd; have HFd := hF; clear hF)
          | (go_at_call 20; with_reducible refine (KRy.out _ HBt HFd).mono ?_; rintro e w1 ⟨rfl, hF, hb⟩; replace HBt := HBt.trans hb; clear HFd; have HFd := hF; clear hF)
          | (go_at_call 20; with_reducible refine (KRt.out _ HBt HFd).mono ?_; rintro e w1 ⟨rfl, hF, hb⟩; replace HBt := HBt.trans hb; clear HFd; have HFd := hF; clear hF))
      go_wp2
      go_ret
      exact ⟨rfl, HB.trans (HBt.below HB.size (by rintro k rfl; exact HL_f))⟩
    | false =>
      clear h41 h21 h23
      refine wp_region_held_drew (S := fun w' => w'.cell? ⟨P_bp, 0, none⟩ = some (.int .i64 (R : Nat)) ∧ w'.cell? ⟨P_bp, 1, none⟩ = some (.int .i64 (C : Nat)) ∧ w'.cell? ⟨P_bp, 2, none⟩ = some (.slice q_p n_p c_p) ∧ w'.cell? ⟨P_by, 0, none⟩ = some (.int .i64 (N : Nat)) ∧ w'.cell? ⟨P_by, 1, none⟩ = some (.int .i64 (C : Nat)) ∧ w'.cell? ⟨P_by, 2, none⟩ = some (.slice q_y n_y c_y) ∧ w'.cell? ⟨P_bt, 0, none⟩ = some (.int .i64 (R : Nat)) ∧ w'.cell? ⟨P_bt, 1, none⟩ = some (.int .i64 (N : Nat)) ∧ w'.cell? ⟨P_bt, 2, none⟩ = some (.slice q_t n_x c_t)) (by kernel_rfl) (HM.out _ HBt) (fun hHeld => ?_)
      refine wpAnyH_ready (rs := [0]) (by kernel_rfl) (by simp) ?_
      refine AllReadyH.cons (o := { dst := some 94, op := Op.call { callee := Callee.value (Operand.func 10), args := #[], argTypes := #[] }, type := 4, pos := "more.go:26", after := #[], guard := none }) rfl (fun K hK => ?_) AllReadyH.nil
      go_simp
      refine (known09_calls _).mono ?_; rintro e w1 ⟨rfl, hb⟩; replace HBt := HBt.trans (But.of_below hb); replace HFd := HFd.below hb; clear hb
      refine hK.out _ _ (HM.out _ HBt) (fun hHeld => ?_)
      clear hK K
      (try dsimp only [Act.put])
      refine wpAnyH_take (i := 1) (oi := { dst := some 95, op := Op.move (Operand.tmp 94), type := 4, pos := "more.go:26", after := #[{ on := 0, ground := Ground.data }, { on := 0, ground := Ground.chain }], guard := none }) (v := .bool true) rfl (by kernel_rfl) (by kernel_rfl) (by kernel_rfl) (fun _ _ _ h => h) (Or.inl ⟨by rfl, ?_⟩) hHeld ?_
      · (intro w hSw; (try dsimp only at hSw); go_simp)
      simp only [Act.put, List.setIfInBounds_toArray, List.set_cons_zero, List.set_cons_succ]
      refine wpAnyH_take (i := 2) (oi := { dst := some 96, op := Op.move (Operand.tmp 21), type := 4, pos := "more.go:26", after := #[{ on := 1, ground := Ground.guard }], guard := some (1, true) }) (v := .bool true) rfl (by kernel_rfl) (by kernel_rfl) (by kernel_rfl) (fun _ _ _ h => h) (Or.inl ⟨by rfl, ?_⟩) hHeld ?_
      · (intro w hSw; (try dsimp only at hSw); go_simp)
      simp only [Act.put, List.setIfInBounds_toArray, List.set_cons_zero, List.set_cons_succ]
      refine wpAnyH_take (i := 3) (oi := { dst := some 97, op := Op.pick (Operand.tmp 95) (Operand.tmp 96) (Operand.const (Value.bool false)), type := 4, pos := "more.go:26", after := #[{ on := 1, ground := Ground.data }, { on := 2, ground := Ground.data }], guard := none }) (v := .bool true) rfl (by kernel_rfl) (by kernel_rfl) (by kernel_rfl) (fun _ _ _ h => h) (Or.inl ⟨by rfl, ?_⟩) hHeld ?_
      · (intro w hSw; (try dsimp only at hSw); go_simp)
      simp only [Act.put, List.setIfInBounds_toArray, List.set_cons_zero, List.set_cons_succ]
      refine wpAnyH_take (i := 4) (oi := { dst := some 98, op := Op.move (Operand.tmp 97), type := 4, pos := "more.go:26", after := #[{ on := 3, ground := Ground.data }, { on := 1, ground := Ground.chain }], guard := none }) (v := .bool true) rfl (by kernel_rfl) (by kernel_rfl) (by kernel_rfl) (fun _ _ _ h => h) (Or.inl ⟨by rfl, ?_⟩) hHeld ?_
      · (intro w hSw; (try dsimp only at hSw); go_simp)
      simp only [Act.put, List.setIfInBounds_toArray, List.set_cons_zero, List.set_cons_succ]
      refine wpAnyH_take (i := 5) (oi := { dst := some 99, op := Op.move (Operand.tmp 24), type := 4, pos := "more.go:26", after := #[{ on := 4, ground := Ground.guard }], guard := some (4, true) }) (v := .bool true) rfl (by kernel_rfl) (by kernel_rfl) (by kernel_rfl) (fun _ _ _ h => h) (Or.inl ⟨by rfl, ?_⟩) hHeld ?_
      · (intro w hSw; (try dsimp only at hSw); go_simp)
      simp only [Act.put, List.setIfInBounds_toArray, List.set_cons_zero, List.set_cons_succ]
      refine wpAnyH_take (i := 6) (oi := { dst := some 100, op := Op.pick (Operand.tmp 98) (Operand.tmp 99) (Operand.const (Value.bool false)), type := 4, pos := "more.go:26", after := #[{ on := 4, ground := Ground.data }, { on := 5, ground := Ground.data }], guard := none }) (v := .bool true) rfl (by kernel_rfl) (by kernel_rfl) (by kernel_rfl) (fun _ _ _ h => h) (Or.inl ⟨by rfl, ?_⟩) hHeld ?_
      · (intro w hSw; (try dsimp only at hSw); go_simp)
      simp only [Act.put, List.setIfInBounds_toArray, List.set_cons_zero, List.set_cons_succ]
      refine wpAnyH_take (i := 7) (oi := { dst := some 101, op := Op.move (Operand.tmp 100), type := 4, pos := "more.go:26", after := #[{ on := 6, ground := Ground.data }, { on := 4, ground := Ground.chain }], guard := none }) (v := .bool true) rfl (by kernel_rfl) (by kernel_rfl) (by kernel_rfl) (fun _ _ _ h => h) (Or.inl ⟨by rfl, ?_⟩) hHeld ?_
      · (intro w hSw; (try dsimp only at hSw); go_simp)
      simp only [Act.put, List.setIfInBounds_toArray, List.set_cons_zero, List.set_cons_succ]
      refine wpAnyH_take (i := 8) (oi := { dst := some 102, op := Op.move (Operand.tmp 17), type := 32, pos := "more.go:26", after := #[{ on := 7, ground := Ground.guard }], guard := some (7, true) }) (v := .pointer (some ⟨B_f, 0, none⟩)) rfl (by kernel_rfl) (by kernel_rfl) (by kernel_rfl) (fun _ _ _ h => h) (Or.inl ⟨by rfl, ?_⟩) hHeld ?_
      · (intro w hSw; (try dsimp only at hSw); go_simp)
      simp only [Act.put, List.setIfInBounds_toArray, List.set_cons_zero, List.set_cons_succ]
      refine wpAnyH_take (i := 9) (oi := { dst := some 103, op := Op.load 24 (Operand.tmp 20), type := 24, pos := "more.go:26", after := #[{ on := 7, ground := Ground.guard }], guard := some (7, true) }) (v := .agg #[.int .i64 (R : Nat), .int .i64 (C : Nat), .slice q_p n_p c_p]) rfl (by kernel_rfl) (by kernel_rfl) (by kernel_rfl) (fun _ _ _ h => h) (Or.inl ⟨by rfl, ?_⟩) hHeld ?_
      · (intro w hSw; (try dsimp only at hSw); go_simp)
      simp only [Act.put, List.setIfInBounds_toArray, List.set_cons_zero, List.set_cons_succ]
      refine wpAnyH_take (i := 11) (oi := { dst := some 105, op := Op.move (Operand.tmp 27), type := 3, pos := "more.go:26", after := #[{ on := 7, ground := Ground.guard }], guard := some (7, true) }) (v := .int .i64 (r1 : Nat)) rfl (by kernel_rfl) (by kernel_rfl) (by kernel_rfl) (fun _ _ _ h => h) (Or.inl ⟨by rfl, ?_⟩) hHeld ?_
      · (intro w hSw; (try dsimp only at hSw); go_simp)
      simp only [Act.put, List.setIfInBounds_toArray, List.set_cons_zero, List.set_cons_succ]
      refine wpAnyH_ready (rs := [10]) (by kernel_rfl) (by simp) ?_
      refine AllReadyH.cons (o := { dst := some 104, op := Op.call { callee := Callee.value (Operand.func 20), args := #[Operand.tmp 102, Operand.tmp 103], argTypes := #[32, 24] }, type := 3, pos := "more.go:26", after := #[{ on := 8, ground := Ground.data }, { on := 9, ground := Ground.data }, { on := 7, ground := Ground.chain }, { on := 7, ground := Ground.guard }], guard := some (7, true) }) rfl (fun K hK => ?_) AllReadyH.nil
      go_simp
      refine (KRp.out _ HBt HFd).mono ?_; rintro e w1 ⟨rfl, hF, hb⟩; replace HBt := HBt.trans hb; clear HFd; have HFd := hF; clear hF hb
      refine hK.out _ _ (HM.out _ HBt) (fun hHeld => ?_)
      clear hK K
      (try dsimp only [Act.put])
      refine wpAnyH_take (i := 12) (oi := { dst := some 106, op := Op.binOp BinOp.leq 3 (Operand.tmp 104) (Operand.tmp 105) 3, type := 4, pos := "more.go:26", after := #[{ on := 10, ground := Ground.data }, { on := 11, ground := Ground.data }, { on := 7, ground := Ground.guard }], guard := some (7, true) }) (v := .bool true) rfl (by kernel_rfl) (by kernel_rfl) (by kernel_rfl) (fun _ _ _ h => h) (Or.inl ⟨by rfl, ?_⟩) hHeld ?_
      · (intro w hSw; (try dsimp only at hSw); go_simp)
      simp only [Act.put, List.setIfInBounds_toArray, List.set_cons_zero, List.set_cons_succ]
      refine wpAnyH_take (i := 13) (oi := { dst := some 107, op := Op.pick (Operand.tmp 101) (Operand.tmp 106) (Operand.const (Value.bool false)), type := 4, pos := "more.go:26", after := #[{ on := 7, ground := Ground.data }, { on := 12, ground := Ground.data }], guard := none }) (v := .bool true) rfl (by kernel_rfl) (by kernel_rfl) (by kernel_rfl) (fun _ _ _ h => h) (Or.inl ⟨by rfl, ?_⟩) hHeld ?_
      · (intro w hSw; (try dsimp only at hSw); go_simp)
      simp only [Act.put, List.setIfInBounds_toArray, List.set_cons_zero, List.set_cons_succ]
      refine wpAnyH_take (i := 14) (oi := { dst := some 108, op := Op.move (Operand.tmp 107), type := 4, pos := "more.go:26", after := #[{ on := 13, ground := Ground.data }, { on := 10, ground := Ground.chain }], guard := none }) (v := .bool true) rfl (by kernel_rfl) (by kernel_rfl) (by kernel_rfl) (fun _ _ _ h => h) (Or.inl ⟨by rfl, ?_⟩) hHeld ?_
      · (intro w hSw; (try dsimp only at hSw); go_simp)
      simp only [Act.put, List.setIfInBounds_toArray, List.set_cons_zero, List.set_cons_succ]
      refine wpAnyH_take (i := 15) (oi := { dst := some 109, op := Op.move (Operand.tmp 17), type := 32, pos := "more.go:26", after := #[{ on := 14, ground := Ground.guard }], guard := some (14, true) }) (v := .pointer (some ⟨B_f, 0, none⟩)) rfl (by kernel_rfl) (by kernel_rfl) (by kernel_rfl) (fun _ _ _ h => h) (Or.inl ⟨by rfl, ?_⟩) hHeld ?_
      · (intro w hSw; (try dsimp only at hSw); go_simp)
      simp only [Act.put, List.setIfInBounds_toArray, List.set_cons_zero, List.set_cons_succ]
      refine wpAnyH_take (i := 16) (oi := { dst := some 110, op := Op.load 24 (Operand.tmp 20), type := 24, pos := "more.go:26", after := #[{ on := 14, ground := Ground.guard }], guard := some (14, true) }) (v := .agg #[.int .i64 (R : Nat), .int .i64 (C : Nat), .slice q_p n_p c_p]) rfl (by kernel_rfl) (by kernel_rfl) (by kernel_rfl) (fun _ _ _ h => h) (Or.inl ⟨by rfl, ?_⟩) hHeld ?_
      · (intro w hSw; (try dsimp only at hSw); go_simp)
      simp only [Act.put, List.setIfInBounds_toArray, List.set_cons_zero, List.set_cons_succ]
      refine wpAnyH_take (i := 18) (oi := { dst := some 112, op := Op.move (Operand.tmp 17), type := 32, pos := "more.go:26", after := #[{ on := 14, ground := Ground.guard }], guard := some (14, true) }) (v := .pointer (some ⟨B_f, 0, none⟩)) rfl (by kernel_rfl) (by kernel_rfl) (by kernel_rfl) (fun _ _ _ h => h) (Or.inl ⟨by rfl, ?_⟩) hHeld ?_
      · (intro w hSw; (try dsimp only at hSw); go_simp)
      simp only [Act.put, List.setIfInBounds_toArray, List.set_cons_zero, List.set_cons_succ]
      refine wpAnyH_take (i := 19) (oi := { dst := some 113, op := Op.load 24 (Operand.tmp 19), type := 24, pos := "more.go:26", after := #[{ on := 14, ground := Ground.guard }], guard := some (14, true) }) (v := .agg #[.int .i64 (N : Nat), .int .i64 (C : Nat), .slice q_y n_y c_y]) rfl (by kernel_rfl) (by kernel_rfl) (by kernel_rfl) (fun _ _ _ h => h) (Or.inl ⟨by rfl, ?_⟩) hHeld ?_
      · (intro w hSw; (try dsimp only at hSw); go_simp)
      simp only [Act.put, List.setIfInBounds_toArray, List.set_cons_zero, List.set_cons_succ]
      refine wpAnyH_ready (rs := [17]) (by kernel_rfl) (by simp) ?_
      refine AllReadyH.cons (o := { dst := some 111, op := Op.call { callee := Callee.value (Operand.func 20), args := #[Operand.tmp 109, Operand.tmp 110], argTypes := #[32, 24] }, type := 3, pos := "more.go:26", after := #[{ on := 15, ground := Ground.data }, { on := 16, ground := Ground.data }, { on := 14, ground := Ground.chain }, { on := 14, ground := Ground.guard }], guard := some (14, true) }) rfl (fun K hK => ?_) AllReadyH.nil
      go_simp
      refine (KRp.out _ HBt HFd).mono ?_; rintro e w1 ⟨rfl, hF, hb⟩; replace HBt := HBt.trans hb; clear HFd; have HFd := hF; clear hF hb
      refine hK.out _ _ (HM.out _ HBt) (fun hHeld => ?_)
      clear hK K
      (try dsimp only [Act.put])
      refine wpAnyH_ready (rs := [20]) (by kernel_rfl) (by simp) ?_
      refine AllReadyH.cons (o := { dst := some 114, op := Op.call { callee := Callee.value (Operand.func 20), args := #[Operand.tmp 112, Operand.tmp 113], argTypes := #[32, 24] }, type := 3, pos := "more.go:26", after := #[{ on := 18, ground := Ground.data }, { on := 19, ground := Ground.data }, { on := 17, ground := Ground.chain }, { on := 14, ground := Ground.guard }], guard := some (14, true) }) rfl (fun K hK => ?_) AllReadyH.nil
      go_simp
      refine (KRy.out _ HBt HFd).mono ?_; rintro e w1 ⟨rfl, hF, hb⟩; replace HBt := HBt.trans hb; clear HFd; have HFd := hF; clear hF hb
      refine hK.out _ _ (HM.out _ HBt) (fun hHeld => ?_)
      clear hK K
      (try dsimp only [Act.put])
      refine wpAnyH_take (i := 21) (oi := { dst := some 115, op := Op.binOp BinOp.leq 3 (Operand.tmp 111) (Operand.tmp 114) 3, type := 4, pos := "more.go:26", after := #[{ on := 17, ground := Ground.data }, { on := 20, ground := Ground.data }, { on := 14, ground := Ground.guard }], guard := some (14, true) }) (v := .bool true) rfl (by kernel_rfl) (by kernel_rfl) (by kernel_rfl) (fun _ _ _ h => h) (Or.inl ⟨by rfl, ?_⟩) hHeld ?_
      · (intro w hSw; (try dsimp only at hSw); go_simp)
      simp only [Act.put, List.setIfInBounds_toArray, List.set_cons_zero, List.set_cons_succ]
      refine wpAnyH_take (i := 22) (oi := { dst := some 116, op := Op.pick (Operand.tmp 108) (Operand.tmp 115) (Operand.const (Value.bool false)), type := 4, pos := "more.go:26", after := #[{ on := 14, ground := Ground.data }, { on := 21, ground := Ground.data }], guard := none }) (v := .bool true) rfl (by kernel_rfl) (by kernel_rfl) (by kernel_rfl) (fun _ _ _ h => h) (Or.inl ⟨by rfl, ?_⟩) hHeld ?_
      · (intro w hSw; (try dsimp only at hSw); go_simp)
      simp only [Act.put, List.setIfInBounds_toArray, List.set_cons_zero, List.set_cons_succ]
      refine wpAnyH_take (i := 23) (oi := { dst := some 117, op := Op.move (Operand.tmp 116), type := 4, pos := "more.go:26", after := #[{ on := 22, ground := Ground.data }, { on := 20, ground := Ground.chain }], guard := none }) (v := .bool true) rfl (by kernel_rfl) (by kernel_rfl) (by kernel_rfl) (fun _ _ _ h => h) (Or.inl ⟨by rfl, ?_⟩) hHeld ?_
      · (intro w hSw; (try dsimp only at hSw); go_simp)
      simp only [Act.put, List.setIfInBounds_toArray, List.set_cons_zero, List.set_cons_succ]
      refine wpAnyH_take (i := 24) (oi := { dst := some 118, op := Op.move (Operand.tmp 26), type := 4, pos := "more.go:26", after := #[{ on := 23, ground := Ground.guard }], guard := some (23, true) }) (v := .bool false) rfl (by kernel_rfl) (by kernel_rfl) (by kernel_rfl) (fun _ _ _ h => h) (Or.inl ⟨by rfl, ?_⟩) hHeld ?_
      · (intro w hSw; (try dsimp only at hSw); go_simp)
      simp only [Act.put, List.setIfInBounds_toArray, List.set_cons_zero, List.set_cons_succ]
      refine wpAnyH_take (i := 25) (oi := { dst := some 119, op := Op.unOp UnOp.not 4 (Operand.tmp 118), type := 4, pos := "more.go:26", after := #[{ on := 24, ground := Ground.data }, { on := 23, ground := Ground.guard }], guard := some (23, true) }) (v := .bool true) rfl (by kernel_rfl) (by kernel_rfl) (by kernel_rfl) (fun _ _ _ h => h) (Or.inl ⟨by rfl, ?_⟩) hHeld ?_
      · (intro w hSw; (try dsimp only at hSw); go_simp)
      simp only [Act.put, List.setIfInBounds_toArray, List.set_cons_zero, List.set_cons_succ]
      refine wpAnyH_take (i := 26) (oi := { dst := some 120, op := Op.move (Operand.tmp 119), type := 4, pos := "more.go:26", after := #[{ on := 25, ground := Ground.data }, { on := 23, ground := Ground.chain }, { on := 23, ground := Ground.guard }], guard := some (23, true) }) (v := .bool true) rfl (by kernel_rfl) (by kernel_rfl) (by kernel_rfl) (fun _ _ _ h => h) (Or.inl ⟨by rfl, ?_⟩) hHeld ?_
      · (intro w hSw; (try dsimp only at hSw); go_simp)
      simp only [Act.put, List.setIfInBounds_toArray, List.set_cons_zero, List.set_cons_succ]
      refine wpAnyH_take (i := 27) (oi := { dst := some 121, op := Op.move (Operand.tmp 17), type := 32, pos := "more.go:26", after := #[{ on := 26, ground := Ground.guard }], guard := some (26, false) }) (v := undef) rfl (by kernel_rfl) (by kernel_rfl) (by kernel_rfl) (fun _ _ _ h => h) (Or.inr ⟨by rfl, rfl⟩) hHeld ?_
      simp only [Act.put, List.setIfInBounds_toArray, List.set_cons_zero, List.set_cons_succ]
      refine wpAnyH_take (i := 28) (oi := { dst := some 122, op := Op.load 24 (Operand.tmp 23), type := 24, pos := "more.go:26", after := #[{ on := 26, ground := Ground.guard }], guard := some (26, false) }) (v := undef) rfl (by kernel_rfl) (by kernel_rfl) (by kernel_rfl) (fun _ _ _ h => h) (Or.inr ⟨by rfl, rfl⟩) hHeld ?_
      simp only [Act.put, List.setIfInBounds_toArray, List.set_cons_zero, List.set_cons_succ]
      refine wpAnyH_take (i := 30) (oi := { dst := some 124, op := Op.move (Operand.tmp 27), type := 3, pos := "more.go:26", after := #[{ on := 26, ground := Ground.guard }], guard := some (26, false) }) (v := undef) rfl (by kernel_rfl) (by kernel_rfl) (by kernel_rfl) (fun _ _ _ h => h) (Or.inr ⟨by rfl, rfl⟩) hHeld ?_
      simp only [Act.put, List.setIfInBounds_toArray, List.set_cons_zero, List.set_cons_succ]
      refine wpAnyH_ready (rs := [29]) (by kernel_rfl) (by simp) ?_
      refine AllReadyH.cons (o := { dst := some 123, op := Op.call { callee := Callee.value (Operand.func 20), args := #[Operand.tmp 121, Operand.tmp 122], argTypes := #[32, 24] }, type := 3, pos := "more.go:26", after := #[{ on := 27, ground := Ground.data }, { on := 28, ground := Ground.data }, { on := 26, ground := Ground.chain }, { on := 26, ground := Ground.guard }], guard := some (26, false) }) rfl (fun K hK => ?_) AllReadyH.nil
      rw [if_neg]
      case hnc => (intro h; exact Bool.noConfusion (show false = true from h))
      refine hK.out _ _ (HM.out _ HBt) (fun hHeld => ?_)
      clear hK K
      simp only [Act.put, List.setIfInBounds_toArray, List.set_cons_zero, List.set_cons_succ]
      refine wpAnyH_take (i := 31) (oi := { dst := some 125, op := Op.binOp BinOp.eql 3 (Operand.tmp 123) (Operand.tmp 124) 3, type := 4, pos := "more.go:26", after := #[{ on := 29, ground := Ground.data }, { on := 30, ground := Ground.data }, { on := 26, ground := Ground.guard }], guard := some (26, false) }) (v := undef) rfl (by kernel_rfl) (by kernel_rfl) (by kernel_rfl) (fun _ _ _ h => h) (Or.inr ⟨by rfl, rfl⟩) hHeld ?_
      simp only [Act.put, List.setIfInBounds_toArray, List.set_cons_zero, List.set_cons_succ]
      refine wpAnyH_take (i := 32) (oi := { dst := some 126, op := Op.pick (Operand.tmp 120) (Operand.const (Value.bool true)) (Operand.tmp 125), type := 4, pos := "more.go:26", after := #[{ on := 26, ground := Ground.data }, { on := 31, ground := Ground.data }, { on := 23, ground := Ground.guard }], guard := some (23, true) }) (v := .bool true) rfl (by kernel_rfl) (by kernel_rfl) (by kernel_rfl) (fun _ _ _ h => h) (Or.inl ⟨by rfl, ?_⟩) hHeld ?_
      · (intro w hSw; (try dsimp only at hSw); go_simp)
      simp only [Act.put, List.setIfInBounds_toArray, List.set_cons_zero, List.set_cons_succ]
      refine wpAnyH_take (i := 33) (oi := { dst := some 127, op := Op.pick (Operand.tmp 117) (Operand.tmp 126) (Operand.const (Value.bool false)), type := 4, pos := "more.go:26", after := #[{ on := 23, ground := Ground.data }, { on := 32, ground := Ground.data }], guard := none }) (v := .bool true) rfl (by kernel_rfl) (by kernel_rfl) (by kernel_rfl) (fun _ _ _ h => h) (Or.inl ⟨by rfl, ?_⟩) hHeld ?_
      · (intro w hSw; (try dsimp only at hSw); go_simp)
      simp only [Act.put, List.setIfInBounds_toArray, List.set_cons_zero, List.set_cons_succ]
      refine wpAnyH_take (i := 34) (oi := { dst := some 16, op := Op.assign (Operand.tmp 127), type := 4, pos := "more.go:26", after := #[{ on := 33, ground := Ground.data }, { on := 29, ground := Ground.chain }, { on := 0, ground := Ground.phase }, { on := 1, ground := Ground.phase }, { on := 2, ground := Ground.phase }, { on := 3, ground := Ground.phase }, { on := 4, ground := Ground.phase }, { on := 5, ground := Ground.phase }, { on := 6, ground := Ground.phase }, { on := 7, ground := Ground.phase }, { on := 8, ground := Ground.phase }, { on := 9, ground := Ground.phase }, { on := 10, ground := Ground.phase }, { on := 11, ground := Ground.phase }, { on := 12, ground := Ground.phase }, { on := 13, ground := Ground.phase }, { on := 14, ground := Ground.phase }, { on := 15, ground := Ground.phase }, { on := 16, ground := Ground.phase }, { on := 17, ground := Ground.phase }, { on := 18, ground := Ground.phase }, { on := 19, ground := Ground.phase }, { on := 20, ground := Ground.phase }, { on := 21, ground := Ground.phase }, { on := 22, ground := Ground.phase }, { on := 23, ground := Ground.phase }, { on := 24, ground := Ground.phase }, { on := 25, ground := Ground.phase }, { on := 26, ground := Ground.phase }, { on := 27, ground := Ground.phase }, { on := 28, ground := Ground.phase }, { on := 29, ground := Ground.phase }, { on := 30, ground := Ground.phase }, { on := 31, ground := Ground.phase }, { on := 32, ground := Ground.phase }, { on := 33, ground := Ground.phase }], guard := none }) (v := .bool true) rfl (by kernel_rfl) (by kernel_rfl) (by kernel_rfl) (fun _ _ _ h => h) (Or.inl ⟨by rfl, ?_⟩) hHeld ?_
      · (intro w hSw; (try dsimp only at hSw); go_simp)
      simp only [Act.put, List.setIfInBounds_toArray, List.set_cons_zero, List.set_cons_succ]
      refine wpAnyH_done (by kernel_rfl) ?_ _
      go_wp2
      go_ret
      exact ⟨rfl, HB.trans (HBt.below HB.size (by rintro k rfl; exact HL_f))⟩
theorem own : ownKnob Tryz.prog.godebug = none := by kernel_rfl
theorem laidOut : laidOutB Tryz.prog = true := by kernel_rfl
set_option maxRecDepth 100000 in
theorem lifted (os : Os) (started : os.Started) (H : Type) (enc : TypeId × Value → H) :
    ReturnsInHanded {} Tryz.checked os 9 .any (Rows.gaussRankSpec.pre6 enc Tryz.prog Tryz.f9 Rows.gaussRankRow.domain false) (Rows.gaussRankSpec.post enc Tryz.prog Tryz.f9 false true false false) := by
  refine returnsInHanded_of_change_sized (C := Tryz.checked) own started (by kernel_rfl) Tryz.func9
    (ChangeSpec.witness6 (enc := enc) (C := Tryz.checked) false ⟨#[], #[.int .u8 0, .slice none 0 0, .slice none 0 0, .slice none 0 0, .int .u8 0, .int .u8 0, .int .u8 0, .int .u8 0], []⟩ 8 (by kernel_rfl) (by kernel_rfl) (by kernel_rfl) (by kernel_rfl)) ?_
  intro W base args ds gs before hval0 hW _ hz _
  have hval : ∀ (j : Nat) t v, Tryz.f9.params[j]? = some t → args[j]? = some v → Value.okWide Tryz.prog W .any base t v := hval0
  have hW' := hW
  obtain ⟨p, q, hA0, hV, rfl, _, _⟩ := hW
  have hA : DataW.TrodAll enc Tryz.prog W 0 (fun _ => true) true Tryz.f9.params.toList args.toList ds p := hA0
  rw [Tryz.params9] at hA hval
  obtain ⟨v0, vs0, d0, ds0, p0, q0, hargs, rfl, rfl, h0, r0⟩ := trodAll_cons hA
  obtain ⟨v1, vs1, d1, ds1, p1, q1, rfl, rfl, rfl, h1, r1⟩ := trodAll_cons r0
  obtain ⟨v2, vs2, d2, ds2, p2, q2, rfl, rfl, rfl, h2, r2⟩ := trodAll_cons r1
  obtain ⟨v3, vs3, d3, ds3, p3, q3, rfl, rfl, rfl, h3, r3⟩ := trodAll_cons r2
  obtain ⟨v4, vs4, d4, ds4, p4, q4, rfl, rfl, rfl, h4, r4⟩ := trodAll_cons r3
  obtain ⟨v5, vs5, d5, ds5, p5, q5, rfl, rfl, rfl, h5, r5⟩ := trodAll_cons r4
  obtain ⟨v6, vs6, d6, ds6, p6, q6, rfl, rfl, rfl, h6, r6⟩ := trodAll_cons r5
  obtain ⟨v7, vs7, d7, ds7, p7, q7, rfl, rfl, rfl, h7, r7⟩ := trodAll_cons r6
  obtain ⟨rfl, rfl, rfl⟩ := trodAll_nil r7
  obtain rfl : args = #[v0, v1, v2, v3, v4, v5, v6, v7] := by cases args; simp_all
  obtain ⟨rfl, rfl⟩ := trodVars_none hV
  obtain ⟨a0, rfl, rfl, rfl, w0⟩ := open_int Tryz.underlying5 (hval 0 5 v0 rfl rfl) h0
  obtain ⟨n0, b0, rfl⟩ := nat_of_u8 w0
  have k1 := h1
  obtain ⟨q1, n1, c1, xs1, rfl, w1, m1⟩ := open_bytes_sz Tryz.underlying22 Tryz.underlying5 (by kernel_rfl) (hval 1 22 v1 rfl rfl) h1
  have y1 : n1 ≤ c1 ∧ c1 ≤ 140737488351232 := ⟨m1.1, m1.2 _ fun el sp hd => by have := sized_slice (j := 1) (t := 22) (e := 5) (elems := el) (spare := sp) hz (by kernel_rfl) (by first | (rw [← hd]; done) | (rw [← hd]; rfl)) Tryz.underlying22; have hbe : Tryz.checked.prog.bytesOf 5 = 1 := (by kernel_rfl); have hre : reachBytes = 140737488351232 := rfl; rw [hbe, hre] at this; omega⟩
  have k2 := h2
  obtain ⟨q2, n2, c2, xs2, rfl, w2, m2⟩ := open_bytes_sz Tryz.underlying22 Tryz.underlying5 (by kernel_rfl) (hval 2 22 v2 rfl rfl) h2
  have y2 : n2 ≤ c2 ∧ c2 ≤ 140737488351232 := ⟨m2.1, m2.2 _ fun el sp hd => by have := sized_slice (j := 2) (t := 22) (e := 5) (elems := el) (spare := sp) hz (by kernel_rfl) (by first | (rw [← hd]; done) | (rw [← hd]; rfl)) Tryz.underlying22; have hbe : Tryz.checked.prog.bytesOf 5 = 1 := (by kernel_rfl); have hre : reachBytes = 140737488351232 := rfl; rw [hbe, hre] at this; omega⟩
  have k3 := h3
  obtain ⟨q3, n3, c3, xs3, rfl, w3, m3⟩ := open_bytes_sz Tryz.underlying22 Tryz.underlying5 (by kernel_rfl) (hval 3 22 v3 rfl rfl) h3
  have y3 : n3 ≤ c3 ∧ c3 ≤ 140737488351232 := ⟨m3.1, m3.2 _ fun el sp hd => by have := sized_slice (j := 3) (t := 22) (e := 5) (elems := el) (spare := sp) hz (by kernel_rfl) (by first | (rw [← hd]; done) | (rw [← hd]; rfl)) Tryz.underlying22; have hbe : Tryz.checked.prog.bytesOf 5 = 1 := (by kernel_rfl); have hre : reachBytes = 140737488351232 := rfl; rw [hbe, hre] at this; omega⟩
  obtain ⟨a4, rfl, rfl, rfl, w4⟩ := open_int Tryz.underlying5 (hval 4 5 v4 rfl rfl) h4
  obtain ⟨n4, b4, rfl⟩ := nat_of_u8 w4
  obtain ⟨a5, rfl, rfl, rfl, w5⟩ := open_int Tryz.underlying5 (hval 5 5 v5 rfl rfl) h5
  obtain ⟨n5, b5, rfl⟩ := nat_of_u8 w5
  obtain ⟨a6, rfl, rfl, rfl, w6⟩ := open_int Tryz.underlying5 (hval 6 5 v6 rfl rfl) h6
  obtain ⟨n6, b6, rfl⟩ := nat_of_u8 w6
  obtain ⟨a7, rfl, rfl, rfl, w7⟩ := open_int Tryz.underlying5 (hval 7 5 v7 rfl rfl) h7
  obtain ⟨n7, b7, rfl⟩ := nat_of_u8 w7
  clear hA0 hval0
  simp only [List.append_nil] at hW'
  refine (walk (w := W) n0 q1 n1 c1 xs1 q2 n2 c2 xs2 q3 n3 c3 xs3 n4 n5 n6 n7 b0 w1 y1 w2 y2 w3 y3 b4 b5 b6 b7).mono fun e W' ⟨he, bel⟩ => ?_
  subst he
  exact ⟨_, rfl, _, _, _, [], _, [], hW', trodAll_mk1 (shut_bool Tryz.underlying4 _), (trodAll_cons_mk (shut_int Tryz.underlying5 w0) (trodAll_cons_mk (shut_same laidOut (by kernel_rfl) (of_decide_eq_true (by kernel_rfl)) k1 bel) (trodAll_cons_mk (shut_same laidOut (by kernel_rfl) (of_decide_eq_true (by kernel_rfl)) k2 bel) (trodAll_cons_mk (shut_same laidOut (by kernel_rfl) (of_decide_eq_true (by kernel_rfl)) k3 bel) (trodAll_cons_mk (shut_int Tryz.underlying5 w4) (trodAll_cons_mk (shut_int Tryz.underlying5 w5) (trodAll_cons_mk (shut_int Tryz.underlying5 w6) (trodAll_cons_mk (shut_int Tryz.underlying5 w7) trodAll_mk0)))))))), rfl, bel.frame _, fun h => by cases h⟩
theorem over : Rows.gaussRankRow.holds Tryz.pinned (OpenSpec.ofChange Rows.gaussRankSpec) :=
  OpenClaim.holds_of_wide 9 Tryz.f9 rfl rfl rfl rfl rfl rfl rfl ⟨rfl, rfl, rfl, rfl, rfl⟩ rfl rfl rfl rfl rfl (by kernel_rfl) Tryz.func9 (by kernel_rfl)
    (of_decide_eq_true (by kernel_rfl)) (by unfold Func.isWrapper; first | (rw [if_pos (by decide +kernel)]; kernel_rfl) | (rw [if_neg (by decide +kernel)]; exact ⟨rfl, rfl⟩))
    (fun os started H enc _ => lifted os started H enc)
theorem proved : Rows.GaussRankSaid := over
#print axioms proved
end Go.Proofs.YtnphdldcfdpflaaGreat.gaussRank
