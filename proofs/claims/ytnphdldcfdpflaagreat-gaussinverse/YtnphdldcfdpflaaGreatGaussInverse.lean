/- GaussInverse holds for every input: there is an inverse where the rank is full; it turns on both sides, and back. No conditions. -/
import Derived.Test.YtnphdldcfdpflaaGreatRows
import Derived.Test.YtnphdldcfdpflaaGreatMB
import Derived.Test.YtnphdldcfdpflaaGreatKnown09
import Derived.Test.YtnphdldcfdpflaaGreatNG
import Derived.Test.YtnphdldcfdpflaaGreatNK
namespace Go.Proofs.YtnphdldcfdpflaaGreat.gaussInverse
open Go.ChangeShapes Go.WideShapes Go.ChangeAt Go.RowKit
open Mx (mx IsEch IsInv chL thL mulL oneL)
open Pol (ofL Byt)

set_option maxRecDepth 100000 in
set_option maxHeartbeats 4000000 in
theorem walk (j : Nat) (q : Option Addr) (n c : Nat) (xs : List Nat) (k b : Nat) (w : World) (hj : j < 256) (S_c : Bs w q n xs) (_ : n ≤ c ∧ c ≤ 140737488351232) (hk : k < 256) (hbt : b < 256) :
    Calls Tryz.prog 6 #[.int .u8 j, .slice q n c, .int .u8 k, .int .u8 b] w fun e w' => e = .returned (.bool true) ∧ Below w.heap.size w w' := by
  obtain ⟨g, hg⟩ : ∃ g : Nat, 1 + j % 3 = g := ⟨_, rfl⟩
  have hg1 : 1 ≤ g := by omega
  have hg3 : g ≤ 3 := by omega
  have hgi : (1 : Int) + (j : Int) % 3 = (g : Int) := by omega
  obtain ⟨R, hR⟩ : ∃ R : Nat, k % 7 = R := ⟨_, rfl⟩
  have hRi : (k : Int) % 7 = (R : Int) := by omega
  have hR5 : R ≤ 100 := by omega
  clear hg hR
  have HB : Below w.heap.size w w := Below.refl _ _
  go_enter Tryz.func6, Tryz.ntmps6
  go_wp2_with fail
  refine (fof_calls g hg1 hg3 _).mono ?_
  rintro e w1 ⟨B_f, T_f, rfl, HF_f, hb, hlB, hlT⟩
  have HL_f : w.heap.size ≤ T_f := Nat.le_trans HB.size hlT
  have Q_c_f := S_c.off hlT
  replace HB := HB.trans (hb.mono HB.size)
  replace S_c := S_c.below hb
  clear hb hlB hlT
  clear hgi
  by_cases hbig : 200 < n
  · have hb1 : (200 : Int) < (n : Int) := by omega
    go_wp2_with fail
    refine (known09_calls _).mono ?_
    rintro e w2 ⟨rfl, hb⟩
    replace HB := HB.trans (hb.mono HB.size)
    replace HF_f := HF_f.below hb
    replace S_c := S_c.below hb
    clear hb
    go_wp2
    go_ret
    exact ⟨rfl, HB⟩
  · have hb1 : ((200 : Int) < (n : Int)) = False := eq_false (by omega)
    have hn9 : n ≤ 1000000 := by omega
    clear hbig
    obtain ⟨s, hs⟩ : ∃ s, R * R = s := ⟨_, rfl⟩
    have HX : Hid (R * R = s ∧ Byt xs) := ⟨hs, S_c.byte⟩
    clear hs
    go_wp2_with fail
    refine (lthin_calls R R n c b q xs hR5 hR5 hn9 hbt _ S_c).mono ?_
    rintro e w2 ⟨v, rfl, hO, hb⟩
    obtain ⟨q_x, c_x, rfl, S_x, C_x, hQ⟩ := hO.tell (n := s) (Mx.thL_byt HX.out.2 _ _ hbt) (by rw [Mx.thL_length]; exact HX.out.1)
    clear hO
    have Q_x_f := hQ _ HF_f.lt
    clear hQ
    replace HB := HB.trans (hb.mono HB.size)
    replace HF_f := HF_f.below hb
    replace S_c := S_c.below hb
    clear hb
    clear S_c hb1 hRi hn9
    obtain ⟨es, hes⟩ : ∃ es, thL xs R R b = es := ⟨_, rfl⟩
    have HE : Hid (Byt es ∧ es.length = R * R) := by rw [← hes]; exact ⟨Mx.thL_byt HX.out.2 _ _ hbt, Mx.thL_length _ _ _ _⟩
    rw [hes] at S_x
    clear hes
    obtain ⟨P_bx, hP_bx⟩ : ∃ P, w2.heap.size = P := ⟨_, rfl⟩
    obtain ⟨w3, hw3⟩ : ∃ W, w2.alloc (.cells #[.int .i64 (R : Nat), .int .i64 (R : Nat), .slice q_x s c_x] 24) = W := ⟨_, rfl⟩
    have hb : Below w2.heap.size w2 w3 := hw3 ▸ (Below.refl _ w2).alloc (Nat.le_refl _) _
    have N_bx_f : ¬ P_bx = T_f := by have := HF_f.lt; omega
    have M_bx : Mb w3 P_bx (.int .i64 (R : Nat)) (.int .i64 (R : Nat)) (.slice q_x s c_x) := by rw [← hP_bx, ← hw3]; exact mb_new w2 _ _ _
    replace HB := HB.trans (hb.mono HB.size)
    replace HF_f := HF_f.below hb
    replace S_x := S_x.below hb
    clear hb
    obtain ⟨ws, L, hL⟩ := Mx.isEch_exists R R es
    obtain ⟨r, hr⟩ : ∃ r, L.length = r := ⟨_, rfl⟩
    have HL : Hid (EchO (R : Int) (R : Int) s es R R ws L ∧ L.length = r) := ⟨.inl ⟨right_nat (by omega) (by omega) HX.out.1.symm, rfl, rfl, hL⟩, hr⟩
    have hiff := Mx.isInv_iff hL
    rw [hr] at hiff
    clear hL hr
    by_cases hrR : r = R
    · obtain ⟨zs, hz⟩ := hiff.2 hrR
      have HZ : Hid (InO (R : Int) (R : Int) s es R zs true ∧ IsInv R es zs ∧ InO (R : Int) (R : Int) s zs R es true ∧ mulL R R R es zs = oneL R ∧ mulL R R R zs es = oneL R ∧ zs.length = s) := ⟨.inl ⟨rfl, right_nat (by omega) (by omega) HX.out.1.symm, rfl, rfl, hz⟩, hz, .inl ⟨rfl, right_nat (by omega) (by omega) HX.out.1.symm, rfl, rfl, hz.back HE.out.2 HE.out.1⟩, hz.right, hz.left, hz.len.trans HX.out.1⟩
      subst hrR
      clear hiff hz
      have u_bx0 := M_bx.c0
      have u_bx1 := M_bx.c1
      have u_bx2 := M_bx.c2
      go_wp2_with fail
      refine (ginv_calls g B_f T_f (r : Int) (r : Int) q_x s c_x es r zs true HZ.out.1 (by omega) (by omega) (by omega) (by omega) C_x _ S_x HF_f).mono ?_
      rintro e w4 ⟨v, rfl, hO, hF, hb⟩
      obtain ⟨q_i, c_i, rfl, S_i, C_i, hQ⟩ := hO.tell (n := s) HZ.out.2.1.byt HZ.out.2.2.2.2.2
      clear hO
      have Q_i_f := hQ _ HF_f.lt
      clear hQ
      replace HB := HB.trans (hb.below HB.size (by rintro k rfl; exact HL_f))
      replace S_x := S_x.but hb Q_x_f
      replace M_bx := M_bx.but hb N_bx_f
      clear HF_f hb
      have HF_f := hF
      clear hF
      clear hP_bx hw3 u_bx0 u_bx1 u_bx2
      obtain ⟨P_bi, hP_bi⟩ : ∃ P, w4.heap.size = P := ⟨_, rfl⟩
      obtain ⟨w5, hw5⟩ : ∃ W, w4.alloc (.cells #[.int .i64 (r : Nat), .int .i64 (r : Nat), .slice q_i s c_i] 24) = W := ⟨_, rfl⟩
      have hb : Below w4.heap.size w4 w5 := hw5 ▸ (Below.refl _ w4).alloc (Nat.le_refl _) _
      have N_bi_f : ¬ P_bi = T_f := by have := HF_f.lt; omega
      have M_bi : Mb w5 P_bi (.int .i64 (r : Nat)) (.int .i64 (r : Nat)) (.slice q_i s c_i) := by rw [← hP_bi, ← hw5]; exact mb_new w4 _ _ _
      replace HB := HB.trans (hb.mono HB.size)
      replace HF_f := HF_f.below hb
      replace S_x := S_x.below hb
      replace S_i := S_i.below hb
      replace M_bx := M_bx.below hb
      clear hb
      have u_bx0 := M_bx.c0
      have u_bx1 := M_bx.c1
      have u_bx2 := M_bx.c2
      go_wp2_with fail
      refine (grank_calls g B_f T_f (r : Int) (r : Int) q_x s c_x es r r ws L r HL.out.1 HL.out.2 (by omega) (by omega) (by omega) (by omega) C_x _ S_x HF_f Q_x_f).mono ?_
      rintro e w6 ⟨rfl, hF, hb⟩
      replace HB := HB.trans (hb.below HB.size (by rintro k rfl; exact HL_f))
      replace S_x := S_x.but hb Q_x_f
      replace S_i := S_i.but hb Q_i_f
      replace M_bx := M_bx.but hb N_bx_f
      replace M_bi := M_bi.but hb N_bi_f
      clear HF_f hb
      have HF_f := hF
      clear hF
      clear hP_bi hw5 u_bx0 u_bx1 u_bx2
      have u_bx0 := M_bx.c0
      have u_bx1 := M_bx.c1
      have u_bx2 := M_bx.c2
      have u_bi0 := M_bi.c0
      have u_bi1 := M_bi.c1
      have u_bi2 := M_bi.c2
      go_wp2_with fail
      refine (mmul_calls g B_f T_f r r r s c_x s c_i q_x q_i es zs HX.out.1.symm HX.out.1.symm C_x C_i (by omega) (by omega) (by omega) _ HF_f S_x S_i Q_x_f).mono ?_
      rintro e w7 ⟨v, rfl, hO, hF, hb⟩
      obtain ⟨q_l, c_l, rfl, S_l, C_l, hQ⟩ := hO.tell (n := s) (Mx.cells_byt _ _ _) (by rw [mulL, Mx.cells_length]; exact HX.out.1)
      clear hO
      have Q_l_f := hQ _ HF_f.lt
      clear hQ
      replace HB := HB.trans (hb.below HB.size (by rintro k rfl; exact HL_f))
      replace S_x := S_x.but hb Q_x_f
      replace S_i := S_i.but hb Q_i_f
      replace M_bx := M_bx.but hb N_bx_f
      replace M_bi := M_bi.but hb N_bi_f
      clear HF_f hb
      have HF_f := hF
      clear hF
      clear u_bx0 u_bx1 u_bx2 u_bi0 u_bi1 u_bi2
      rw [HZ.out.2.2.2.1] at S_l
      obtain ⟨P_bl, hP_bl⟩ : ∃ P, w7.heap.size = P := ⟨_, rfl⟩
      obtain ⟨w8, hw8⟩ : ∃ W, w7.alloc (.cells #[.int .i64 (r : Nat), .int .i64 (r : Nat), .slice q_l s c_l] 24) = W := ⟨_, rfl⟩
      have hb : Below w7.heap.size w7 w8 := hw8 ▸ (Below.refl _ w7).alloc (Nat.le_refl _) _
      have N_bl_f : ¬ P_bl = T_f := by have := HF_f.lt; omega
      have M_bl : Mb w8 P_bl (.int .i64 (r : Nat)) (.int .i64 (r : Nat)) (.slice q_l s c_l) := by rw [← hP_bl, ← hw8]; exact mb_new w7 _ _ _
      replace HB := HB.trans (hb.mono HB.size)
      replace HF_f := HF_f.below hb
      replace S_x := S_x.below hb
      replace S_i := S_i.below hb
      replace S_l := S_l.below hb
      replace M_bx := M_bx.below hb
      replace M_bi := M_bi.below hb
      clear hb
      have u_bx0 := M_bx.c0
      have u_bx1 := M_bx.c1
      have u_bx2 := M_bx.c2
      have u_bi0 := M_bi.c0
      have u_bi1 := M_bi.c1
      have u_bi2 := M_bi.c2
      go_wp2_with fail
      refine (mmul_calls g B_f T_f r r r s c_i s c_x q_i q_x zs es HX.out.1.symm HX.out.1.symm C_i C_x (by omega) (by omega) (by omega) _ HF_f S_i S_x Q_i_f).mono ?_
      rintro e w9 ⟨v, rfl, hO, hF, hb⟩
      obtain ⟨q_t, c_t, rfl, S_t, C_t, hQ⟩ := hO.tell (n := s) (Mx.cells_byt _ _ _) (by rw [mulL, Mx.cells_length]; exact HX.out.1)
      clear hO
      have Q_t_f := hQ _ HF_f.lt
      clear hQ
      replace HB := HB.trans (hb.below HB.size (by rintro k rfl; exact HL_f))
      replace S_x := S_x.but hb Q_x_f
      replace S_i := S_i.but hb Q_i_f
      replace S_l := S_l.but hb Q_l_f
      replace M_bx := M_bx.but hb N_bx_f
      replace M_bi := M_bi.but hb N_bi_f
      replace M_bl := M_bl.but hb N_bl_f
      clear HF_f hb
      have HF_f := hF
      clear hF
      clear hP_bl hw8 u_bx0 u_bx1 u_bx2 u_bi0 u_bi1 u_bi2
      rw [HZ.out.2.2.2.2.1] at S_t
      obtain ⟨P_bt, hP_bt⟩ : ∃ P, w9.heap.size = P := ⟨_, rfl⟩
      obtain ⟨w10, hw10⟩ : ∃ W, w9.alloc (.cells #[.int .i64 (r : Nat), .int .i64 (r : Nat), .slice q_t s c_t] 24) = W := ⟨_, rfl⟩
      have hb : Below w9.heap.size w9 w10 := hw10 ▸ (Below.refl _ w9).alloc (Nat.le_refl _) _
      have N_bt_f : ¬ P_bt = T_f := by have := HF_f.lt; omega
      have M_bt : Mb w10 P_bt (.int .i64 (r : Nat)) (.int .i64 (r : Nat)) (.slice q_t s c_t) := by rw [← hP_bt, ← hw10]; exact mb_new w9 _ _ _
      replace HB := HB.trans (hb.mono HB.size)
      replace HF_f := HF_f.below hb
      replace S_x := S_x.below hb
      replace S_i := S_i.below hb
      replace S_l := S_l.below hb
      replace S_t := S_t.below hb
      replace M_bx := M_bx.below hb
      replace M_bi := M_bi.below hb
      replace M_bl := M_bl.below hb
      clear hb
      have u_bi0 := M_bi.c0
      have u_bi1 := M_bi.c1
      have u_bi2 := M_bi.c2
      go_wp2_with fail
      refine (ginv_calls g B_f T_f (r : Int) (r : Int) q_i s c_i zs r es true HZ.out.2.2.1 (by omega) (by omega) (by omega) (by omega) C_i _ S_i HF_f).mono ?_
      rintro e w11 ⟨v, rfl, hO, hF, hb⟩
      obtain ⟨q_k, c_k, rfl, S_k, C_k, hQ⟩ := hO.tell (n := s) HE.out.1 (HE.out.2.trans HX.out.1)
      clear hO
      have Q_k_f := hQ _ HF_f.lt
      clear hQ
      replace HB := HB.trans (hb.below HB.size (by rintro k rfl; exact HL_f))
      replace S_x := S_x.but hb Q_x_f
      replace S_i := S_i.but hb Q_i_f
      replace S_l := S_l.but hb Q_l_f
      replace S_t := S_t.but hb Q_t_f
      replace M_bx := M_bx.but hb N_bx_f
      replace M_bi := M_bi.but hb N_bi_f
      replace M_bl := M_bl.but hb N_bl_f
      replace M_bt := M_bt.but hb N_bt_f
      clear HF_f hb
      have HF_f := hF
      clear hF
      clear hP_bt hw10 u_bi0 u_bi1 u_bi2
      obtain ⟨P_bk, hP_bk⟩ : ∃ P, w11.heap.size = P := ⟨_, rfl⟩
      obtain ⟨w12, hw12⟩ : ∃ W, w11.alloc (.cells #[.int .i64 (r : Nat), .int .i64 (r : Nat), .slice q_k s c_k] 24) = W := ⟨_, rfl⟩
      have hb : Below w11.heap.size w11 w12 := hw12 ▸ (Below.refl _ w11).alloc (Nat.le_refl _) _
      have N_bk_f : ¬ P_bk = T_f := by have := HF_f.lt; omega
      have M_bk : Mb w12 P_bk (.int .i64 (r : Nat)) (.int .i64 (r : Nat)) (.slice q_k s c_k) := by rw [← hP_bk, ← hw12]; exact mb_new w11 _ _ _
      replace HB := HB.trans (hb.mono HB.size)
      replace HF_f := HF_f.below hb
      replace S_x := S_x.below hb
      replace S_i := S_i.below hb
      replace S_l := S_l.below hb
      replace S_t := S_t.below hb
      replace S_k := S_k.below hb
      replace M_bx := M_bx.below hb
      replace M_bi := M_bi.below hb
      replace M_bl := M_bl.below hb
      replace M_bt := M_bt.below hb
      clear hb
      go_wp2
      have HSd : Hid (∀ W', Below w12.heap.size w12 W' → Bs W' q_x s es ∧ Bs W' q_l s (oneL r) ∧ Bs W' q_t s (oneL r) ∧ Bs W' q_k s es) := fun W' h => ⟨S_x.below h, S_l.below h, S_t.below h, S_k.below h⟩
      have HM : Hid (∀ W', Below w12.heap.size w12 W' → W'.cell? ⟨P_bl, 0, none⟩ = some (.int .i64 (r : Nat)) ∧ W'.cell? ⟨P_bl, 1, none⟩ = some (.int .i64 (r : Nat)) ∧ W'.cell? ⟨P_bl, 2, none⟩ = some (.slice q_l s c_l) ∧ W'.cell? ⟨P_bt, 0, none⟩ = some (.int .i64 (r : Nat)) ∧ W'.cell? ⟨P_bt, 1, none⟩ = some (.int .i64 (r : Nat)) ∧ W'.cell? ⟨P_bt, 2, none⟩ = some (.slice q_t s c_t) ∧ W'.cell? ⟨P_bk, 0, none⟩ = some (.int .i64 (r : Nat)) ∧ W'.cell? ⟨P_bk, 1, none⟩ = some (.int .i64 (r : Nat)) ∧ W'.cell? ⟨P_bk, 2, none⟩ = some (.slice q_k s c_k) ∧ W'.cell? ⟨P_bx, 0, none⟩ = some (.int .i64 (r : Nat)) ∧ W'.cell? ⟨P_bx, 1, none⟩ = some (.int .i64 (r : Nat)) ∧ W'.cell? ⟨P_bx, 2, none⟩ = some (.slice q_x s c_x)) := fun W' h => ⟨(M_bl.below h).c0, (M_bl.below h).c1, (M_bl.below h).c2, (M_bt.below h).c0, (M_bt.below h).c1, (M_bt.below h).c2, (M_bk.below h).c0, (M_bk.below h).c1, (M_bk.below h).c2, (M_bx.below h).c0, (M_bx.below h).c1, (M_bx.below h).c2⟩
      have HBr : Below w12.heap.size w12 w12.drew := ⟨rfl, rfl, rfl, Nat.le_refl _, fun _ _ => rfl⟩
      have b0 := (M_bl).c0
      have b1 := (M_bl).c1
      have b2 := (M_bl).c2
      have d0 := (M_bt).c0
      have d1 := (M_bt).c1
      have d2 := (M_bt).c2
      have y0 := (M_bk).c0
      have y1 := (M_bk).c1
      have y2 := (M_bk).c2
      have z0 := (M_bx).c0
      have z1 := (M_bx).c1
      have z2 := (M_bx).c2
      clear S_x S_l S_t S_k S_i M_bl M_bt M_bk M_bx M_bi
      go_region_held3 (fun w' => w'.cell? ⟨P_bl, 0, none⟩ = some (.int .i64 (r : Nat)) ∧ w'.cell? ⟨P_bl, 1, none⟩ = some (.int .i64 (r : Nat)) ∧ w'.cell? ⟨P_bl, 2, none⟩ = some (.slice q_l s c_l) ∧ w'.cell? ⟨P_bt, 0, none⟩ = some (.int .i64 (r : Nat)) ∧ w'.cell? ⟨P_bt, 1, none⟩ = some (.int .i64 (r : Nat)) ∧ w'.cell? ⟨P_bt, 2, none⟩ = some (.slice q_t s c_t) ∧ w'.cell? ⟨P_bk, 0, none⟩ = some (.int .i64 (r : Nat)) ∧ w'.cell? ⟨P_bk, 1, none⟩ = some (.int .i64 (r : Nat)) ∧ w'.cell? ⟨P_bk, 2, none⟩ = some (.slice q_k s c_k) ∧ w'.cell? ⟨P_bx, 0, none⟩ = some (.int .i64 (r : Nat)) ∧ w'.cell? ⟨P_bx, 1, none⟩ = some (.int .i64 (r : Nat)) ∧ w'.cell? ⟨P_bx, 2, none⟩ = some (.slice q_x s c_x))
        (first | exact HM.out _ HBr | (go_keep; done))
        (first
          | (go_at_call 10; refine (known09_calls _).mono ?_; rintro e w1 ⟨rfl, hb⟩; replace HBr := HBr.trans (hb.mono HBr.size))
          | (go_at_call 24; refine (mone_calls r (by omega) _).mono ?_; rintro e w1 ⟨v, rfl, ho, hb⟩; replace HBr := HBr.trans (hb.mono HBr.size); obtain ⟨q_o, c_o, rfl, S_o, _⟩ := ho.told (Mx.cells_byt _ _ _); have hlo : (oneL r).length = s := (Mx.cells_length _ _ _).trans HX.out.1; rw [hlo] at S_o ⊢; clear ho hlo)
          | (go_at_call 23; with_reducible refine (msame_calls r r r r s c_l s _ q_l _ (oneL r) (oneL r) true (by simp) _ (HSd.out _ HBr).2.1 S_o).mono ?_; rintro e w1 ⟨rfl, hb⟩; replace HBr := HBr.trans (hb.mono HBr.size))
          | (go_at_call 23; with_reducible refine (msame_calls r r r r s c_t s c_l q_t q_l (oneL r) (oneL r) true (by simp) _ (HSd.out _ HBr).2.2.1 (HSd.out _ HBr).2.1).mono ?_; rintro e w1 ⟨rfl, hb⟩; replace HBr := HBr.trans (hb.mono HBr.size))
          | (go_at_call 23; with_reducible refine (msame_calls r r r r s c_k s c_x q_k q_x es es true (by simp) _ (HSd.out _ HBr).2.2.2 (HSd.out _ HBr).1).mono ?_; rintro e w1 ⟨rfl, hb⟩; replace HBr := HBr.trans (hb.mono HBr.size)))
      go_wp2
      go_ret
      exact ⟨rfl, HB.trans (HBr.mono HB.size)⟩
    · obtain ⟨zz, hzz⟩ : ∃ zz : Bool, zz = false := ⟨_, rfl⟩
      have HZ : Hid (InO (R : Int) (R : Int) s es 0 [] false) := .inr ⟨rfl, rfl, rfl, fun _ _ ys h => hrR (hiff.1 ⟨ys, by simpa using h⟩)⟩
      have hrR2 : ((r : Int) == (R : Int)) = false := by simp; omega
      have hrR3 : ((r : Int) = (R : Int)) = False := eq_false (by omega)
      clear hiff
      have u_bx0 := M_bx.c0
      have u_bx1 := M_bx.c1
      have u_bx2 := M_bx.c2
      go_wp2_with fail
      refine (ginv_calls g B_f T_f (R : Int) (R : Int) q_x s c_x es 0 [] false HZ.out (by omega) (by omega) (by omega) (by omega) C_x _ S_x HF_f).mono ?_
      rintro e w4 ⟨v, rfl, hO, hF, hb⟩
      obtain ⟨q_i, c_i, rfl, S_i, C_i, hQ⟩ := hO.tell (n := 0) (fun i => by simp) rfl
      clear hO
      have Q_i_f := hQ _ HF_f.lt
      clear hQ
      replace HB := HB.trans (hb.below HB.size (by rintro k rfl; exact HL_f))
      replace S_x := S_x.but hb Q_x_f
      replace M_bx := M_bx.but hb N_bx_f
      clear HF_f hb
      have HF_f := hF
      clear hF
      clear hP_bx hw3 u_bx0 u_bx1 u_bx2
      obtain ⟨P_bi, hP_bi⟩ : ∃ P, w4.heap.size = P := ⟨_, rfl⟩
      obtain ⟨w5, hw5⟩ : ∃ W, w4.alloc (.cells #[.int .i64 0, .int .i64 0, .slice q_i 0 c_i] 24) = W := ⟨_, rfl⟩
      have hb : Below w4.heap.size w4 w5 := hw5 ▸ (Below.refl _ w4).alloc (Nat.le_refl _) _
      have N_bi_f : ¬ P_bi = T_f := by have := HF_f.lt; omega
      have M_bi : Mb w5 P_bi (.int .i64 0) (.int .i64 0) (.slice q_i 0 c_i) := by rw [← hP_bi, ← hw5]; exact mb_new w4 _ _ _
      replace HB := HB.trans (hb.mono HB.size)
      replace HF_f := HF_f.below hb
      replace S_x := S_x.below hb
      replace S_i := S_i.below hb
      replace M_bx := M_bx.below hb
      clear hb
      have u_bx0 := M_bx.c0
      have u_bx1 := M_bx.c1
      have u_bx2 := M_bx.c2
      go_wp2_with fail
      refine (grank_calls g B_f T_f (R : Int) (R : Int) q_x s c_x es R R ws L r HL.out.1 HL.out.2 (by omega) (by omega) (by omega) (by omega) C_x _ S_x HF_f Q_x_f).mono ?_
      rintro e w6 ⟨rfl, hF, hb⟩
      replace HB := HB.trans (hb.below HB.size (by rintro k rfl; exact HL_f))
      replace S_x := S_x.but hb Q_x_f
      replace S_i := S_i.but hb Q_i_f
      replace M_bx := M_bx.but hb N_bx_f
      replace M_bi := M_bi.but hb N_bi_f
      clear HF_f hb
      have HF_f := hF
      clear hF
      clear hP_bi hw5 u_bx0 u_bx1 u_bx2
      go_wp2_with fail
      refine (known09_calls _).mono ?_
      rintro e w7 ⟨rfl, hb⟩
      replace HB := HB.trans (hb.mono HB.size)
      replace HF_f := HF_f.below hb
      replace S_x := S_x.below hb
      replace S_i := S_i.below hb
      replace M_bx := M_bx.below hb
      replace M_bi := M_bi.below hb
      clear hb
      have u_bi0 := M_bi.c0
      have u_bi1 := M_bi.c1
      have u_bi2 := M_bi.c2
      go_wp2
      go_ret
      exact ⟨rfl, HB⟩
theorem own : ownKnob Tryz.prog.godebug = none := by kernel_rfl
theorem laidOut : laidOutB Tryz.prog = true := by kernel_rfl
set_option maxRecDepth 100000 in
theorem lifted (os : Os) (started : os.Started) (H : Type) (enc : TypeId × Value → H) :
    ReturnsInHanded {} Tryz.checked os 6 .any (Rows.gaussInverseSpec.pre6 enc Tryz.prog Tryz.f6 Rows.gaussInverseRow.domain false) (Rows.gaussInverseSpec.post enc Tryz.prog Tryz.f6 false true false false) := by
  refine returnsInHanded_of_change_sized (C := Tryz.checked) own started (by kernel_rfl) Tryz.func6
    (ChangeSpec.witness6 (enc := enc) (C := Tryz.checked) false ⟨#[], #[.int .u8 0, .slice none 0 0, .int .u8 0, .int .u8 0], []⟩ 8 (by kernel_rfl) (by kernel_rfl) (by kernel_rfl) (by kernel_rfl)) ?_
  intro W base args ds gs before hval0 hW _ hz _
  have hval : ∀ (j : Nat) t v, Tryz.f6.params[j]? = some t → args[j]? = some v → Value.okWide Tryz.prog W .any base t v := hval0
  have hW' := hW
  obtain ⟨p, q, hA0, hV, rfl, _, _⟩ := hW
  have hA : DataW.TrodAll enc Tryz.prog W 0 (fun _ => true) true Tryz.f6.params.toList args.toList ds p := hA0
  rw [Tryz.params6] at hA hval
  obtain ⟨v0, vs0, d0, ds0, p0, q0, hargs, rfl, rfl, h0, r0⟩ := trodAll_cons hA
  obtain ⟨v1, vs1, d1, ds1, p1, q1, rfl, rfl, rfl, h1, r1⟩ := trodAll_cons r0
  obtain ⟨v2, vs2, d2, ds2, p2, q2, rfl, rfl, rfl, h2, r2⟩ := trodAll_cons r1
  obtain ⟨v3, vs3, d3, ds3, p3, q3, rfl, rfl, rfl, h3, r3⟩ := trodAll_cons r2
  obtain ⟨rfl, rfl, rfl⟩ := trodAll_nil r3
  obtain rfl : args = #[v0, v1, v2, v3] := by cases args; simp_all
  obtain ⟨rfl, rfl⟩ := trodVars_none hV
  obtain ⟨a0, rfl, rfl, rfl, w0⟩ := open_int Tryz.underlying5 (hval 0 5 v0 rfl rfl) h0
  obtain ⟨n0, b0, rfl⟩ := nat_of_u8 w0
  have k1 := h1
  obtain ⟨q1, n1, c1, xs1, rfl, w1, m1⟩ := open_bytes_sz Tryz.underlying22 Tryz.underlying5 (by kernel_rfl) (hval 1 22 v1 rfl rfl) h1
  have y1 : n1 ≤ c1 ∧ c1 ≤ 140737488351232 := ⟨m1.1, m1.2 _ fun el sp hd => by have := sized_slice (j := 1) (t := 22) (e := 5) (elems := el) (spare := sp) hz (by kernel_rfl) (by first | (rw [← hd]; done) | (rw [← hd]; rfl)) Tryz.underlying22; have hbe : Tryz.checked.prog.bytesOf 5 = 1 := (by kernel_rfl); have hre : reachBytes = 140737488351232 := rfl; rw [hbe, hre] at this; omega⟩
  obtain ⟨a2, rfl, rfl, rfl, w2⟩ := open_int Tryz.underlying5 (hval 2 5 v2 rfl rfl) h2
  obtain ⟨n2, b2, rfl⟩ := nat_of_u8 w2
  obtain ⟨a3, rfl, rfl, rfl, w3⟩ := open_int Tryz.underlying5 (hval 3 5 v3 rfl rfl) h3
  obtain ⟨n3, b3, rfl⟩ := nat_of_u8 w3
  clear hA0 hval0
  simp only [List.append_nil] at hW'
  refine (walk (w := W) n0 q1 n1 c1 xs1 n2 n3 b0 w1 y1 b2 b3).mono fun e W' ⟨he, bel⟩ => ?_
  subst he
  exact ⟨_, rfl, _, _, _, [], _, [], hW', trodAll_mk1 (shut_bool Tryz.underlying4 _), (trodAll_cons_mk (shut_int Tryz.underlying5 w0) (trodAll_cons_mk (shut_same laidOut (by kernel_rfl) (of_decide_eq_true (by kernel_rfl)) k1 bel) (trodAll_cons_mk (shut_int Tryz.underlying5 w2) (trodAll_cons_mk (shut_int Tryz.underlying5 w3) trodAll_mk0)))), rfl, bel.frame _, fun h => by cases h⟩
theorem over : Rows.gaussInverseRow.holds Tryz.pinned (OpenSpec.ofChange Rows.gaussInverseSpec) :=
  OpenClaim.holds_of_wide 6 Tryz.f6 rfl rfl rfl rfl rfl rfl rfl ⟨rfl, rfl, rfl, rfl, rfl⟩ rfl rfl rfl rfl rfl (by kernel_rfl) Tryz.func6 (by kernel_rfl)
    (of_decide_eq_true (by kernel_rfl)) (by unfold Func.isWrapper; first | (rw [if_pos (by decide +kernel)]; kernel_rfl) | (rw [if_neg (by decide +kernel)]; exact ⟨rfl, rfl⟩))
    (fun os started H enc _ => lifted os started H enc)
theorem proved : Rows.GaussInverseSaid := over
#print axioms proved
end Go.Proofs.YtnphdldcfdpflaaGreat.gaussInverse
