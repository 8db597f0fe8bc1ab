/- GaussEchelon holds for every input: an echelon form is its own, a row's multiple on another one changes nothing, turned it has as many leads. No conditions. -/
import Derived.Test.YtnphdldcfdpflaaGreatRows
import Derived.Test.YtnphdldcfdpflaaGreatMB
import Derived.Test.YtnphdldcfdpflaaGreatKnown09
import Derived.Test.YtnphdldcfdpflaaGreatNG
import Derived.Test.YtnphdldcfdpflaaGreatNK
import Derived.Test.YtnphdldcfdpflaaGreatRefMul
import Derived.Test.YtnphdldcfdpflaaGreatNL
namespace Go.Proofs.YtnphdldcfdpflaaGreat.gaussEchelon
open Go.ChangeShapes Go.WideShapes Go.ChangeAt Go.RowKit
open Mx (mx IsEch thL turnL adk addRow)
open Pol (ofL Byt)

set_option maxRecDepth 100000 in
set_option maxHeartbeats 4000000 in
theorem walk (j : Nat) (q : Option Addr) (n c : Nat) (xs : List Nat) (k l b d e0 a : Nat) (w : World) (hj : j < 256) (S_c : Bs w q n xs) (_ : n ≤ c ∧ c ≤ 140737488351232) (hk : k < 256) (hl : l < 256) (hbt : b < 256) (hd : d < 256) (he : e0 < 256) (ha : a < 256) :
    Calls Tryz.prog 7 #[.int .u8 j, .slice q n c, .int .u8 k, .int .u8 l, .int .u8 b, .int .u8 d, .int .u8 e0, .int .u8 a] w fun e w' => e = .returned (.bool true) ∧ Below w.heap.size w w' := by
  obtain ⟨g, hg⟩ : ∃ g : Nat, 1 + j % 3 = g := ⟨_, rfl⟩
  have hg1 : 1 ≤ g := by omega
  have hg3 : g ≤ 3 := by omega
  have hgi : (1 : Int) + (j : Int) % 3 = (g : Int) := by omega
  obtain ⟨R, hR⟩ : ∃ R : Nat, 1 + k % 6 = R := ⟨_, rfl⟩
  have hRi : (1 : Int) + (k : Int) % 6 = (R : Int) := by omega
  have hR5 : R ≤ 100 := by omega
  have hR1 : 1 ≤ R := by omega
  obtain ⟨C, hC⟩ : ∃ C : Nat, l % 7 = C := ⟨_, rfl⟩
  have hCi : (l : Int) % 7 = (C : Int) := by omega
  have hC5 : C ≤ 100 := by omega
  obtain ⟨p, hp⟩ : ∃ p : Nat, d % R = p := ⟨_, rfl⟩
  have hpR : p < R := hp ▸ Nat.mod_lt d hR1
  have hpi : (d : Int) % (R : Int) = (p : Int) := by rw [← hp]; simp
  have hpt : Int.tmod (d : Int) (R : Int) = (p : Int) := by rw [Int.tmod_eq_emod_of_nonneg (by omega), hpi]
  obtain ⟨t, ht⟩ : ∃ t : Nat, e0 % R = t := ⟨_, rfl⟩
  have htR : t < R := ht ▸ Nat.mod_lt e0 hR1
  have hti : (e0 : Int) % (R : Int) = (t : Int) := by rw [← ht]; simp
  have htt : Int.tmod (e0 : Int) (R : Int) = (t : Int) := by rw [Int.tmod_eq_emod_of_nonneg (by omega), hti]
  have hR0 : ((R : Int) = 0) = False := eq_false (by omega)
  have hR0' : ((R : Int) == 0) = false := by simp; omega
  clear hg hR hC hp ht
  have HB : Below w.heap.size w w := Below.refl _ _
  go_enter Tryz.func7, Tryz.ntmps7
  go_wp2_with fail
  refine (fof_calls g hg1 hg3 _).mono ?_
  rintro e w1 ⟨B_f, T_f, rfl, HF_f, hb, hlB, hlT⟩
  have HL_f : w.heap.size ≤ T_f := Nat.le_trans HB.size hlT
  have Q_c_f := S_c.off hlT
  replace HB := HB.trans (hb.mono HB.size)
  replace S_c := S_c.below hb
  clear hb hlB hlT
  clear hgi
  by_cases hbig : 200 < n
  · have hb1 : (200 : Int) < (n : Int) := by omega
    go_wp2_with fail
    refine (known09_calls _).mono ?_
    rintro e w2 ⟨rfl, hb⟩
    replace HB := HB.trans (hb.mono HB.size)
    replace HF_f := HF_f.below hb
    replace S_c := S_c.below hb
    clear hb
    go_wp2
    go_ret
    exact ⟨rfl, HB⟩
  · have hb1 : ((200 : Int) < (n : Int)) = False := eq_false (by omega)
    have hn9 : n ≤ 1000000 := by omega
    clear hbig
    obtain ⟨s, hs⟩ : ∃ s, R * C = s := ⟨_, rfl⟩
    have HX : Hid (R * C = s ∧ Byt xs) := ⟨hs, S_c.byte⟩
    clear hs
    go_wp2_with fail
    refine (lthin_calls R C n c b q xs hR5 hC5 hn9 hbt _ S_c).mono ?_
    rintro e w2 ⟨v, rfl, hO, hb⟩
    obtain ⟨q_x, c_x, rfl, S_x, C_x, hQ⟩ := hO.tell (n := s) (Mx.thL_byt HX.out.2 _ _ hbt) (by rw [Mx.thL_length]; exact HX.out.1)
    have Q_x_f := hQ _ HF_f.lt
    have HQx : Hid (0 < s → ∃ gx, q_x = some ⟨gx, 0, none⟩) := fun h0 => by
      rcases hO.shape with ⟨e, _⟩ | ⟨gx, cap, e, _⟩
      · injection e with _ e2; omega
      · injection e with e1 _ _; exact ⟨gx, e1⟩
    clear hO hQ
    replace HB := HB.trans (hb.mono HB.size)
    replace HF_f := HF_f.below hb
    replace S_c := S_c.below hb
    clear hb
    clear hb1 hRi hCi
    obtain ⟨es, hes⟩ : ∃ es, thL xs R C b = es := ⟨_, rfl⟩
    have HE : Hid (Byt es ∧ es.length = R * C ∧ thL xs R C b = es) := by rw [← hes]; exact ⟨Mx.thL_byt HX.out.2 _ _ hbt, Mx.thL_length _ _ _ _, rfl⟩
    rw [hes] at S_x
    clear hes
    obtain ⟨P_bx, hP_bx⟩ : ∃ P, w2.heap.size = P := ⟨_, rfl⟩
    obtain ⟨w3, hw3⟩ : ∃ W, w2.alloc (.cells #[.int .i64 (R : Nat), .int .i64 (C : Nat), .slice q_x s c_x] 24) = W := ⟨_, rfl⟩
    have hb : Below w2.heap.size w2 w3 := hw3 ▸ (Below.refl _ w2).alloc (Nat.le_refl _) _
    have N_bx_f : ¬ P_bx = T_f := by have := HF_f.lt; omega
    have M_bx : Mb w3 P_bx (.int .i64 (R : Nat)) (.int .i64 (C : Nat)) (.slice q_x s c_x) := by rw [← hP_bx, ← hw3]; exact mb_new w2 _ _ _
    replace HB := HB.trans (hb.mono HB.size)
    replace HF_f := HF_f.below hb
    replace S_c := S_c.below hb
    replace S_x := S_x.below hb
    clear hb
    obtain ⟨ws, L, hL⟩ := Mx.isEch_exists R C es
    obtain ⟨r, hr⟩ : ∃ r, L.length = r := ⟨_, rfl⟩
    have HL : Hid (IsEch R C es ws L ∧ EchO (R : Int) (C : Int) s es R C ws L ∧ EchO (R : Int) (C : Int) s ws R C ws L ∧ L.length = r ∧ ws.length = s) := ⟨hL, .inl ⟨right_nat (by omega) (by omega) HX.out.1.symm, rfl, rfl, hL⟩, .inl ⟨right_nat (by omega) (by omega) HX.out.1.symm, rfl, rfl, hL.again⟩, hr, hL.len.trans HX.out.1⟩
    have hr1 : r ≤ R := hr ▸ hL.rank.1
    have hr2 : r ≤ C := hr ▸ hL.rank.2
    clear hL hr
    have u_bx0 := M_bx.c0
    have u_bx1 := M_bx.c1
    have u_bx2 := M_bx.c2
    go_wp2_with fail
    refine (gech_calls g B_f T_f (R : Int) (C : Int) q_x s c_x es R C ws L HL.out.2.1 (by omega) (by omega) (by omega) (by omega) C_x _ S_x HF_f Q_x_f).mono ?_
    rintro e w4 ⟨v, v', rfl, hO, hI, hF, hb⟩
    obtain ⟨q_e, c_e, rfl, S_e, C_e, hQ⟩ := hO.tell (n := s) HL.out.1.byt HL.out.2.2.2.2
    obtain ⟨q_l, c_l, rfl, I_l, C_l, hK⟩ := OwI.tell hI HL.out.2.2.2.1
    clear hO hI
    have Q_e_f := hQ _ HF_f.lt
    have K_l_f : ∀ a, q_l = some a → ¬ a.block = T_f := fun a e h => by have h1 := hK a e; have h2 := HF_f.lt; omega
    clear hQ hK
    replace HB := HB.trans (hb.below HB.size (by rintro k rfl; exact HL_f))
    replace S_c := S_c.but hb Q_c_f
    replace S_x := S_x.but hb Q_x_f
    replace M_bx := M_bx.but hb N_bx_f
    clear HF_f hb
    have HF_f := hF
    clear hF
    clear hP_bx hw3 u_bx0 u_bx1 u_bx2
    obtain ⟨P_be, hP_be⟩ : ∃ P, w4.heap.size = P := ⟨_, rfl⟩
    obtain ⟨w5, hw5⟩ : ∃ W, w4.alloc (.cells #[.int .i64 (R : Nat), .int .i64 (C : Nat), .slice q_e s c_e] 24) = W := ⟨_, rfl⟩
    have hb : Below w4.heap.size w4 w5 := hw5 ▸ (Below.refl _ w4).alloc (Nat.le_refl _) _
    have N_be_f : ¬ P_be = T_f := by have := HF_f.lt; omega
    have M_be : Mb w5 P_be (.int .i64 (R : Nat)) (.int .i64 (C : Nat)) (.slice q_e s c_e) := by rw [← hP_be, ← hw5]; exact mb_new w4 _ _ _
    replace HB := HB.trans (hb.mono HB.size)
    replace HF_f := HF_f.below hb
    replace S_c := S_c.below hb
    replace S_x := S_x.below hb
    replace S_e := S_e.below hb
    replace M_bx := M_bx.below hb
    replace I_l := I_l.below hb
    clear hb
    have u_be0 := M_be.c0
    have u_be1 := M_be.c1
    have u_be2 := M_be.c2
    go_wp2_with fail
    refine (gech_calls g B_f T_f (R : Int) (C : Int) q_e s c_e ws R C ws L HL.out.2.2.1 (by omega) (by omega) (by omega) (by omega) C_e _ S_e HF_f Q_e_f).mono ?_
    rintro e w6 ⟨v, v', rfl, hO, hI, hF, hb⟩
    obtain ⟨q_m, c_m, rfl, S_m, C_m, hQ⟩ := hO.tell (n := s) HL.out.1.byt HL.out.2.2.2.2
    obtain ⟨q_v, c_v, rfl, I_v, C_v, hK⟩ := OwI.tell hI HL.out.2.2.2.1
    clear hO hI
    have Q_m_f := hQ _ HF_f.lt
    have K_v_f : ∀ a, q_v = some a → ¬ a.block = T_f := fun a e h => by have h1 := hK a e; have h2 := HF_f.lt; omega
    clear hQ hK
    replace HB := HB.trans (hb.below HB.size (by rintro k rfl; exact HL_f))
    replace S_c := S_c.but hb Q_c_f
    replace S_x := S_x.but hb Q_x_f
    replace S_e := S_e.but hb Q_e_f
    replace M_bx := M_bx.but hb N_bx_f
    replace M_be := M_be.but hb N_be_f
    replace I_l := I_l.but hb (fun _ => K_l_f)
    clear HF_f hb
    have HF_f := hF
    clear hF
    clear hP_be hw5 u_be0 u_be1 u_be2
    obtain ⟨P_bm, hP_bm⟩ : ∃ P, w6.heap.size = P := ⟨_, rfl⟩
    obtain ⟨w7, hw7⟩ : ∃ W, w6.alloc (.cells #[.int .i64 (R : Nat), .int .i64 (C : Nat), .slice q_m s c_m] 24) = W := ⟨_, rfl⟩
    have hb : Below w6.heap.size w6 w7 := hw7 ▸ (Below.refl _ w6).alloc (Nat.le_refl _) _
    have N_bm_f : ¬ P_bm = T_f := by have := HF_f.lt; omega
    have M_bm : Mb w7 P_bm (.int .i64 (R : Nat)) (.int .i64 (C : Nat)) (.slice q_m s c_m) := by rw [← hP_bm, ← hw7]; exact mb_new w6 _ _ _
    replace HB := HB.trans (hb.mono HB.size)
    replace HF_f := HF_f.below hb
    replace S_c := S_c.below hb
    replace S_x := S_x.below hb
    replace S_e := S_e.below hb
    replace S_m := S_m.below hb
    replace M_bx := M_bx.below hb
    replace M_be := M_be.below hb
    replace I_l := I_l.below hb
    replace I_v := I_v.below hb
    clear hb
    have HZ : Hid (P_bx < w7.heap.size ∧ P_be < w7.heap.size ∧ P_bm < w7.heap.size ∧ T_f < w7.heap.size ∧ B_f < w7.heap.size ∧ (∀ k, w7.heap.size ≤ k → Off k s q_x ∧ Off k s q_e ∧ Off k s q_m) ∧ w.heap.size ≤ w7.heap.size) := ⟨M_bx.blt, M_be.blt, M_bm.blt, HF_f.lt, HF_f.blt, fun k hk => ⟨S_x.off hk, S_e.off hk, S_m.off hk⟩, HB.size⟩
    have u_bx0 := M_bx.c0
    have u_bx1 := M_bx.c1
    have u_bx2 := M_bx.c2
    go_wp2_with fail
    refine (lthin_calls R C n c b q xs hR5 hC5 hn9 hbt _ S_c).mono ?_
    rintro e w8 ⟨v, rfl, hO, hb⟩
    rw [HE.out.2.2] at hO
    obtain ⟨q_y, c_y, rfl, S_y, C_y, hQ⟩ := hO.tell (n := s) HE.out.1 (HE.out.2.1.trans HX.out.1)
    have Q_y_f := hQ _ HZ.out.2.2.2.1
    clear hQ
    replace HB := HB.trans (hb.mono HB.size)
    replace HF_f := HF_f.below hb
    replace S_c := S_c.below hb
    replace S_x := S_x.below hb
    replace S_e := S_e.below hb
    replace S_m := S_m.below hb
    replace M_bx := M_bx.below hb
    replace M_be := M_be.below hb
    replace M_bm := M_bm.below hb
    replace I_l := I_l.below hb
    replace I_v := I_v.below hb
    clear hb
    clear hP_bm hw7 u_bx0 u_bx1 u_bx2
    clear S_c hn9
    obtain ⟨P_by, hP_by⟩ : ∃ P, w8.heap.size = P := ⟨_, rfl⟩
    obtain ⟨w9, hw9⟩ : ∃ W, w8.alloc (.cells #[.int .i64 (R : Nat), .int .i64 (C : Nat), .slice q_y s c_y] 24) = W := ⟨_, rfl⟩
    have hb : Below w8.heap.size w8 w9 := hw9 ▸ (Below.refl _ w8).alloc (Nat.le_refl _) _
    have N_by_f : ¬ P_by = T_f := by have := HF_f.lt; omega
    have M_by : Mb w9 P_by (.int .i64 (R : Nat)) (.int .i64 (C : Nat)) (.slice q_y s c_y) := by rw [← hP_by, ← hw9]; exact mb_new w8 _ _ _
    replace HB := HB.trans (hb.mono HB.size)
    replace HF_f := HF_f.below hb
    replace S_x := S_x.below hb
    replace S_e := S_e.below hb
    replace S_m := S_m.below hb
    replace M_bx := M_bx.below hb
    replace M_be := M_be.below hb
    replace M_bm := M_bm.below hb
    replace I_l := I_l.below hb
    replace I_v := I_v.below hb
    clear hb
    have m0 := (M_bx).c0
    have m1 := (M_bx).c1
    have m2 := (M_bx).c2
    have o0 := (M_by).c0
    have o1 := (M_by).c1
    have o2 := (M_by).c2
    go_wp2
    have hO9 : Ow w9 w7.heap.size (.slice q_y s c_y) es := by rw [← hw9]; exact hO.alloc _
    obtain ⟨S, hS⟩ : ∃ S : Nat → Prop, S = fun k => (Value.slice q_y s c_y).ownBlock = some k := ⟨_, rfl⟩
    have hSw : ∀ k, S k → w7.heap.size ≤ k ∧ k < P_by := fun k hk => by
      rw [hS] at hk
      have := hO.lt k hk
      omega
    have HA : Hid (∀ W', But S w9 W' → Below w.heap.size w W' ∧ Fd g B_f T_f W' ∧ Bs W' q_x s es ∧ Bs W' q_e s ws ∧ Bs W' q_m s ws ∧ Mb W' P_bx (.int .i64 (R : Nat)) (.int .i64 (C : Nat)) (.slice q_x s c_x) ∧ Mb W' P_be (.int .i64 (R : Nat)) (.int .i64 (C : Nat)) (.slice q_e s c_e) ∧ Mb W' P_bm (.int .i64 (R : Nat)) (.int .i64 (C : Nat)) (.slice q_m s c_m) ∧ Mb W' P_by (.int .i64 (R : Nat)) (.int .i64 (C : Nat)) (.slice q_y s c_y)) := fun W' h => by
      have hz := HZ.out
      have hn : ∀ k, k < w7.heap.size → ¬ S k := fun k hk hs => by have := hSw k hs; omega
      refine ⟨HB.trans (h.below HB.size (fun k hk => by have := hSw k hk; omega)), HF_f.but h (hn _ hz.2.2.2.2.1) (hn _ hz.2.2.2.1), bs_two S_x h (fun h0 a e hs => ?_), bs_two S_e h (fun h0 a e hs => ?_), bs_two S_m h (fun h0 a e hs => ?_), M_bx.but h (hn _ hz.1), M_be.but h (hn _ hz.2.1), M_bm.but h (hn _ hz.2.2.1), M_by.but h (fun hs => by have := hSw _ hs; omega)⟩
      · exact (hz.2.2.2.2.2.1 _ (hSw _ hs).1).1 h0 a e rfl
      · exact (hz.2.2.2.2.2.1 _ (hSw _ hs).1).2.1 h0 a e rfl
      · exact (hz.2.2.2.2.2.1 _ (hSw _ hs).1).2.2 h0 a e rfl
    have HSW : Hid (∀ k, S k → w7.heap.size ≤ k ∧ k < P_by) := hSw
    have HO9 : Hid (Ow w9 w7.heap.size (.slice q_y s c_y) (adk C p t a 0 es)) := by rw [Mx.adk_zero]; exact hO9
    clear hO hO9 hSw HB HF_f S_x S_e S_m M_bx M_be M_bm M_by m0 m1 m2 o0 o1 o2 I_l I_v S_y
    go_loopw [26] (fun i wr => ∃ z : Nat, z ≤ C ∧ i = .int .i64 (z : Int) ∧ Ow wr w7.heap.size (.slice q_y s c_y) (adk C p t a z es) ∧ But S w9 wr ∧ (p = t → z = 0)) (fun i _ => C - (intOf i).toNat)
    case atStart => exact ⟨0, by omega, rfl, HO9.out, But.refl _ _, fun _ => rfl⟩
    case round =>
      obtain ⟨z, hz, rfl, hO, hB, h0⟩ := hrel
      by_cases hc : z < C ∧ ¬ p = t
      · obtain ⟨hzC, hpq⟩ := hc
        have hs0 : 0 < s := by rw [← HX.out.1]; exact Nat.mul_pos hR1 (by omega)
        have hA := HA.out _ hB
        obtain ⟨op, hop⟩ : ∃ op, p * C = op := ⟨_, rfl⟩
        obtain ⟨ot, hot⟩ : ∃ ot, t * C = ot := ⟨_, rfl⟩
        obtain ⟨i1, hi1⟩ : ∃ i, op + z = i := ⟨_, rfl⟩
        obtain ⟨i2, hi2⟩ : ∃ i, ot + z = i := ⟨_, rfl⟩
        have h1s : i1 < s := by rw [← hi1, ← hop, ← HX.out.1]; exact Mx.cell_lt hpR hzC
        have h2s : i2 < s := by rw [← hi2, ← hot, ← HX.out.1]; exact Mx.cell_lt htR hzC
        have hs9 : s ≤ 10000 := by rw [← HX.out.1]; exact Nat.mul_le_mul hR5 hC5
        obtain ⟨gx, egx⟩ := HQx.out hs0
        subst egx
        have hadd : ∀ i, (⟨gx, 0, none⟩ : Addr).add i = ⟨gx, i, none⟩ := fun i => by unfold Addr.add; split <;> simp_all
        have hlen : s = (adk C p t a z es).length := by rw [Mx.adk_length]; exact (HE.out.2.1.trans HX.out.1).symm
        rcases hO.shape with ⟨e, _⟩ | ⟨g0, cap, e, _⟩
        · injection e with _ e2; omega
        injection e with e1 e2 e3
        clear e2 e3
        subst e1
        obtain ⟨x1, hv1⟩ : ∃ x, es.getD (i1) 0 = x := ⟨_, rfl⟩
        obtain ⟨x2, hv2⟩ : ∃ x, es.getD (i2) 0 = x := ⟨_, rfl⟩
        obtain ⟨m2, hm2⟩ : ∃ m, Gf.mul a x2 = m := ⟨_, rfl⟩
        have hb1 : x1 < 256 := hv1 ▸ HE.out.1 _
        have hb2 : m2 < 256 := hm2 ▸ Gf.mul_lt _ _ ha
        have hxo := u8_xor_nat x1 m2 hb1 hb2
        obtain ⟨y, hy⟩ : ∃ y, x1 ^^^ m2 = y := ⟨_, rfl⟩
        have hstep : (adk C p t a z es).set (i1) y = adk C p t a (z + 1) es := by rw [← hy, ← hm2, ← hv1, ← hv2, ← hi1, ← hi2, ← hop, ← hot]; exact Mx.adk_succ hzC
        obtain ⟨cg, fg⟩ := hO.at hlen (i1) h1s
        obtain ⟨x0, hx0⟩ : ∃ x, (adk C p t a z es).getD (i1) 0 = x := ⟨_, rfl⟩
        rw [hx0] at cg
        have hn := hO.drew.set hlen (i1) y
        rw [hstep] at hn
        have hB1 : But S w9 ((wr.drew).setCell ⟨g0, i1, none⟩ (.int .u8 (y : Nat))) := hB.drew.setCell (p := ⟨g0, i1, none⟩) (.inl (by rw [hS]; rfl)) _
        have HN : Hid (Ow ((wr.drew).setCell ⟨g0, i1, none⟩ (.int .u8 (y : Nat))) w7.heap.size (.slice (some ⟨g0, 0, none⟩) s c_y) (adk C p t a (z + 1) es) ∧ But S w9 ((wr.drew).setCell ⟨g0, i1, none⟩ (.int .u8 (y : Nat)))) := ⟨hn, hB1⟩
        have HC : Hid (∀ W', But S w9 W' → W'.cell? ⟨P_bx, 1, none⟩ = some (.int .i64 (C : Nat)) ∧ W'.cell? ⟨P_bx, 2, none⟩ = some (.slice (some ⟨gx, 0, none⟩) s c_x) ∧ W'.cell? ⟨P_by, 2, none⟩ = some (.slice (some ⟨g0, 0, none⟩) s c_y) ∧ W'.cell? ⟨gx, i1, none⟩ = some (.int .u8 (x1 : Nat)) ∧ W'.cell? ⟨gx, i2, none⟩ = some (.int .u8 (x2 : Nat))) := fun W' h => by
          have k := HA.out _ h
          have k1 := k.2.2.1.cell (i1) h1s
          have k2 := k.2.2.1.cell (i2) h2s
          rw [hv1] at k1
          rw [hv2] at k2
          obtain ⟨b1, eb1, _, k1⟩ := k1
          obtain ⟨b2, eb2, _, k2⟩ := k2
          cases eb1
          cases eb2
          rw [hadd] at k1 k2
          exact ⟨k.2.2.2.2.2.1.c1, k.2.2.2.2.2.1.c2, k.2.2.2.2.2.2.2.2.c2, k1, k2⟩
        obtain ⟨t1, t2, t3, t4, t5⟩ := HC.out _ hB
        have HB0 : Hid (But S w9 wr.drew) := hB.drew
        have KM := RefMul.rmul_e a x2 m2 ha hm2
        have e1 : (p : Int) * (C : Int) = (op : Int) := by rw [← hop]; exact (Int.natCast_mul p C).symm
        have e2 : (t : Int) * (C : Int) = (ot : Int) := by rw [← hot]; exact (Int.natCast_mul t C).symm
        have w1 := wrap_nat op (by omega)
        have w2 := wrap_nat ot (by omega)
        have w5 : IntKind.i64.wrap ((op : Int) + (z : Int)) = (i1 : Int) := by rw [← Int.natCast_add, hi1]; exact wrap_nat i1 (by omega)
        have w6 : IntKind.i64.wrap ((ot : Int) + (z : Int)) = (i2 : Int) := by rw [← Int.natCast_add, hi2]; exact wrap_nat i2 (by omega)
        have b1 : (i1 : Int) < (s : Int) := by omega
        have b2 : (i2 : Int) < (s : Int) := by omega
        have b3 : (0 : Int) ≤ (i1 : Int) := by omega
        have b4 : (0 : Int) ≤ (i2 : Int) := by omega
        have hzi : (z : Int) < (C : Int) := by omega
        have hpi : ((p : Int) = (t : Int)) = False := eq_false (by omega)
        have hpi2 : ((p : Int) != (t : Int)) = true := by simp; omega
        have hpi3 : (p = t) = False := eq_false hpq
        clear hO hB h0 hA hn hB1 hstep hx0 hadd hv1 hv2 hm2 hop hot hlen hpq hi1 hi2
        go_wp2
        go_region_held3 (fun w' => w'.cell? ⟨P_bx, 1, none⟩ = some (.int .i64 (C : Nat)) ∧ w'.cell? ⟨P_bx, 2, none⟩ = some (.slice (some ⟨gx, 0, none⟩) s c_x) ∧ w'.cell? ⟨P_by, 2, none⟩ = some (.slice (some ⟨g0, 0, none⟩) s c_y) ∧ w'.cell? ⟨gx, i1, none⟩ = some (.int .u8 (x1 : Nat)) ∧ w'.cell? ⟨gx, i2, none⟩ = some (.int .u8 (x2 : Nat)))
          (first | exact HC.out _ HB0.out | exact HC.out _ HN.out.2 | (go_keep; done))
          (first
            | (go_at_call 26; refine (KM _).mono ?_; rintro e w1 ⟨rfl, rfl⟩))
        go_wp2
        go_roundw
        case rel => exact ⟨z + 1, by omega, rfl, HN.out.1, HN.out.2, fun h => (hpi3.mp h).elim⟩
        case measure => simp [intOf]; omega
      · have hEch : IsEch R C (adk C p t a z es) ws L := by
          by_cases hpq : p = t
          · rw [h0 hpq, Mx.adk_zero]; exact HL.out.1
          · have e : z = C := by
              by_cases h : z < C
              · exact (hc ⟨h, hpq⟩).elim
              · omega
            rw [e, Mx.adk_full HE.out.2.1 hpq]
            exact Mx.addRow_ech HE.out.2.1 HE.out.1 ha hpR htR hpq HL.out.1
        by_cases hzC : z < C
        · have hpq : p = t := by
            by_cases h : p = t
            · exact h
            · exact (hc ⟨hzC, h⟩).elim
          subst hpq
          clear hc h0
          have hzi : (z : Int) < (C : Int) := by omega
          have ir1 : (r : Int) ≤ (R : Int) := by omega
          have ir2 : (r : Int) ≤ (C : Int) := by omega
          obtain ⟨w9, rfl⟩ : ∃ w9', w9' = wr := ⟨_, rfl⟩
          obtain ⟨HB, HF_f, S_x, S_e, S_m, M_bx, M_be, M_bm, M_by⟩ := HA.out _ hB
          obtain ⟨zz, hzz⟩ : ∃ zz, adk C p p a z es = zz := ⟨_, rfl⟩
          rw [hzz] at hO hEch
          have HQ : Hid (EchO (R : Int) (C : Int) s zz R C ws L) := .inl ⟨right_nat (by omega) (by omega) HX.out.1.symm, rfl, rfl, hEch⟩
          have S_y : Bs w9 q_y s zz := by
            obtain ⟨q1, c1, e1, h1, _⟩ := hO.tell (n := s) (hzz ▸ Mx.adk_byt HE.out.1 ha) (by rw [← hzz, Mx.adk_length]; exact HE.out.2.1.trans HX.out.1)
            cases e1
            exact h1
          clear hzz hEch hO hB
          have u_bx0 := M_bx.c0
          have u_bx1 := M_bx.c1
          have u_bx2 := M_bx.c2
          have u_by0 := M_by.c0
          have u_by1 := M_by.c1
          have u_by2 := M_by.c2
          go_wp2_with fail
          refine (gech_calls g B_f T_f (R : Int) (C : Int) q_y s c_y zz R C ws L HQ.out (by omega) (by omega) (by omega) (by omega) C_y _ S_y HF_f Q_y_f).mono ?_
          rintro e w10 ⟨v, v', rfl, hO, hI, hF, hb⟩
          obtain ⟨q_o, c_o, rfl, S_o, C_o, hQ⟩ := hO.tell (n := s) HL.out.1.byt HL.out.2.2.2.2
          obtain ⟨q_u, c_u, rfl, I_u, C_u, hK⟩ := OwI.tell hI HL.out.2.2.2.1
          clear hO hI
          have Q_o_f := hQ _ HF_f.lt
          have K_u_f : ∀ a, q_u = some a → ¬ a.block = T_f := fun a e h => by have h1 := hK a e; have h2 := HF_f.lt; omega
          clear hQ hK
          replace HB := HB.trans (hb.below HB.size (by rintro k rfl; exact HL_f))
          replace S_x := S_x.but hb Q_x_f
          replace S_e := S_e.but hb Q_e_f
          replace S_m := S_m.but hb Q_m_f
          replace M_bx := M_bx.but hb N_bx_f
          replace M_be := M_be.but hb N_be_f
          replace M_bm := M_bm.but hb N_bm_f
          replace M_by := M_by.but hb N_by_f
          clear HF_f hb
          have HF_f := hF
          clear hF
          clear hP_by hw9 u_bx0 u_bx1 u_bx2 u_by0 u_by1 u_by2
          obtain ⟨P_bo, hP_bo⟩ : ∃ P, w10.heap.size = P := ⟨_, rfl⟩
          obtain ⟨w11, hw11⟩ : ∃ W, w10.alloc (.cells #[.int .i64 (R : Nat), .int .i64 (C : Nat), .slice q_o s c_o] 24) = W := ⟨_, rfl⟩
          have hb : Below w10.heap.size w10 w11 := hw11 ▸ (Below.refl _ w10).alloc (Nat.le_refl _) _
          have N_bo_f : ¬ P_bo = T_f := by have := HF_f.lt; omega
          have M_bo : Mb w11 P_bo (.int .i64 (R : Nat)) (.int .i64 (C : Nat)) (.slice q_o s c_o) := by rw [← hP_bo, ← hw11]; exact mb_new w10 _ _ _
          replace HB := HB.trans (hb.mono HB.size)
          replace HF_f := HF_f.below hb
          replace S_x := S_x.below hb
          replace S_e := S_e.below hb
          replace S_m := S_m.below hb
          replace S_o := S_o.below hb
          replace M_bx := M_bx.below hb
          replace M_be := M_be.below hb
          replace M_bm := M_bm.below hb
          replace M_by := M_by.below hb
          replace I_u := I_u.below hb
          clear hb
          go_wp2_with fail
          refine (known09_calls _).mono ?_
          rintro e w12 ⟨rfl, hb⟩
          replace HB := HB.trans (hb.mono HB.size)
          replace HF_f := HF_f.below hb
          replace S_x := S_x.below hb
          replace S_e := S_e.below hb
          replace S_m := S_m.below hb
          replace S_o := S_o.below hb
          replace M_bx := M_bx.below hb
          replace M_be := M_be.below hb
          replace M_bm := M_bm.below hb
          replace M_by := M_by.below hb
          replace M_bo := M_bo.below hb
          replace I_u := I_u.below hb
          clear hb
          clear hP_bo hw11
          have u_bm0 := M_bm.c0
          have u_bm1 := M_bm.c1
          have u_bm2 := M_bm.c2
          have u_be0 := M_be.c0
          have u_be1 := M_be.c1
          have u_be2 := M_be.c2
          go_wp2_with fail
          refine (msame_calls R C R C s c_m s c_e q_m q_e ws ws true (by simp) _ S_m S_e).mono ?_
          rintro e w13 ⟨rfl, hb⟩
          replace HB := HB.trans (hb.mono HB.size)
          replace HF_f := HF_f.below hb
          replace S_x := S_x.below hb
          replace S_e := S_e.below hb
          replace S_m := S_m.below hb
          replace S_o := S_o.below hb
          replace M_bx := M_bx.below hb
          replace M_be := M_be.below hb
          replace M_bm := M_bm.below hb
          replace M_by := M_by.below hb
          replace M_bo := M_bo.below hb
          replace I_u := I_u.below hb
          clear hb
          clear u_bm0 u_bm1 u_bm2 u_be0 u_be1 u_be2
          have u_bo0 := M_bo.c0
          have u_bo1 := M_bo.c1
          have u_bo2 := M_bo.c2
          have u_be0 := M_be.c0
          have u_be1 := M_be.c1
          have u_be2 := M_be.c2
          go_wp2_with fail
          refine (msame_calls R C R C s c_o s c_e q_o q_e ws ws true (by simp) _ S_o S_e).mono ?_
          rintro e w14 ⟨rfl, hb⟩
          replace HB := HB.trans (hb.mono HB.size)
          replace HF_f := HF_f.below hb
          replace S_x := S_x.below hb
          replace S_e := S_e.below hb
          replace S_m := S_m.below hb
          replace S_o := S_o.below hb
          replace M_bx := M_bx.below hb
          replace M_be := M_be.below hb
          replace M_bm := M_bm.below hb
          replace M_by := M_by.below hb
          replace M_bo := M_bo.below hb
          replace I_u := I_u.below hb
          clear hb
          clear u_bo0 u_bo1 u_bo2 u_be0 u_be1 u_be2
          obtain ⟨s2, hs2⟩ : ∃ s2, C * R = s2 := ⟨_, rfl⟩
          obtain ⟨x5, L5, h5⟩ := Mx.isEch_exists C R (turnL R C es)
          have HT : Hid (C * R = s2 ∧ EchO (C : Int) (R : Int) s2 (turnL R C es) C R x5 L5 ∧ L5.length = r) := ⟨hs2, .inl ⟨right_nat (by omega) (by omega) hs2.symm, rfl, rfl, h5⟩, (Mx.rank_turned HL.out.1 h5).symm.trans HL.out.2.2.2.1⟩
          clear hs2 h5
          have u_bx0 := M_bx.c0
          have u_bx1 := M_bx.c1
          have u_bx2 := M_bx.c2
          go_wp2_with fail
          refine (mturn_calls R C s c_x q_x es HX.out.1.symm C_x (by omega) (by omega) _ S_x).mono ?_
          rintro e w15 ⟨v, rfl, hO, hb⟩
          obtain ⟨q_h, c_h, rfl, S_h, C_h, hQ⟩ := hO.tell (n := s2) (Mx.cells_byt _ _ _) (by rw [Mx.turnL_length]; exact HT.out.1)
          clear hO
          have Q_h_f := hQ _ HF_f.lt
          clear hQ
          replace HB := HB.trans (hb.mono HB.size)
          replace HF_f := HF_f.below hb
          replace S_x := S_x.below hb
          replace S_e := S_e.below hb
          replace S_m := S_m.below hb
          replace S_o := S_o.below hb
          replace M_bx := M_bx.below hb
          replace M_be := M_be.below hb
          replace M_bm := M_bm.below hb
          replace M_by := M_by.below hb
          replace M_bo := M_bo.below hb
          replace I_u := I_u.below hb
          clear hb
          clear u_bx0 u_bx1 u_bx2
          go_wp2_with fail
          refine (grank_calls g B_f T_f (C : Int) (R : Int) q_h s2 c_h (turnL R C es) C R x5 L5 r HT.out.2.1 HT.out.2.2 (by omega) (by omega) (by omega) (by omega) C_h _ S_h HF_f Q_h_f).mono ?_
          rintro e w16 ⟨rfl, hF, hb⟩
          replace HB := HB.trans (hb.below HB.size (by rintro k rfl; exact HL_f))
          replace S_x := S_x.but hb Q_x_f
          replace S_e := S_e.but hb Q_e_f
          replace S_m := S_m.but hb Q_m_f
          replace S_o := S_o.but hb Q_o_f
          replace S_h := S_h.but hb Q_h_f
          replace M_bx := M_bx.but hb N_bx_f
          replace M_be := M_be.but hb N_be_f
          replace M_bm := M_bm.but hb N_bm_f
          replace M_by := M_by.but hb N_by_f
          replace M_bo := M_bo.but hb N_bo_f
          replace I_u := I_u.but hb (fun _ => K_u_f)
          clear HF_f hb
          have HF_f := hF
          clear hF
          have u_bx0 := M_bx.c0
          have u_bx1 := M_bx.c1
          have u_bx2 := M_bx.c2
          go_wp2
          go_ret
          exact ⟨rfl, HB⟩
        · clear hc
          clear h0
          have hzi : ((z : Int) < (C : Int)) = False := eq_false (by omega)
          have ir1 : (r : Int) ≤ (R : Int) := by omega
          have ir2 : (r : Int) ≤ (C : Int) := by omega
          obtain ⟨w9, rfl⟩ : ∃ w9', w9' = wr := ⟨_, rfl⟩
          obtain ⟨HB, HF_f, S_x, S_e, S_m, M_bx, M_be, M_bm, M_by⟩ := HA.out _ hB
          obtain ⟨zz, hzz⟩ : ∃ zz, adk C p t a z es = zz := ⟨_, rfl⟩
          rw [hzz] at hO hEch
          have HQ : Hid (EchO (R : Int) (C : Int) s zz R C ws L) := .inl ⟨right_nat (by omega) (by omega) HX.out.1.symm, rfl, rfl, hEch⟩
          have S_y : Bs w9 q_y s zz := by
            obtain ⟨q1, c1, e1, h1, _⟩ := hO.tell (n := s) (hzz ▸ Mx.adk_byt HE.out.1 ha) (by rw [← hzz, Mx.adk_length]; exact HE.out.2.1.trans HX.out.1)
            cases e1
            exact h1
          clear hzz hEch hO hB
          have u_bx0 := M_bx.c0
          have u_bx1 := M_bx.c1
          have u_bx2 := M_bx.c2
          have u_by0 := M_by.c0
          have u_by1 := M_by.c1
          have u_by2 := M_by.c2
          go_wp2_with fail
          refine (gech_calls g B_f T_f (R : Int) (C : Int) q_y s c_y zz R C ws L HQ.out (by omega) (by omega) (by omega) (by omega) C_y _ S_y HF_f Q_y_f).mono ?_
          rintro e w10 ⟨v, v', rfl, hO, hI, hF, hb⟩
          obtain ⟨q_o, c_o, rfl, S_o, C_o, hQ⟩ := hO.tell (n := s) HL.out.1.byt HL.out.2.2.2.2
          obtain ⟨q_u, c_u, rfl, I_u, C_u, hK⟩ := OwI.tell hI HL.out.2.2.2.1
          clear hO hI
          have Q_o_f := hQ _ HF_f.lt
          have K_u_f : ∀ a, q_u = some a → ¬ a.block = T_f := fun a e h => by have h1 := hK a e; have h2 := HF_f.lt; omega
          clear hQ hK
          replace HB := HB.trans (hb.below HB.size (by rintro k rfl; exact HL_f))
          replace S_x := S_x.but hb Q_x_f
          replace S_e := S_e.but hb Q_e_f
          replace S_m := S_m.but hb Q_m_f
          replace M_bx := M_bx.but hb N_bx_f
          replace M_be := M_be.but hb N_be_f
          replace M_bm := M_bm.but hb N_bm_f
          replace M_by := M_by.but hb N_by_f
          clear HF_f hb
          have HF_f := hF
          clear hF
          clear hP_by hw9 u_bx0 u_bx1 u_bx2 u_by0 u_by1 u_by2
          obtain ⟨P_bo, hP_bo⟩ : ∃ P, w10.heap.size = P := ⟨_, rfl⟩
          obtain ⟨w11, hw11⟩ : ∃ W, w10.alloc (.cells #[.int .i64 (R : Nat), .int .i64 (C : Nat), .slice q_o s c_o] 24) = W := ⟨_, rfl⟩
          have hb : Below w10.heap.size w10 w11 := hw11 ▸ (Below.refl _ w10).alloc (Nat.le_refl _) _
          have N_bo_f : ¬ P_bo = T_f := by have := HF_f.lt; omega
          have M_bo : Mb w11 P_bo (.int .i64 (R : Nat)) (.int .i64 (C : Nat)) (.slice q_o s c_o) := by rw [← hP_bo, ← hw11]; exact mb_new w10 _ _ _
          replace HB := HB.trans (hb.mono HB.size)
          replace HF_f := HF_f.below hb
          replace S_x := S_x.below hb
          replace S_e := S_e.below hb
          replace S_m := S_m.below hb
          replace S_o := S_o.below hb
          replace M_bx := M_bx.below hb
          replace M_be := M_be.below hb
          replace M_bm := M_bm.below hb
          replace M_by := M_by.below hb
          replace I_u := I_u.below hb
          clear hb
          go_wp2_with fail
          refine (known09_calls _).mono ?_
          rintro e w12 ⟨rfl, hb⟩
          replace HB := HB.trans (hb.mono HB.size)
          replace HF_f := HF_f.below hb
          replace S_x := S_x.below hb
          replace S_e := S_e.below hb
          replace S_m := S_m.below hb
          replace S_o := S_o.below hb
          replace M_bx := M_bx.below hb
          replace M_be := M_be.below hb
          replace M_bm := M_bm.below hb
          replace M_by := M_by.below hb
          replace M_bo := M_bo.below hb
          replace I_u := I_u.below hb
          clear hb
          clear hP_bo hw11
          have u_bm0 := M_bm.c0
          have u_bm1 := M_bm.c1
          have u_bm2 := M_bm.c2
          have u_be0 := M_be.c0
          have u_be1 := M_be.c1
          have u_be2 := M_be.c2
          go_wp2_with fail
          refine (msame_calls R C R C s c_m s c_e q_m q_e ws ws true (by simp) _ S_m S_e).mono ?_
          rintro e w13 ⟨rfl, hb⟩
          replace HB := HB.trans (hb.mono HB.size)
          replace HF_f := HF_f.below hb
          replace S_x := S_x.below hb
          replace S_e := S_e.below hb
          replace S_m := S_m.below hb
          replace S_o := S_o.below hb
          replace M_bx := M_bx.below hb
          replace M_be := M_be.below hb
          replace M_bm := M_bm.below hb
          replace M_by := M_by.below hb
          replace M_bo := M_bo.below hb
          replace I_u := I_u.below hb
          clear hb
          clear u_bm0 u_bm1 u_bm2 u_be0 u_be1 u_be2
          have u_bo0 := M_bo.c0
          have u_bo1 := M_bo.c1
          have u_bo2 := M_bo.c2
          have u_be0 := M_be.c0
          have u_be1 := M_be.c1
          have u_be2 := M_be.c2
          go_wp2_with fail
          refine (msame_calls R C R C s c_o s c_e q_o q_e ws ws true (by simp) _ S_o S_e).mono ?_
          rintro e w14 ⟨rfl, hb⟩
          replace HB := HB.trans (hb.mono HB.size)
          replace HF_f := HF_f.below hb
          replace S_x := S_x.below hb
          replace S_e := S_e.below hb
          replace S_m := S_m.below hb
          replace S_o := S_o.below hb
          replace M_bx := M_bx.below hb
          replace M_be := M_be.below hb
          replace M_bm := M_bm.below hb
          replace M_by := M_by.below hb
          replace M_bo := M_bo.below hb
          replace I_u := I_u.below hb
          clear hb
          clear u_bo0 u_bo1 u_bo2 u_be0 u_be1 u_be2
          obtain ⟨s2, hs2⟩ : ∃ s2, C * R = s2 := ⟨_, rfl⟩
          obtain ⟨x5, L5, h5⟩ := Mx.isEch_exists C R (turnL R C es)
          have HT : Hid (C * R = s2 ∧ EchO (C : Int) (R : Int) s2 (turnL R C es) C R x5 L5 ∧ L5.length = r) := ⟨hs2, .inl ⟨right_nat (by omega) (by omega) hs2.symm, rfl, rfl, h5⟩, (Mx.rank_turned HL.out.1 h5).symm.trans HL.out.2.2.2.1⟩
          clear hs2 h5
          have u_bx0 := M_bx.c0
          have u_bx1 := M_bx.c1
          have u_bx2 := M_bx.c2
          go_wp2_with fail
          refine (mturn_calls R C s c_x q_x es HX.out.1.symm C_x (by omega) (by omega) _ S_x).mono ?_
          rintro e w15 ⟨v, rfl, hO, hb⟩
          obtain ⟨q_h, c_h, rfl, S_h, C_h, hQ⟩ := hO.tell (n := s2) (Mx.cells_byt _ _ _) (by rw [Mx.turnL_length]; exact HT.out.1)
          clear hO
          have Q_h_f := hQ _ HF_f.lt
          clear hQ
          replace HB := HB.trans (hb.mono HB.size)
          replace HF_f := HF_f.below hb
          replace S_x := S_x.below hb
          replace S_e := S_e.below hb
          replace S_m := S_m.below hb
          replace S_o := S_o.below hb
          replace M_bx := M_bx.below hb
          replace M_be := M_be.below hb
          replace M_bm := M_bm.below hb
          replace M_by := M_by.below hb
          replace M_bo := M_bo.below hb
          replace I_u := I_u.below hb
          clear hb
          clear u_bx0 u_bx1 u_bx2
          go_wp2_with fail
          refine (grank_calls g B_f T_f (C : Int) (R : Int) q_h s2 c_h (turnL R C es) C R x5 L5 r HT.out.2.1 HT.out.2.2 (by omega) (by omega) (by omega) (by omega) C_h _ S_h HF_f Q_h_f).mono ?_
          rintro e w16 ⟨rfl, hF, hb⟩
          replace HB := HB.trans (hb.below HB.size (by rintro k rfl; exact HL_f))
          replace S_x := S_x.but hb Q_x_f
          replace S_e := S_e.but hb Q_e_f
          replace S_m := S_m.but hb Q_m_f
          replace S_o := S_o.but hb Q_o_f
          replace S_h := S_h.but hb Q_h_f
          replace M_bx := M_bx.but hb N_bx_f
          replace M_be := M_be.but hb N_be_f
          replace M_bm := M_bm.but hb N_bm_f
          replace M_by := M_by.but hb N_by_f
          replace M_bo := M_bo.but hb N_bo_f
          replace I_u := I_u.but hb (fun _ => K_u_f)
          clear HF_f hb
          have HF_f := hF
          clear hF
          have u_bx0 := M_bx.c0
          have u_bx1 := M_bx.c1
          have u_bx2 := M_bx.c2
          go_wp2
          go_ret
          exact ⟨rfl, HB⟩
theorem own : ownKnob Tryz.prog.godebug = none := by kernel_rfl
theorem laidOut : laidOutB Tryz.prog = true := by kernel_rfl
set_option maxRecDepth 100000 in
theorem lifted (os : Os) (started : os.Started) (H : Type) (enc : TypeId × Value → H) :
    ReturnsInHanded {} Tryz.checked os 7 .any (Rows.gaussEchelonSpec.pre6 enc Tryz.prog Tryz.f7 Rows.gaussEchelonRow.domain false) (Rows.gaussEchelonSpec.post enc Tryz.prog Tryz.f7 false true false false) := by
  refine returnsInHanded_of_change_sized (C := Tryz.checked) own started (by kernel_rfl) Tryz.func7
    (ChangeSpec.witness6 (enc := enc) (C := Tryz.checked) false ⟨#[], #[.int .u8 0, .slice none 0 0, .int .u8 0, .int .u8 0, .int .u8 0, .int .u8 0, .int .u8 0, .int .u8 0], []⟩ 8 (by kernel_rfl) (by kernel_rfl) (by kernel_rfl) (by kernel_rfl)) ?_
  intro W base args ds gs before hval0 hW _ hz _
  have hval : ∀ (j : Nat) t v, Tryz.f7.params[j]? = some t → args[j]? = some v → Value.okWide Tryz.prog W .any base t v := hval0
  have hW' := hW
  obtain ⟨p, q, hA0, hV, rfl, _, _⟩ := hW
  have hA : DataW.TrodAll enc Tryz.prog W 0 (fun _ => true) true Tryz.f7.params.toList args.toList ds p := hA0
  rw [Tryz.params7] at hA hval
  obtain ⟨v0, vs0, d0, ds0, p0, q0, hargs, rfl, rfl, h0, r0⟩ := trodAll_cons hA
  obtain ⟨v1, vs1, d1, ds1, p1, q1, rfl, rfl, rfl, h1, r1⟩ := trodAll_cons r0
  obtain ⟨v2, vs2, d2, ds2, p2, q2, rfl, rfl, rfl, h2, r2⟩ := trodAll_cons r1
  obtain ⟨v3, vs3, d3, ds3, p3, q3, rfl, rfl, rfl, h3, r3⟩ := trodAll_cons r2
  obtain ⟨v4, vs4, d4, ds4, p4, q4, rfl, rfl, rfl, h4, r4⟩ := trodAll_cons r3
  obtain ⟨v5, vs5, d5, ds5, p5, q5, rfl, rfl, rfl, h5, r5⟩ := trodAll_cons r4
  obtain ⟨v6, vs6, d6, ds6, p6, q6, rfl, rfl, rfl, h6, r6⟩ := trodAll_cons r5
  obtain ⟨v7, vs7, d7, ds7, p7, q7, rfl, rfl, rfl, h7, r7⟩ := trodAll_cons r6
  obtain ⟨rfl, rfl, rfl⟩ := trodAll_nil r7
  obtain rfl : args = #[v0, v1, v2, v3, v4, v5, v6, v7] := by cases args; simp_all
  obtain ⟨rfl, rfl⟩ := trodVars_none hV
  obtain ⟨a0, rfl, rfl, rfl, w0⟩ := open_int Tryz.underlying5 (hval 0 5 v0 rfl rfl) h0
  obtain ⟨n0, b0, rfl⟩ := nat_of_u8 w0
  have k1 := h1
  obtain ⟨q1, n1, c1, xs1, rfl, w1, m1⟩ := open_bytes_sz Tryz.underlying22 Tryz.underlying5 (by kernel_rfl) (hval 1 22 v1 rfl rfl) h1
  have y1 : n1 ≤ c1 ∧ c1 ≤ 140737488351232 := ⟨m1.1, m1.2 _ fun el sp hd => by have := sized_slice (j := 1) (t := 22) (e := 5) (elems := el) (spare := sp) hz (by kernel_rfl) (by first | (rw [← hd]; done) | (rw [← hd]; rfl)) Tryz.underlying22; have hbe : Tryz.checked.prog.bytesOf 5 = 1 := (by kernel_rfl); have hre : reachBytes = 140737488351232 := rfl; rw [hbe, hre] at this; omega⟩
  obtain ⟨a2, rfl, rfl, rfl, w2⟩ := open_int Tryz.underlying5 (hval 2 5 v2 rfl rfl) h2
  obtain ⟨n2, b2, rfl⟩ := nat_of_u8 w2
  obtain ⟨a3, rfl, rfl, rfl, w3⟩ := open_int Tryz.underlying5 (hval 3 5 v3 rfl rfl) h3
  obtain ⟨n3, b3, rfl⟩ := nat_of_u8 w3
  obtain ⟨a4, rfl, rfl, rfl, w4⟩ := open_int Tryz.underlying5 (hval 4 5 v4 rfl rfl) h4
  obtain ⟨n4, b4, rfl⟩ := nat_of_u8 w4
  obtain ⟨a5, rfl, rfl, rfl, w5⟩ := open_int Tryz.underlying5 (hval 5 5 v5 rfl rfl) h5
  obtain ⟨n5, b5, rfl⟩ := nat_of_u8 w5
  obtain ⟨a6, rfl, rfl, rfl, w6⟩ := open_int Tryz.underlying5 (hval 6 5 v6 rfl rfl) h6
  obtain ⟨n6, b6, rfl⟩ := nat_of_u8 w6
  obtain ⟨a7, rfl, rfl, rfl, w7⟩ := open_int Tryz.underlying5 (hval 7 5 v7 rfl rfl) h7
  obtain ⟨n7, b7, rfl⟩ := nat_of_u8 w7
  clear hA0 hval0
  simp only [List.append_nil] at hW'
  refine (walk (w := W) n0 q1 n1 c1 xs1 n2 n3 n4 n5 n6 n7 b0 w1 y1 b2 b3 b4 b5 b6 b7).mono fun e W' ⟨he, bel⟩ => ?_
  subst he
  exact ⟨_, rfl, _, _, _, [], _, [], hW', trodAll_mk1 (shut_bool Tryz.underlying4 _), (trodAll_cons_mk (shut_int Tryz.underlying5 w0) (trodAll_cons_mk (shut_same laidOut (by kernel_rfl) (of_decide_eq_true (by kernel_rfl)) k1 bel) (trodAll_cons_mk (shut_int Tryz.underlying5 w2) (trodAll_cons_mk (shut_int Tryz.underlying5 w3) (trodAll_cons_mk (shut_int Tryz.underlying5 w4) (trodAll_cons_mk (shut_int Tryz.underlying5 w5) (trodAll_cons_mk (shut_int Tryz.underlying5 w6) (trodAll_cons_mk (shut_int Tryz.underlying5 w7) trodAll_mk0)))))))), rfl, bel.frame _, fun h => by cases h⟩
theorem over : Rows.gaussEchelonRow.holds Tryz.pinned (OpenSpec.ofChange Rows.gaussEchelonSpec) :=
  OpenClaim.holds_of_wide 7 Tryz.f7 rfl rfl rfl rfl rfl rfl rfl ⟨rfl, rfl, rfl, rfl, rfl⟩ rfl rfl rfl rfl rfl (by kernel_rfl) Tryz.func7 (by kernel_rfl)
    (of_decide_eq_true (by kernel_rfl)) (by unfold Func.isWrapper; first | (rw [if_pos (by decide +kernel)]; kernel_rfl) | (rw [if_neg (by decide +kernel)]; exact ⟨rfl, rfl⟩))
    (fun os started H enc _ => lifted os started H enc)
theorem proved : Rows.GaussEchelonSaid := over
#print axioms proved
end Go.Proofs.YtnphdldcfdpflaaGreat.gaussEchelon
