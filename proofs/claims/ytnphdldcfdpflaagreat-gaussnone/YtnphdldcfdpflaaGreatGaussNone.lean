/- GaussNone holds for every input: of what is no matrix nothing is told; a column that is too long is none. No conditions. -/
import Derived.Test.YtnphdldcfdpflaaGreatRows
import Derived.Deep.RegionHeld3
import Derived.Test.YtnphdldcfdpflaaGreatMB
import Derived.Test.YtnphdldcfdpflaaGreatKnown09
import Derived.Test.YtnphdldcfdpflaaGreatNG
namespace Go.Proofs.YtnphdldcfdpflaaGreat.gaussNone
open Go.ChangeShapes Go.WideShapes Go.ChangeAt Go.RowKit
open Mx (mx IsEch IsSol IsInv nullL chL)
open Pol (ofL Byt)

set_option maxRecDepth 100000 in
set_option maxHeartbeats 4000000 in
theorem walk (j : Nat) (q : Option Addr) (n c : Nat) (xs : List Nat) (p : Option Addr) (m d : Nat) (ys : List Nat) (k l : Nat) (w : World) (hj : j < 256) (S_c : Bs w q n xs) (y_c : n ≤ c ∧ c ≤ 140737488351232) (S_b : Bs w p m ys) (y_b : m ≤ d ∧ d ≤ 140737488351232) (hk : k < 256) (hl : l < 256) :
    Calls Tryz.prog 8 #[.int .u8 j, .slice q n c, .slice p m d, .int .u8 k, .int .u8 l] w fun e w' => e = .returned (.bool true) ∧ Below w.heap.size w w' := by
  obtain ⟨g, hg⟩ : ∃ g : Nat, 1 + j % 3 = g := ⟨_, rfl⟩
  have hg1 : 1 ≤ g := by omega
  have hg3 : g ≤ 3 := by omega
  have hgi : (1 : Int) + (j : Int) % 3 = (g : Int) := by omega
  obtain ⟨R, hR⟩ : ∃ R : Nat, k % 5 = R := ⟨_, rfl⟩
  have hRi : (k : Int) % 5 = (R : Int) := by omega
  have hR5 : R ≤ 100 := by omega
  obtain ⟨C, hC⟩ : ∃ C : Nat, l % 5 = C := ⟨_, rfl⟩
  have hCi : (l : Int) % 5 = (C : Int) := by omega
  have hC5 : C ≤ 100 := by omega
  clear hg hR hC
  have HB : Below w.heap.size w w := Below.refl _ _
  have Cb := y_b.1
  have Cc := y_c.1
  have HW : Hid (wrap64 ((n : Int) + (m : Int)) = (n : Int) + (m : Int)) := by show _ = _; unfold wrap64; omega
  clear y_b y_c
  go_enter Tryz.func8, Tryz.ntmps8
  go_wp2_with fail
  refine (fof_calls g hg1 hg3 _).mono ?_
  rintro e w1 ⟨B_f, T_f, rfl, HF_f, hb, hlB, hlT⟩
  have HL_f : w.heap.size ≤ T_f := Nat.le_trans HB.size hlT
  have Q_c_f := S_c.off hlT
  have Q_b_f := S_b.off hlT
  replace HB := HB.trans (hb.mono HB.size)
  replace S_c := S_c.below hb
  replace S_b := S_b.below hb
  clear hb hlB hlT
  clear hgi
  by_cases hbig : 200 < n + m
  · have hb1 : (200 : Int) < (n : Int) + (m : Int) := by omega
    have hs1 := HW.out
    go_wp2_with fail
    refine (known09_calls _).mono ?_
    rintro e w2 ⟨rfl, hb⟩
    replace HB := HB.trans (hb.mono HB.size)
    replace HF_f := HF_f.below hb
    replace S_c := S_c.below hb
    replace S_b := S_b.below hb
    clear hb
    go_wp2
    go_ret
    exact ⟨rfl, HB⟩
  · have hb1 : ((200 : Int) < (n : Int) + (m : Int)) = False := eq_false (by omega)
    have hn9 : n ≤ 1000000 := by omega
    have hm9 : m ≤ 1000000 := by omega
    clear hbig
    obtain ⟨s, hs⟩ : ∃ s, R * C = s := ⟨_, rfl⟩
    have HX : Hid (R * C = s ∧ Byt xs ∧ Byt ys) := ⟨hs, S_c.byte, S_b.byte⟩
    clear hs
    go_wp2_with fail
    refine (lof_calls R C n c q xs hR5 hC5 hn9 _ S_c).mono ?_
    rintro e w2 ⟨v, rfl, hO, hb⟩
    obtain ⟨q_x, c_x, rfl, S_x, C_x, hQ⟩ := hO.tell (n := s) (Mx.chL_byt HX.out.2.1 _) (by rw [Mx.chL_length]; exact HX.out.1)
    clear hO
    have Q_x_f := hQ _ HF_f.lt
    clear hQ
    replace HB := HB.trans (hb.mono HB.size)
    replace HF_f := HF_f.below hb
    replace S_c := S_c.below hb
    replace S_b := S_b.below hb
    clear hb
    clear S_c hb1 hRi hCi hn9
    obtain ⟨cs, hcs⟩ : ∃ cs, chL xs (R * C) = cs := ⟨_, rfl⟩
    rw [hcs] at S_x
    clear hcs
    obtain ⟨C1, hC1⟩ : ∃ C1, C + 1 = C1 := ⟨_, rfl⟩
    have hC1i : (C : Int) + 1 = (C1 : Int) := by omega
    have hC1l : C1 ≤ 101 := by omega
    obtain ⟨R1, hR1⟩ : ∃ R1, R + 1 = R1 := ⟨_, rfl⟩
    have hR1i : (R : Int) + 1 = (R1 : Int) := by omega
    have hR1l : R1 ≤ 101 := by omega
    have HC : Hid (C + 1 = C1 ∧ R + 1 = R1) := ⟨hC1, hR1⟩
    clear hC1 hR1
    have hmk := make_bytes R1 (by omega)
    obtain ⟨P_bx, hP_bx⟩ : ∃ P, w2.heap.size = P := ⟨_, rfl⟩
    obtain ⟨w3, hw3⟩ : ∃ W, w2.alloc (.cells #[.int .i64 (R : Nat), .int .i64 (C : Nat), .slice q_x s c_x] 24) = W := ⟨_, rfl⟩
    have hb : Below w2.heap.size w2 w3 := hw3 ▸ (Below.refl _ w2).alloc (Nat.le_refl _) _
    have N_bx_f : ¬ P_bx = T_f := by have := HF_f.lt; omega
    have M_bx : Mb w3 P_bx (.int .i64 (R : Nat)) (.int .i64 (C : Nat)) (.slice q_x s c_x) := by rw [← hP_bx, ← hw3]; exact mb_new w2 _ _ _
    replace HB := HB.trans (hb.mono HB.size)
    replace HF_f := HF_f.below hb
    replace S_b := S_b.below hb
    replace S_x := S_x.below hb
    clear hb
    have u_bx0 := M_bx.c0
    have u_bx1 := M_bx.c1
    have u_bx2 := M_bx.c2
    obtain ⟨P_bad, hP_bad⟩ : ∃ P, w3.heap.size = P := ⟨_, rfl⟩
    obtain ⟨w4, hw4⟩ : ∃ W, w3.alloc (.cells #[.int .i64 (R : Nat), .int .i64 (C1 : Nat), .slice q_x s c_x] 24) = W := ⟨_, rfl⟩
    have hb : Below w3.heap.size w3 w4 := hw4 ▸ (Below.refl _ w3).alloc (Nat.le_refl _) _
    have N_bad_f : ¬ P_bad = T_f := by have := HF_f.lt; omega
    have M_bad : Mb w4 P_bad (.int .i64 (R : Nat)) (.int .i64 (C1 : Nat)) (.slice q_x s c_x) := by rw [← hP_bad, ← hw4]; exact mb_new w3 _ _ _
    replace HB := HB.trans (hb.mono HB.size)
    replace HF_f := HF_f.below hb
    replace S_b := S_b.below hb
    replace S_x := S_x.below hb
    replace M_bx := M_bx.below hb
    clear hb
    go_wp2
    have HS : Hid (SlO (R : Int) (C : Int) s cs R1 (List.replicate R1 0) [] false) := .inr ⟨rfl, rfl, fun _ e => by have := HC.out.2; omega⟩
    have K5 : Hid (Calls Tryz.prog 17 #[.pointer (some ⟨B_f, 0, none⟩), .agg #[.int .i64 (R : Nat), .int .i64 (C : Nat), .slice q_x s c_x], .slice (some ⟨w4.heap.size, 0, none⟩) R1 R1] ((w4.drew).alloc (.cells (madeCells #[.int .u8 0] R1) 5)) fun e w' => ∃ v, e = .returned (.tuple #[v, .bool false]) ∧ Fd g B_f T_f w' ∧ But (· = T_f) w4 w') := by
      have h1 : Below w4.heap.size w4 ((w4.drew).alloc (.cells (madeCells #[.int .u8 0] R1) 5)) := ((Below.refl _ w4).drew).alloc (by simp) _
      have hz : Bs ((w4.drew).alloc (.cells (madeCells #[.int .u8 0] R1) 5)) (some ⟨w4.heap.size, 0, none⟩) R1 (List.replicate R1 0) := bs_mk w4.drew R1 (by omega)
      refine (gsolve1_calls g B_f T_f (R : Int) (C : Int) q_x (some ⟨w4.heap.size, 0, none⟩) s c_x R1 R1 cs _ [] false HS.out (by omega) (by omega) (by omega) (by omega) C_x (Nat.le_refl _) _ (S_x.below h1) hz (HF_f.below h1)).mono ?_
      rintro e w' ⟨v, rfl, -, hF, hb⟩
      exact ⟨v, rfl, hF, (But.of_below h1).trans hb⟩
    have z0 := M_bx.c0
    have z1 := M_bx.c1
    have z2 := M_bx.c2
    have hwr := wrap_nat R1 (by omega)
    go_region_held3 (fun w' => w'.cell? ⟨P_bx, 0, none⟩ = some (.int .i64 (R : Nat)) ∧ w'.cell? ⟨P_bx, 1, none⟩ = some (.int .i64 (C : Nat)) ∧ w'.cell? ⟨P_bx, 2, none⟩ = some (.slice q_x s c_x))
      (first | exact ⟨(M_bx.but hb N_bx_f).c0, (M_bx.but hb N_bx_f).c1, (M_bx.but hb N_bx_f).c2⟩ | exact ⟨(M_bx.below (((Below.refl _ w4).drew).alloc (by simp) _)).c0, (M_bx.below (((Below.refl _ w4).drew).alloc (by simp) _)).c1, (M_bx.below (((Below.refl _ w4).drew).alloc (by simp) _)).c2⟩ | (go_keep; done))
      (first
        | (go_at_call 17; refine (K5.out).mono ?_; rintro e w5 ⟨v5, rfl, hF, hb⟩))
    clear K5 HS z0 z1 z2 hwr hmk
    replace HB := HB.trans (hb.below HB.size (by rintro k rfl; exact HL_f))
    replace S_b := S_b.but hb Q_b_f
    replace S_x := S_x.but hb Q_x_f
    replace M_bx := M_bx.but hb N_bx_f
    replace M_bad := M_bad.but hb N_bad_f
    clear HF_f hb
    have HF_f := hF
    clear hF
    clear hP_bx hw3 u_bx0 u_bx1 u_bx2 hP_bad hw4
    clear M_bx
    obtain ⟨z2, o2, hz2⟩ := slO_exists (R : Int) (C1 : Int) s cs m ys
    obtain ⟨m3, z3, o3, hz3⟩ := inO_exists (R : Int) (C1 : Int) s cs
    obtain ⟨r4, c4, z4, L4, hz4⟩ := echO_exists (R : Int) (C1 : Int) s cs
    obtain ⟨n2, hn2⟩ : ∃ n2, z2.length = n2 := ⟨_, rfl⟩
    obtain ⟨n3, hn3⟩ : ∃ n3, z3.length = n3 := ⟨_, rfl⟩
    obtain ⟨n4, hn4⟩ : ∃ n4, z4.length = n4 := ⟨_, rfl⟩
    obtain ⟨l4, hl4⟩ : ∃ l4, L4.length = l4 := ⟨_, rfl⟩
    have HO : Hid (SlO (R : Int) (C1 : Int) s cs m ys z2 o2 ∧ InO (R : Int) (C1 : Int) s cs m3 z3 o3 ∧ EchO (R : Int) (C1 : Int) s cs r4 c4 z4 L4 ∧ z2.length = n2 ∧ z3.length = n3 ∧ z4.length = n4 ∧ L4.length = l4) := ⟨hz2, hz3, hz4, hn2, hn3, hn4, hl4⟩
    have HBy : Hid (Byt z2 ∧ Byt z3 ∧ Byt z4) := ⟨slO_byt hz2, inO_byt hz3, echO_byt hz4⟩
    clear hz2 hz3 hz4 hn2 hn3 hn4 hl4
    have u_bad0 := M_bad.c0
    have u_bad1 := M_bad.c1
    have u_bad2 := M_bad.c2
    go_wp2_with fail
    refine (gsolve1_calls g B_f T_f (R : Int) (C1 : Int) q_x p s c_x m d cs ys z2 o2 HO.out.1 (by omega) (by omega) (by omega) (by omega) C_x Cb _ S_x S_b HF_f).mono ?_
    rintro e w6 ⟨v, rfl, hO, hF, hb⟩
    obtain ⟨q_t, c_t, rfl, S_t, C_t, hQ⟩ := hO.tell (n := n2) HBy.out.1 HO.out.2.2.2.1
    clear hO
    have Q_t_f := hQ _ HF_f.lt
    clear hQ
    replace HB := HB.trans (hb.below HB.size (by rintro k rfl; exact HL_f))
    replace S_b := S_b.but hb Q_b_f
    replace S_x := S_x.but hb Q_x_f
    replace M_bad := M_bad.but hb N_bad_f
    clear HF_f hb
    have HF_f := hF
    clear hF
    clear u_bad0 u_bad1 u_bad2
    have u_bad0 := M_bad.c0
    have u_bad1 := M_bad.c1
    have u_bad2 := M_bad.c2
    go_wp2_with fail
    refine (ginv_calls g B_f T_f (R : Int) (C1 : Int) q_x s c_x cs m3 z3 o3 HO.out.2.1 (by omega) (by omega) (by omega) (by omega) C_x _ S_x HF_f).mono ?_
    rintro e w7 ⟨v, rfl, hO, hF, hb⟩
    obtain ⟨q_i, c_i, rfl, S_i, C_i, hQ⟩ := hO.tell (n := n3) HBy.out.2.1 HO.out.2.2.2.2.1
    clear hO
    have Q_i_f := hQ _ HF_f.lt
    clear hQ
    replace HB := HB.trans (hb.below HB.size (by rintro k rfl; exact HL_f))
    replace S_b := S_b.but hb Q_b_f
    replace S_x := S_x.but hb Q_x_f
    replace S_t := S_t.but hb Q_t_f
    replace M_bad := M_bad.but hb N_bad_f
    clear HF_f hb
    have HF_f := hF
    clear hF
    clear u_bad0 u_bad1 u_bad2
    obtain ⟨P_i, hP_i⟩ : ∃ P, w7.heap.size = P := ⟨_, rfl⟩
    obtain ⟨w8, hw8⟩ : ∃ W, w7.alloc (.cells #[.int .i64 (m3 : Nat), .int .i64 (m3 : Nat), .slice q_i n3 c_i] 24) = W := ⟨_, rfl⟩
    have hb : Below w7.heap.size w7 w8 := hw8 ▸ (Below.refl _ w7).alloc (Nat.le_refl _) _
    have N_i_f : ¬ P_i = T_f := by have := HF_f.lt; omega
    have M_i : Mb w8 P_i (.int .i64 (m3 : Nat)) (.int .i64 (m3 : Nat)) (.slice q_i n3 c_i) := by rw [← hP_i, ← hw8]; exact mb_new w7 _ _ _
    replace HB := HB.trans (hb.mono HB.size)
    replace HF_f := HF_f.below hb
    replace S_b := S_b.below hb
    replace S_x := S_x.below hb
    replace S_t := S_t.below hb
    replace S_i := S_i.below hb
    replace M_bad := M_bad.below hb
    clear hb
    have u_bad0 := M_bad.c0
    have u_bad1 := M_bad.c1
    have u_bad2 := M_bad.c2
    go_wp2_with fail
    refine (gech_calls g B_f T_f (R : Int) (C1 : Int) q_x s c_x cs r4 c4 z4 L4 HO.out.2.2.1 (by omega) (by omega) (by omega) (by omega) C_x _ S_x HF_f Q_x_f).mono ?_
    rintro e w9 ⟨v, v', rfl, hO, hI, hF, hb⟩
    obtain ⟨q_e, c_e, rfl, S_e, C_e, hQ⟩ := hO.tell (n := n4) HBy.out.2.2 HO.out.2.2.2.2.2.1
    obtain ⟨q_l, c_l, rfl, I_l, C_l, hK⟩ := OwI.tell hI HO.out.2.2.2.2.2.2
    clear hO hI
    have Q_e_f := hQ _ HF_f.lt
    have K_l_f : ∀ a, q_l = some a → ¬ a.block = T_f := fun a e h => by have h1 := hK a e; have h2 := HF_f.lt; omega
    clear hQ hK
    replace HB := HB.trans (hb.below HB.size (by rintro k rfl; exact HL_f))
    replace S_b := S_b.but hb Q_b_f
    replace S_x := S_x.but hb Q_x_f
    replace S_t := S_t.but hb Q_t_f
    replace S_i := S_i.but hb Q_i_f
    replace M_bad := M_bad.but hb N_bad_f
    replace M_i := M_i.but hb N_i_f
    clear HF_f hb
    have HF_f := hF
    clear hF
    clear hP_i hw8 u_bad0 u_bad1 u_bad2
    obtain ⟨P_e, hP_e⟩ : ∃ P, w9.heap.size = P := ⟨_, rfl⟩
    obtain ⟨w10, hw10⟩ : ∃ W, w9.alloc (.cells #[.int .i64 (r4 : Nat), .int .i64 (c4 : Nat), .slice q_e n4 c_e] 24) = W := ⟨_, rfl⟩
    have hb : Below w9.heap.size w9 w10 := hw10 ▸ (Below.refl _ w9).alloc (Nat.le_refl _) _
    have N_e_f : ¬ P_e = T_f := by have := HF_f.lt; omega
    have M_e : Mb w10 P_e (.int .i64 (r4 : Nat)) (.int .i64 (c4 : Nat)) (.slice q_e n4 c_e) := by rw [← hP_e, ← hw10]; exact mb_new w9 _ _ _
    replace HB := HB.trans (hb.mono HB.size)
    replace HF_f := HF_f.below hb
    replace S_b := S_b.below hb
    replace S_x := S_x.below hb
    replace S_t := S_t.below hb
    replace S_i := S_i.below hb
    replace S_e := S_e.below hb
    replace M_bad := M_bad.below hb
    replace M_i := M_i.below hb
    replace I_l := I_l.below hb
    clear hb
    obtain ⟨pp, hpp⟩ : ∃ pp, R * C1 = pp := ⟨_, rfl⟩
    have hppi : (R : Int) * (C1 : Int) = (pp : Int) := by rw [← hpp]; exact (Int.natCast_mul R C1).symm
    have hpp9 : pp ≤ 10100 := by rw [← hpp]; exact Nat.mul_le_mul hR5 hC1l
    have hps : pp = s + R := by rw [← hpp, ← HC.out.1, ← HX.out.1, Nat.mul_succ]
    by_cases hR0 : R = 0
    · have hw : ((s : Int) != (pp : Int)) = false := by simp; omega
      have hw2 : (s != pp) = false := by simp; omega
      clear hps hpp hR0
      have u_bad0 := M_bad.c0
      have u_bad1 := M_bad.c1
      have u_bad2 := M_bad.c2
      go_wp2_with fail
      refine (known09_calls _).mono ?_
      rintro e w11 ⟨rfl, hb⟩
      replace HB := HB.trans (hb.mono HB.size)
      replace HF_f := HF_f.below hb
      replace S_b := S_b.below hb
      replace S_x := S_x.below hb
      replace S_t := S_t.below hb
      replace S_i := S_i.below hb
      replace S_e := S_e.below hb
      replace M_bad := M_bad.below hb
      replace M_i := M_i.below hb
      replace M_e := M_e.below hb
      replace I_l := I_l.below hb
      clear hb
      clear hP_e hw10 u_bad0 u_bad1 u_bad2
      go_wp2
      go_ret
      exact ⟨rfl, HB⟩
    · have hw : ((s : Int) != (pp : Int)) = true := by simp; omega
      have hw2 : (s != pp) = true := by simp; omega
      have hnr : rightB (R : Int) (C1 : Int) s = false := by
        rw [Bool.eq_false_iff]
        intro h
        obtain ⟨r, c, e1, e2, _, _, e5⟩ := right_split h
        have : r = R := by omega
        have : c = C1 := by omega
        subst r c
        omega
      obtain ⟨rfl, hz2⟩ : o2 = false ∧ n2 = n2 := by
        rcases HO.out.1 with ⟨_, h, _⟩ | ⟨h, _⟩
        · rw [hnr] at h; cases h
        · exact ⟨h, rfl⟩
      obtain rfl : o3 = false := by
        rcases HO.out.2.1 with ⟨_, h, _⟩ | ⟨h, _⟩
        · rw [hnr] at h; cases h
        · exact h
      obtain ⟨hc4, rfl, rfl⟩ : c4 = 0 ∧ z4 = [] ∧ L4 = [] := by
        rcases HO.out.2.2.1 with ⟨h, _⟩ | ⟨_, h1, h2, h3, h4⟩
        · rw [hnr] at h; cases h
        · exact ⟨h2, h3, h4⟩
      have HC4 : Hid ((nullL c4 [] []).length = 0) := by show _ = _; rw [hc4]; rfl
      clear hc4
      obtain rfl : n4 = 0 := HO.out.2.2.2.2.2.1.symm
      obtain rfl : l4 = 0 := HO.out.2.2.2.2.2.2.symm
      clear hz2 hnr hps hpp hR0
      have u_bad0 := M_bad.c0
      have u_bad1 := M_bad.c1
      have u_bad2 := M_bad.c2
      go_wp2_with fail
      refine (known09_calls _).mono ?_
      rintro e w11 ⟨rfl, hb⟩
      replace HB := HB.trans (hb.mono HB.size)
      replace HF_f := HF_f.below hb
      replace S_b := S_b.below hb
      replace S_x := S_x.below hb
      replace S_t := S_t.below hb
      replace S_i := S_i.below hb
      replace S_e := S_e.below hb
      replace M_bad := M_bad.below hb
      replace M_i := M_i.below hb
      replace M_e := M_e.below hb
      replace I_l := I_l.below hb
      clear hb
      clear hP_e hw10 u_bad0 u_bad1 u_bad2
      have u_bad0 := M_bad.c0
      have u_bad1 := M_bad.c1
      have u_bad2 := M_bad.c2
      have u_e0 := M_e.c0
      have u_e1 := M_e.c1
      have u_e2 := M_e.c2
      go_wp2_with fail
      refine (grank_calls g B_f T_f (R : Int) (C1 : Int) q_x s c_x cs r4 c4 [] [] 0 HO.out.2.2.1 rfl (by omega) (by omega) (by omega) (by omega) C_x _ S_x HF_f Q_x_f).mono ?_
      rintro e w12 ⟨rfl, hF, hb⟩
      replace HB := HB.trans (hb.below HB.size (by rintro k rfl; exact HL_f))
      replace S_b := S_b.but hb Q_b_f
      replace S_x := S_x.but hb Q_x_f
      replace S_t := S_t.but hb Q_t_f
      replace S_i := S_i.but hb Q_i_f
      replace S_e := S_e.but hb Q_e_f
      replace M_bad := M_bad.but hb N_bad_f
      replace M_i := M_i.but hb N_i_f
      replace M_e := M_e.but hb N_e_f
      replace I_l := I_l.but hb (fun _ => K_l_f)
      clear HF_f hb
      have HF_f := hF
      clear hF
      clear u_bad0 u_bad1 u_bad2 u_e0 u_e1 u_e2
      have u_bad0 := M_bad.c0
      have u_bad1 := M_bad.c1
      have u_bad2 := M_bad.c2
      go_wp2_with fail
      refine (gnull_calls g B_f T_f (R : Int) (C1 : Int) q_x s c_x cs r4 c4 [] [] HO.out.2.2.1 (by omega) (by omega) (by omega) (by omega) C_x _ S_x HF_f Q_x_f).mono ?_
      rintro e w13 ⟨v_n, rfl, O_n, hF, hb⟩
      have E_n_f := HF_f.lt
      replace HB := HB.trans (hb.below HB.size (by rintro k rfl; exact HL_f))
      replace S_b := S_b.but hb Q_b_f
      replace S_x := S_x.but hb Q_x_f
      replace S_t := S_t.but hb Q_t_f
      replace S_i := S_i.but hb Q_i_f
      replace S_e := S_e.but hb Q_e_f
      replace M_bad := M_bad.but hb N_bad_f
      replace M_i := M_i.but hb N_i_f
      replace M_e := M_e.but hb N_e_f
      replace I_l := I_l.but hb (fun _ => K_l_f)
      clear HF_f hb
      have HF_f := hF
      clear hF
      clear u_bad0 u_bad1 u_bad2
      obtain ⟨q_n, c_n, rfl⟩ := O_n.isSlice
      rw [HC4.out]
      clear O_n
      go_wp2
      go_ret
      exact ⟨rfl, HB⟩
theorem own : ownKnob Tryz.prog.godebug = none := by kernel_rfl
theorem laidOut : laidOutB Tryz.prog = true := by kernel_rfl
set_option maxRecDepth 100000 in
theorem lifted (os : Os) (started : os.Started) (H : Type) (enc : TypeId × Value → H) :
    ReturnsInHanded {} Tryz.checked os 8 .any (Rows.gaussNoneSpec.pre6 enc Tryz.prog Tryz.f8 Rows.gaussNoneRow.domain false) (Rows.gaussNoneSpec.post enc Tryz.prog Tryz.f8 false true false false) := by
  refine returnsInHanded_of_change_sized (C := Tryz.checked) own started (by kernel_rfl) Tryz.func8
    (ChangeSpec.witness6 (enc := enc) (C := Tryz.checked) false ⟨#[], #[.int .u8 0, .slice none 0 0, .slice none 0 0, .int .u8 0, .int .u8 0], []⟩ 8 (by kernel_rfl) (by kernel_rfl) (by kernel_rfl) (by kernel_rfl)) ?_
  intro W base args ds gs before hval0 hW _ hz _
  have hval : ∀ (j : Nat) t v, Tryz.f8.params[j]? = some t → args[j]? = some v → Value.okWide Tryz.prog W .any base t v := hval0
  have hW' := hW
  obtain ⟨p, q, hA0, hV, rfl, _, _⟩ := hW
  have hA : DataW.TrodAll enc Tryz.prog W 0 (fun _ => true) true Tryz.f8.params.toList args.toList ds p := hA0
  rw [Tryz.params8] at hA hval
  obtain ⟨v0, vs0, d0, ds0, p0, q0, hargs, rfl, rfl, h0, r0⟩ := trodAll_cons hA
  obtain ⟨v1, vs1, d1, ds1, p1, q1, rfl, rfl, rfl, h1, r1⟩ := trodAll_cons r0
  obtain ⟨v2, vs2, d2, ds2, p2, q2, rfl, rfl, rfl, h2, r2⟩ := trodAll_cons r1
  obtain ⟨v3, vs3, d3, ds3, p3, q3, rfl, rfl, rfl, h3, r3⟩ := trodAll_cons r2
  obtain ⟨v4, vs4, d4, ds4, p4, q4, rfl, rfl, rfl, h4, r4⟩ := trodAll_cons r3
  obtain ⟨rfl, rfl, rfl⟩ := trodAll_nil r4
  obtain rfl : args = #[v0, v1, v2, v3, v4] := by cases args; simp_all
  obtain ⟨rfl, rfl⟩ := trodVars_none hV
  obtain ⟨a0, rfl, rfl, rfl, w0⟩ := open_int Tryz.underlying5 (hval 0 5 v0 rfl rfl) h0
  obtain ⟨n0, b0, rfl⟩ := nat_of_u8 w0
  have k1 := h1
  obtain ⟨q1, n1, c1, xs1, rfl, w1, m1⟩ := open_bytes_sz Tryz.underlying22 Tryz.underlying5 (by kernel_rfl) (hval 1 22 v1 rfl rfl) h1
  have y1 : n1 ≤ c1 ∧ c1 ≤ 140737488351232 := ⟨m1.1, m1.2 _ fun el sp hd => by have := sized_slice (j := 1) (t := 22) (e := 5) (elems := el) (spare := sp) hz (by kernel_rfl) (by first | (rw [← hd]; done) | (rw [← hd]; rfl)) Tryz.underlying22; have hbe : Tryz.checked.prog.bytesOf 5 = 1 := (by kernel_rfl); have hre : reachBytes = 140737488351232 := rfl; rw [hbe, hre] at this; omega⟩
  have k2 := h2
  obtain ⟨q2, n2, c2, xs2, rfl, w2, m2⟩ := open_bytes_sz Tryz.underlying22 Tryz.underlying5 (by kernel_rfl) (hval 2 22 v2 rfl rfl) h2
  have y2 : n2 ≤ c2 ∧ c2 ≤ 140737488351232 := ⟨m2.1, m2.2 _ fun el sp hd => by have := sized_slice (j := 2) (t := 22) (e := 5) (elems := el) (spare := sp) hz (by kernel_rfl) (by first | (rw [← hd]; done) | (rw [← hd]; rfl)) Tryz.underlying22; have hbe : Tryz.checked.prog.bytesOf 5 = 1 := (by kernel_rfl); have hre : reachBytes = 140737488351232 := rfl; rw [hbe, hre] at this; omega⟩
  obtain ⟨a3, rfl, rfl, rfl, w3⟩ := open_int Tryz.underlying5 (hval 3 5 v3 rfl rfl) h3
  obtain ⟨n3, b3, rfl⟩ := nat_of_u8 w3
  obtain ⟨a4, rfl, rfl, rfl, w4⟩ := open_int Tryz.underlying5 (hval 4 5 v4 rfl rfl) h4
  obtain ⟨n4, b4, rfl⟩ := nat_of_u8 w4
  clear hA0 hval0
  simp only [List.append_nil] at hW'
  refine (walk (w := W) n0 q1 n1 c1 xs1 q2 n2 c2 xs2 n3 n4 b0 w1 y1 w2 y2 b3 b4).mono fun e W' ⟨he, bel⟩ => ?_
  subst he
  exact ⟨_, rfl, _, _, _, [], _, [], hW', trodAll_mk1 (shut_bool Tryz.underlying4 _), (trodAll_cons_mk (shut_int Tryz.underlying5 w0) (trodAll_cons_mk (shut_same laidOut (by kernel_rfl) (of_decide_eq_true (by kernel_rfl)) k1 bel) (trodAll_cons_mk (shut_same laidOut (by kernel_rfl) (of_decide_eq_true (by kernel_rfl)) k2 bel) (trodAll_cons_mk (shut_int Tryz.underlying5 w3) (trodAll_cons_mk (shut_int Tryz.underlying5 w4) trodAll_mk0))))), rfl, bel.frame _, fun h => by cases h⟩
theorem over : Rows.gaussNoneRow.holds Tryz.pinned (OpenSpec.ofChange Rows.gaussNoneSpec) :=
  OpenClaim.holds_of_wide 8 Tryz.f8 rfl rfl rfl rfl rfl rfl rfl ⟨rfl, rfl, rfl, rfl, rfl⟩ rfl rfl rfl rfl rfl (by kernel_rfl) Tryz.func8 (by kernel_rfl)
    (of_decide_eq_true (by kernel_rfl)) (by unfold Func.isWrapper; first | (rw [if_pos (by decide +kernel)]; kernel_rfl) | (rw [if_neg (by decide +kernel)]; exact ⟨rfl, rfl⟩))
    (fun os started H enc _ => lifted os started H enc)
theorem proved : Rows.GaussNoneSaid := over
#print axioms proved
end Go.Proofs.YtnphdldcfdpflaaGreat.gaussNone
