/- PolyAsks holds for every input: all calls of any lists and numbers are what the chapter says. No conditions. -/
import Derived.Test.YtddgakaidlclcaaRows
import Derived.Test.YtddgakaidlclcaaNums
import Derived.Test.YtddgakaidlclcaaCaps
import Derived.Test.YtddgakaidlclcaaKnown05
import Derived.Test.YtddgakaidlclcaaRef05c
import Derived.Test.YtddgakaidlclcaaRef05d
namespace Go.Proofs.Ytddgakaidlclcaa.polyAsks
open Go.ChangeShapes Go.WideShapes Go.ChangeAt Go.RowKit
open Pol (IsN Dg ofL Byt)

theorem int_of_i8 {a : Int} (h : (Lit.int .i8 a).wf = true) : -128 ≤ a ∧ a < 128 := by
  have := bounds_i8 h
  omega
theorem bd_shP {n d : Nat} {p : Pol} (k : Int) (h : Dg d p) (hn : d ≤ n) : Pol.Bd (n + 1001) (shP k d p) := by
  unfold shP
  split
  · exact Pol.Bd.zero _
  · split
    · exact fun i hi => h.bd _ (by omega)
    · rename_i h1 _
      exact (h.bd.up k.toNat).mono_le (by omega)
set_option maxRecDepth 100000 in
set_option maxHeartbeats 4000000 in
theorem asks_calls (k : Nat) (hk1 : 1 ≤ k) (hk3 : k ≤ 3) (q : Option Addr) (n c : Nat) (xs : List Nat) (p : Option Addr) (m d : Nat) (ys : List Nat) (a : Nat) (z : Int) (ha : a < 256) (hz1 : -9223372036854775808 ≤ z) (hz2 : z < 9223372036854775808) (Cp : n ≤ c) (Cq : m ≤ d) (hnm : n + m ≤ 200) (w : World) (S_p : Bs w q n xs) (S_q : Bs w p m ys) :
    Calls Try.prog 10 #[.int .i64 (k : Int), .slice q n c, .slice p m d, .int .u8 a, .int .i64 z] w fun e w' => e = .returned (.bool true) ∧ Below w.heap.size w w' := by
  have lp := S_p.len
  have lq := S_q.len
  obtain ⟨dp, hdp, gp⟩ := Pol.dg_list xs
  obtain ⟨l1, h1, b1⟩ := Pol.isN_norm xs
  obtain ⟨la, h2, b2⟩ := Pol.isN_add xs ys
  obtain ⟨ls, h3, b3⟩ := Pol.isN_smul (GF.of a) xs
  obtain ⟨lm, h4, b4⟩ := Pol.isN_mul xs ys
  obtain ⟨lh, h5, b5⟩ := Pol.isN_of_bd (bd_shP (n := n) z gp (by omega))
  obtain ⟨lc, h6, b6⟩ := Pol.isN_cut z.toNat xs
  obtain ⟨b, hb⟩ : ∃ b : Bool, b = true ↔ ofL xs = ofL ys := by
    by_cases h : ofL xs = ofL ys
    · exact ⟨true, iff_of_true rfl h⟩
    · exact ⟨false, iff_of_false (by decide) h⟩
  obtain ⟨n1, e1⟩ : ∃ n1, l1.length = n1 := ⟨_, rfl⟩
  obtain ⟨na, e2⟩ : ∃ na, la.length = na := ⟨_, rfl⟩
  obtain ⟨ns, e3⟩ : ∃ ns, ls.length = ns := ⟨_, rfl⟩
  obtain ⟨nm, e4⟩ : ∃ nm, lm.length = nm := ⟨_, rfl⟩
  obtain ⟨nh, e5⟩ : ∃ nh, lh.length = nh := ⟨_, rfl⟩
  obtain ⟨nc, e6⟩ : ∃ nc, lc.length = nc := ⟨_, rfl⟩
  have HU : Hid (n ≤ 200 ∧ m ≤ 200) := by show _ ∧ _; omega
  have HH : Hid (IsN l1 (ofL xs) ∧ IsN la (Pol.add (ofL xs) (ofL ys)) ∧ IsN ls (Pol.smul (GF.of a) (ofL xs)) ∧ IsN lm (Pol.mul (ofL xs) (ofL ys)) ∧ IsN lh (shP z dp (ofL xs)) ∧ IsN lc (Pol.cut z.toNat (ofL xs)) ∧ Dg dp (ofL xs) ∧ (b = true ↔ ofL xs = ofL ys)) := ⟨h1, h2, h3, h4, h5, h6, gp, hb⟩
  have HNl : Hid (l1.length = n1 ∧ la.length = na ∧ ls.length = ns ∧ lm.length = nm ∧ lh.length = nh ∧ lc.length = nc) := ⟨e1, e2, e3, e4, e5, e6⟩
  have Hz : Hid (-9223372036854775808 ≤ z ∧ z < 9223372036854775808) := ⟨hz1, hz2⟩
  clear h1 h2 h3 h4 h5 h6 gp hb e1 e2 e3 e4 e5 e6 b1 b2 b3 b4 b5 b6 hdp lp lq hz1 hz2 hnm
  have HB : Below w.heap.size w w := Below.refl _ _
  go_enter Try.func10, Try.ntmps10
  go_wp2_with fail
  refine (fof_calls k hk1 hk3 _).mono ?_
  rintro e w1 ⟨B_f, T_f, rfl, HF_f, hb, hlB, hlT⟩
  have HL_f : w.heap.size ≤ T_f := Nat.le_trans HB.size hlT
  have Q_p_f := S_p.off hlT
  have Q_q_f := S_q.off hlT
  replace HB := HB.trans (hb.mono HB.size)
  replace S_p := S_p.below hb
  replace S_q := S_q.below hb
  clear hb hlB hlT
  go_wp2_with fail
  refine (pnorm_calls q n c xs l1 HH.out.1 (by have := HU.out; omega) Cp _ S_p).mono ?_
  rintro e w2 ⟨v, rfl, hO, hb⟩
  obtain ⟨q_a, c_a, rfl, S_a, C_a, hQ⟩ := hO.tell (n := n1) HH.out.1.byt HNl.out.1
  clear hO
  have Q_a_f := hQ _ HF_f.lt
  clear hQ
  replace HB := HB.trans (hb.mono HB.size)
  replace HF_f := HF_f.below hb
  replace S_p := S_p.below hb
  replace S_q := S_q.below hb
  clear hb
  go_wp2_with fail
  refine (rnorm_calls q n c xs l1 HH.out.1 (by have := HU.out; omega) Cp _ S_p).mono ?_
  rintro e w3 ⟨v, rfl, hO, hb⟩
  obtain ⟨q_b, c_b, rfl, S_b, C_b, hQ⟩ := hO.tell (n := n1) HH.out.1.byt HNl.out.1
  clear hO
  have Q_b_f := hQ _ HF_f.lt
  clear hQ
  replace HB := HB.trans (hb.mono HB.size)
  replace HF_f := HF_f.below hb
  replace S_p := S_p.below hb
  replace S_q := S_q.below hb
  replace S_a := S_a.below hb
  clear hb
  go_wp2_with fail
  refine (same_calls q_a q_b n1 c_a c_b l1 _ S_a S_b).mono ?_
  rintro e w4 ⟨rfl, hb⟩
  replace HB := HB.trans (hb.mono HB.size)
  replace HF_f := HF_f.below hb
  replace S_p := S_p.below hb
  replace S_q := S_q.below hb
  replace S_a := S_a.below hb
  replace S_b := S_b.below hb
  clear hb
  clear S_a S_b
  go_wp2_with fail
  refine (pdeg_calls q n c xs dp HH.out.2.2.2.2.2.2.1 _ S_p).mono ?_
  rintro e w5 ⟨rfl, hb⟩
  replace HB := HB.trans (hb.mono HB.size)
  replace HF_f := HF_f.below hb
  replace S_p := S_p.below hb
  replace S_q := S_q.below hb
  clear hb
  go_wp2_with fail
  refine (rdeg_calls q n c xs dp HH.out.2.2.2.2.2.2.1 (by have := HU.out; omega) _ S_p).mono ?_
  rintro e w6 ⟨rfl, hw⟩
  subst hw
  go_wp2_with fail
  refine (pcoef_calls q n c xs z _ S_p).mono ?_
  rintro e w7 ⟨rfl, hw⟩
  subst hw
  go_wp2_with fail
  refine (rcoef_calls q n c xs z _ S_p).mono ?_
  rintro e w8 ⟨rfl, hw⟩
  subst hw
  go_wp2_with fail
  refine (psame_calls q p n c m d xs ys b HH.out.2.2.2.2.2.2.2 Cp Cq _ S_p S_q).mono ?_
  rintro e w9 ⟨rfl, hb⟩
  replace HB := HB.trans (hb.mono HB.size)
  replace HF_f := HF_f.below hb
  replace S_p := S_p.below hb
  replace S_q := S_q.below hb
  clear hb
  go_wp2_with fail
  refine (rsame_calls q p n c m d xs ys b HH.out.2.2.2.2.2.2.2 (by have := HU.out; omega) (by have := HU.out; omega) Cp Cq _ S_p S_q).mono ?_
  rintro e w10 ⟨rfl, hb⟩
  replace HB := HB.trans (hb.mono HB.size)
  replace HF_f := HF_f.below hb
  replace S_p := S_p.below hb
  replace S_q := S_q.below hb
  clear hb
  go_wp2_with fail
  refine (padd_calls q p n c m d xs ys la HH.out.2.1 (by have := HU.out; omega) (by have := HU.out; omega) _ S_p S_q).mono ?_
  rintro e w11 ⟨v, rfl, hO, hb⟩
  obtain ⟨q_c, c_c, rfl, S_c, C_c, hQ⟩ := hO.tell (n := na) HH.out.2.1.byt HNl.out.2.1
  clear hO
  have Q_c_f := hQ _ HF_f.lt
  clear hQ
  replace HB := HB.trans (hb.mono HB.size)
  replace HF_f := HF_f.below hb
  replace S_p := S_p.below hb
  replace S_q := S_q.below hb
  clear hb
  go_wp2_with fail
  refine (radd_calls q p n c m d xs ys la HH.out.2.1 (by have := HU.out; omega) (by have := HU.out; omega) _ S_p S_q).mono ?_
  rintro e w12 ⟨v, rfl, hO, hb⟩
  obtain ⟨q_d, c_d, rfl, S_d, C_d, hQ⟩ := hO.tell (n := na) HH.out.2.1.byt HNl.out.2.1
  clear hO
  have Q_d_f := hQ _ HF_f.lt
  clear hQ
  replace HB := HB.trans (hb.mono HB.size)
  replace HF_f := HF_f.below hb
  replace S_p := S_p.below hb
  replace S_q := S_q.below hb
  replace S_c := S_c.below hb
  clear hb
  go_wp2_with fail
  refine (same_calls q_c q_d na c_c c_d la _ S_c S_d).mono ?_
  rintro e w13 ⟨rfl, hb⟩
  replace HB := HB.trans (hb.mono HB.size)
  replace HF_f := HF_f.below hb
  replace S_p := S_p.below hb
  replace S_q := S_q.below hb
  replace S_c := S_c.below hb
  replace S_d := S_d.below hb
  clear hb
  clear S_c S_d
  go_wp2_with fail
  refine (pscale_calls k B_f T_f a n c q xs ls ha HH.out.2.2.1 (by have := HU.out; omega) Cp _ HF_f S_p Q_p_f).mono ?_
  rintro e w14 ⟨v, rfl, hO, hF, hb⟩
  obtain ⟨q_e, c_e, rfl, S_e, C_e, hQ⟩ := hO.tell (n := ns) HH.out.2.2.1.byt HNl.out.2.2.1
  clear hO
  have Q_e_f := hQ _ HF_f.lt
  clear hQ
  replace HB := HB.trans (hb.below HB.size (by rintro k rfl; exact HL_f))
  replace S_p := S_p.but hb Q_p_f
  replace S_q := S_q.but hb Q_q_f
  clear HF_f hb
  have HF_f := hF
  clear hF
  go_wp2_with fail
  refine (rscale_calls a n c q xs ls ha HH.out.2.2.1 (by have := HU.out; omega) _ S_p).mono ?_
  rintro e w15 ⟨v, rfl, hO, hb⟩
  obtain ⟨q_g, c_g, rfl, S_g, C_g, hQ⟩ := hO.tell (n := ns) HH.out.2.2.1.byt HNl.out.2.2.1
  clear hO
  have Q_g_f := hQ _ HF_f.lt
  clear hQ
  replace HB := HB.trans (hb.mono HB.size)
  replace HF_f := HF_f.below hb
  replace S_p := S_p.below hb
  replace S_q := S_q.below hb
  replace S_e := S_e.below hb
  clear hb
  go_wp2_with fail
  refine (same_calls q_e q_g ns c_e c_g ls _ S_e S_g).mono ?_
  rintro e w16 ⟨rfl, hb⟩
  replace HB := HB.trans (hb.mono HB.size)
  replace HF_f := HF_f.below hb
  replace S_p := S_p.below hb
  replace S_q := S_q.below hb
  replace S_e := S_e.below hb
  replace S_g := S_g.below hb
  clear hb
  clear S_e S_g
  go_wp2_with fail
  refine (pmul_calls k B_f T_f n c m d q p xs ys lm HH.out.2.2.2.1 (by have := HU.out; omega) (by have := HU.out; omega) Cp Cq _ HF_f S_p S_q Q_p_f Q_q_f).mono ?_
  rintro e w17 ⟨v, rfl, hO, hF, hb⟩
  obtain ⟨q_h, c_h, rfl, S_h, C_h, hQ⟩ := hO.tell (n := nm) HH.out.2.2.2.1.byt HNl.out.2.2.2.1
  clear hO
  have Q_h_f := hQ _ HF_f.lt
  clear hQ
  replace HB := HB.trans (hb.below HB.size (by rintro k rfl; exact HL_f))
  replace S_p := S_p.but hb Q_p_f
  replace S_q := S_q.but hb Q_q_f
  clear HF_f hb
  have HF_f := hF
  clear hF
  go_wp2_with fail
  refine (rpmul_calls q p n c m d xs ys lm HH.out.2.2.2.1 (by have := HU.out; omega) (by have := HU.out; omega) _ S_p S_q).mono ?_
  rintro e w18 ⟨v, rfl, hO, hb⟩
  obtain ⟨q_i, c_i, rfl, S_i, C_i, hQ⟩ := hO.tell (n := nm) HH.out.2.2.2.1.byt HNl.out.2.2.2.1
  clear hO
  have Q_i_f := hQ _ HF_f.lt
  clear hQ
  replace HB := HB.trans (hb.mono HB.size)
  replace HF_f := HF_f.below hb
  replace S_p := S_p.below hb
  replace S_q := S_q.below hb
  replace S_h := S_h.below hb
  clear hb
  go_wp2_with fail
  refine (same_calls q_h q_i nm c_h c_i lm _ S_h S_i).mono ?_
  rintro e w19 ⟨rfl, hb⟩
  replace HB := HB.trans (hb.mono HB.size)
  replace HF_f := HF_f.below hb
  replace S_p := S_p.below hb
  replace S_q := S_q.below hb
  replace S_h := S_h.below hb
  replace S_i := S_i.below hb
  clear hb
  clear S_h S_i
  go_wp2_with fail
  refine (pshift_calls q n c xs lh z dp HH.out.2.2.2.2.2.2.1 HH.out.2.2.2.2.1 (by have := HU.out; omega) Cp Hz.out.1 Hz.out.2 _ S_p).mono ?_
  rintro e w20 ⟨v, rfl, hO, hb⟩
  obtain ⟨q_j, c_j, rfl, S_j, C_j, hQ⟩ := hO.tell (n := nh) HH.out.2.2.2.2.1.byt HNl.out.2.2.2.2.1
  clear hO
  have Q_j_f := hQ _ HF_f.lt
  clear hQ
  replace HB := HB.trans (hb.mono HB.size)
  replace HF_f := HF_f.below hb
  replace S_p := S_p.below hb
  replace S_q := S_q.below hb
  clear hb
  go_wp2_with fail
  refine (rshift_calls q n c xs lh z dp HH.out.2.2.2.2.2.2.1 HH.out.2.2.2.2.1 (by have := HU.out; omega) _ S_p).mono ?_
  rintro e w21 ⟨v, rfl, hO, hb⟩
  obtain ⟨q_l, c_l, rfl, S_l, C_l, hQ⟩ := hO.tell (n := nh) HH.out.2.2.2.2.1.byt HNl.out.2.2.2.2.1
  clear hO
  have Q_l_f := hQ _ HF_f.lt
  clear hQ
  replace HB := HB.trans (hb.mono HB.size)
  replace HF_f := HF_f.below hb
  replace S_p := S_p.below hb
  replace S_q := S_q.below hb
  replace S_j := S_j.below hb
  clear hb
  go_wp2_with fail
  refine (same_calls q_j q_l nh c_j c_l lh _ S_j S_l).mono ?_
  rintro e w22 ⟨rfl, hb⟩
  replace HB := HB.trans (hb.mono HB.size)
  replace HF_f := HF_f.below hb
  replace S_p := S_p.below hb
  replace S_q := S_q.below hb
  replace S_j := S_j.below hb
  replace S_l := S_l.below hb
  clear hb
  clear S_j S_l
  go_wp2_with fail
  refine (pcut_calls q n c xs lc z HH.out.2.2.2.2.2.1 (by have := HU.out; omega) Cp _ S_p).mono ?_
  rintro e w23 ⟨v, rfl, hO, hb⟩
  obtain ⟨q_o, c_o, rfl, S_o, C_o, hQ⟩ := hO.tell (n := nc) HH.out.2.2.2.2.2.1.byt HNl.out.2.2.2.2.2
  clear hO
  have Q_o_f := hQ _ HF_f.lt
  clear hQ
  replace HB := HB.trans (hb.mono HB.size)
  replace HF_f := HF_f.below hb
  replace S_p := S_p.below hb
  replace S_q := S_q.below hb
  clear hb
  go_wp2_with fail
  refine (rcut_calls q n c xs lc z HH.out.2.2.2.2.2.1 (by have := HU.out; omega) Cp _ S_p).mono ?_
  rintro e w24 ⟨v, rfl, hO, hb⟩
  obtain ⟨q_r, c_r, rfl, S_r, C_r, hQ⟩ := hO.tell (n := nc) HH.out.2.2.2.2.2.1.byt HNl.out.2.2.2.2.2
  clear hO
  have Q_r_f := hQ _ HF_f.lt
  clear hQ
  replace HB := HB.trans (hb.mono HB.size)
  replace HF_f := HF_f.below hb
  replace S_p := S_p.below hb
  replace S_q := S_q.below hb
  replace S_o := S_o.below hb
  clear hb
  go_wp2_with fail
  refine (same_calls q_o q_r nc c_o c_r lc _ S_o S_r).mono ?_
  rintro e w25 ⟨rfl, hb⟩
  replace HB := HB.trans (hb.mono HB.size)
  replace HF_f := HF_f.below hb
  replace S_p := S_p.below hb
  replace S_q := S_q.below hb
  replace S_o := S_o.below hb
  replace S_r := S_r.below hb
  clear hb
  go_wp2
  go_ret
  exact ⟨rfl, HB⟩
set_option maxRecDepth 100000 in
set_option maxHeartbeats 4000000 in
theorem walk (j : Nat) (q : Option Addr) (n c : Nat) (xs : List Nat) (p : Option Addr) (m d : Nat) (ys : List Nat) (a : Nat) (z y : Int) (w : World) (hj : j < 256) (S_p : Bs w q n xs) (y_p : n ≤ c ∧ c ≤ 140737488351232) (S_q : Bs w p m ys) (y_q : m ≤ d ∧ d ≤ 140737488351232) (ha : a < 256) (hz1 : -9223372036854775808 ≤ z) (hz2 : z < 9223372036854775808) (hy1 : -128 ≤ y) (hy2 : y < 128) :
    Calls Try.prog 3 #[.int .u8 j, .slice q n c, .slice p m d, .int .u8 a, .int .i64 z, .int .i8 y] w fun e w' => e = .returned (.bool true) ∧ Below w.heap.size w w' := by
  have hnot : ∀ (x : Bool) (w : World), (Op.unary .not (.bool x)).run Try.prog w = .ok (.bool (!x)) w := fun _ _ => rfl
  obtain ⟨k, hk⟩ : ∃ k : Nat, 1 + j % 3 = k := ⟨_, rfl⟩
  have hk1 : 1 ≤ k := by omega
  have hk3 : k ≤ 3 := by omega
  have hki : (1 : Int) + (j : Int) % 3 = (k : Int) := by omega
  clear hk
  have HB : Below w.heap.size w w := Below.refl _ _
  have Cp := y_p.1
  have Cq := y_q.1
  have HW : Hid (wrap64 ((n : Int) + (m : Int)) = (n : Int) + (m : Int)) := by show _ = _; unfold wrap64; omega
  have Hz : Hid (-9223372036854775808 ≤ z ∧ z < 9223372036854775808 ∧ -9223372036854775808 ≤ y ∧ y < 9223372036854775808) := ⟨hz1, hz2, by omega, by omega⟩
  clear y_p y_q hz1 hz2
  go_enter Try.func3, Try.ntmps3
  by_cases hbig : 200 < n + m
  · have hb1 : (200 : Int) < (n : Int) + (m : Int) := by omega
    have hs1 := HW.out
    clear hki hbig
    go_wp2_with fail
    refine (known05_calls _).mono ?_
    rintro e w1 ⟨rfl, hb⟩
    replace HB := HB.trans (hb.mono HB.size)
    replace S_p := S_p.below hb
    replace S_q := S_q.below hb
    clear hb
    go_wp2
    go_ret
    exact ⟨rfl, HB⟩
  · have hb1 : ((200 : Int) < (n : Int) + (m : Int)) = False := eq_false (by omega)
    have HU : Hid (n + m ≤ 200) := by show _ ≤ _; omega
    have hs1 := HW.out
    clear hbig
    go_wp2_with fail
    refine (known05_calls _).mono ?_
    rintro e w1 ⟨rfl, hb⟩
    replace HB := HB.trans (hb.mono HB.size)
    replace S_p := S_p.below hb
    replace S_q := S_q.below hb
    clear hb
    clear hs1 HW hb1
    go_wp2_with fail
    refine (asks_calls k hk1 hk3 q n c xs p m d ys a z ha Hz.out.1 Hz.out.2.1 Cp Cq HU.out _ S_p S_q).mono ?_
    rintro e w2 ⟨rfl, hb⟩
    replace HB := HB.trans (hb.mono HB.size)
    replace S_p := S_p.below hb
    replace S_q := S_q.below hb
    clear hb
    go_wp2_with fail
    refine (asks_calls k hk1 hk3 q n c xs p m d ys a y ha Hz.out.2.2.1 Hz.out.2.2.2 Cp Cq HU.out _ S_p S_q).mono ?_
    rintro e w3 ⟨rfl, hb⟩
    replace HB := HB.trans (hb.mono HB.size)
    replace S_p := S_p.below hb
    replace S_q := S_q.below hb
    clear hb
    go_wp2
    go_ret
    exact ⟨rfl, HB⟩
theorem own : ownKnob Try.prog.godebug = none := by kernel_rfl
theorem laidOut : laidOutB Try.prog = true := by kernel_rfl
set_option maxRecDepth 100000 in
theorem lifted (os : Os) (started : os.Started) (H : Type) (enc : TypeId × Value → H) :
    ReturnsInHanded {} Try.checked os 3 .any (Rows.polyAsksSpec.pre6 enc Try.prog Try.f3 Rows.polyAsksRow.domain false) (Rows.polyAsksSpec.post enc Try.prog Try.f3 false true false false) := by
  refine returnsInHanded_of_change_sized (C := Try.checked) own started (by kernel_rfl) Try.func3
    (ChangeSpec.witness6 (enc := enc) (C := Try.checked) false ⟨#[], #[.int .u8 0, .slice none 0 0, .slice none 0 0, .int .u8 0, .int .i64 0, .int .i8 0], []⟩ 8 (by kernel_rfl) (by kernel_rfl) (by kernel_rfl) (by kernel_rfl)) ?_
  intro W base args ds gs before hval0 hW _ hz _
  have hval : ∀ (j : Nat) t v, Try.f3.params[j]? = some t → args[j]? = some v → Value.okWide Try.prog W .any base t v := hval0
  have hW' := hW
  obtain ⟨p, q, hA0, hV, rfl, _, _⟩ := hW
  have hA : DataW.TrodAll enc Try.prog W 0 (fun _ => true) true Try.f3.params.toList args.toList ds p := hA0
  rw [Try.params3] at hA hval
  obtain ⟨v0, vs0, d0, ds0, p0, q0, hargs, rfl, rfl, h0, r0⟩ := trodAll_cons hA
  obtain ⟨v1, vs1, d1, ds1, p1, q1, rfl, rfl, rfl, h1, r1⟩ := trodAll_cons r0
  obtain ⟨v2, vs2, d2, ds2, p2, q2, rfl, rfl, rfl, h2, r2⟩ := trodAll_cons r1
  obtain ⟨v3, vs3, d3, ds3, p3, q3, rfl, rfl, rfl, h3, r3⟩ := trodAll_cons r2
  obtain ⟨v4, vs4, d4, ds4, p4, q4, rfl, rfl, rfl, h4, r4⟩ := trodAll_cons r3
  obtain ⟨v5, vs5, d5, ds5, p5, q5, rfl, rfl, rfl, h5, r5⟩ := trodAll_cons r4
  obtain ⟨rfl, rfl, rfl⟩ := trodAll_nil r5
  obtain rfl : args = #[v0, v1, v2, v3, v4, v5] := by cases args; simp_all
  obtain ⟨rfl, rfl⟩ := trodVars_none hV
  obtain ⟨a0, rfl, rfl, rfl, w0⟩ := open_int Try.underlying5 (hval 0 5 v0 rfl rfl) h0
  obtain ⟨n0, b0, rfl⟩ := nat_of_u8 w0
  have k1 := h1
  obtain ⟨q1, n1, c1, xs1, rfl, w1, m1⟩ := open_bytes_sz Try.underlying22 Try.underlying5 (by kernel_rfl) (hval 1 22 v1 rfl rfl) h1
  have y1 : n1 ≤ c1 ∧ c1 ≤ 140737488351232 := ⟨m1.1, m1.2 _ fun el sp hd => by have := sized_slice (j := 1) (t := 22) (e := 5) (elems := el) (spare := sp) hz (by kernel_rfl) (by first | (rw [← hd]; done) | (rw [← hd]; rfl)) Try.underlying22; have hbe : Try.checked.prog.bytesOf 5 = 1 := (by kernel_rfl); have hre : reachBytes = 140737488351232 := rfl; rw [hbe, hre] at this; omega⟩
  have k2 := h2
  obtain ⟨q2, n2, c2, xs2, rfl, w2, m2⟩ := open_bytes_sz Try.underlying22 Try.underlying5 (by kernel_rfl) (hval 2 22 v2 rfl rfl) h2
  have y2 : n2 ≤ c2 ∧ c2 ≤ 140737488351232 := ⟨m2.1, m2.2 _ fun el sp hd => by have := sized_slice (j := 2) (t := 22) (e := 5) (elems := el) (spare := sp) hz (by kernel_rfl) (by first | (rw [← hd]; done) | (rw [← hd]; rfl)) Try.underlying22; have hbe : Try.checked.prog.bytesOf 5 = 1 := (by kernel_rfl); have hre : reachBytes = 140737488351232 := rfl; rw [hbe, hre] at this; omega⟩
  obtain ⟨a3, rfl, rfl, rfl, w3⟩ := open_int Try.underlying5 (hval 3 5 v3 rfl rfl) h3
  obtain ⟨n3, b3, rfl⟩ := nat_of_u8 w3
  obtain ⟨a4, rfl, rfl, rfl, w4⟩ := open_int Try.underlying3 (hval 4 3 v4 rfl rfl) h4
  obtain ⟨b4, c4⟩ := int_of_i64 w4
  obtain ⟨a5, rfl, rfl, rfl, w5⟩ := open_int Try.underlying23 (hval 5 23 v5 rfl rfl) h5
  obtain ⟨b5, c5⟩ := int_of_i8 w5
  clear hA0 hval0
  simp only [List.append_nil] at hW'
  refine (walk (w := W) n0 q1 n1 c1 xs1 q2 n2 c2 xs2 n3 a4 a5 b0 w1 y1 w2 y2 b3 b4 c4 b5 c5).mono fun e W' ⟨he, bel⟩ => ?_
  subst he
  exact ⟨_, rfl, _, _, _, [], _, [], hW', trodAll_mk1 (shut_bool Try.underlying4 _), (trodAll_cons_mk (shut_int Try.underlying5 w0) (trodAll_cons_mk (shut_same laidOut (by kernel_rfl) (of_decide_eq_true (by kernel_rfl)) k1 bel) (trodAll_cons_mk (shut_same laidOut (by kernel_rfl) (of_decide_eq_true (by kernel_rfl)) k2 bel) (trodAll_cons_mk (shut_int Try.underlying5 w3) (trodAll_cons_mk (shut_int Try.underlying3 w4) (trodAll_cons_mk (shut_int Try.underlying23 w5) trodAll_mk0)))))), rfl, bel.frame _, fun h => by cases h⟩
theorem over : Rows.polyAsksRow.holds Try.pinned (OpenSpec.ofChange Rows.polyAsksSpec) :=
  OpenClaim.holds_of_wide 3 Try.f3 rfl rfl rfl rfl rfl rfl rfl ⟨rfl, rfl, rfl, rfl, rfl⟩ rfl rfl rfl rfl rfl (by kernel_rfl) Try.func3 (by kernel_rfl)
    (of_decide_eq_true (by kernel_rfl)) (by unfold Func.isWrapper; first | (rw [if_pos (by decide +kernel)]; kernel_rfl) | (rw [if_neg (by decide +kernel)]; exact ⟨rfl, rfl⟩))
    (fun os started H enc _ => lifted os started H enc)
theorem proved : Rows.PolyAsksSaid := over
#print axioms proved
end Go.Proofs.Ytddgakaidlclcaa.polyAsks
