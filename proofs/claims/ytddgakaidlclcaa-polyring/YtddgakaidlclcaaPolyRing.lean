/- PolyRing holds for every input: polynomials are a ring: products go with sums, in whatever order; degrees of products are sums. No conditions. -/
import Derived.Test.YtddgakaidlclcaaRows
import Derived.Test.YtddgakaidlclcaaNums
import Derived.Test.YtddgakaidlclcaaCaps
import Derived.Test.YtddgakaidlclcaaKnown05
namespace Go.Proofs.Ytddgakaidlclcaa.polyRing
open Go.ChangeShapes Go.WideShapes Go.ChangeAt Go.RowKit
open Pol (IsN Dg ofL Byt)

set_option maxRecDepth 100000 in
set_option maxHeartbeats 4000000 in
theorem walk (j : Nat) (q : Option Addr) (n c : Nat) (xs : List Nat) (p : Option Addr) (m d : Nat) (ys : List Nat) (r : Option Addr) (l e : Nat) (zs : List Nat) (w : World) (hj : j < 256) (S_p : Bs w q n xs) (y_p : n ≤ c ∧ c ≤ 140737488351232) (S_q : Bs w p m ys) (y_q : m ≤ d ∧ d ≤ 140737488351232) (S_r : Bs w r l zs) (y_r : l ≤ e ∧ e ≤ 140737488351232) :
    Calls Try.prog 4 #[.int .u8 j, .slice q n c, .slice p m d, .slice r l e] w fun e w' => e = .returned (.bool true) ∧ Below w.heap.size w w' := by
  obtain ⟨k, hk⟩ : ∃ k : Nat, 1 + j % 3 = k := ⟨_, rfl⟩
  have hk1 : 1 ≤ k := by omega
  have hk3 : k ≤ 3 := by omega
  have hki : (1 : Int) + (j : Int) % 3 = (k : Int) := by omega
  clear hk
  have HB : Below w.heap.size w w := Below.refl _ _
  have Cp := y_p.1
  have Cq := y_q.1
  have Cr := y_r.1
  have HW : Hid (wrap64 ((n : Int) + (m : Int)) = (n : Int) + (m : Int)) := by show _ = _; unfold wrap64; omega
  have HW2 : Hid (wrap64 ((n : Int) + (m : Int) + (l : Int)) = (n : Int) + (m : Int) + (l : Int)) := by show _ = _; unfold wrap64; omega
  clear y_p y_q y_r
  go_enter Try.func4, Try.ntmps4
  by_cases hbig : 100 < n + m + l
  · have hb1 : (100 : Int) < (n : Int) + (m : Int) + (l : Int) := by omega
    have hs1 := HW.out
    have hs2 := HW2.out
    go_wp2_with fail
    refine (known05_calls _).mono ?_
    rintro e w1 ⟨rfl, hb⟩
    replace HB := HB.trans (hb.mono HB.size)
    replace S_p := S_p.below hb
    replace S_q := S_q.below hb
    replace S_r := S_r.below hb
    clear hb
    go_wp2
    go_ret
    exact ⟨rfl, HB⟩
  · have hb1 : ¬ (100 : Int) < (n : Int) + (m : Int) + (l : Int) := by omega
    have lp := S_p.len
    have lq := S_q.len
    have lr := S_r.len
    obtain ⟨dp, hdp, gp⟩ := Pol.dg_list xs
    obtain ⟨dq, hdq, gq⟩ := Pol.dg_list ys
    obtain ⟨lm, hm, bm⟩ := Pol.isN_mul xs ys
    obtain ⟨la, ha, ba⟩ := Pol.isN_add ys zs
    obtain ⟨lb, hb0, bb⟩ := Pol.isN_mul xs la
    obtain ⟨lc, hc, bc⟩ := Pol.isN_mul xs zs
    obtain ⟨ld, hd, bd⟩ := Pol.isN_mul lm zs
    obtain ⟨le, he, be⟩ := Pol.isN_mul ys zs
    obtain ⟨l1, h1, b1⟩ := Pol.isN_norm xs
    have gm := Pol.dg_mul gp gq
    rw [← hm.eq] at gm
    have hm2 : IsN lm (Pol.mul (ofL ys) (ofL xs)) := by rw [Pol.mul_comm]; exact hm
    have hb2 : IsN lb (Pol.add (ofL lm) (ofL lc)) := by rw [hm.eq, hc.eq, ← Pol.mul_add, ← ha.eq]; exact hb0
    have hd2 : IsN ld (Pol.mul (ofL xs) (ofL le)) := by rw [he.eq, ← Pol.mul_assoc, ← hm.eq]; exact hd
    have hpp : IsN [] (Pol.add (ofL xs) (ofL xs)) := by rw [Pol.add_self]; exact Pol.isN_nil
    have h11 : IsN l1 (Pol.mul (ofL xs) (ofL [1])) := by
      have e1 : ofL [1] = Pol.one := by
        funext i
        cases i with
        | zero => rfl
        | succ i => show GF.of ([1].getD (i + 1) 0) = Pol.one (i + 1); simp [List.getD, Pol.one, Pol.mono]; rfl
      rw [e1, Pol.mul_one]; exact h1
    obtain ⟨dm, hdm⟩ : ∃ dm, (if dp = 0 ∨ dq = 0 then 0 else dp + dq - 1) = dm := ⟨_, rfl⟩
    rw [hdm] at gm
    obtain ⟨nm, nme⟩ : ∃ nm, lm.length = nm := ⟨_, rfl⟩
    obtain ⟨na, nae⟩ : ∃ na, la.length = na := ⟨_, rfl⟩
    obtain ⟨nb, nbe⟩ : ∃ nb, lb.length = nb := ⟨_, rfl⟩
    obtain ⟨nc, nce⟩ : ∃ nc, lc.length = nc := ⟨_, rfl⟩
    obtain ⟨nd, nde⟩ : ∃ nd, ld.length = nd := ⟨_, rfl⟩
    obtain ⟨ne, nee⟩ : ∃ ne, le.length = ne := ⟨_, rfl⟩
    obtain ⟨n1, n1e⟩ : ∃ n1, l1.length = n1 := ⟨_, rfl⟩
    have HU : Hid (nm ≤ 1000 ∧ na ≤ 1000 ∧ nb ≤ 1000 ∧ nc ≤ 1000 ∧ nd ≤ 1000 ∧ ne ≤ 1000 ∧ n1 ≤ 1000 ∧ n ≤ 1000 ∧ m ≤ 1000 ∧ l ≤ 1000) := by show _ ∧ _; omega
    have HH : Hid (Dg dp (ofL xs) ∧ Dg dq (ofL ys) ∧ Dg dm (ofL lm) ∧ IsN lm (Pol.mul (ofL xs) (ofL ys)) ∧ IsN lm (Pol.mul (ofL ys) (ofL xs)) ∧ IsN la (Pol.add (ofL ys) (ofL zs)) ∧ IsN lb (Pol.mul (ofL xs) (ofL la)) ∧ IsN lc (Pol.mul (ofL xs) (ofL zs)) ∧ IsN lb (Pol.add (ofL lm) (ofL lc)) ∧ IsN ld (Pol.mul (ofL lm) (ofL zs)) ∧ IsN le (Pol.mul (ofL ys) (ofL zs)) ∧ IsN ld (Pol.mul (ofL xs) (ofL le)) ∧ IsN [] (Pol.add (ofL xs) (ofL xs)) ∧ IsN l1 (Pol.mul (ofL xs) (ofL [1])) ∧ IsN l1 (ofL xs)) := ⟨gp, gq, gm, hm, hm2, ha, hb0, hc, hb2, hd, he, hd2, hpp, h11, h1⟩
    have HNl : Hid (lm.length = nm ∧ la.length = na ∧ lb.length = nb ∧ lc.length = nc ∧ ld.length = nd ∧ le.length = ne ∧ l1.length = n1) := ⟨nme, nae, nbe, nce, nde, nee, n1e⟩
    have Hdd : Hid (dm = 0 ∧ dp = 0 ∨ dm = 0 ∧ 0 < dp ∧ dq = 0 ∨ 0 < dp ∧ 0 < dq ∧ dm + 1 = dp + dq) := by
      show _ ∨ _
      rw [← hdm]
      by_cases h0 : dp = 0 ∨ dq = 0
      · rw [if_pos h0]; omega
      · rw [if_neg h0]; omega
    have Hdl : Hid (dp ≤ 100 ∧ dq ≤ 100) := by show _ ∧ _; omega
    clear gp gq gm hm hm2 ha hb0 hc hb2 hd he hd2 hpp h11 h1 nme nae nbe nce nde nee n1e bm ba bb bc bd be b1 hdm hdp hdq lp lq lr hbig
    have hs1 := HW.out
    have hs2 := HW2.out
    replace hb1 : ((100 : Int) < (n : Int) + (m : Int) + (l : Int)) = False := eq_false hb1
    go_wp2_with fail
    refine (fof_calls k hk1 hk3 _).mono ?_
    rintro e w1 ⟨B_f, T_f, rfl, HF_f, hb, hlB, hlT⟩
    have HL_f : w.heap.size ≤ T_f := Nat.le_trans HB.size hlT
    have Q_p_f := S_p.off hlT
    have Q_q_f := S_q.off hlT
    have Q_r_f := S_r.off hlT
    replace HB := HB.trans (hb.mono HB.size)
    replace S_p := S_p.below hb
    replace S_q := S_q.below hb
    replace S_r := S_r.below hb
    clear hb hlB hlT
    clear hs1 hs2 HW HW2 hb1 hki
    go_wp2_with fail
    refine (pmul_calls k B_f T_f n c m d q p xs ys lm HH.out.2.2.2.1 (by have := HU.out; omega) (by have := HU.out; omega) Cp Cq _ HF_f S_p S_q Q_p_f Q_q_f).mono ?_
    rintro e w2 ⟨v, rfl, hO, hF, hb⟩
    obtain ⟨q_m, c_m, rfl, S_m, C_m, hQ⟩ := hO.tell (n := nm) HH.out.2.2.2.1.byt HNl.out.1
    clear hO
    have Q_m_f := hQ _ HF_f.lt
    clear hQ
    replace HB := HB.trans (hb.below HB.size (by rintro k rfl; exact HL_f))
    replace S_p := S_p.but hb Q_p_f
    replace S_q := S_q.but hb Q_q_f
    replace S_r := S_r.but hb Q_r_f
    clear HF_f hb
    have HF_f := hF
    clear hF
    go_wp2_with fail
    refine (pdeg_calls q n c xs dp HH.out.1 _ S_p).mono ?_
    rintro e w3 ⟨rfl, hb⟩
    replace HB := HB.trans (hb.mono HB.size)
    replace HF_f := HF_f.below hb
    replace S_p := S_p.below hb
    replace S_q := S_q.below hb
    replace S_r := S_r.below hb
    replace S_m := S_m.below hb
    clear hb
    go_wp2_with fail
    refine (pdeg_calls p m d ys dq HH.out.2.1 _ S_q).mono ?_
    rintro e w4 ⟨rfl, hb⟩
    replace HB := HB.trans (hb.mono HB.size)
    replace HF_f := HF_f.below hb
    replace S_p := S_p.below hb
    replace S_q := S_q.below hb
    replace S_r := S_r.below hb
    replace S_m := S_m.below hb
    clear hb
    go_wp2_with fail
    refine (pdeg_calls q n c xs dp HH.out.1 _ S_p).mono ?_
    rintro e w5 ⟨rfl, hb⟩
    replace HB := HB.trans (hb.mono HB.size)
    replace HF_f := HF_f.below hb
    replace S_p := S_p.below hb
    replace S_q := S_q.below hb
    replace S_r := S_r.below hb
    replace S_m := S_m.below hb
    clear hb
    rcases Hdd.out with ⟨h1, h2⟩ | ⟨h1, h2, h3⟩ | ⟨h1, h2, h3⟩
    · subst h1 h2
      clear Hdd
      go_wp2_with fail
      refine (known05_calls _).mono ?_
      rintro e w6 ⟨rfl, hb⟩
      replace HB := HB.trans (hb.mono HB.size)
      replace HF_f := HF_f.below hb
      replace S_p := S_p.below hb
      replace S_q := S_q.below hb
      replace S_r := S_r.below hb
      replace S_m := S_m.below hb
      clear hb
      go_wp2_with fail
      refine (pdeg_calls q_m nm c_m lm 0 HH.out.2.2.1 _ S_m).mono ?_
      rintro e w7 ⟨rfl, hb⟩
      replace HB := HB.trans (hb.mono HB.size)
      replace HF_f := HF_f.below hb
      replace S_p := S_p.below hb
      replace S_q := S_q.below hb
      replace S_r := S_r.below hb
      replace S_m := S_m.below hb
      clear hb
      go_wp2_with fail
      refine (pmul_calls k B_f T_f m d n c p q ys xs lm HH.out.2.2.2.2.1 (by have := HU.out; omega) (by have := HU.out; omega) Cq Cp _ HF_f S_q S_p Q_q_f Q_p_f).mono ?_
      rintro e w8 ⟨v, rfl, hO, hF, hb⟩
      obtain ⟨q_x, c_x, rfl, S_x, C_x, hQ⟩ := hO.tell (n := nm) HH.out.2.2.2.2.1.byt HNl.out.1
      clear hO
      have Q_x_f := hQ _ HF_f.lt
      clear hQ
      replace HB := HB.trans (hb.below HB.size (by rintro k rfl; exact HL_f))
      replace S_p := S_p.but hb Q_p_f
      replace S_q := S_q.but hb Q_q_f
      replace S_r := S_r.but hb Q_r_f
      replace S_m := S_m.but hb Q_m_f
      clear HF_f hb
      have HF_f := hF
      clear hF
      go_wp2_with fail
      refine (psame_calls q_m q_x nm c_m nm c_x lm lm true (iff_of_true rfl rfl) C_m C_x _ S_m S_x).mono ?_
      rintro e w9 ⟨rfl, hb⟩
      replace HB := HB.trans (hb.mono HB.size)
      replace HF_f := HF_f.below hb
      replace S_p := S_p.below hb
      replace S_q := S_q.below hb
      replace S_r := S_r.below hb
      replace S_m := S_m.below hb
      replace S_x := S_x.below hb
      clear hb
      clear S_x
      go_wp2_with fail
      refine (padd_calls p r m d l e ys zs la HH.out.2.2.2.2.2.1 (by have := HU.out; omega) (by have := HU.out; omega) _ S_q S_r).mono ?_
      rintro e w10 ⟨v, rfl, hO, hb⟩
      obtain ⟨q_a, c_a, rfl, S_a, C_a, hQ⟩ := hO.tell (n := na) HH.out.2.2.2.2.2.1.byt HNl.out.2.1
      clear hO
      have Q_a_f := hQ _ HF_f.lt
      clear hQ
      replace HB := HB.trans (hb.mono HB.size)
      replace HF_f := HF_f.below hb
      replace S_p := S_p.below hb
      replace S_q := S_q.below hb
      replace S_r := S_r.below hb
      replace S_m := S_m.below hb
      clear hb
      go_wp2_with fail
      refine (pmul_calls k B_f T_f n c na c_a q q_a xs la lb HH.out.2.2.2.2.2.2.1 (by have := HU.out; omega) (by have := HU.out; omega) Cp C_a _ HF_f S_p S_a Q_p_f Q_a_f).mono ?_
      rintro e w11 ⟨v, rfl, hO, hF, hb⟩
      obtain ⟨q_b, c_b, rfl, S_b, C_b, hQ⟩ := hO.tell (n := nb) HH.out.2.2.2.2.2.2.1.byt HNl.out.2.2.1
      clear hO
      have Q_b_f := hQ _ HF_f.lt
      clear hQ
      replace HB := HB.trans (hb.below HB.size (by rintro k rfl; exact HL_f))
      replace S_p := S_p.but hb Q_p_f
      replace S_q := S_q.but hb Q_q_f
      replace S_r := S_r.but hb Q_r_f
      replace S_m := S_m.but hb Q_m_f
      replace S_a := S_a.but hb Q_a_f
      clear HF_f hb
      have HF_f := hF
      clear hF
      go_wp2_with fail
      refine (pmul_calls k B_f T_f n c l e q r xs zs lc HH.out.2.2.2.2.2.2.2.1 (by have := HU.out; omega) (by have := HU.out; omega) Cp Cr _ HF_f S_p S_r Q_p_f Q_r_f).mono ?_
      rintro e w12 ⟨v, rfl, hO, hF, hb⟩
      obtain ⟨q_c, c_c, rfl, S_c, C_c, hQ⟩ := hO.tell (n := nc) HH.out.2.2.2.2.2.2.2.1.byt HNl.out.2.2.2.1
      clear hO
      have Q_c_f := hQ _ HF_f.lt
      clear hQ
      replace HB := HB.trans (hb.below HB.size (by rintro k rfl; exact HL_f))
      replace S_p := S_p.but hb Q_p_f
      replace S_q := S_q.but hb Q_q_f
      replace S_r := S_r.but hb Q_r_f
      replace S_m := S_m.but hb Q_m_f
      replace S_a := S_a.but hb Q_a_f
      replace S_b := S_b.but hb Q_b_f
      clear HF_f hb
      have HF_f := hF
      clear hF
      go_wp2_with fail
      refine (padd_calls q_m q_c nm c_m nc c_c lm lc lb HH.out.2.2.2.2.2.2.2.2.1 (by have := HU.out; omega) (by have := HU.out; omega) _ S_m S_c).mono ?_
      rintro e w13 ⟨v, rfl, hO, hb⟩
      obtain ⟨q_s, c_s, rfl, S_s, C_s, hQ⟩ := hO.tell (n := nb) HH.out.2.2.2.2.2.2.2.2.1.byt HNl.out.2.2.1
      clear hO
      have Q_s_f := hQ _ HF_f.lt
      clear hQ
      replace HB := HB.trans (hb.mono HB.size)
      replace HF_f := HF_f.below hb
      replace S_p := S_p.below hb
      replace S_q := S_q.below hb
      replace S_r := S_r.below hb
      replace S_m := S_m.below hb
      replace S_a := S_a.below hb
      replace S_b := S_b.below hb
      replace S_c := S_c.below hb
      clear hb
      go_wp2_with fail
      refine (psame_calls q_b q_s nb c_b nb c_s lb lb true (iff_of_true rfl rfl) C_b C_s _ S_b S_s).mono ?_
      rintro e w14 ⟨rfl, hb⟩
      replace HB := HB.trans (hb.mono HB.size)
      replace HF_f := HF_f.below hb
      replace S_p := S_p.below hb
      replace S_q := S_q.below hb
      replace S_r := S_r.below hb
      replace S_m := S_m.below hb
      replace S_a := S_a.below hb
      replace S_b := S_b.below hb
      replace S_c := S_c.below hb
      replace S_s := S_s.below hb
      clear hb
      clear S_a S_b S_c S_s
      go_wp2_with fail
      refine (pmul_calls k B_f T_f nm c_m l e q_m r lm zs ld HH.out.2.2.2.2.2.2.2.2.2.1 (by have := HU.out; omega) (by have := HU.out; omega) C_m Cr _ HF_f S_m S_r Q_m_f Q_r_f).mono ?_
      rintro e w15 ⟨v, rfl, hO, hF, hb⟩
      obtain ⟨q_d, c_d, rfl, S_d, C_d, hQ⟩ := hO.tell (n := nd) HH.out.2.2.2.2.2.2.2.2.2.1.byt HNl.out.2.2.2.2.1
      clear hO
      have Q_d_f := hQ _ HF_f.lt
      clear hQ
      replace HB := HB.trans (hb.below HB.size (by rintro k rfl; exact HL_f))
      replace S_p := S_p.but hb Q_p_f
      replace S_q := S_q.but hb Q_q_f
      replace S_r := S_r.but hb Q_r_f
      replace S_m := S_m.but hb Q_m_f
      clear HF_f hb
      have HF_f := hF
      clear hF
      go_wp2_with fail
      refine (pmul_calls k B_f T_f m d l e p r ys zs le HH.out.2.2.2.2.2.2.2.2.2.2.1 (by have := HU.out; omega) (by have := HU.out; omega) Cq Cr _ HF_f S_q S_r Q_q_f Q_r_f).mono ?_
      rintro e w16 ⟨v, rfl, hO, hF, hb⟩
      obtain ⟨q_e, c_e, rfl, S_e, C_e, hQ⟩ := hO.tell (n := ne) HH.out.2.2.2.2.2.2.2.2.2.2.1.byt HNl.out.2.2.2.2.2.1
      clear hO
      have Q_e_f := hQ _ HF_f.lt
      clear hQ
      replace HB := HB.trans (hb.below HB.size (by rintro k rfl; exact HL_f))
      replace S_p := S_p.but hb Q_p_f
      replace S_q := S_q.but hb Q_q_f
      replace S_r := S_r.but hb Q_r_f
      replace S_m := S_m.but hb Q_m_f
      replace S_d := S_d.but hb Q_d_f
      clear HF_f hb
      have HF_f := hF
      clear hF
      go_wp2_with fail
      refine (pmul_calls k B_f T_f n c ne c_e q q_e xs le ld HH.out.2.2.2.2.2.2.2.2.2.2.2.1 (by have := HU.out; omega) (by have := HU.out; omega) Cp C_e _ HF_f S_p S_e Q_p_f Q_e_f).mono ?_
      rintro e w17 ⟨v, rfl, hO, hF, hb⟩
      obtain ⟨q_g, c_g, rfl, S_g, C_g, hQ⟩ := hO.tell (n := nd) HH.out.2.2.2.2.2.2.2.2.2.2.2.1.byt HNl.out.2.2.2.2.1
      clear hO
      have Q_g_f := hQ _ HF_f.lt
      clear hQ
      replace HB := HB.trans (hb.below HB.size (by rintro k rfl; exact HL_f))
      replace S_p := S_p.but hb Q_p_f
      replace S_q := S_q.but hb Q_q_f
      replace S_r := S_r.but hb Q_r_f
      replace S_m := S_m.but hb Q_m_f
      replace S_d := S_d.but hb Q_d_f
      replace S_e := S_e.but hb Q_e_f
      clear HF_f hb
      have HF_f := hF
      clear hF
      go_wp2_with fail
      refine (psame_calls q_d q_g nd c_d nd c_g ld ld true (iff_of_true rfl rfl) C_d C_g _ S_d S_g).mono ?_
      rintro e w18 ⟨rfl, hb⟩
      replace HB := HB.trans (hb.mono HB.size)
      replace HF_f := HF_f.below hb
      replace S_p := S_p.below hb
      replace S_q := S_q.below hb
      replace S_r := S_r.below hb
      replace S_m := S_m.below hb
      replace S_d := S_d.below hb
      replace S_e := S_e.below hb
      replace S_g := S_g.below hb
      clear hb
      clear S_d S_e S_g
      go_wp2_with fail
      refine (padd_calls q q n c n c xs xs [] HH.out.2.2.2.2.2.2.2.2.2.2.2.2.1 (by have := HU.out; omega) (by have := HU.out; omega) _ S_p S_p).mono ?_
      rintro e w19 ⟨v, rfl, hO, hb⟩
      obtain ⟨q_z, c_z, rfl, S_z, C_z, hQ⟩ := hO.tell (n := 0) Pol.byt_nil rfl
      clear hO
      have Q_z_f := hQ _ HF_f.lt
      clear hQ
      replace HB := HB.trans (hb.mono HB.size)
      replace HF_f := HF_f.below hb
      replace S_p := S_p.below hb
      replace S_q := S_q.below hb
      replace S_r := S_r.below hb
      replace S_m := S_m.below hb
      clear hb
      go_wp2_with fail
      have S_o : Bs (w19.alloc (.cells #[.int .u8 1] 5)) (some ⟨w19.heap.size, 0, none⟩) 1 [1] := bs_lits w19 _ [1] _ 1 rfl (by first | rfl | simp) rfl rfl (by simp)
      have Q_o_f : Off T_f 1 (some ⟨w19.heap.size, 0, none⟩) := off_at (by have := HF_f.lt; (try simp at this); omega)
      replace HF_f := HF_f.alloc (.cells #[.int .u8 1] 5)
      replace S_p := S_p.alloc (.cells #[.int .u8 1] 5)
      replace S_q := S_q.alloc (.cells #[.int .u8 1] 5)
      replace S_r := S_r.alloc (.cells #[.int .u8 1] 5)
      replace S_m := S_m.alloc (.cells #[.int .u8 1] 5)
      replace S_z := S_z.alloc (.cells #[.int .u8 1] 5)
      replace HB := HB.alloc HB.size (.cells #[.int .u8 1] 5)
      go_wp2_with fail
      refine (pmul_calls k B_f T_f n c 1 1 q _ xs [1] l1 HH.out.2.2.2.2.2.2.2.2.2.2.2.2.2.1 (by have := HU.out; omega) (by decide) Cp (by decide) _ HF_f S_p S_o Q_p_f Q_o_f).mono ?_
      rintro e w20 ⟨v, rfl, hO, hF, hb⟩
      obtain ⟨q_h, c_h, rfl, S_h, C_h, hQ⟩ := hO.tell (n := n1) HH.out.2.2.2.2.2.2.2.2.2.2.2.2.2.1.byt HNl.out.2.2.2.2.2.2
      clear hO
      have Q_h_f := hQ _ HF_f.lt
      clear hQ
      replace HB := HB.trans (hb.below HB.size (by rintro k rfl; exact HL_f))
      replace S_p := S_p.but hb Q_p_f
      replace S_q := S_q.but hb Q_q_f
      replace S_r := S_r.but hb Q_r_f
      replace S_m := S_m.but hb Q_m_f
      replace S_z := S_z.but hb Q_z_f
      replace S_o := S_o.but hb Q_o_f
      clear HF_f hb
      have HF_f := hF
      clear hF
      go_wp2_with fail
      refine (psame_calls q_h q n1 c_h n c l1 xs true (iff_of_true rfl HH.out.2.2.2.2.2.2.2.2.2.2.2.2.2.2.eq) C_h Cp _ S_h S_p).mono ?_
      rintro e w21 ⟨rfl, hb⟩
      replace HB := HB.trans (hb.mono HB.size)
      replace HF_f := HF_f.below hb
      replace S_p := S_p.below hb
      replace S_q := S_q.below hb
      replace S_r := S_r.below hb
      replace S_m := S_m.below hb
      replace S_z := S_z.below hb
      replace S_o := S_o.below hb
      replace S_h := S_h.below hb
      clear hb
      go_wp2
      go_ret
      exact ⟨rfl, HB⟩
    · subst h1 h3; have hp : ((dp : Int) - 1 < 0) = False := eq_false (by omega)
      go_wp2_with fail
      refine (pdeg_calls p m d ys 0 HH.out.2.1 _ S_q).mono ?_
      rintro e w6 ⟨rfl, hb⟩
      replace HB := HB.trans (hb.mono HB.size)
      replace HF_f := HF_f.below hb
      replace S_p := S_p.below hb
      replace S_q := S_q.below hb
      replace S_r := S_r.below hb
      replace S_m := S_m.below hb
      clear hb
      clear Hdd
      go_wp2_with fail
      refine (known05_calls _).mono ?_
      rintro e w7 ⟨rfl, hb⟩
      replace HB := HB.trans (hb.mono HB.size)
      replace HF_f := HF_f.below hb
      replace S_p := S_p.below hb
      replace S_q := S_q.below hb
      replace S_r := S_r.below hb
      replace S_m := S_m.below hb
      clear hb
      go_wp2_with fail
      refine (pdeg_calls q_m nm c_m lm 0 HH.out.2.2.1 _ S_m).mono ?_
      rintro e w8 ⟨rfl, hb⟩
      replace HB := HB.trans (hb.mono HB.size)
      replace HF_f := HF_f.below hb
      replace S_p := S_p.below hb
      replace S_q := S_q.below hb
      replace S_r := S_r.below hb
      replace S_m := S_m.below hb
      clear hb
      go_wp2_with fail
      refine (pmul_calls k B_f T_f m d n c p q ys xs lm HH.out.2.2.2.2.1 (by have := HU.out; omega) (by have := HU.out; omega) Cq Cp _ HF_f S_q S_p Q_q_f Q_p_f).mono ?_
      rintro e w9 ⟨v, rfl, hO, hF, hb⟩
      obtain ⟨q_x, c_x, rfl, S_x, C_x, hQ⟩ := hO.tell (n := nm) HH.out.2.2.2.2.1.byt HNl.out.1
      clear hO
      have Q_x_f := hQ _ HF_f.lt
      clear hQ
      replace HB := HB.trans (hb.below HB.size (by rintro k rfl; exact HL_f))
      replace S_p := S_p.but hb Q_p_f
      replace S_q := S_q.but hb Q_q_f
      replace S_r := S_r.but hb Q_r_f
      replace S_m := S_m.but hb Q_m_f
      clear HF_f hb
      have HF_f := hF
      clear hF
      go_wp2_with fail
      refine (psame_calls q_m q_x nm c_m nm c_x lm lm true (iff_of_true rfl rfl) C_m C_x _ S_m S_x).mono ?_
      rintro e w10 ⟨rfl, hb⟩
      replace HB := HB.trans (hb.mono HB.size)
      replace HF_f := HF_f.below hb
      replace S_p := S_p.below hb
      replace S_q := S_q.below hb
      replace S_r := S_r.below hb
      replace S_m := S_m.below hb
      replace S_x := S_x.below hb
      clear hb
      clear S_x
      go_wp2_with fail
      refine (padd_calls p r m d l e ys zs la HH.out.2.2.2.2.2.1 (by have := HU.out; omega) (by have := HU.out; omega) _ S_q S_r).mono ?_
      rintro e w11 ⟨v, rfl, hO, hb⟩
      obtain ⟨q_a, c_a, rfl, S_a, C_a, hQ⟩ := hO.tell (n := na) HH.out.2.2.2.2.2.1.byt HNl.out.2.1
      clear hO
      have Q_a_f := hQ _ HF_f.lt
      clear hQ
      replace HB := HB.trans (hb.mono HB.size)
      replace HF_f := HF_f.below hb
      replace S_p := S_p.below hb
      replace S_q := S_q.below hb
      replace S_r := S_r.below hb
      replace S_m := S_m.below hb
      clear hb
      go_wp2_with fail
      refine (pmul_calls k B_f T_f n c na c_a q q_a xs la lb HH.out.2.2.2.2.2.2.1 (by have := HU.out; omega) (by have := HU.out; omega) Cp C_a _ HF_f S_p S_a Q_p_f Q_a_f).mono ?_
      rintro e w12 ⟨v, rfl, hO, hF, hb⟩
      obtain ⟨q_b, c_b, rfl, S_b, C_b, hQ⟩ := hO.tell (n := nb) HH.out.2.2.2.2.2.2.1.byt HNl.out.2.2.1
      clear hO
      have Q_b_f := hQ _ HF_f.lt
      clear hQ
      replace HB := HB.trans (hb.below HB.size (by rintro k rfl; exact HL_f))
      replace S_p := S_p.but hb Q_p_f
      replace S_q := S_q.but hb Q_q_f
      replace S_r := S_r.but hb Q_r_f
      replace S_m := S_m.but hb Q_m_f
      replace S_a := S_a.but hb Q_a_f
      clear HF_f hb
      have HF_f := hF
      clear hF
      go_wp2_with fail
      refine (pmul_calls k B_f T_f n c l e q r xs zs lc HH.out.2.2.2.2.2.2.2.1 (by have := HU.out; omega) (by have := HU.out; omega) Cp Cr _ HF_f S_p S_r Q_p_f Q_r_f).mono ?_
      rintro e w13 ⟨v, rfl, hO, hF, hb⟩
      obtain ⟨q_c, c_c, rfl, S_c, C_c, hQ⟩ := hO.tell (n := nc) HH.out.2.2.2.2.2.2.2.1.byt HNl.out.2.2.2.1
      clear hO
      have Q_c_f := hQ _ HF_f.lt
      clear hQ
      replace HB := HB.trans (hb.below HB.size (by rintro k rfl; exact HL_f))
      replace S_p := S_p.but hb Q_p_f
      replace S_q := S_q.but hb Q_q_f
      replace S_r := S_r.but hb Q_r_f
      replace S_m := S_m.but hb Q_m_f
      replace S_a := S_a.but hb Q_a_f
      replace S_b := S_b.but hb Q_b_f
      clear HF_f hb
      have HF_f := hF
      clear hF
      go_wp2_with fail
      refine (padd_calls q_m q_c nm c_m nc c_c lm lc lb HH.out.2.2.2.2.2.2.2.2.1 (by have := HU.out; omega) (by have := HU.out; omega) _ S_m S_c).mono ?_
      rintro e w14 ⟨v, rfl, hO, hb⟩
      obtain ⟨q_s, c_s, rfl, S_s, C_s, hQ⟩ := hO.tell (n := nb) HH.out.2.2.2.2.2.2.2.2.1.byt HNl.out.2.2.1
      clear hO
      have Q_s_f := hQ _ HF_f.lt
      clear hQ
      replace HB := HB.trans (hb.mono HB.size)
      replace HF_f := HF_f.below hb
      replace S_p := S_p.below hb
      replace S_q := S_q.below hb
      replace S_r := S_r.below hb
      replace S_m := S_m.below hb
      replace S_a := S_a.below hb
      replace S_b := S_b.below hb
      replace S_c := S_c.below hb
      clear hb
      go_wp2_with fail
      refine (psame_calls q_b q_s nb c_b nb c_s lb lb true (iff_of_true rfl rfl) C_b C_s _ S_b S_s).mono ?_
      rintro e w15 ⟨rfl, hb⟩
      replace HB := HB.trans (hb.mono HB.size)
      replace HF_f := HF_f.below hb
      replace S_p := S_p.below hb
      replace S_q := S_q.below hb
      replace S_r := S_r.below hb
      replace S_m := S_m.below hb
      replace S_a := S_a.below hb
      replace S_b := S_b.below hb
      replace S_c := S_c.below hb
      replace S_s := S_s.below hb
      clear hb
      clear S_a S_b S_c S_s
      go_wp2_with fail
      refine (pmul_calls k B_f T_f nm c_m l e q_m r lm zs ld HH.out.2.2.2.2.2.2.2.2.2.1 (by have := HU.out; omega) (by have := HU.out; omega) C_m Cr _ HF_f S_m S_r Q_m_f Q_r_f).mono ?_
      rintro e w16 ⟨v, rfl, hO, hF, hb⟩
      obtain ⟨q_d, c_d, rfl, S_d, C_d, hQ⟩ := hO.tell (n := nd) HH.out.2.2.2.2.2.2.2.2.2.1.byt HNl.out.2.2.2.2.1
      clear hO
      have Q_d_f := hQ _ HF_f.lt
      clear hQ
      replace HB := HB.trans (hb.below HB.size (by rintro k rfl; exact HL_f))
      replace S_p := S_p.but hb Q_p_f
      replace S_q := S_q.but hb Q_q_f
      replace S_r := S_r.but hb Q_r_f
      replace S_m := S_m.but hb Q_m_f
      clear HF_f hb
      have HF_f := hF
      clear hF
      go_wp2_with fail
      refine (pmul_calls k B_f T_f m d l e p r ys zs le HH.out.2.2.2.2.2.2.2.2.2.2.1 (by have := HU.out; omega) (by have := HU.out; omega) Cq Cr _ HF_f S_q S_r Q_q_f Q_r_f).mono ?_
      rintro e w17 ⟨v, rfl, hO, hF, hb⟩
      obtain ⟨q_e, c_e, rfl, S_e, C_e, hQ⟩ := hO.tell (n := ne) HH.out.2.2.2.2.2.2.2.2.2.2.1.byt HNl.out.2.2.2.2.2.1
      clear hO
      have Q_e_f := hQ _ HF_f.lt
      clear hQ
      replace HB := HB.trans (hb.below HB.size (by rintro k rfl; exact HL_f))
      replace S_p := S_p.but hb Q_p_f
      replace S_q := S_q.but hb Q_q_f
      replace S_r := S_r.but hb Q_r_f
      replace S_m := S_m.but hb Q_m_f
      replace S_d := S_d.but hb Q_d_f
      clear HF_f hb
      have HF_f := hF
      clear hF
      go_wp2_with fail
      refine (pmul_calls k B_f T_f n c ne c_e q q_e xs le ld HH.out.2.2.2.2.2.2.2.2.2.2.2.1 (by have := HU.out; omega) (by have := HU.out; omega) Cp C_e _ HF_f S_p S_e Q_p_f Q_e_f).mono ?_
      rintro e w18 ⟨v, rfl, hO, hF, hb⟩
      obtain ⟨q_g, c_g, rfl, S_g, C_g, hQ⟩ := hO.tell (n := nd) HH.out.2.2.2.2.2.2.2.2.2.2.2.1.byt HNl.out.2.2.2.2.1
      clear hO
      have Q_g_f := hQ _ HF_f.lt
      clear hQ
      replace HB := HB.trans (hb.below HB.size (by rintro k rfl; exact HL_f))
      replace S_p := S_p.but hb Q_p_f
      replace S_q := S_q.but hb Q_q_f
      replace S_r := S_r.but hb Q_r_f
      replace S_m := S_m.but hb Q_m_f
      replace S_d := S_d.but hb Q_d_f
      replace S_e := S_e.but hb Q_e_f
      clear HF_f hb
      have HF_f := hF
      clear hF
      go_wp2_with fail
      refine (psame_calls q_d q_g nd c_d nd c_g ld ld true (iff_of_true rfl rfl) C_d C_g _ S_d S_g).mono ?_
      rintro e w19 ⟨rfl, hb⟩
      replace HB := HB.trans (hb.mono HB.size)
      replace HF_f := HF_f.below hb
      replace S_p := S_p.below hb
      replace S_q := S_q.below hb
      replace S_r := S_r.below hb
      replace S_m := S_m.below hb
      replace S_d := S_d.below hb
      replace S_e := S_e.below hb
      replace S_g := S_g.below hb
      clear hb
      clear S_d S_e S_g
      go_wp2_with fail
      refine (padd_calls q q n c n c xs xs [] HH.out.2.2.2.2.2.2.2.2.2.2.2.2.1 (by have := HU.out; omega) (by have := HU.out; omega) _ S_p S_p).mono ?_
      rintro e w20 ⟨v, rfl, hO, hb⟩
      obtain ⟨q_z, c_z, rfl, S_z, C_z, hQ⟩ := hO.tell (n := 0) Pol.byt_nil rfl
      clear hO
      have Q_z_f := hQ _ HF_f.lt
      clear hQ
      replace HB := HB.trans (hb.mono HB.size)
      replace HF_f := HF_f.below hb
      replace S_p := S_p.below hb
      replace S_q := S_q.below hb
      replace S_r := S_r.below hb
      replace S_m := S_m.below hb
      clear hb
      go_wp2_with fail
      have S_o : Bs (w20.alloc (.cells #[.int .u8 1] 5)) (some ⟨w20.heap.size, 0, none⟩) 1 [1] := bs_lits w20 _ [1] _ 1 rfl (by first | rfl | simp) rfl rfl (by simp)
      have Q_o_f : Off T_f 1 (some ⟨w20.heap.size, 0, none⟩) := off_at (by have := HF_f.lt; (try simp at this); omega)
      replace HF_f := HF_f.alloc (.cells #[.int .u8 1] 5)
      replace S_p := S_p.alloc (.cells #[.int .u8 1] 5)
      replace S_q := S_q.alloc (.cells #[.int .u8 1] 5)
      replace S_r := S_r.alloc (.cells #[.int .u8 1] 5)
      replace S_m := S_m.alloc (.cells #[.int .u8 1] 5)
      replace S_z := S_z.alloc (.cells #[.int .u8 1] 5)
      replace HB := HB.alloc HB.size (.cells #[.int .u8 1] 5)
      go_wp2_with fail
      refine (pmul_calls k B_f T_f n c 1 1 q _ xs [1] l1 HH.out.2.2.2.2.2.2.2.2.2.2.2.2.2.1 (by have := HU.out; omega) (by decide) Cp (by decide) _ HF_f S_p S_o Q_p_f Q_o_f).mono ?_
      rintro e w21 ⟨v, rfl, hO, hF, hb⟩
      obtain ⟨q_h, c_h, rfl, S_h, C_h, hQ⟩ := hO.tell (n := n1) HH.out.2.2.2.2.2.2.2.2.2.2.2.2.2.1.byt HNl.out.2.2.2.2.2.2
      clear hO
      have Q_h_f := hQ _ HF_f.lt
      clear hQ
      replace HB := HB.trans (hb.below HB.size (by rintro k rfl; exact HL_f))
      replace S_p := S_p.but hb Q_p_f
      replace S_q := S_q.but hb Q_q_f
      replace S_r := S_r.but hb Q_r_f
      replace S_m := S_m.but hb Q_m_f
      replace S_z := S_z.but hb Q_z_f
      replace S_o := S_o.but hb Q_o_f
      clear HF_f hb
      have HF_f := hF
      clear hF
      go_wp2_with fail
      refine (psame_calls q_h q n1 c_h n c l1 xs true (iff_of_true rfl HH.out.2.2.2.2.2.2.2.2.2.2.2.2.2.2.eq) C_h Cp _ S_h S_p).mono ?_
      rintro e w22 ⟨rfl, hb⟩
      replace HB := HB.trans (hb.mono HB.size)
      replace HF_f := HF_f.below hb
      replace S_p := S_p.below hb
      replace S_q := S_q.below hb
      replace S_r := S_r.below hb
      replace S_m := S_m.below hb
      replace S_z := S_z.below hb
      replace S_o := S_o.below hb
      replace S_h := S_h.below hb
      clear hb
      go_wp2
      go_ret
      exact ⟨rfl, HB⟩
    · have hp : ((dp : Int) - 1 < 0) = False := eq_false (by omega); have hq : ((dq : Int) - 1 < 0) = False := eq_false (by omega); have hs : ((dm : Int) - 1 == wrap64 ((dp : Int) - 1 + ((dq : Int) - 1))) = true := (by rw [beq_iff_eq]; have := Hdl.out; unfold wrap64; omega)
      go_wp2_with fail
      refine (pdeg_calls p m d ys dq HH.out.2.1 _ S_q).mono ?_
      rintro e w6 ⟨rfl, hb⟩
      replace HB := HB.trans (hb.mono HB.size)
      replace HF_f := HF_f.below hb
      replace S_p := S_p.below hb
      replace S_q := S_q.below hb
      replace S_r := S_r.below hb
      replace S_m := S_m.below hb
      clear hb
      clear Hdd
      go_wp2_with fail
      refine (known05_calls _).mono ?_
      rintro e w7 ⟨rfl, hb⟩
      replace HB := HB.trans (hb.mono HB.size)
      replace HF_f := HF_f.below hb
      replace S_p := S_p.below hb
      replace S_q := S_q.below hb
      replace S_r := S_r.below hb
      replace S_m := S_m.below hb
      clear hb
      go_wp2_with fail
      refine (pdeg_calls q_m nm c_m lm dm HH.out.2.2.1 _ S_m).mono ?_
      rintro e w8 ⟨rfl, hb⟩
      replace HB := HB.trans (hb.mono HB.size)
      replace HF_f := HF_f.below hb
      replace S_p := S_p.below hb
      replace S_q := S_q.below hb
      replace S_r := S_r.below hb
      replace S_m := S_m.below hb
      clear hb
      go_wp2_with fail
      refine (pmul_calls k B_f T_f m d n c p q ys xs lm HH.out.2.2.2.2.1 (by have := HU.out; omega) (by have := HU.out; omega) Cq Cp _ HF_f S_q S_p Q_q_f Q_p_f).mono ?_
      rintro e w9 ⟨v, rfl, hO, hF, hb⟩
      obtain ⟨q_x, c_x, rfl, S_x, C_x, hQ⟩ := hO.tell (n := nm) HH.out.2.2.2.2.1.byt HNl.out.1
      clear hO
      have Q_x_f := hQ _ HF_f.lt
      clear hQ
      replace HB := HB.trans (hb.below HB.size (by rintro k rfl; exact HL_f))
      replace S_p := S_p.but hb Q_p_f
      replace S_q := S_q.but hb Q_q_f
      replace S_r := S_r.but hb Q_r_f
      replace S_m := S_m.but hb Q_m_f
      clear HF_f hb
      have HF_f := hF
      clear hF
      go_wp2_with fail
      refine (psame_calls q_m q_x nm c_m nm c_x lm lm true (iff_of_true rfl rfl) C_m C_x _ S_m S_x).mono ?_
      rintro e w10 ⟨rfl, hb⟩
      replace HB := HB.trans (hb.mono HB.size)
      replace HF_f := HF_f.below hb
      replace S_p := S_p.below hb
      replace S_q := S_q.below hb
      replace S_r := S_r.below hb
      replace S_m := S_m.below hb
      replace S_x := S_x.below hb
      clear hb
      clear S_x
      go_wp2_with fail
      refine (padd_calls p r m d l e ys zs la HH.out.2.2.2.2.2.1 (by have := HU.out; omega) (by have := HU.out; omega) _ S_q S_r).mono ?_
      rintro e w11 ⟨v, rfl, hO, hb⟩
      obtain ⟨q_a, c_a, rfl, S_a, C_a, hQ⟩ := hO.tell (n := na) HH.out.2.2.2.2.2.1.byt HNl.out.2.1
      clear hO
      have Q_a_f := hQ _ HF_f.lt
      clear hQ
      replace HB := HB.trans (hb.mono HB.size)
      replace HF_f := HF_f.below hb
      replace S_p := S_p.below hb
      replace S_q := S_q.below hb
      replace S_r := S_r.below hb
      replace S_m := S_m.below hb
      clear hb
      go_wp2_with fail
      refine (pmul_calls k B_f T_f n c na c_a q q_a xs la lb HH.out.2.2.2.2.2.2.1 (by have := HU.out; omega) (by have := HU.out; omega) Cp C_a _ HF_f S_p S_a Q_p_f Q_a_f).mono ?_
      rintro e w12 ⟨v, rfl, hO, hF, hb⟩
      obtain ⟨q_b, c_b, rfl, S_b, C_b, hQ⟩ := hO.tell (n := nb) HH.out.2.2.2.2.2.2.1.byt HNl.out.2.2.1
      clear hO
      have Q_b_f := hQ _ HF_f.lt
      clear hQ
      replace HB := HB.trans (hb.below HB.size (by rintro k rfl; exact HL_f))
      replace S_p := S_p.but hb Q_p_f
      replace S_q := S_q.but hb Q_q_f
      replace S_r := S_r.but hb Q_r_f
      replace S_m := S_m.but hb Q_m_f
      replace S_a := S_a.but hb Q_a_f
      clear HF_f hb
      have HF_f := hF
      clear hF
      go_wp2_with fail
      refine (pmul_calls k B_f T_f n c l e q r xs zs lc HH.out.2.2.2.2.2.2.2.1 (by have := HU.out; omega) (by have := HU.out; omega) Cp Cr _ HF_f S_p S_r Q_p_f Q_r_f).mono ?_
      rintro e w13 ⟨v, rfl, hO, hF, hb⟩
      obtain ⟨q_c, c_c, rfl, S_c, C_c, hQ⟩ := hO.tell (n := nc) HH.out.2.2.2.2.2.2.2.1.byt HNl.out.2.2.2.1
      clear hO
      have Q_c_f := hQ _ HF_f.lt
      clear hQ
      replace HB := HB.trans (hb.below HB.size (by rintro k rfl; exact HL_f))
      replace S_p := S_p.but hb Q_p_f
      replace S_q := S_q.but hb Q_q_f
      replace S_r := S_r.but hb Q_r_f
      replace S_m := S_m.but hb Q_m_f
      replace S_a := S_a.but hb Q_a_f
      replace S_b := S_b.but hb Q_b_f
      clear HF_f hb
      have HF_f := hF
      clear hF
      go_wp2_with fail
      refine (padd_calls q_m q_c nm c_m nc c_c lm lc lb HH.out.2.2.2.2.2.2.2.2.1 (by have := HU.out; omega) (by have := HU.out; omega) _ S_m S_c).mono ?_
      rintro e w14 ⟨v, rfl, hO, hb⟩
      obtain ⟨q_s, c_s, rfl, S_s, C_s, hQ⟩ := hO.tell (n := nb) HH.out.2.2.2.2.2.2.2.2.1.byt HNl.out.2.2.1
      clear hO
      have Q_s_f := hQ _ HF_f.lt
      clear hQ
      replace HB := HB.trans (hb.mono HB.size)
      replace HF_f := HF_f.below hb
      replace S_p := S_p.below hb
      replace S_q := S_q.below hb
      replace S_r := S_r.below hb
      replace S_m := S_m.below hb
      replace S_a := S_a.below hb
      replace S_b := S_b.below hb
      replace S_c := S_c.below hb
      clear hb
      go_wp2_with fail
      refine (psame_calls q_b q_s nb c_b nb c_s lb lb true (iff_of_true rfl rfl) C_b C_s _ S_b S_s).mono ?_
      rintro e w15 ⟨rfl, hb⟩
      replace HB := HB.trans (hb.mono HB.size)
      replace HF_f := HF_f.below hb
      replace S_p := S_p.below hb
      replace S_q := S_q.below hb
      replace S_r := S_r.below hb
      replace S_m := S_m.below hb
      replace S_a := S_a.below hb
      replace S_b := S_b.below hb
      replace S_c := S_c.below hb
      replace S_s := S_s.below hb
      clear hb
      clear S_a S_b S_c S_s
      go_wp2_with fail
      refine (pmul_calls k B_f T_f nm c_m l e q_m r lm zs ld HH.out.2.2.2.2.2.2.2.2.2.1 (by have := HU.out; omega) (by have := HU.out; omega) C_m Cr _ HF_f S_m S_r Q_m_f Q_r_f).mono ?_
      rintro e w16 ⟨v, rfl, hO, hF, hb⟩
      obtain ⟨q_d, c_d, rfl, S_d, C_d, hQ⟩ := hO.tell (n := nd) HH.out.2.2.2.2.2.2.2.2.2.1.byt HNl.out.2.2.2.2.1
      clear hO
      have Q_d_f := hQ _ HF_f.lt
      clear hQ
      replace HB := HB.trans (hb.below HB.size (by rintro k rfl; exact HL_f))
      replace S_p := S_p.but hb Q_p_f
      replace S_q := S_q.but hb Q_q_f
      replace S_r := S_r.but hb Q_r_f
      replace S_m := S_m.but hb Q_m_f
      clear HF_f hb
      have HF_f := hF
      clear hF
      go_wp2_with fail
      refine (pmul_calls k B_f T_f m d l e p r ys zs le HH.out.2.2.2.2.2.2.2.2.2.2.1 (by have := HU.out; omega) (by have := HU.out; omega) Cq Cr _ HF_f S_q S_r Q_q_f Q_r_f).mono ?_
      rintro e w17 ⟨v, rfl, hO, hF, hb⟩
      obtain ⟨q_e, c_e, rfl, S_e, C_e, hQ⟩ := hO.tell (n := ne) HH.out.2.2.2.2.2.2.2.2.2.2.1.byt HNl.out.2.2.2.2.2.1
      clear hO
      have Q_e_f := hQ _ HF_f.lt
      clear hQ
      replace HB := HB.trans (hb.below HB.size (by rintro k rfl; exact HL_f))
      replace S_p := S_p.but hb Q_p_f
      replace S_q := S_q.but hb Q_q_f
      replace S_r := S_r.but hb Q_r_f
      replace S_m := S_m.but hb Q_m_f
      replace S_d := S_d.but hb Q_d_f
      clear HF_f hb
      have HF_f := hF
      clear hF
      go_wp2_with fail
      refine (pmul_calls k B_f T_f n c ne c_e q q_e xs le ld HH.out.2.2.2.2.2.2.2.2.2.2.2.1 (by have := HU.out; omega) (by have := HU.out; omega) Cp C_e _ HF_f S_p S_e Q_p_f Q_e_f).mono ?_
      rintro e w18 ⟨v, rfl, hO, hF, hb⟩
      obtain ⟨q_g, c_g, rfl, S_g, C_g, hQ⟩ := hO.tell (n := nd) HH.out.2.2.2.2.2.2.2.2.2.2.2.1.byt HNl.out.2.2.2.2.1
      clear hO
      have Q_g_f := hQ _ HF_f.lt
      clear hQ
      replace HB := HB.trans (hb.below HB.size (by rintro k rfl; exact HL_f))
      replace S_p := S_p.but hb Q_p_f
      replace S_q := S_q.but hb Q_q_f
      replace S_r := S_r.but hb Q_r_f
      replace S_m := S_m.but hb Q_m_f
      replace S_d := S_d.but hb Q_d_f
      replace S_e := S_e.but hb Q_e_f
      clear HF_f hb
      have HF_f := hF
      clear hF
      go_wp2_with fail
      refine (psame_calls q_d q_g nd c_d nd c_g ld ld true (iff_of_true rfl rfl) C_d C_g _ S_d S_g).mono ?_
      rintro e w19 ⟨rfl, hb⟩
      replace HB := HB.trans (hb.mono HB.size)
      replace HF_f := HF_f.below hb
      replace S_p := S_p.below hb
      replace S_q := S_q.below hb
      replace S_r := S_r.below hb
      replace S_m := S_m.below hb
      replace S_d := S_d.below hb
      replace S_e := S_e.below hb
      replace S_g := S_g.below hb
      clear hb
      clear S_d S_e S_g
      go_wp2_with fail
      refine (padd_calls q q n c n c xs xs [] HH.out.2.2.2.2.2.2.2.2.2.2.2.2.1 (by have := HU.out; omega) (by have := HU.out; omega) _ S_p S_p).mono ?_
      rintro e w20 ⟨v, rfl, hO, hb⟩
      obtain ⟨q_z, c_z, rfl, S_z, C_z, hQ⟩ := hO.tell (n := 0) Pol.byt_nil rfl
      clear hO
      have Q_z_f := hQ _ HF_f.lt
      clear hQ
      replace HB := HB.trans (hb.mono HB.size)
      replace HF_f := HF_f.below hb
      replace S_p := S_p.below hb
      replace S_q := S_q.below hb
      replace S_r := S_r.below hb
      replace S_m := S_m.below hb
      clear hb
      go_wp2_with fail
      have S_o : Bs (w20.alloc (.cells #[.int .u8 1] 5)) (some ⟨w20.heap.size, 0, none⟩) 1 [1] := bs_lits w20 _ [1] _ 1 rfl (by first | rfl | simp) rfl rfl (by simp)
      have Q_o_f : Off T_f 1 (some ⟨w20.heap.size, 0, none⟩) := off_at (by have := HF_f.lt; (try simp at this); omega)
      replace HF_f := HF_f.alloc (.cells #[.int .u8 1] 5)
      replace S_p := S_p.alloc (.cells #[.int .u8 1] 5)
      replace S_q := S_q.alloc (.cells #[.int .u8 1] 5)
      replace S_r := S_r.alloc (.cells #[.int .u8 1] 5)
      replace S_m := S_m.alloc (.cells #[.int .u8 1] 5)
      replace S_z := S_z.alloc (.cells #[.int .u8 1] 5)
      replace HB := HB.alloc HB.size (.cells #[.int .u8 1] 5)
      go_wp2_with fail
      refine (pmul_calls k B_f T_f n c 1 1 q _ xs [1] l1 HH.out.2.2.2.2.2.2.2.2.2.2.2.2.2.1 (by have := HU.out; omega) (by decide) Cp (by decide) _ HF_f S_p S_o Q_p_f Q_o_f).mono ?_
      rintro e w21 ⟨v, rfl, hO, hF, hb⟩
      obtain ⟨q_h, c_h, rfl, S_h, C_h, hQ⟩ := hO.tell (n := n1) HH.out.2.2.2.2.2.2.2.2.2.2.2.2.2.1.byt HNl.out.2.2.2.2.2.2
      clear hO
      have Q_h_f := hQ _ HF_f.lt
      clear hQ
      replace HB := HB.trans (hb.below HB.size (by rintro k rfl; exact HL_f))
      replace S_p := S_p.but hb Q_p_f
      replace S_q := S_q.but hb Q_q_f
      replace S_r := S_r.but hb Q_r_f
      replace S_m := S_m.but hb Q_m_f
      replace S_z := S_z.but hb Q_z_f
      replace S_o := S_o.but hb Q_o_f
      clear HF_f hb
      have HF_f := hF
      clear hF
      go_wp2_with fail
      refine (psame_calls q_h q n1 c_h n c l1 xs true (iff_of_true rfl HH.out.2.2.2.2.2.2.2.2.2.2.2.2.2.2.eq) C_h Cp _ S_h S_p).mono ?_
      rintro e w22 ⟨rfl, hb⟩
      replace HB := HB.trans (hb.mono HB.size)
      replace HF_f := HF_f.below hb
      replace S_p := S_p.below hb
      replace S_q := S_q.below hb
      replace S_r := S_r.below hb
      replace S_m := S_m.below hb
      replace S_z := S_z.below hb
      replace S_o := S_o.below hb
      replace S_h := S_h.below hb
      clear hb
      go_wp2
      go_ret
      exact ⟨rfl, HB⟩
theorem own : ownKnob Try.prog.godebug = none := by kernel_rfl
theorem laidOut : laidOutB Try.prog = true := by kernel_rfl
set_option maxRecDepth 100000 in
theorem lifted (os : Os) (started : os.Started) (H : Type) (enc : TypeId × Value → H) :
    ReturnsInHanded {} Try.checked os 4 .any (Rows.polyRingSpec.pre6 enc Try.prog Try.f4 Rows.polyRingRow.domain false) (Rows.polyRingSpec.post enc Try.prog Try.f4 false true false false) := by
  refine returnsInHanded_of_change_sized (C := Try.checked) own started (by kernel_rfl) Try.func4
    (ChangeSpec.witness6 (enc := enc) (C := Try.checked) false ⟨#[], #[.int .u8 0, .slice none 0 0, .slice none 0 0, .slice none 0 0], []⟩ 8 (by kernel_rfl) (by kernel_rfl) (by kernel_rfl) (by kernel_rfl)) ?_
  intro W base args ds gs before hval0 hW _ hz _
  have hval : ∀ (j : Nat) t v, Try.f4.params[j]? = some t → args[j]? = some v → Value.okWide Try.prog W .any base t v := hval0
  have hW' := hW
  obtain ⟨p, q, hA0, hV, rfl, _, _⟩ := hW
  have hA : DataW.TrodAll enc Try.prog W 0 (fun _ => true) true Try.f4.params.toList args.toList ds p := hA0
  rw [Try.params4] at hA hval
  obtain ⟨v0, vs0, d0, ds0, p0, q0, hargs, rfl, rfl, h0, r0⟩ := trodAll_cons hA
  obtain ⟨v1, vs1, d1, ds1, p1, q1, rfl, rfl, rfl, h1, r1⟩ := trodAll_cons r0
  obtain ⟨v2, vs2, d2, ds2, p2, q2, rfl, rfl, rfl, h2, r2⟩ := trodAll_cons r1
  obtain ⟨v3, vs3, d3, ds3, p3, q3, rfl, rfl, rfl, h3, r3⟩ := trodAll_cons r2
  obtain ⟨rfl, rfl, rfl⟩ := trodAll_nil r3
  obtain rfl : args = #[v0, v1, v2, v3] := by cases args; simp_all
  obtain ⟨rfl, rfl⟩ := trodVars_none hV
  obtain ⟨a0, rfl, rfl, rfl, w0⟩ := open_int Try.underlying5 (hval 0 5 v0 rfl rfl) h0
  obtain ⟨n0, b0, rfl⟩ := nat_of_u8 w0
  have k1 := h1
  obtain ⟨q1, n1, c1, xs1, rfl, w1, m1⟩ := open_bytes_sz Try.underlying22 Try.underlying5 (by kernel_rfl) (hval 1 22 v1 rfl rfl) h1
  have y1 : n1 ≤ c1 ∧ c1 ≤ 140737488351232 := ⟨m1.1, m1.2 _ fun el sp hd => by have := sized_slice (j := 1) (t := 22) (e := 5) (elems := el) (spare := sp) hz (by kernel_rfl) (by first | (rw [← hd]; done) | (rw [← hd]; rfl)) Try.underlying22; have hbe : Try.checked.prog.bytesOf 5 = 1 := (by kernel_rfl); have hre : reachBytes = 140737488351232 := rfl; rw [hbe, hre] at this; omega⟩
  have k2 := h2
  obtain ⟨q2, n2, c2, xs2, rfl, w2, m2⟩ := open_bytes_sz Try.underlying22 Try.underlying5 (by kernel_rfl) (hval 2 22 v2 rfl rfl) h2
  have y2 : n2 ≤ c2 ∧ c2 ≤ 140737488351232 := ⟨m2.1, m2.2 _ fun el sp hd => by have := sized_slice (j := 2) (t := 22) (e := 5) (elems := el) (spare := sp) hz (by kernel_rfl) (by first | (rw [← hd]; done) | (rw [← hd]; rfl)) Try.underlying22; have hbe : Try.checked.prog.bytesOf 5 = 1 := (by kernel_rfl); have hre : reachBytes = 140737488351232 := rfl; rw [hbe, hre] at this; omega⟩
  have k3 := h3
  obtain ⟨q3, n3, c3, xs3, rfl, w3, m3⟩ := open_bytes_sz Try.underlying22 Try.underlying5 (by kernel_rfl) (hval 3 22 v3 rfl rfl) h3
  have y3 : n3 ≤ c3 ∧ c3 ≤ 140737488351232 := ⟨m3.1, m3.2 _ fun el sp hd => by have := sized_slice (j := 3) (t := 22) (e := 5) (elems := el) (spare := sp) hz (by kernel_rfl) (by first | (rw [← hd]; done) | (rw [← hd]; rfl)) Try.underlying22; have hbe : Try.checked.prog.bytesOf 5 = 1 := (by kernel_rfl); have hre : reachBytes = 140737488351232 := rfl; rw [hbe, hre] at this; omega⟩
  clear hA0 hval0
  simp only [List.append_nil] at hW'
  refine (walk (w := W) n0 q1 n1 c1 xs1 q2 n2 c2 xs2 q3 n3 c3 xs3 b0 w1 y1 w2 y2 w3 y3).mono fun e W' ⟨he, bel⟩ => ?_
  subst he
  exact ⟨_, rfl, _, _, _, [], _, [], hW', trodAll_mk1 (shut_bool Try.underlying4 _), (trodAll_cons_mk (shut_int Try.underlying5 w0) (trodAll_cons_mk (shut_same laidOut (by kernel_rfl) (of_decide_eq_true (by kernel_rfl)) k1 bel) (trodAll_cons_mk (shut_same laidOut (by kernel_rfl) (of_decide_eq_true (by kernel_rfl)) k2 bel) (trodAll_cons_mk (shut_same laidOut (by kernel_rfl) (of_decide_eq_true (by kernel_rfl)) k3 bel) trodAll_mk0)))), rfl, bel.frame _, fun h => by cases h⟩
theorem over : Rows.polyRingRow.holds Try.pinned (OpenSpec.ofChange Rows.polyRingSpec) :=
  OpenClaim.holds_of_wide 4 Try.f4 rfl rfl rfl rfl rfl rfl rfl ⟨rfl, rfl, rfl, rfl, rfl⟩ rfl rfl rfl rfl rfl (by kernel_rfl) Try.func4 (by kernel_rfl)
    (of_decide_eq_true (by kernel_rfl)) (by unfold Func.isWrapper; first | (rw [if_pos (by decide +kernel)]; kernel_rfl) | (rw [if_neg (by decide +kernel)]; exact ⟨rfl, rfl⟩))
    (fun os started H enc _ => lifted os started H enc)
theorem proved : Rows.PolyRingSaid := over
#print axioms proved
end Go.Proofs.Ytddgakaidlclcaa.polyRing
