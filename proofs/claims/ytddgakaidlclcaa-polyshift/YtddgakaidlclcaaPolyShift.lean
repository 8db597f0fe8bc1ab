/- PolyShift holds for every input: up and down again is as it was; what is cut and what is above it are all. No conditions. -/
import Derived.Test.YtddgakaidlclcaaRows
import Derived.Test.YtddgakaidlclcaaNums
import Derived.Test.YtddgakaidlclcaaCaps
import Derived.Test.YtddgakaidlclcaaKnown05
namespace Go.Proofs.Ytddgakaidlclcaa.polyShift
open Go.ChangeShapes Go.WideShapes Go.ChangeAt Go.RowKit
open Pol (IsN Dg ofL Byt)

theorem up_z (t : Nat) : Pol.up t Pol.zero = Pol.zero := by funext i; show (if t ≤ i then (0 : GF) else 0) = 0; split <;> rfl
theorem shP_up {d t : Nat} {p : Pol} (h : Dg d p) (ht : d + t ≤ 1000) : shP (t : Int) d p = Pol.up t p := by
  unfold shP
  by_cases h0 : d = 0
  · subst h0
    rw [if_pos (.inl rfl), h.eq_zero, up_z]
  · rw [if_neg (by omega), if_neg (by omega)]; rfl
theorem shP_down {d t : Nat} {p : Pol} (h : Dg d p) (hd : d ≤ 1000) : shP (-(t : Int)) d p = Pol.down t p := by
  unfold shP
  by_cases h0 : d ≤ t
  · have e : Pol.down t p = Pol.zero := by funext i; exact h.bd (i + t) (by omega)
    rw [e]
    by_cases h1 : d = 0
    · rw [if_pos (.inl h1)]
    · rw [if_pos (.inr (.inr (by omega)))]
  · rw [if_neg (by omega)]
    by_cases h1 : t = 0
    · subst h1
      rw [if_neg (by omega)]
      show Pol.up (-((0 : Nat) : Int)).toNat p = Pol.down 0 p
      have e : (-((0 : Nat) : Int)).toNat = 0 := rfl
      rw [e, Pol.up_zero]; rfl
    · rw [if_pos (by omega)]
      have e : (-(-(t : Int))).toNat = t := by omega
      rw [e]
theorem dg_up {d t : Nat} {p : Pol} (h : Dg d p) : Dg (if d = 0 then 0 else d + t) (Pol.up t p) := by
  by_cases h0 : d = 0
  · subst h0
    rw [if_pos rfl, h.eq_zero, up_z]; exact Pol.dg_zero
  · rw [if_neg h0]
    refine ⟨h.bd.up t, fun _ => ?_⟩
    show (if t ≤ d + t - 1 then p (d + t - 1 - t) else 0) ≠ 0
    rw [if_pos (by omega), show d + t - 1 - t = d - 1 by omega]
    exact h.top h0
theorem x_set (t t1 : Nat) (h : t + 1 = t1) : Byt ((List.replicate t1 0).set t 1) ∧ ((List.replicate t1 0).set t 1).length = t1 ∧ ofL ((List.replicate t1 0).set t 1) = Pol.mono t 1 := by
  refine ⟨fun i => ?_, by simp, ?_⟩
  · rw [getD_set]
    split
    · decide
    · exact Pol.byt_rep t1 i
  · funext i
    show GF.of (((List.replicate t1 0).set t 1).getD i 0) = if i = t then 1 else 0
    rw [getD_set, List.length_replicate, Pol.getD_rep]
    by_cases e : i = t
    · rw [if_pos (by omega), if_pos e]; rfl
    · rw [if_neg (by omega), if_neg e]; rfl
set_option maxRecDepth 100000 in
set_option maxHeartbeats 4000000 in
theorem walk (j : Nat) (q : Option Addr) (n c : Nat) (xs : List Nat) (u : Nat) (w : World) (hj : j < 256) (S_p : Bs w q n xs) (y_p : n ≤ c ∧ c ≤ 140737488351232) (hu : u < 256) :
    Calls Try.prog 6 #[.int .u8 j, .slice q n c, .int .u8 u] w fun e w' => e = .returned (.bool true) ∧ Below w.heap.size w w' := by
  obtain ⟨k, hk⟩ : ∃ k : Nat, 1 + j % 3 = k := ⟨_, rfl⟩
  have hk1 : 1 ≤ k := by omega
  have hk3 : k ≤ 3 := by omega
  have hki : (1 : Int) + (j : Int) % 3 = (k : Int) := by omega
  clear hk
  have HB : Below w.heap.size w w := Below.refl _ _
  have Cp := y_p.1
  clear y_p
  go_enter Try.func6, Try.ntmps6
  by_cases hbig : 200 < n
  · have hb1 : (200 : Int) < (n : Int) := by omega
    go_wp2_with fail
    refine (known05_calls _).mono ?_
    rintro e w1 ⟨rfl, hb⟩
    replace HB := HB.trans (hb.mono HB.size)
    replace S_p := S_p.below hb
    clear hb
    go_wp2
    go_ret
    exact ⟨rfl, HB⟩
  · have hb1 : ((200 : Int) < (n : Int)) = False := eq_false (by omega)
    obtain ⟨t, ht⟩ : ∃ t, u % 40 = t := ⟨_, rfl⟩
    have hti : (u : Int) % 40 = (t : Int) := by omega
    obtain ⟨t1, ht1⟩ : ∃ t1, t + 1 = t1 := ⟨_, rfl⟩
    have hti1 : (t : Int) + 1 = (t1 : Int) := by omega
    have hx := x_set t t1 ht1
    have lp := S_p.len
    obtain ⟨dp, hdp, gp⟩ := Pol.dg_list xs
    obtain ⟨l1, h1, b1⟩ := Pol.isN_norm xs
    obtain ⟨lu, hlu, blu⟩ := Pol.isN_of_bd ((Pol.ofL_bd xs).up t)
    obtain ⟨lc, hlc, blc⟩ := Pol.isN_cut t xs
    obtain ⟨ld, hld, bld⟩ := Pol.isN_of_bd (show Pol.Bd n (Pol.down t (ofL xs)) from fun i hi => Pol.ofL_bd xs (i + t) (by omega))
    obtain ⟨dd, hdd, gd⟩ := Pol.dg_list ld
    obtain ⟨le, hle, ble⟩ := Pol.isN_of_bd ((Pol.ofL_bd ld).up t)
    obtain ⟨dc, hdc, gc⟩ := Pol.dg_list lc
    have hdct : dc ≤ t := gc.le (by rw [hlc.eq]; exact fun i hi => by show (if i < t then _ else (0 : GF)) = 0; rw [if_neg (by omega)])
    have gu := dg_up (t := t) gp
    obtain ⟨du, hdu⟩ : ∃ du, (if dp = 0 then 0 else dp + t) = du := ⟨_, rfl⟩
    have hdu2 : du ≤ dp + t := by rw [← hdu]; split <;> omega
    rw [hdu, ← hlu.eq] at gu
    have A1 : IsN lu (shP (t : Int) dp (ofL xs)) := by rw [shP_up gp (by omega)]; exact hlu
    have A2 : IsN l1 (shP (-(t : Int)) du (ofL lu)) := by rw [shP_down gu (by omega), hlu.eq, Pol.down_up]; exact h1
    have A3 : IsN lu (Pol.mul (ofL xs) (ofL ((List.replicate t1 0).set t 1))) := by rw [hx.2.2, Pol.mul_comm, Pol.mono_mul, Pol.one_smul]; exact hlu
    have A4 : IsN ld (shP (-(t : Int)) dp (ofL xs)) := by rw [shP_down gp (by omega)]; exact hld
    have A5 : IsN le (shP (t : Int) dd (ofL ld)) := by rw [shP_up gd (by omega)]; exact hle
    have A6 : IsN l1 (Pol.add (ofL lc) (ofL le)) := by rw [hlc.eq, hle.eq, hld.eq, Pol.cut_up_down]; exact h1
    have A7 : IsN lc (Pol.cut ((t : Int)).toNat (ofL xs)) := hlc
    have A8 : IsN [] (Pol.cut ((t : Int)).toNat (ofL lu)) := by
      have e : Pol.cut t (Pol.up t (ofL xs)) = Pol.zero := by
        funext i
        show (if i < t then (if t ≤ i then _ else (0 : GF)) else 0) = 0
        split
        · rw [if_neg (by omega)]
        · rfl
      show IsN [] (Pol.cut t (ofL lu))
      rw [hlu.eq, e]; exact Pol.isN_nil
    obtain ⟨n1, n1e⟩ : ∃ n1, l1.length = n1 := ⟨_, rfl⟩
    obtain ⟨nu, nue⟩ : ∃ nu, lu.length = nu := ⟨_, rfl⟩
    obtain ⟨nc, nce⟩ : ∃ nc, lc.length = nc := ⟨_, rfl⟩
    obtain ⟨nd, nde⟩ : ∃ nd, ld.length = nd := ⟨_, rfl⟩
    obtain ⟨ne, nee⟩ : ∃ ne, le.length = ne := ⟨_, rfl⟩
    have HU : Hid (n1 ≤ 1000 ∧ nu ≤ 1000 ∧ nc ≤ 1000 ∧ nd ≤ 1000 ∧ ne ≤ 1000 ∧ n ≤ 1000 ∧ t < 40 ∧ t1 ≤ 40) := by show _ ∧ _; omega
    have HH : Hid (IsN lu (shP (t : Int) dp (ofL xs)) ∧ IsN l1 (shP (-(t : Int)) du (ofL lu)) ∧ IsN lu (Pol.mul (ofL xs) (ofL ((List.replicate t1 0).set t 1))) ∧ IsN ld (shP (-(t : Int)) dp (ofL xs)) ∧ IsN le (shP (t : Int) dd (ofL ld)) ∧ IsN l1 (Pol.add (ofL lc) (ofL le)) ∧ IsN lc (Pol.cut ((t : Int)).toNat (ofL xs)) ∧ IsN [] (Pol.cut ((t : Int)).toNat (ofL lu)) ∧ IsN l1 (ofL xs)) := ⟨A1, A2, A3, A4, A5, A6, A7, A8, h1⟩
    have HG : Hid (Dg dp (ofL xs) ∧ Dg du (ofL lu) ∧ Dg dd (ofL ld) ∧ Dg dc (ofL lc)) := ⟨gp, gu, gd, gc⟩
    have HNl : Hid (l1.length = n1 ∧ lu.length = nu ∧ lc.length = nc ∧ ld.length = nd ∧ le.length = ne) := ⟨n1e, nue, nce, nde, nee⟩
    have HX : Hid (Byt ((List.replicate t1 0).set t 1) ∧ ((List.replicate t1 0).set t 1).length = t1) := ⟨hx.1, hx.2.1⟩
    obtain ⟨lx, hlx⟩ : ∃ lx, (List.replicate t1 0).set t 1 = lx := ⟨_, rfl⟩
    have Hlx : Hid ((List.replicate t1 0).set t 1 = lx) := hlx
    rw [hlx] at HH HX
    have HW1 : Hid (wrap64 (t1 : Int) = (t1 : Int)) := by show _ = _; unfold wrap64; omega
    have HWn : Hid (wrap64 (-(t : Int)) = -(t : Int)) := by show _ = _; unfold wrap64; omega
    have HT : Hid (t < t1 ∧ (t : Int) < (t1 : Int)) := by show _ ∧ _; omega
    have hdt : ((dc : Int) - 1 < (t : Int)) := by omega
    have Hdt : Hid ((dc : Int) - 1 < (t : Int)) := hdt
    clear A1 A2 A3 A4 A5 A6 A7 A8 h1 n1e nue nce nde nee gp gu gd gc hlu hlc hld hle b1 blu blc bld ble hdp hdd hdc hdct hdu hdu2 lp hbig ht ht1 hx hlx hdt
    go_wp2_with fail
    refine (fof_calls k hk1 hk3 _).mono ?_
    rintro e w1 ⟨B_f, T_f, rfl, HF_f, hb, hlB, hlT⟩
    have HL_f : w.heap.size ≤ T_f := Nat.le_trans HB.size hlT
    have Q_p_f := S_p.off hlT
    replace HB := HB.trans (hb.mono HB.size)
    replace S_p := S_p.below hb
    clear hb hlB hlT
    clear hb1 hki
    go_wp2_with fail
    refine (pshift_calls q n c xs lu (t : Int) dp HG.out.1 HH.out.1 (by have := HU.out; omega) Cp (by have := HU.out; omega) (by have := HU.out; omega) _ S_p).mono ?_
    rintro e w2 ⟨v, rfl, hO, hb⟩
    obtain ⟨q_u, c_u, rfl, S_u, C_u, hQ⟩ := hO.tell (n := nu) HH.out.1.byt HNl.out.2.1
    clear hO
    have Q_u_f := hQ _ HF_f.lt
    clear hQ
    replace HB := HB.trans (hb.mono HB.size)
    replace HF_f := HF_f.below hb
    replace S_p := S_p.below hb
    clear hb
    clear hti
    have hmk := make_bytes t1 (by have := HU.out; omega)
    have hO : Ow (w2.alloc (.cells (madeCells #[.int .u8 0] t1) 5)) w2.heap.size (.slice (some ⟨w2.heap.size, 0, none⟩) t1 t1) (List.replicate t1 0) := ow_made w2 (Nat.le_refl _) t1 (by have := HU.out; omega)
    obtain ⟨hcx, hfx⟩ := hO.at (by rw [List.length_replicate]) t HT.out.1
    have hO2 : Ow ((w2.alloc (.cells (madeCells #[.int .u8 0] t1) 5)).setCell ⟨w2.heap.size, t, none⟩ (.int .u8 1)) w2.heap.size (.slice (some ⟨w2.heap.size, 0, none⟩) t1 t1) lx := Hlx.out ▸ hO.set (by rw [List.length_replicate]) t 1
    have hBx : Below w2.heap.size w2 ((w2.alloc (.cells (madeCells #[.int .u8 0] t1) 5)).setCell ⟨w2.heap.size, t, none⟩ (.int .u8 1)) := ((Below.refl _ w2).alloc (Nat.le_refl _) _).setCell (p := ⟨w2.heap.size, t, none⟩) (Nat.le_refl _) _
    obtain ⟨q_x, c_x, ex, S_x, C_x, hQx⟩ := hO2.tell (n := t1) HX.out.1 HX.out.2
    cases ex
    have Q_x_f := hQx _ HF_f.lt
    rw [Pol.getD_rep] at hcx
    have hlt := HT.out.2
    have hw1 := HW1.out
    have HOx : Hid (Below w2.heap.size w2 ((w2.alloc (.cells (madeCells #[.int .u8 0] t1) 5)).setCell ⟨w2.heap.size, t, none⟩ (.int .u8 1)) ∧ Bs ((w2.alloc (.cells (madeCells #[.int .u8 0] t1) 5)).setCell ⟨w2.heap.size, t, none⟩ (.int .u8 1)) (some ⟨w2.heap.size, 0, none⟩) t1 lx) := ⟨hBx, S_x⟩
    have hE : (w2.alloc (.cells (madeCells #[.int .u8 0] t1) 5)).setCell ⟨w2.heap.size, t, none⟩ (.int .u8 1) = w2.alloc (.cells ((madeCells #[.int .u8 0] t1).setIfInBounds t (.int .u8 1)) 5) := by simp [go_sem]
    rw [hE] at HOx
    clear hO hO2 hQx hBx S_x hE
    go_wp2_with fail
    replace HB := HB.trans (HOx.out.1.mono HB.size)
    replace HF_f := HF_f.below HOx.out.1
    replace S_p := S_p.below HOx.out.1
    replace S_u := S_u.below HOx.out.1
    have S_x := HOx.out.2
    clear hmk hcx hfx hti1 hlt HOx hw1 HW1
    go_wp2_with fail
    refine (known05_calls _).mono ?_
    rintro e w3 ⟨rfl, hb⟩
    replace HB := HB.trans (hb.mono HB.size)
    replace HF_f := HF_f.below hb
    replace S_p := S_p.below hb
    replace S_u := S_u.below hb
    replace S_x := S_x.below hb
    clear hb
    have hwn := HWn.out
    go_wp2_with fail
    refine (pshift_calls q_u nu c_u lu l1 (-(t : Int)) du HG.out.2.1 HH.out.2.1 (by have := HU.out; omega) C_u (by have := HU.out; omega) (by have := HU.out; omega) _ S_u).mono ?_
    rintro e w4 ⟨v, rfl, hO, hb⟩
    obtain ⟨q_a, c_a, rfl, S_a, C_a, hQ⟩ := hO.tell (n := n1) HH.out.2.1.byt HNl.out.1
    clear hO
    have Q_a_f := hQ _ HF_f.lt
    clear hQ
    replace HB := HB.trans (hb.mono HB.size)
    replace HF_f := HF_f.below hb
    replace S_p := S_p.below hb
    replace S_u := S_u.below hb
    replace S_x := S_x.below hb
    clear hb
    go_wp2_with fail
    refine (psame_calls q_a q n1 c_a n c l1 xs true (iff_of_true rfl HH.out.2.2.2.2.2.2.2.2.eq) C_a Cp _ S_a S_p).mono ?_
    rintro e w5 ⟨rfl, hb⟩
    replace HB := HB.trans (hb.mono HB.size)
    replace HF_f := HF_f.below hb
    replace S_p := S_p.below hb
    replace S_u := S_u.below hb
    replace S_x := S_x.below hb
    replace S_a := S_a.below hb
    clear hb
    clear S_a
    go_wp2_with fail
    refine (pmul_calls k B_f T_f n c t1 t1 q _ xs lx lu HH.out.2.2.1 (by have := HU.out; omega) (by have := HU.out; omega) Cp (Nat.le_refl _) _ HF_f S_p S_x Q_p_f Q_x_f).mono ?_
    rintro e w6 ⟨v, rfl, hO, hF, hb⟩
    obtain ⟨q_b, c_b, rfl, S_b, C_b, hQ⟩ := hO.tell (n := nu) HH.out.2.2.1.byt HNl.out.2.1
    clear hO
    have Q_b_f := hQ _ HF_f.lt
    clear hQ
    replace HB := HB.trans (hb.below HB.size (by rintro k rfl; exact HL_f))
    replace S_p := S_p.but hb Q_p_f
    replace S_u := S_u.but hb Q_u_f
    replace S_x := S_x.but hb Q_x_f
    clear HF_f hb
    have HF_f := hF
    clear hF
    go_wp2_with fail
    refine (psame_calls q_u q_b nu c_u nu c_b lu lu true (iff_of_true rfl rfl) C_u C_b _ S_u S_b).mono ?_
    rintro e w7 ⟨rfl, hb⟩
    replace HB := HB.trans (hb.mono HB.size)
    replace HF_f := HF_f.below hb
    replace S_p := S_p.below hb
    replace S_u := S_u.below hb
    replace S_x := S_x.below hb
    replace S_b := S_b.below hb
    clear hb
    clear S_b S_x
    go_wp2_with fail
    refine (pcut_calls q n c xs lc (t : Int) HH.out.2.2.2.2.2.2.1 (by have := HU.out; omega) Cp _ S_p).mono ?_
    rintro e w8 ⟨v, rfl, hO, hb⟩
    obtain ⟨q_c, c_c, rfl, S_c, C_c, hQ⟩ := hO.tell (n := nc) HH.out.2.2.2.2.2.2.1.byt HNl.out.2.2.1
    clear hO
    have Q_c_f := hQ _ HF_f.lt
    clear hQ
    replace HB := HB.trans (hb.mono HB.size)
    replace HF_f := HF_f.below hb
    replace S_p := S_p.below hb
    replace S_u := S_u.below hb
    clear hb
    go_wp2_with fail
    refine (pshift_calls q n c xs ld (-(t : Int)) dp HG.out.1 HH.out.2.2.2.1 (by have := HU.out; omega) Cp (by have := HU.out; omega) (by have := HU.out; omega) _ S_p).mono ?_
    rintro e w9 ⟨v, rfl, hO, hb⟩
    obtain ⟨q_d, c_d, rfl, S_d, C_d, hQ⟩ := hO.tell (n := nd) HH.out.2.2.2.1.byt HNl.out.2.2.2.1
    clear hO
    have Q_d_f := hQ _ HF_f.lt
    clear hQ
    replace HB := HB.trans (hb.mono HB.size)
    replace HF_f := HF_f.below hb
    replace S_p := S_p.below hb
    replace S_u := S_u.below hb
    replace S_c := S_c.below hb
    clear hb
    go_wp2_with fail
    refine (pshift_calls q_d nd c_d ld le (t : Int) dd HG.out.2.2.1 HH.out.2.2.2.2.1 (by have := HU.out; omega) C_d (by have := HU.out; omega) (by have := HU.out; omega) _ S_d).mono ?_
    rintro e w10 ⟨v, rfl, hO, hb⟩
    obtain ⟨q_e, c_e, rfl, S_e, C_e, hQ⟩ := hO.tell (n := ne) HH.out.2.2.2.2.1.byt HNl.out.2.2.2.2
    clear hO
    have Q_e_f := hQ _ HF_f.lt
    clear hQ
    replace HB := HB.trans (hb.mono HB.size)
    replace HF_f := HF_f.below hb
    replace S_p := S_p.below hb
    replace S_u := S_u.below hb
    replace S_c := S_c.below hb
    replace S_d := S_d.below hb
    clear hb
    go_wp2_with fail
    refine (padd_calls q_c q_e nc c_c ne c_e lc le l1 HH.out.2.2.2.2.2.1 (by have := HU.out; omega) (by have := HU.out; omega) _ S_c S_e).mono ?_
    rintro e w11 ⟨v, rfl, hO, hb⟩
    obtain ⟨q_g, c_g, rfl, S_g, C_g, hQ⟩ := hO.tell (n := n1) HH.out.2.2.2.2.2.1.byt HNl.out.1
    clear hO
    have Q_g_f := hQ _ HF_f.lt
    clear hQ
    replace HB := HB.trans (hb.mono HB.size)
    replace HF_f := HF_f.below hb
    replace S_p := S_p.below hb
    replace S_u := S_u.below hb
    replace S_c := S_c.below hb
    replace S_d := S_d.below hb
    replace S_e := S_e.below hb
    clear hb
    go_wp2_with fail
    refine (psame_calls q_g q n1 c_g n c l1 xs true (iff_of_true rfl HH.out.2.2.2.2.2.2.2.2.eq) C_g Cp _ S_g S_p).mono ?_
    rintro e w12 ⟨rfl, hb⟩
    replace HB := HB.trans (hb.mono HB.size)
    replace HF_f := HF_f.below hb
    replace S_p := S_p.below hb
    replace S_u := S_u.below hb
    replace S_c := S_c.below hb
    replace S_d := S_d.below hb
    replace S_e := S_e.below hb
    replace S_g := S_g.below hb
    clear hb
    clear S_c S_d S_e S_g
    go_wp2_with fail
    refine (pcut_calls q n c xs lc (t : Int) HH.out.2.2.2.2.2.2.1 (by have := HU.out; omega) Cp _ S_p).mono ?_
    rintro e w13 ⟨v, rfl, hO, hb⟩
    obtain ⟨q_h, c_h, rfl, S_h, C_h, hQ⟩ := hO.tell (n := nc) HH.out.2.2.2.2.2.2.1.byt HNl.out.2.2.1
    clear hO
    have Q_h_f := hQ _ HF_f.lt
    clear hQ
    replace HB := HB.trans (hb.mono HB.size)
    replace HF_f := HF_f.below hb
    replace S_p := S_p.below hb
    replace S_u := S_u.below hb
    clear hb
    go_wp2_with fail
    refine (pdeg_calls q_h nc c_h lc dc HG.out.2.2.2 _ S_h).mono ?_
    rintro e w14 ⟨rfl, hb⟩
    replace HB := HB.trans (hb.mono HB.size)
    replace HF_f := HF_f.below hb
    replace S_p := S_p.below hb
    replace S_u := S_u.below hb
    replace S_h := S_h.below hb
    clear hb
    have hdt := Hdt.out
    go_wp2_with fail
    refine (pcut_calls q_u nu c_u lu [] (t : Int) HH.out.2.2.2.2.2.2.2.1 (by have := HU.out; omega) C_u _ S_u).mono ?_
    rintro e w15 ⟨v, rfl, hO, hb⟩
    obtain ⟨q_i, c_i, rfl, S_i, C_i, hQ⟩ := hO.tell (n := 0) Pol.byt_nil rfl
    clear hO
    have Q_i_f := hQ _ HF_f.lt
    clear hQ
    replace HB := HB.trans (hb.mono HB.size)
    replace HF_f := HF_f.below hb
    replace S_p := S_p.below hb
    replace S_u := S_u.below hb
    replace S_h := S_h.below hb
    clear hb
    go_wp2
    go_ret
    exact ⟨rfl, HB⟩
theorem own : ownKnob Try.prog.godebug = none := by kernel_rfl
theorem laidOut : laidOutB Try.prog = true := by kernel_rfl
set_option maxRecDepth 100000 in
theorem lifted (os : Os) (started : os.Started) (H : Type) (enc : TypeId × Value → H) :
    ReturnsInHanded {} Try.checked os 6 .any (Rows.polyShiftSpec.pre6 enc Try.prog Try.f6 Rows.polyShiftRow.domain false) (Rows.polyShiftSpec.post enc Try.prog Try.f6 false true false false) := by
  refine returnsInHanded_of_change_sized (C := Try.checked) own started (by kernel_rfl) Try.func6
    (ChangeSpec.witness6 (enc := enc) (C := Try.checked) false ⟨#[], #[.int .u8 0, .slice none 0 0, .int .u8 0], []⟩ 8 (by kernel_rfl) (by kernel_rfl) (by kernel_rfl) (by kernel_rfl)) ?_
  intro W base args ds gs before hval0 hW _ hz _
  have hval : ∀ (j : Nat) t v, Try.f6.params[j]? = some t → args[j]? = some v → Value.okWide Try.prog W .any base t v := hval0
  have hW' := hW
  obtain ⟨p, q, hA0, hV, rfl, _, _⟩ := hW
  have hA : DataW.TrodAll enc Try.prog W 0 (fun _ => true) true Try.f6.params.toList args.toList ds p := hA0
  rw [Try.params6] at hA hval
  obtain ⟨v0, vs0, d0, ds0, p0, q0, hargs, rfl, rfl, h0, r0⟩ := trodAll_cons hA
  obtain ⟨v1, vs1, d1, ds1, p1, q1, rfl, rfl, rfl, h1, r1⟩ := trodAll_cons r0
  obtain ⟨v2, vs2, d2, ds2, p2, q2, rfl, rfl, rfl, h2, r2⟩ := trodAll_cons r1
  obtain ⟨rfl, rfl, rfl⟩ := trodAll_nil r2
  obtain rfl : args = #[v0, v1, v2] := by cases args; simp_all
  obtain ⟨rfl, rfl⟩ := trodVars_none hV
  obtain ⟨a0, rfl, rfl, rfl, w0⟩ := open_int Try.underlying5 (hval 0 5 v0 rfl rfl) h0
  obtain ⟨n0, b0, rfl⟩ := nat_of_u8 w0
  have k1 := h1
  obtain ⟨q1, n1, c1, xs1, rfl, w1, m1⟩ := open_bytes_sz Try.underlying22 Try.underlying5 (by kernel_rfl) (hval 1 22 v1 rfl rfl) h1
  have y1 : n1 ≤ c1 ∧ c1 ≤ 140737488351232 := ⟨m1.1, m1.2 _ fun el sp hd => by have := sized_slice (j := 1) (t := 22) (e := 5) (elems := el) (spare := sp) hz (by kernel_rfl) (by first | (rw [← hd]; done) | (rw [← hd]; rfl)) Try.underlying22; have hbe : Try.checked.prog.bytesOf 5 = 1 := (by kernel_rfl); have hre : reachBytes = 140737488351232 := rfl; rw [hbe, hre] at this; omega⟩
  obtain ⟨a2, rfl, rfl, rfl, w2⟩ := open_int Try.underlying5 (hval 2 5 v2 rfl rfl) h2
  obtain ⟨n2, b2, rfl⟩ := nat_of_u8 w2
  clear hA0 hval0
  simp only [List.append_nil] at hW'
  refine (walk (w := W) n0 q1 n1 c1 xs1 n2 b0 w1 y1 b2).mono fun e W' ⟨he, bel⟩ => ?_
  subst he
  exact ⟨_, rfl, _, _, _, [], _, [], hW', trodAll_mk1 (shut_bool Try.underlying4 _), (trodAll_cons_mk (shut_int Try.underlying5 w0) (trodAll_cons_mk (shut_same laidOut (by kernel_rfl) (of_decide_eq_true (by kernel_rfl)) k1 bel) (trodAll_cons_mk (shut_int Try.underlying5 w2) trodAll_mk0))), rfl, bel.frame _, fun h => by cases h⟩
theorem over : Rows.polyShiftRow.holds Try.pinned (OpenSpec.ofChange Rows.polyShiftSpec) :=
  OpenClaim.holds_of_wide 6 Try.f6 rfl rfl rfl rfl rfl rfl rfl ⟨rfl, rfl, rfl, rfl, rfl⟩ rfl rfl rfl rfl rfl (by kernel_rfl) Try.func6 (by kernel_rfl)
    (of_decide_eq_true (by kernel_rfl)) (by unfold Func.isWrapper; first | (rw [if_pos (by decide +kernel)]; kernel_rfl) | (rw [if_neg (by decide +kernel)]; exact ⟨rfl, rfl⟩))
    (fun os started H enc _ => lifted os started H enc)
theorem proved : Rows.PolyShiftSaid := over
#print axioms proved
end Go.Proofs.Ytddgakaidlclcaa.polyShift
