/- QuotMod holds for every input: what is left is the same of all that differ by a multiple, and goes with sums and products. No conditions. -/
import Derived.Test.YtphhehppcfddgaaRows
import Derived.Test.YtphhehppcfddgaaMB
import Derived.Test.YtphhehppcfddgaaKnown06
import Derived.Test.YtphhehppcfddgaaMH
import Derived.Test.YtphhehppcfddgaaMJ
namespace Go.Proofs.Ytphhehppcfddgaa.quotMod
open Go.ChangeShapes Go.WideShapes Go.ChangeAt Go.RowKit
open Pol (IsN Dg ofL Byt)

/-- What is left of a list, and the list of it. -/
theorem left_of {d : Nat} {ys : List Nat} (hq : Dg (d + 1) (ofL ys)) (xs : List Nat) : ∃ A R la lr, IsN la A ∧ IsN lr R ∧ Pol.Bd d R ∧ ofL xs = Pol.add (Pol.mul A (ofL ys)) R ∧ lr.length ≤ d := by
  obtain ⟨A, R, hA, hR, he⟩ := Pol.div_exists hq xs.length (ofL xs) (Pol.ofL_bd xs)
  obtain ⟨la, ha, -⟩ := Pol.isN_of_bd hA
  obtain ⟨lr, hr, hl⟩ := Pol.isN_of_bd hR
  exact ⟨A, R, la, lr, ha, hr, hR, he, hl⟩
theorem add4 (a b c d : Pol) : Pol.add (Pol.add a b) (Pol.add c d) = Pol.add (Pol.add a c) (Pol.add b d) := by funext i; exact GF.add_add_add _ _ _ _
/-- What is left of two that differ by a multiple is the same. -/
theorem same_left {d : Nat} {y A R B S C : Pol} (hq : Dg (d + 1) y) (hA : Pol.Fin A) (hB : Pol.Fin B) (hC : Pol.Fin C) (hR : Pol.Bd d R) (hS : Pol.Bd d S) (h : Pol.add (Pol.mul A y) R = Pol.add (Pol.add (Pol.mul B y) S) (Pol.mul C y)) : R = S := by
  refine (Pol.div_unique hA (hB.add hC) hq hR hS (h.trans ?_)).2
  rw [Pol.add_mul, Pol.add_assoc, Pol.add_assoc, Pol.add_comm S]
theorem sum_left {d : Nat} {y P Q A R B S C U : Pol} (hq : Dg (d + 1) y) (hA : Pol.Fin A) (hB : Pol.Fin B) (hC : Pol.Fin C) (hR : Pol.Bd d R) (hS : Pol.Bd d S) (hU : Pol.Bd d U) (h1 : P = Pol.add (Pol.mul A y) R) (h2 : Q = Pol.add (Pol.mul B y) S) (h3 : Pol.add P Q = Pol.add (Pol.mul C y) U) : U = Pol.add R S := by
  refine (Pol.div_unique hC (hA.add hB) hq hU (hR.add hS) (h3.symm.trans ?_)).2
  rw [h1, h2, Pol.add_mul, add4]
theorem mul_left {d : Nat} {y P Q A R B S C U E V : Pol} (hq : Dg (d + 1) y) (fQ : Pol.Fin Q) (hA : Pol.Fin A) (hB : Pol.Fin B) (hC : Pol.Fin C) (hE : Pol.Fin E) (hR : Pol.Bd d R) (hU : Pol.Bd d U) (hV : Pol.Bd d V) (h1 : P = Pol.add (Pol.mul A y) R) (h2 : Q = Pol.add (Pol.mul B y) S) (h3 : Pol.mul P Q = Pol.add (Pol.mul C y) U) (h4 : Pol.mul R S = Pol.add (Pol.mul E y) V) : U = V := by
  -- P Q = A y Q + R B y + R S
  have e : Pol.mul P Q = Pol.add (Pol.add (Pol.mul E y) V) (Pol.mul (Pol.add (Pol.mul A Q) (Pol.mul R B)) y) := by
    rw [← h4]
    conv => lhs; rw [h1, Pol.add_mul]
    conv => lhs; arg 2; rw [h2, Pol.mul_add]
    rw [Pol.add_mul, Pol.mul_assoc, Pol.mul_comm y Q, ← Pol.mul_assoc, ← Pol.mul_assoc R B y, Pol.add_comm (Pol.mul R S), Pol.add_assoc]
  exact same_left hq hC hE ((hA.mul fQ).add (Pol.Fin.mul ⟨d, hR⟩ hB)) hU hV (h3.symm.trans e)

set_option maxRecDepth 100000 in
set_option maxHeartbeats 4000000 in
theorem walk (j : Nat) (q : Option Addr) (n c : Nat) (xs : List Nat) (p : Option Addr) (m d : Nat) (ys : List Nat) (r : Option Addr) (l e : Nat) (zs : List Nat) (w : World) (hj : j < 256) (S_p : Bs w q n xs) (y_p : n ≤ c ∧ c ≤ 140737488351232) (S_q : Bs w p m ys) (y_q : m ≤ d ∧ d ≤ 140737488351232) (S_r : Bs w r l zs) (y_r : l ≤ e ∧ e ≤ 140737488351232) :
    Calls Try.prog 6 #[.int .u8 j, .slice q n c, .slice p m d, .slice r l e] w fun e w' => e = .returned (.bool true) ∧ Below w.heap.size w w' := by
  obtain ⟨k, hk⟩ : ∃ k : Nat, 1 + j % 3 = k := ⟨_, rfl⟩
  have hk1 : 1 ≤ k := by omega
  have hk3 : k ≤ 3 := by omega
  have hki : (1 : Int) + (j : Int) % 3 = (k : Int) := by omega
  clear hk
  have HB : Below w.heap.size w w := Below.refl _ _
  have Cp := y_p.1
  have Cq := y_q.1
  have Cr := y_r.1
  have HW : Hid (wrap64 ((n : Int) + (m : Int)) = (n : Int) + (m : Int)) := by show _ = _; unfold wrap64; omega
  have HW2 : Hid (wrap64 ((n : Int) + (m : Int) + (l : Int)) = (n : Int) + (m : Int) + (l : Int)) := by show _ = _; unfold wrap64; omega
  clear y_p y_q y_r
  go_enter Try.func6, Try.ntmps6
  by_cases hbig : 90 < n + m + l
  · have hb1 : (90 : Int) < (n : Int) + (m : Int) + (l : Int) := by omega
    have hs1 := HW.out
    have hs2 := HW2.out
    go_wp2_with fail
    refine (known06_calls _).mono ?_
    rintro e w1 ⟨rfl, hb⟩
    replace HB := HB.trans (hb.mono HB.size)
    replace S_p := S_p.below hb
    replace S_q := S_q.below hb
    replace S_r := S_r.below hb
    clear hb
    go_wp2
    go_ret
    exact ⟨rfl, HB⟩
  · have hb1 : ((90 : Int) < (n : Int) + (m : Int) + (l : Int)) = False := eq_false (by omega)
    have HU0 : Hid (n ≤ 90 ∧ m ≤ 90 ∧ l ≤ 90 ∧ l ≤ 1000000000) := by show _ ∧ _; omega
    clear hbig
    have hs1 := HW.out
    have hs2 := HW2.out
    obtain ⟨dr, hdr, gr⟩ := Pol.dg_list zs
    have Hdr : Hid (dr ≤ zs.length ∧ Dg dr (ofL zs)) := ⟨hdr, gr⟩
    clear hdr gr
    go_wp2_with fail
    refine (rdeg_calls r l e zs dr Hdr.out.2 HU0.out.2.2.2 _ S_r).mono ?_
    rintro e' w0 ⟨rfl, hw⟩
    subst w0
    clear hs1 hs2 HW HW2 hb1
    cases dr with
    | zero =>
      go_wp2_with fail
      refine (known06_calls _).mono ?_
      rintro e w1 ⟨rfl, hb⟩
      replace HB := HB.trans (hb.mono HB.size)
      replace S_p := S_p.below hb
      replace S_q := S_q.below hb
      replace S_r := S_r.below hb
      clear hb
      go_wp2
      go_ret
      exact ⟨rfl, HB⟩
    | succ dr =>
      have gr := Hdr.out.2
      obtain ⟨A, RA, la, lra, hA, hRA, dA, eA, nA⟩ := left_of gr xs
      obtain ⟨B, RB, lb, lrb, hB, hRB, dB, eB, nB⟩ := left_of gr ys
      obtain ⟨ls, hs, bs⟩ := Pol.isN_add xs ys
      obtain ⟨C, RC, lc, lrc, hC, hRC, dC, eC, nC⟩ := left_of gr ls
      obtain ⟨lm, hm, bm⟩ := Pol.isN_mul xs ys
      obtain ⟨D, RD, ld, lrd, hD, hRD, dD, eD, nD⟩ := left_of gr lm
      obtain ⟨lt, ht, bt⟩ := Pol.isN_mul lra lrb
      obtain ⟨E, RE, le, lre, hE, hRE, dE, eE, nE⟩ := left_of gr lt
      obtain ⟨lu, hu, bu⟩ := Pol.isN_mul ys zs
      obtain ⟨lv, hv, bv⟩ := Pol.isN_add xs lu
      obtain ⟨F, RF, lf, lrf, hF, hRF, dF, eF, nF⟩ := left_of gr lv
      have eC2 := hs.eq ▸ eC
      have eD2 := hm.eq ▸ eD
      have eE2 : Pol.mul RA RB = Pol.add (Pol.mul E (ofL zs)) RE := by rw [← eE, ht.eq, hRA.eq, hRB.eq]
      have eF2 : Pol.add (ofL xs) (Pol.mul (ofL ys) (ofL zs)) = Pol.add (Pol.mul F (ofL zs)) RF := by rw [← eF, hv.eq, hu.eq]
      have e1 : RC = Pol.add RA RB := sum_left gr hA.dg.fin hB.dg.fin hC.dg.fin dA dB dC eA eB eC2
      have e2 : RE = RD := (mul_left gr (Pol.Fin.ofL ys) hA.dg.fin hB.dg.fin hD.dg.fin hE.dg.fin dA dD dE eA eB eD2 eE2).symm
      have e3 : RF = RA := same_left gr hF.dg.fin hA.dg.fin (Pol.Fin.ofL ys) dF dA (by rw [← eA]; exact eF2.symm)
      rw [e2] at hRE dE eE
      rw [e3] at hRF dF eF
      have hsum : IsN lrc (Pol.add (ofL lra) (ofL lrb)) := by rw [hRA.eq, hRB.eq, ← e1]; exact hRC
      obtain ⟨na, nae⟩ : ∃ na, lra.length = na := ⟨_, rfl⟩
      obtain ⟨nb, nbe⟩ : ∃ nb, lrb.length = nb := ⟨_, rfl⟩
      obtain ⟨ns, nse⟩ : ∃ ns, ls.length = ns := ⟨_, rfl⟩
      obtain ⟨nc, nce⟩ : ∃ nc, lrc.length = nc := ⟨_, rfl⟩
      obtain ⟨nm, nme⟩ : ∃ nm, lm.length = nm := ⟨_, rfl⟩
      obtain ⟨nd, nde⟩ : ∃ nd, lrd.length = nd := ⟨_, rfl⟩
      obtain ⟨nt, nte⟩ : ∃ nt, lt.length = nt := ⟨_, rfl⟩
      obtain ⟨nu, nue⟩ : ∃ nu, lu.length = nu := ⟨_, rfl⟩
      obtain ⟨nv, nve⟩ : ∃ nv, lv.length = nv := ⟨_, rfl⟩
      have HU : Hid (na ≤ 1000 ∧ nb ≤ 1000 ∧ ns ≤ 1000 ∧ nc ≤ 1000 ∧ nm ≤ 1000 ∧ nd ≤ 1000 ∧ nt ≤ 1000 ∧ nu ≤ 1000 ∧ nv ≤ 1000 ∧ n ≤ 1000 ∧ m ≤ 1000 ∧ l ≤ 1000) := by
        have := HU0.out; have := Hdr.out.1; have := S_p.len; have := S_q.len; have := S_r.len
        show _ ∧ _
        omega
      have HH : Hid (Dg (dr + 1) (ofL zs) ∧ IsN la A ∧ IsN lra RA ∧ Pol.Bd dr RA ∧ ofL xs = Pol.add (Pol.mul A (ofL zs)) RA ∧ IsN lb B ∧ IsN lrb RB ∧ Pol.Bd dr RB ∧ ofL ys = Pol.add (Pol.mul B (ofL zs)) RB ∧ IsN ls (Pol.add (ofL xs) (ofL ys)) ∧ IsN lc C ∧ IsN lrc RC ∧ Pol.Bd dr RC ∧ ofL ls = Pol.add (Pol.mul C (ofL zs)) RC ∧ IsN lm (Pol.mul (ofL xs) (ofL ys)) ∧ IsN ld D ∧ IsN lrd RD ∧ Pol.Bd dr RD ∧ ofL lm = Pol.add (Pol.mul D (ofL zs)) RD ∧ IsN lt (Pol.mul (ofL lra) (ofL lrb)) ∧ IsN le E ∧ Pol.Bd dr RD ∧ ofL lt = Pol.add (Pol.mul E (ofL zs)) RD ∧ IsN lu (Pol.mul (ofL ys) (ofL zs)) ∧ IsN lv (Pol.add (ofL xs) (ofL lu)) ∧ IsN lf F ∧ ofL lv = Pol.add (Pol.mul F (ofL zs)) RA ∧ IsN lrc (Pol.add (ofL lra) (ofL lrb))) := ⟨gr, hA, hRA, dA, eA, hB, hRB, dB, eB, hs, hC, hRC, dC, eC, hm, hD, hRD, dD, eD, ht, hE, dE, eE, hu, hv, hF, eF, hsum⟩
      have HNl : Hid (lra.length = na ∧ lrb.length = nb ∧ ls.length = ns ∧ lrc.length = nc ∧ lm.length = nm ∧ lrd.length = nd ∧ lt.length = nt ∧ lu.length = nu ∧ lv.length = nv) := ⟨nae, nbe, nse, nce, nme, nde, nte, nue, nve⟩
      clear gr hA hRA dA eA nA hB hRB dB eB nB hs bs hC hRC dC eC nC hm bm hD hRD dD eD nD ht bt hE hRE dE eE nE hu bu hv bv hF hRF dF eF nF eC2 eD2 eE2 eF2 e1 e2 e3 hsum nae nbe nse nce nme nde nte nue nve HU0 Hdr
      go_wp2_with fail
      refine (fof_calls k hk1 hk3 _).mono ?_
      rintro e w1 ⟨B_f, T_f, rfl, HF_f, hb, hlB, hlT⟩
      have HL_f : w.heap.size ≤ T_f := Nat.le_trans HB.size hlT
      have Q_p_f := S_p.off hlT
      have Q_q_f := S_q.off hlT
      have Q_r_f := S_r.off hlT
      replace HB := HB.trans (hb.mono HB.size)
      replace S_p := S_p.below hb
      replace S_q := S_q.below hb
      replace S_r := S_r.below hb
      clear hb hlB hlT
      clear hki
      go_wp2_with fail
      refine (qmod_calls k B_f T_f n c l e dr q r xs zs la lra A RA HH.out.1 HH.out.2.1 HH.out.2.2.1 HH.out.2.2.2.1 HH.out.2.2.2.2.1 (by have := HU.out; omega) (by have := HU.out; omega) Cp Cr _ HF_f S_p S_r Q_p_f Q_r_f).mono ?_
      rintro e w2 ⟨v, rfl, hO, hF, hb⟩
      obtain ⟨q_a, c_a, rfl, S_a, C_a, hQ⟩ := hO.tell (n := na) HH.out.2.2.1.byt HNl.out.1
      clear hO
      have Q_a_f := hQ _ HF_f.lt
      clear hQ
      replace HB := HB.trans (hb.below HB.size (by rintro k rfl; exact HL_f))
      replace S_p := S_p.but hb Q_p_f
      replace S_q := S_q.but hb Q_q_f
      replace S_r := S_r.but hb Q_r_f
      clear HF_f hb
      have HF_f := hF
      clear hF
      go_wp2_with fail
      refine (qmod_calls k B_f T_f m d l e dr p r ys zs lb lrb B RB HH.out.1 HH.out.2.2.2.2.2.1 HH.out.2.2.2.2.2.2.1 HH.out.2.2.2.2.2.2.2.1 HH.out.2.2.2.2.2.2.2.2.1 (by have := HU.out; omega) (by have := HU.out; omega) Cq Cr _ HF_f S_q S_r Q_q_f Q_r_f).mono ?_
      rintro e w3 ⟨v, rfl, hO, hF, hb⟩
      obtain ⟨q_b, c_b, rfl, S_b, C_b, hQ⟩ := hO.tell (n := nb) HH.out.2.2.2.2.2.2.1.byt HNl.out.2.1
      clear hO
      have Q_b_f := hQ _ HF_f.lt
      clear hQ
      replace HB := HB.trans (hb.below HB.size (by rintro k rfl; exact HL_f))
      replace S_p := S_p.but hb Q_p_f
      replace S_q := S_q.but hb Q_q_f
      replace S_r := S_r.but hb Q_r_f
      replace S_a := S_a.but hb Q_a_f
      clear HF_f hb
      have HF_f := hF
      clear hF
      go_wp2_with fail
      refine (padd_calls q p n c m d xs ys ls HH.out.2.2.2.2.2.2.2.2.2.1 (by have := HU.out; omega) (by have := HU.out; omega) _ S_p S_q).mono ?_
      rintro e w4 ⟨v, rfl, hO, hb⟩
      obtain ⟨q_s, c_s, rfl, S_s, C_s, hQ⟩ := hO.tell (n := ns) HH.out.2.2.2.2.2.2.2.2.2.1.byt HNl.out.2.2.1
      clear hO
      have Q_s_f := hQ _ HF_f.lt
      clear hQ
      replace HB := HB.trans (hb.mono HB.size)
      replace HF_f := HF_f.below hb
      replace S_p := S_p.below hb
      replace S_q := S_q.below hb
      replace S_r := S_r.below hb
      replace S_a := S_a.below hb
      replace S_b := S_b.below hb
      clear hb
      go_wp2_with fail
      refine (qmod_calls k B_f T_f ns c_s l e dr q_s r ls zs lc lrc C RC HH.out.1 HH.out.2.2.2.2.2.2.2.2.2.2.1 HH.out.2.2.2.2.2.2.2.2.2.2.2.1 HH.out.2.2.2.2.2.2.2.2.2.2.2.2.1 HH.out.2.2.2.2.2.2.2.2.2.2.2.2.2.1 (by have := HU.out; omega) (by have := HU.out; omega) C_s Cr _ HF_f S_s S_r Q_s_f Q_r_f).mono ?_
      rintro e w5 ⟨v, rfl, hO, hF, hb⟩
      obtain ⟨q_t, c_t, rfl, S_t, C_t, hQ⟩ := hO.tell (n := nc) HH.out.2.2.2.2.2.2.2.2.2.2.2.1.byt HNl.out.2.2.2.1
      clear hO
      have Q_t_f := hQ _ HF_f.lt
      clear hQ
      replace HB := HB.trans (hb.below HB.size (by rintro k rfl; exact HL_f))
      replace S_p := S_p.but hb Q_p_f
      replace S_q := S_q.but hb Q_q_f
      replace S_r := S_r.but hb Q_r_f
      replace S_a := S_a.but hb Q_a_f
      replace S_b := S_b.but hb Q_b_f
      replace S_s := S_s.but hb Q_s_f
      clear HF_f hb
      have HF_f := hF
      clear hF
      clear S_s
      go_wp2_with fail
      refine (pmul_calls k B_f T_f n c m d q p xs ys lm HH.out.2.2.2.2.2.2.2.2.2.2.2.2.2.2.1 (by have := HU.out; omega) (by have := HU.out; omega) Cp Cq _ HF_f S_p S_q Q_p_f Q_q_f).mono ?_
      rintro e w6 ⟨v, rfl, hO, hF, hb⟩
      obtain ⟨q_u, c_u, rfl, S_u, C_u, hQ⟩ := hO.tell (n := nm) HH.out.2.2.2.2.2.2.2.2.2.2.2.2.2.2.1.byt HNl.out.2.2.2.2.1
      clear hO
      have Q_u_f := hQ _ HF_f.lt
      clear hQ
      replace HB := HB.trans (hb.below HB.size (by rintro k rfl; exact HL_f))
      replace S_p := S_p.but hb Q_p_f
      replace S_q := S_q.but hb Q_q_f
      replace S_r := S_r.but hb Q_r_f
      replace S_a := S_a.but hb Q_a_f
      replace S_b := S_b.but hb Q_b_f
      replace S_t := S_t.but hb Q_t_f
      clear HF_f hb
      have HF_f := hF
      clear hF
      go_wp2_with fail
      refine (qmod_calls k B_f T_f nm c_u l e dr q_u r lm zs ld lrd D RD HH.out.1 HH.out.2.2.2.2.2.2.2.2.2.2.2.2.2.2.2.1 HH.out.2.2.2.2.2.2.2.2.2.2.2.2.2.2.2.2.1 HH.out.2.2.2.2.2.2.2.2.2.2.2.2.2.2.2.2.2.1 HH.out.2.2.2.2.2.2.2.2.2.2.2.2.2.2.2.2.2.2.1 (by have := HU.out; omega) (by have := HU.out; omega) C_u Cr _ HF_f S_u S_r Q_u_f Q_r_f).mono ?_
      rintro e w7 ⟨v, rfl, hO, hF, hb⟩
      obtain ⟨q_m, c_m, rfl, S_m, C_m, hQ⟩ := hO.tell (n := nd) HH.out.2.2.2.2.2.2.2.2.2.2.2.2.2.2.2.2.1.byt HNl.out.2.2.2.2.2.1
      clear hO
      have Q_m_f := hQ _ HF_f.lt
      clear hQ
      replace HB := HB.trans (hb.below HB.size (by rintro k rfl; exact HL_f))
      replace S_p := S_p.but hb Q_p_f
      replace S_q := S_q.but hb Q_q_f
      replace S_r := S_r.but hb Q_r_f
      replace S_a := S_a.but hb Q_a_f
      replace S_b := S_b.but hb Q_b_f
      replace S_t := S_t.but hb Q_t_f
      replace S_u := S_u.but hb Q_u_f
      clear HF_f hb
      have HF_f := hF
      clear hF
      clear S_u
      go_wp2_with fail
      refine (pmul_calls k B_f T_f na c_a nb c_b q_a q_b lra lrb lt HH.out.2.2.2.2.2.2.2.2.2.2.2.2.2.2.2.2.2.2.2.1 (by have := HU.out; omega) (by have := HU.out; omega) C_a C_b _ HF_f S_a S_b Q_a_f Q_b_f).mono ?_
      rintro e w8 ⟨v, rfl, hO, hF, hb⟩
      obtain ⟨q_u, c_u, rfl, S_u, C_u, hQ⟩ := hO.tell (n := nt) HH.out.2.2.2.2.2.2.2.2.2.2.2.2.2.2.2.2.2.2.2.1.byt HNl.out.2.2.2.2.2.2.1
      clear hO
      have Q_u_f := hQ _ HF_f.lt
      clear hQ
      replace HB := HB.trans (hb.below HB.size (by rintro k rfl; exact HL_f))
      replace S_p := S_p.but hb Q_p_f
      replace S_q := S_q.but hb Q_q_f
      replace S_r := S_r.but hb Q_r_f
      replace S_a := S_a.but hb Q_a_f
      replace S_b := S_b.but hb Q_b_f
      replace S_t := S_t.but hb Q_t_f
      replace S_m := S_m.but hb Q_m_f
      clear HF_f hb
      have HF_f := hF
      clear hF
      go_wp2_with fail
      refine (qmod_calls k B_f T_f nt c_u l e dr q_u r lt zs le lrd E RD HH.out.1 HH.out.2.2.2.2.2.2.2.2.2.2.2.2.2.2.2.2.2.2.2.2.1 HH.out.2.2.2.2.2.2.2.2.2.2.2.2.2.2.2.2.1 HH.out.2.2.2.2.2.2.2.2.2.2.2.2.2.2.2.2.2.2.2.2.2.1 HH.out.2.2.2.2.2.2.2.2.2.2.2.2.2.2.2.2.2.2.2.2.2.2.1 (by have := HU.out; omega) (by have := HU.out; omega) C_u Cr _ HF_f S_u S_r Q_u_f Q_r_f).mono ?_
      rintro e w9 ⟨v, rfl, hO, hF, hb⟩
      obtain ⟨q_n, c_n, rfl, S_n, C_n, hQ⟩ := hO.tell (n := nd) HH.out.2.2.2.2.2.2.2.2.2.2.2.2.2.2.2.2.1.byt HNl.out.2.2.2.2.2.1
      clear hO
      have Q_n_f := hQ _ HF_f.lt
      clear hQ
      replace HB := HB.trans (hb.below HB.size (by rintro k rfl; exact HL_f))
      replace S_p := S_p.but hb Q_p_f
      replace S_q := S_q.but hb Q_q_f
      replace S_r := S_r.but hb Q_r_f
      replace S_a := S_a.but hb Q_a_f
      replace S_b := S_b.but hb Q_b_f
      replace S_t := S_t.but hb Q_t_f
      replace S_m := S_m.but hb Q_m_f
      replace S_u := S_u.but hb Q_u_f
      clear HF_f hb
      have HF_f := hF
      clear hF
      clear S_u
      go_wp2_with fail
      refine (pmul_calls k B_f T_f m d l e p r ys zs lu HH.out.2.2.2.2.2.2.2.2.2.2.2.2.2.2.2.2.2.2.2.2.2.2.2.1 (by have := HU.out; omega) (by have := HU.out; omega) Cq Cr _ HF_f S_q S_r Q_q_f Q_r_f).mono ?_
      rintro e w10 ⟨v, rfl, hO, hF, hb⟩
      obtain ⟨q_u, c_u, rfl, S_u, C_u, hQ⟩ := hO.tell (n := nu) HH.out.2.2.2.2.2.2.2.2.2.2.2.2.2.2.2.2.2.2.2.2.2.2.2.1.byt HNl.out.2.2.2.2.2.2.2.1
      clear hO
      have Q_u_f := hQ _ HF_f.lt
      clear hQ
      replace HB := HB.trans (hb.below HB.size (by rintro k rfl; exact HL_f))
      replace S_p := S_p.but hb Q_p_f
      replace S_q := S_q.but hb Q_q_f
      replace S_r := S_r.but hb Q_r_f
      replace S_a := S_a.but hb Q_a_f
      replace S_b := S_b.but hb Q_b_f
      replace S_t := S_t.but hb Q_t_f
      replace S_m := S_m.but hb Q_m_f
      replace S_n := S_n.but hb Q_n_f
      clear HF_f hb
      have HF_f := hF
      clear hF
      go_wp2_with fail
      refine (padd_calls q q_u n c nu c_u xs lu lv HH.out.2.2.2.2.2.2.2.2.2.2.2.2.2.2.2.2.2.2.2.2.2.2.2.2.1 (by have := HU.out; omega) (by have := HU.out; omega) _ S_p S_u).mono ?_
      rintro e w11 ⟨v, rfl, hO, hb⟩
      obtain ⟨q_v, c_v, rfl, S_v, C_v, hQ⟩ := hO.tell (n := nv) HH.out.2.2.2.2.2.2.2.2.2.2.2.2.2.2.2.2.2.2.2.2.2.2.2.2.1.byt HNl.out.2.2.2.2.2.2.2.2
      clear hO
      have Q_v_f := hQ _ HF_f.lt
      clear hQ
      replace HB := HB.trans (hb.mono HB.size)
      replace HF_f := HF_f.below hb
      replace S_p := S_p.below hb
      replace S_q := S_q.below hb
      replace S_r := S_r.below hb
      replace S_a := S_a.below hb
      replace S_b := S_b.below hb
      replace S_t := S_t.below hb
      replace S_m := S_m.below hb
      replace S_n := S_n.below hb
      replace S_u := S_u.below hb
      clear hb
      go_wp2_with fail
      refine (qmod_calls k B_f T_f nv c_v l e dr q_v r lv zs lf lra F RA HH.out.1 HH.out.2.2.2.2.2.2.2.2.2.2.2.2.2.2.2.2.2.2.2.2.2.2.2.2.2.1 HH.out.2.2.1 HH.out.2.2.2.1 HH.out.2.2.2.2.2.2.2.2.2.2.2.2.2.2.2.2.2.2.2.2.2.2.2.2.2.2.1 (by have := HU.out; omega) (by have := HU.out; omega) C_v Cr _ HF_f S_v S_r Q_v_f Q_r_f).mono ?_
      rintro e w12 ⟨v, rfl, hO, hF, hb⟩
      obtain ⟨q_o, c_o, rfl, S_o, C_o, hQ⟩ := hO.tell (n := na) HH.out.2.2.1.byt HNl.out.1
      clear hO
      have Q_o_f := hQ _ HF_f.lt
      clear hQ
      replace HB := HB.trans (hb.below HB.size (by rintro k rfl; exact HL_f))
      replace S_p := S_p.but hb Q_p_f
      replace S_q := S_q.but hb Q_q_f
      replace S_r := S_r.but hb Q_r_f
      replace S_a := S_a.but hb Q_a_f
      replace S_b := S_b.but hb Q_b_f
      replace S_t := S_t.but hb Q_t_f
      replace S_m := S_m.but hb Q_m_f
      replace S_n := S_n.but hb Q_n_f
      replace S_u := S_u.but hb Q_u_f
      replace S_v := S_v.but hb Q_v_f
      clear HF_f hb
      have HF_f := hF
      clear hF
      clear S_u S_v
      go_wp2_with fail
      refine (known06_calls _).mono ?_
      rintro e w13 ⟨rfl, hb⟩
      replace HB := HB.trans (hb.mono HB.size)
      replace HF_f := HF_f.below hb
      replace S_p := S_p.below hb
      replace S_q := S_q.below hb
      replace S_r := S_r.below hb
      replace S_a := S_a.below hb
      replace S_b := S_b.below hb
      replace S_t := S_t.below hb
      replace S_m := S_m.below hb
      replace S_n := S_n.below hb
      replace S_o := S_o.below hb
      clear hb
      go_wp2_with fail
      refine (padd_calls q_a q_b na c_a nb c_b lra lrb lrc HH.out.2.2.2.2.2.2.2.2.2.2.2.2.2.2.2.2.2.2.2.2.2.2.2.2.2.2.2 (by have := HU.out; omega) (by have := HU.out; omega) _ S_a S_b).mono ?_
      rintro e w14 ⟨v, rfl, hO, hb⟩
      obtain ⟨q_x, c_x, rfl, S_x, C_x, hQ⟩ := hO.tell (n := nc) HH.out.2.2.2.2.2.2.2.2.2.2.2.2.2.2.2.2.2.2.2.2.2.2.2.2.2.2.2.byt HNl.out.2.2.2.1
      clear hO
      have Q_x_f := hQ _ HF_f.lt
      clear hQ
      replace HB := HB.trans (hb.mono HB.size)
      replace HF_f := HF_f.below hb
      replace S_p := S_p.below hb
      replace S_q := S_q.below hb
      replace S_r := S_r.below hb
      replace S_a := S_a.below hb
      replace S_b := S_b.below hb
      replace S_t := S_t.below hb
      replace S_m := S_m.below hb
      replace S_n := S_n.below hb
      replace S_o := S_o.below hb
      clear hb
      go_wp2_with fail
      refine (psame_calls q_t q_x nc c_t nc c_x lrc lrc true (iff_of_true rfl rfl) C_t C_x _ S_t S_x).mono ?_
      rintro e w15 ⟨rfl, hb⟩
      replace HB := HB.trans (hb.mono HB.size)
      replace HF_f := HF_f.below hb
      replace S_p := S_p.below hb
      replace S_q := S_q.below hb
      replace S_r := S_r.below hb
      replace S_a := S_a.below hb
      replace S_b := S_b.below hb
      replace S_t := S_t.below hb
      replace S_m := S_m.below hb
      replace S_n := S_n.below hb
      replace S_o := S_o.below hb
      replace S_x := S_x.below hb
      clear hb
      go_wp2_with fail
      refine (psame_calls q_m q_n nd c_m nd c_n lrd lrd true (iff_of_true rfl rfl) C_m C_n _ S_m S_n).mono ?_
      rintro e w16 ⟨rfl, hb⟩
      replace HB := HB.trans (hb.mono HB.size)
      replace HF_f := HF_f.below hb
      replace S_p := S_p.below hb
      replace S_q := S_q.below hb
      replace S_r := S_r.below hb
      replace S_a := S_a.below hb
      replace S_b := S_b.below hb
      replace S_t := S_t.below hb
      replace S_m := S_m.below hb
      replace S_n := S_n.below hb
      replace S_o := S_o.below hb
      replace S_x := S_x.below hb
      clear hb
      go_wp2_with fail
      refine (psame_calls q_o q_a na c_o na c_a lra lra true (iff_of_true rfl rfl) C_o C_a _ S_o S_a).mono ?_
      rintro e w17 ⟨rfl, hb⟩
      replace HB := HB.trans (hb.mono HB.size)
      replace HF_f := HF_f.below hb
      replace S_p := S_p.below hb
      replace S_q := S_q.below hb
      replace S_r := S_r.below hb
      replace S_a := S_a.below hb
      replace S_b := S_b.below hb
      replace S_t := S_t.below hb
      replace S_m := S_m.below hb
      replace S_n := S_n.below hb
      replace S_o := S_o.below hb
      replace S_x := S_x.below hb
      clear hb
      go_wp2
      go_ret
      exact ⟨rfl, HB⟩
theorem own : ownKnob Try.prog.godebug = none := by kernel_rfl
theorem laidOut : laidOutB Try.prog = true := by kernel_rfl
set_option maxRecDepth 100000 in
theorem lifted (os : Os) (started : os.Started) (H : Type) (enc : TypeId × Value → H) :
    ReturnsInHanded {} Try.checked os 6 .any (Rows.quotModSpec.pre6 enc Try.prog Try.f6 Rows.quotModRow.domain false) (Rows.quotModSpec.post enc Try.prog Try.f6 false true false false) := by
  refine returnsInHanded_of_change_sized (C := Try.checked) own started (by kernel_rfl) Try.func6
    (ChangeSpec.witness6 (enc := enc) (C := Try.checked) false ⟨#[], #[.int .u8 0, .slice none 0 0, .slice none 0 0, .slice none 0 0], []⟩ 8 (by kernel_rfl) (by kernel_rfl) (by kernel_rfl) (by kernel_rfl)) ?_
  intro W base args ds gs before hval0 hW _ hz _
  have hval : ∀ (j : Nat) t v, Try.f6.params[j]? = some t → args[j]? = some v → Value.okWide Try.prog W .any base t v := hval0
  have hW' := hW
  obtain ⟨p, q, hA0, hV, rfl, _, _⟩ := hW
  have hA : DataW.TrodAll enc Try.prog W 0 (fun _ => true) true Try.f6.params.toList args.toList ds p := hA0
  rw [Try.params6] at hA hval
  obtain ⟨v0, vs0, d0, ds0, p0, q0, hargs, rfl, rfl, h0, r0⟩ := trodAll_cons hA
  obtain ⟨v1, vs1, d1, ds1, p1, q1, rfl, rfl, rfl, h1, r1⟩ := trodAll_cons r0
  obtain ⟨v2, vs2, d2, ds2, p2, q2, rfl, rfl, rfl, h2, r2⟩ := trodAll_cons r1
  obtain ⟨v3, vs3, d3, ds3, p3, q3, rfl, rfl, rfl, h3, r3⟩ := trodAll_cons r2
  obtain ⟨rfl, rfl, rfl⟩ := trodAll_nil r3
  obtain rfl : args = #[v0, v1, v2, v3] := by cases args; simp_all
  obtain ⟨rfl, rfl⟩ := trodVars_none hV
  obtain ⟨a0, rfl, rfl, rfl, w0⟩ := open_int Try.underlying5 (hval 0 5 v0 rfl rfl) h0
  obtain ⟨n0, b0, rfl⟩ := nat_of_u8 w0
  have k1 := h1
  obtain ⟨q1, n1, c1, xs1, rfl, w1, m1⟩ := open_bytes_sz Try.underlying22 Try.underlying5 (by kernel_rfl) (hval 1 22 v1 rfl rfl) h1
  have y1 : n1 ≤ c1 ∧ c1 ≤ 140737488351232 := ⟨m1.1, m1.2 _ fun el sp hd => by have := sized_slice (j := 1) (t := 22) (e := 5) (elems := el) (spare := sp) hz (by kernel_rfl) (by first | (rw [← hd]; done) | (rw [← hd]; rfl)) Try.underlying22; have hbe : Try.checked.prog.bytesOf 5 = 1 := (by kernel_rfl); have hre : reachBytes = 140737488351232 := rfl; rw [hbe, hre] at this; omega⟩
  have k2 := h2
  obtain ⟨q2, n2, c2, xs2, rfl, w2, m2⟩ := open_bytes_sz Try.underlying22 Try.underlying5 (by kernel_rfl) (hval 2 22 v2 rfl rfl) h2
  have y2 : n2 ≤ c2 ∧ c2 ≤ 140737488351232 := ⟨m2.1, m2.2 _ fun el sp hd => by have := sized_slice (j := 2) (t := 22) (e := 5) (elems := el) (spare := sp) hz (by kernel_rfl) (by first | (rw [← hd]; done) | (rw [← hd]; rfl)) Try.underlying22; have hbe : Try.checked.prog.bytesOf 5 = 1 := (by kernel_rfl); have hre : reachBytes = 140737488351232 := rfl; rw [hbe, hre] at this; omega⟩
  have k3 := h3
  obtain ⟨q3, n3, c3, xs3, rfl, w3, m3⟩ := open_bytes_sz Try.underlying22 Try.underlying5 (by kernel_rfl) (hval 3 22 v3 rfl rfl) h3
  have y3 : n3 ≤ c3 ∧ c3 ≤ 140737488351232 := ⟨m3.1, m3.2 _ fun el sp hd => by have := sized_slice (j := 3) (t := 22) (e := 5) (elems := el) (spare := sp) hz (by kernel_rfl) (by first | (rw [← hd]; done) | (rw [← hd]; rfl)) Try.underlying22; have hbe : Try.checked.prog.bytesOf 5 = 1 := (by kernel_rfl); have hre : reachBytes = 140737488351232 := rfl; rw [hbe, hre] at this; omega⟩
  clear hA0 hval0
  simp only [List.append_nil] at hW'
  refine (walk (w := W) n0 q1 n1 c1 xs1 q2 n2 c2 xs2 q3 n3 c3 xs3 b0 w1 y1 w2 y2 w3 y3).mono fun e W' ⟨he, bel⟩ => ?_
  subst he
  exact ⟨_, rfl, _, _, _, [], _, [], hW', trodAll_mk1 (shut_bool Try.underlying4 _), (trodAll_cons_mk (shut_int Try.underlying5 w0) (trodAll_cons_mk (shut_same laidOut (by kernel_rfl) (of_decide_eq_true (by kernel_rfl)) k1 bel) (trodAll_cons_mk (shut_same laidOut (by kernel_rfl) (of_decide_eq_true (by kernel_rfl)) k2 bel) (trodAll_cons_mk (shut_same laidOut (by kernel_rfl) (of_decide_eq_true (by kernel_rfl)) k3 bel) trodAll_mk0)))), rfl, bel.frame _, fun h => by cases h⟩
theorem over : Rows.quotModRow.holds Try.pinned (OpenSpec.ofChange Rows.quotModSpec) :=
  OpenClaim.holds_of_wide 6 Try.f6 rfl rfl rfl rfl rfl rfl rfl ⟨rfl, rfl, rfl, rfl, rfl⟩ rfl rfl rfl rfl rfl (by kernel_rfl) Try.func6 (by kernel_rfl)
    (of_decide_eq_true (by kernel_rfl)) (by unfold Func.isWrapper; first | (rw [if_pos (by decide +kernel)]; kernel_rfl) | (rw [if_neg (by decide +kernel)]; exact ⟨rfl, rfl⟩))
    (fun os started H enc _ => lifted os started H enc)
theorem proved : Rows.QuotModSaid := over
#print axioms proved
end Go.Proofs.Ytphhehppcfddgaa.quotMod
