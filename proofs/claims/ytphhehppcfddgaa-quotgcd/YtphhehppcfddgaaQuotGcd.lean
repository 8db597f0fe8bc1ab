/- QuotGcd holds for every input: the greatest that divides both divides both, and each that divides both divides it; it is monic. No conditions. -/
import Derived.Test.YtphhehppcfddgaaRows
import Derived.Test.YtphhehppcfddgaaMB
import Derived.Test.YtphhehppcfddgaaKnown06
import Derived.Test.YtphhehppcfddgaaMK
import Derived.Test.YtphhehppcfddgaaMJ
namespace Go.Proofs.Ytphhehppcfddgaa.quotGcd
open Go.ChangeShapes Go.WideShapes Go.ChangeAt Go.RowKit
open Pol (IsN Dg ofL Byt Mon)

/-- Multiples of r: the greatest that divides both is a multiple of r, too. -/
theorem gcd_mul {g p q r : Pol} (fp : Pol.Fin p) (fq : Pol.Fin q) (fr : Pol.Fin r) (h0 : r ≠ Pol.zero) (hn : p ≠ Pol.zero ∨ q ≠ Pol.zero) (h : Pol.IsGcd g p q) : Pol.IsGcd (Pol.mul r g) (Pol.mul p r) (Pol.mul q r) := by
  refine ⟨?_, ?_, fun c hc h1 h2 => ?_⟩
  · rw [Pol.mul_comm p r]; exact h.left.mul_mul r
  · rw [Pol.mul_comm q r]; exact h.right.mul_mul r
  · have hne : Pol.mul p r ≠ Pol.zero ∨ Pol.mul q r ≠ Pol.zero := hn.imp (fun hp e => (Pol.mul_zero_of fp fr e).elim hp h0) (fun hq e => (Pol.mul_zero_of fq fr e).elim hq h0)
    obtain ⟨b, hb⟩ := fq.mul fr
    obtain ⟨e, H, hM, hH⟩ := Pol.gcd_exists b (Pol.mul p r) (Pol.mul q r) hb (fp.mul fr) hne
    have hr : Pol.Dvd r H := hH.all r fr ⟨p, fp, rfl⟩ ⟨q, fq, rfl⟩
    obtain ⟨t, ft, et⟩ := hr
    have e1 : H = Pol.mul r t := by rw [et, Pol.mul_comm]
    have d1 : Pol.Dvd t p := Pol.Dvd.of_mul_mul (r := r) ft fp fr h0 (by rw [← e1, Pol.mul_comm r p]; exact hH.left)
    have d2 : Pol.Dvd t q := Pol.Dvd.of_mul_mul (r := r) ft fq fr h0 (by rw [← e1, Pol.mul_comm r q]; exact hH.right)
    exact (hH.all c hc h1 h2).trans (e1 ▸ (h.all t ft d1 d2).mul_mul r)
/-- The facts of a walk in which something is left to divide. -/
structure Facts (n m l : Nat) (xs ys zs la lb lg l0 lrm l1 l2 l3 : List Nat) (na nb ng n0 nrm n1 n2 n3 nt dr e0 : Nat) (A1 A2 A3 G g0 : Pol) : Prop where
  hla : IsN la (Pol.mul (ofL xs) (ofL zs))
  hlb : IsN lb (Pol.mul (ofL ys) (ofL zs))
  hlg : IsN lg G
  hl0 : IsN l0 g0
  hlrm : IsN lrm (Pol.smul (GF.inv (ofL zs dr)) (ofL zs))
  gr : Dg (dr + 1) (ofL zs)
  hGp : Pol.IsGcd G (ofL la) (ofL lb)
  hM : Mon (e0 + dr) G
  hM0 : Mon e0 g0
  hg0 : Pol.IsGcd g0 (ofL xs) (ofL ys)
  ne0 : ofL xs ≠ Pol.zero ∨ ofL ys ≠ Pol.zero
  neG : ofL la ≠ Pol.zero ∨ ofL lb ≠ Pol.zero
  hgm : IsN lg (Pol.mul (ofL l0) (ofL lrm))
  dG : Dg (nt + 1) (ofL lg)
  h1 : IsN l1 A1
  h2 : IsN l2 A2
  h3 : IsN l3 A3
  e1 : ofL la = Pol.mul A1 (ofL lg)
  e2 : ofL lb = Pol.mul A2 (ofL lg)
  e3 : ofL lg = Pol.mul A3 (ofL zs)
  top : lg.getD nt 0 = 1
  nae : la.length = na
  nbe : lb.length = nb
  nge : lg.length = ng
  n0e : l0.length = n0
  nrme : lrm.length = nrm
  n1e : l1.length = n1
  n2e : l2.length = n2
  n3e : l3.length = n3
  ngt : ng = nt + 1
  bn : n ≤ 1000
  bm : m ≤ 1000
  bl : l ≤ 1000
  bna : na ≤ 1000
  bnb : nb ≤ 1000
  bng : ng ≤ 1000
  bn0 : n0 ≤ 1000
  bnrm : nrm ≤ 1000
theorem facts {n m l : Nat} {xs ys zs la lb : List Nat} {na nb dr : Nat} (hla : IsN la (Pol.mul (ofL xs) (ofL zs))) (hlb : IsN lb (Pol.mul (ofL ys) (ofL zs))) (gr : Dg (dr + 1) (ofL zs)) (ne0 : ofL xs ≠ Pol.zero ∨ ofL ys ≠ Pol.zero) (lx : xs.length = n) (ly : ys.length = m) (lz : zs.length = l) (bn : n ≤ 90) (bm : m ≤ 90) (bl : l ≤ 90) (nae : la.length = na) (nbe : lb.length = nb) (bna : na ≤ 1000) (bnb : nb ≤ 1000) :
    ∃ lg l0 lrm l1 l2 l3 ng n0 nrm n1 n2 n3 nt e0 A1 A2 A3 G g0, Facts n m l xs ys zs la lb lg l0 lrm l1 l2 l3 na nb ng n0 nrm n1 n2 n3 nt dr e0 A1 A2 A3 G g0 := by
  obtain ⟨e0, g0, hM0, hg0⟩ := Pol.gcd_exists _ (ofL xs) (ofL ys) (Pol.ofL_bd ys) (Pol.Fin.ofL xs) ne0
  have hi : GF.inv (ofL zs dr) ≠ 0 := GF.inv_ne_zero (gr.top (by omega))
  have hz0 : ofL zs ≠ Pol.zero := gr.ne_zero
  obtain ⟨G, hG⟩ : ∃ G, Pol.mul g0 (Pol.smul (GF.inv (ofL zs dr)) (ofL zs)) = G := ⟨_, rfl⟩
  have hM : Mon (e0 + dr) G := hG ▸ hM0.mul gr.monic
  have hG' : G = Pol.smul (GF.inv (ofL zs dr)) (Pol.mul (ofL zs) g0) := by rw [← hG, Pol.mul_smul, Pol.mul_comm]
  have hGp : Pol.IsGcd G (ofL la) (ofL lb) := by
    rw [hla.eq, hlb.eq, hG']
    exact (gcd_mul (Pol.Fin.ofL xs) (Pol.Fin.ofL ys) (Pol.Fin.ofL zs) hz0 ne0 hg0).smul hi
  have neG : ofL la ≠ Pol.zero ∨ ofL lb ≠ Pol.zero := by
    rw [hla.eq, hlb.eq]
    exact ne0.imp (fun h e => (Pol.mul_zero_of (Pol.Fin.ofL _) (Pol.Fin.ofL _) e).elim h hz0) (fun h e => (Pol.mul_zero_of (Pol.Fin.ofL _) (Pol.Fin.ofL _) e).elim h hz0)
  have hlg := Pol.isN_of_dg hM.dg
  have hl0 := Pol.isN_of_dg hM0.dg
  have hlrm := Pol.isN_of_dg gr.monic.dg
  obtain ⟨A1, f1, e1⟩ := hGp.left
  obtain ⟨A2, f2, e2⟩ := hGp.right
  obtain ⟨d1, hd1⟩ := f1.dg
  obtain ⟨d2, hd2⟩ := f2.dg
  have f3 : Pol.Fin (Pol.smul (GF.inv (ofL zs dr)) g0) := hM0.dg.fin.smul _
  obtain ⟨d3, hd3⟩ := f3.dg
  have be0 : e0 ≤ 200 := by
    rcases ne0 with h | h
    · obtain ⟨d, hd⟩ := (Pol.Fin.ofL xs).dg
      cases d with
      | zero => exact absurd hd.eq_zero h
      | succ d => have h1 := Pol.Dvd.deg hM0.dg hd hg0.left; have h2 := hd.le (Pol.ofL_bd xs); omega
    · obtain ⟨d, hd⟩ := (Pol.Fin.ofL ys).dg
      cases d with
      | zero => exact absurd hd.eq_zero h
      | succ d => have h1 := Pol.Dvd.deg hM0.dg hd hg0.right; have h2 := hd.le (Pol.ofL_bd ys); omega
  have bdr : dr + 1 ≤ 90 := by have := gr.le (Pol.ofL_bd zs); omega
  refine ⟨_, _, _, _, _, _, _, _, _, _, _, _, e0 + dr, e0, A1, A2, _, G, g0, hla, hlb, hlg, hl0, hlrm, gr, hGp, hM, hM0, hg0, ne0, neG, ?_, ?_, Pol.isN_of_dg hd1, Pol.isN_of_dg hd2, Pol.isN_of_dg hd3, ?_, ?_, ?_, ?_, nae, nbe, rfl, rfl, rfl, rfl, rfl, rfl, ?_, by omega, by omega, by omega, bna, bnb, ?_, ?_, ?_⟩
  · rw [hl0.eq, hlrm.eq, hG]; exact hlg
  · rw [hlg.eq]; exact hM.dg
  · rw [hlg.eq]; exact e1
  · rw [hlg.eq]; exact e2
  · rw [hlg.eq, hG', Pol.smul_mul, Pol.mul_comm]
  · rw [Pol.toL_at, if_pos (by omega), hM.2]; rfl
  · rw [Pol.toL_length]
  · rw [Pol.toL_length]; omega
  · rw [Pol.toL_length]; omega
  · rw [Pol.toL_length]; omega

set_option maxRecDepth 100000 in
set_option maxHeartbeats 8000000 in
theorem walk (j : Nat) (q : Option Addr) (n c : Nat) (xs : List Nat) (p : Option Addr) (m d : Nat) (ys : List Nat) (r : Option Addr) (l e : Nat) (zs : List Nat) (w : World) (hj : j < 256) (S_p : Bs w q n xs) (y_p : n ≤ c ∧ c ≤ 140737488351232) (S_q : Bs w p m ys) (y_q : m ≤ d ∧ d ≤ 140737488351232) (S_r : Bs w r l zs) (y_r : l ≤ e ∧ e ≤ 140737488351232) :
    Calls Try.prog 5 #[.int .u8 j, .slice q n c, .slice p m d, .slice r l e] w fun e w' => e = .returned (.bool true) ∧ Below w.heap.size w w' := by
  obtain ⟨k, hk⟩ : ∃ k : Nat, 1 + j % 3 = k := ⟨_, rfl⟩
  have hk1 : 1 ≤ k := by omega
  have hk3 : k ≤ 3 := by omega
  have hki : (1 : Int) + (j : Int) % 3 = (k : Int) := by omega
  clear hk
  have HB : Below w.heap.size w w := Below.refl _ _
  have Cp := y_p.1
  have Cq := y_q.1
  have Cr := y_r.1
  have HW : Hid (wrap64 ((n : Int) + (m : Int)) = (n : Int) + (m : Int)) := by show _ = _; unfold wrap64; omega
  have HW2 : Hid (wrap64 ((n : Int) + (m : Int) + (l : Int)) = (n : Int) + (m : Int) + (l : Int)) := by show _ = _; unfold wrap64; omega
  clear y_p y_q y_r
  go_enter Try.func5, Try.ntmps5
  by_cases hbig : 90 < n + m + l
  · have hb1 : (90 : Int) < (n : Int) + (m : Int) + (l : Int) := by omega
    have hs1 := HW.out
    have hs2 := HW2.out
    go_wp2_with fail
    refine (known06_calls _).mono ?_
    rintro e w1 ⟨rfl, hb⟩
    replace HB := HB.trans (hb.mono HB.size)
    replace S_p := S_p.below hb
    replace S_q := S_q.below hb
    replace S_r := S_r.below hb
    clear hb
    go_wp2
    go_ret
    exact ⟨rfl, HB⟩
  · have hb1 : ((90 : Int) < (n : Int) + (m : Int) + (l : Int)) = False := eq_false (by omega)
    have HU0 : Hid (n ≤ 90 ∧ m ≤ 90 ∧ l ≤ 90 ∧ n ≤ 1000000 ∧ m ≤ 1000000 ∧ l ≤ 1000000) := by show _ ∧ _; omega
    clear hbig
    obtain ⟨la, hla, ba⟩ := Pol.isN_mul xs zs
    obtain ⟨lb, hlb, bb⟩ := Pol.isN_mul ys zs
    obtain ⟨na, nae⟩ : ∃ na, la.length = na := ⟨_, rfl⟩
    obtain ⟨nb, nbe⟩ : ∃ nb, lb.length = nb := ⟨_, rfl⟩
    have HM : Hid (IsN la (Pol.mul (ofL xs) (ofL zs)) ∧ IsN lb (Pol.mul (ofL ys) (ofL zs)) ∧ la.length = na ∧ lb.length = nb ∧ na ≤ 1000 ∧ nb ≤ 1000 ∧ na ≤ 1000000000 ∧ nb ≤ 1000000000) := by
      have := S_p.len; have := S_q.len; have := S_r.len; have := HU0.out
      exact ⟨hla, hlb, nae, nbe, by omega, by omega, by omega, by omega⟩
    have HL : Hid (xs.length = n ∧ ys.length = m ∧ zs.length = l) := ⟨S_p.len, S_q.len, S_r.len⟩
    clear hla ba hlb bb nae nbe
    have hs1 := HW.out
    have hs2 := HW2.out
    go_wp2_with fail
    refine (fof_calls k hk1 hk3 _).mono ?_
    rintro e w1 ⟨B_f, T_f, rfl, HF_f, hb, hlB, hlT⟩
    have HL_f : w.heap.size ≤ T_f := Nat.le_trans HB.size hlT
    have Q_p_f := S_p.off hlT
    have Q_q_f := S_q.off hlT
    have Q_r_f := S_r.off hlT
    replace HB := HB.trans (hb.mono HB.size)
    replace S_p := S_p.below hb
    replace S_q := S_q.below hb
    replace S_r := S_r.below hb
    clear hb hlB hlT
    clear hs1 hs2 HW HW2 hb1 hki
    go_wp2_with fail
    refine (pmul_calls k B_f T_f n c l e q r xs zs la HM.out.1 (by have := HU0.out; omega) (by have := HU0.out; omega) Cp Cr _ HF_f S_p S_r Q_p_f Q_r_f).mono ?_
    rintro e w2 ⟨v, rfl, hO, hF, hb⟩
    obtain ⟨q_a, c_a, rfl, S_a, C_a, hQ⟩ := hO.tell (n := na) HM.out.1.byt HM.out.2.2.1
    clear hO
    have Q_a_f := hQ _ HF_f.lt
    clear hQ
    replace HB := HB.trans (hb.below HB.size (by rintro k rfl; exact HL_f))
    replace S_p := S_p.but hb Q_p_f
    replace S_q := S_q.but hb Q_q_f
    replace S_r := S_r.but hb Q_r_f
    clear HF_f hb
    have HF_f := hF
    clear hF
    go_wp2_with fail
    refine (pmul_calls k B_f T_f m d l e p r ys zs lb HM.out.2.1 (by have := HU0.out; omega) (by have := HU0.out; omega) Cq Cr _ HF_f S_q S_r Q_q_f Q_r_f).mono ?_
    rintro e w3 ⟨v, rfl, hO, hF, hb⟩
    obtain ⟨q_b, c_b, rfl, S_b, C_b, hQ⟩ := hO.tell (n := nb) HM.out.2.1.byt HM.out.2.2.2.1
    clear hO
    have Q_b_f := hQ _ HF_f.lt
    clear hQ
    replace HB := HB.trans (hb.below HB.size (by rintro k rfl; exact HL_f))
    replace S_p := S_p.but hb Q_p_f
    replace S_q := S_q.but hb Q_q_f
    replace S_r := S_r.but hb Q_r_f
    replace S_a := S_a.but hb Q_a_f
    clear HF_f hb
    have HF_f := hF
    clear hF
    by_cases h0 : ofL la = Pol.zero ∧ ofL lb = Pol.zero
    · have H0 : Hid (Dg 0 (ofL la) ∧ Dg 0 (ofL lb)) := ⟨h0.1 ▸ Pol.dg_zero, h0.2 ▸ Pol.dg_zero⟩
      clear h0
      go_wp2_with fail
      refine (qgcd_zero k B_f T_f na c_a nb c_b q_a q_b la lb H0.out.1 H0.out.2 _ HF_f S_a S_b Q_a_f).mono ?_
      rintro e w4 ⟨rfl, hF, hb⟩
      replace HB := HB.trans (hb.below HB.size (by rintro k rfl; exact HL_f))
      replace S_p := S_p.but hb Q_p_f
      replace S_q := S_q.but hb Q_q_f
      replace S_r := S_r.but hb Q_r_f
      replace S_a := S_a.but hb Q_a_f
      replace S_b := S_b.but hb Q_b_f
      clear HF_f hb
      have HF_f := hF
      clear hF
      go_wp2_with fail
      refine (pdeg_calls q_a na c_a la 0 H0.out.1 _ S_a).mono ?_
      rintro e w5 ⟨rfl, hb⟩
      replace HB := HB.trans (hb.mono HB.size)
      replace HF_f := HF_f.below hb
      replace S_p := S_p.below hb
      replace S_q := S_q.below hb
      replace S_r := S_r.below hb
      replace S_a := S_a.below hb
      replace S_b := S_b.below hb
      clear hb
      go_wp2_with fail
      refine (pdeg_calls q_b nb c_b lb 0 H0.out.2 _ S_b).mono ?_
      rintro e w6 ⟨rfl, hb⟩
      replace HB := HB.trans (hb.mono HB.size)
      replace HF_f := HF_f.below hb
      replace S_p := S_p.below hb
      replace S_q := S_q.below hb
      replace S_r := S_r.below hb
      replace S_a := S_a.below hb
      replace S_b := S_b.below hb
      clear hb
      go_wp2_with fail
      refine (known06_calls _).mono ?_
      rintro e w7 ⟨rfl, hb⟩
      replace HB := HB.trans (hb.mono HB.size)
      replace HF_f := HF_f.below hb
      replace S_p := S_p.below hb
      replace S_q := S_q.below hb
      replace S_r := S_r.below hb
      replace S_a := S_a.below hb
      replace S_b := S_b.below hb
      clear hb
      go_wp2
      go_ret
      exact ⟨rfl, HB⟩
    · have hzs : ofL zs ≠ Pol.zero := fun e => h0 ⟨by rw [HM.out.1.eq, e, Pol.mul_zero], by rw [HM.out.2.1.eq, e, Pol.mul_zero]⟩
      have hxy : ofL xs ≠ Pol.zero ∨ ofL ys ≠ Pol.zero := by
        by_cases hx : ofL xs = Pol.zero
        · exact .inr fun hy => h0 ⟨by rw [HM.out.1.eq, hx, Pol.zero_mul], by rw [HM.out.2.1.eq, hy, Pol.zero_mul]⟩
        · exact .inl hx
      obtain ⟨dr, hdr⟩ := (Pol.Fin.ofL zs).dg
      obtain ⟨dr, rfl⟩ : ∃ d', dr = d' + 1 := by
        cases dr with
        | zero => exact absurd hdr.eq_zero hzs
        | succ d' => exact ⟨d', rfl⟩
      obtain ⟨lg, l0, lrm, l1, l2, l3, ng, n0, nrm, n1, n2, n3, nt, e0, A1, A2, A3, G, g0, hf⟩ := facts HM.out.1 HM.out.2.1 hdr hxy HL.out.1 HL.out.2.1 HL.out.2.2 HU0.out.1 HU0.out.2.1 HU0.out.2.2.1 HM.out.2.2.1 HM.out.2.2.2.1 HM.out.2.2.2.2.1 HM.out.2.2.2.2.2.1
      have F : Hid (Facts n m l xs ys zs la lb lg l0 lrm l1 l2 l3 na nb ng n0 nrm n1 n2 n3 nt dr e0 A1 A2 A3 G g0) := hf
      have ht1 : (ng : Int) - 1 = (nt : Int) := by have := hf.ngt; omega
      have ht2 : (0 : Int) < (ng : Int) := by have := hf.ngt; omega
      have ht3 : (nt : Int) < (ng : Int) := by have := hf.ngt; omega
      have ht4 : (ng : Int) ≤ 1000 := by have := hf.bng; omega
      obtain ⟨da, gda⟩ := (Pol.Fin.ofL la).dg
      obtain ⟨db, gdb⟩ := (Pol.Fin.ofL lb).dg
      have Hd : Hid (da = 0 ∧ 0 < db ∨ 0 < da) := by
        show _ ∨ _
        rcases Nat.eq_zero_or_pos da with ea | ea
        · refine .inl ⟨ea, ?_⟩
          rcases Nat.eq_zero_or_pos db with eb | eb
          · subst ea eb; exact absurd ⟨gda.eq_zero, gdb.eq_zero⟩ h0
          · exact eb
        · exact .inr ea
      have HD : Hid (Dg da (ofL la) ∧ Dg db (ofL lb)) := ⟨gda, gdb⟩
      clear h0 hzs hxy hdr hf gda gdb HM HL HU0
      go_wp2_with fail
      refine (qgcd_calls k B_f T_f na c_a nb c_b q_a q_b la lb lg G (e0 + dr) F.out.hlg F.out.hM F.out.hGp F.out.neG (by have := F.out.bna; omega) (by have := F.out.bnb; omega) C_a C_b _ HF_f S_a S_b Q_a_f Q_b_f).mono ?_
      rintro e w4 ⟨v, rfl, hO, hF, hb⟩
      obtain ⟨q_g, c_g, rfl, S_g, C_g, hQ⟩ := hO.tell (n := ng) F.out.hlg.byt F.out.nge
      clear hO
      have Q_g_f := hQ _ HF_f.lt
      clear hQ
      replace HB := HB.trans (hb.below HB.size (by rintro k rfl; exact HL_f))
      replace S_p := S_p.but hb Q_p_f
      replace S_q := S_q.but hb Q_q_f
      replace S_r := S_r.but hb Q_r_f
      replace S_a := S_a.but hb Q_a_f
      replace S_b := S_b.but hb Q_b_f
      clear HF_f hb
      have HF_f := hF
      clear hF
      go_wp2_with fail
      refine (pdeg_calls q_a na c_a la da HD.out.1 _ S_a).mono ?_
      rintro e w5 ⟨rfl, hb⟩
      replace HB := HB.trans (hb.mono HB.size)
      replace HF_f := HF_f.below hb
      replace S_p := S_p.below hb
      replace S_q := S_q.below hb
      replace S_r := S_r.below hb
      replace S_a := S_a.below hb
      replace S_b := S_b.below hb
      replace S_g := S_g.below hb
      clear hb
      rcases Hd.out with ⟨h1, h2⟩ | h1
      · subst h1; have hq : ((db : Int) - 1 < 0) = False := eq_false (by omega)
        go_wp2_with fail
        refine (pdeg_calls q_b nb c_b lb db HD.out.2 _ S_b).mono ?_
        rintro e w6 ⟨rfl, hb⟩
        replace HB := HB.trans (hb.mono HB.size)
        replace HF_f := HF_f.below hb
        replace S_p := S_p.below hb
        replace S_q := S_q.below hb
        replace S_r := S_r.below hb
        replace S_a := S_a.below hb
        replace S_b := S_b.below hb
        replace S_g := S_g.below hb
        clear hb
        clear Hd
        go_wp2_with fail
        refine (qexact_calls k B_f T_f na c_a ng c_g nt q_a q_g la lg l1 A1 F.out.dG F.out.h1 F.out.e1 (by have := F.out.bna; omega) (by have := F.out.bng; omega) C_a C_g _ HF_f S_a S_g Q_a_f Q_g_f).mono ?_
        rintro e w7 ⟨v, rfl, hO, hF, hb⟩
        obtain ⟨q_x, c_x, rfl, S_x, C_x, hQ⟩ := hO.tell (n := n1) F.out.h1.byt F.out.n1e
        clear hO
        have Q_x_f := hQ _ HF_f.lt
        clear hQ
        replace HB := HB.trans (hb.below HB.size (by rintro k rfl; exact HL_f))
        replace S_p := S_p.but hb Q_p_f
        replace S_q := S_q.but hb Q_q_f
        replace S_r := S_r.but hb Q_r_f
        replace S_a := S_a.but hb Q_a_f
        replace S_b := S_b.but hb Q_b_f
        replace S_g := S_g.but hb Q_g_f
        clear HF_f hb
        have HF_f := hF
        clear hF
        clear S_x
        go_wp2_with fail
        refine (qexact_calls k B_f T_f nb c_b ng c_g nt q_b q_g lb lg l2 A2 F.out.dG F.out.h2 F.out.e2 (by have := F.out.bnb; omega) (by have := F.out.bng; omega) C_b C_g _ HF_f S_b S_g Q_b_f Q_g_f).mono ?_
        rintro e w8 ⟨v, rfl, hO, hF, hb⟩
        obtain ⟨q_x, c_x, rfl, S_x, C_x, hQ⟩ := hO.tell (n := n2) F.out.h2.byt F.out.n2e
        clear hO
        have Q_x_f := hQ _ HF_f.lt
        clear hQ
        replace HB := HB.trans (hb.below HB.size (by rintro k rfl; exact HL_f))
        replace S_p := S_p.but hb Q_p_f
        replace S_q := S_q.but hb Q_q_f
        replace S_r := S_r.but hb Q_r_f
        replace S_a := S_a.but hb Q_a_f
        replace S_b := S_b.but hb Q_b_f
        replace S_g := S_g.but hb Q_g_f
        clear HF_f hb
        have HF_f := hF
        clear hF
        clear S_x
        go_wp2_with fail
        refine (qexact_calls k B_f T_f ng c_g l e dr q_g r lg zs l3 A3 F.out.gr F.out.h3 F.out.e3 (by have := F.out.bng; omega) (by have := F.out.bl; omega) C_g Cr _ HF_f S_g S_r Q_g_f Q_r_f).mono ?_
        rintro e w9 ⟨v, rfl, hO, hF, hb⟩
        obtain ⟨q_x, c_x, rfl, S_x, C_x, hQ⟩ := hO.tell (n := n3) F.out.h3.byt F.out.n3e
        clear hO
        have Q_x_f := hQ _ HF_f.lt
        clear hQ
        replace HB := HB.trans (hb.below HB.size (by rintro k rfl; exact HL_f))
        replace S_p := S_p.but hb Q_p_f
        replace S_q := S_q.but hb Q_q_f
        replace S_r := S_r.but hb Q_r_f
        replace S_a := S_a.but hb Q_a_f
        replace S_b := S_b.but hb Q_b_f
        replace S_g := S_g.but hb Q_g_f
        clear HF_f hb
        have HF_f := hF
        clear hF
        clear S_x
        go_wp2_with fail
        refine (known06_calls _).mono ?_
        rintro e w10 ⟨rfl, hb⟩
        replace HB := HB.trans (hb.mono HB.size)
        replace HF_f := HF_f.below hb
        replace S_p := S_p.below hb
        replace S_q := S_q.below hb
        replace S_r := S_r.below hb
        replace S_a := S_a.below hb
        replace S_b := S_b.below hb
        replace S_g := S_g.below hb
        clear hb
        have hcg := S_g.cell nt (by omega)
        rw [F.out.top] at hcg
        obtain ⟨ag, rfl, -, hcg⟩ := hcg
        go_wp2_with fail
        refine (qgcd_calls k B_f T_f nb c_b na c_a q_b q_a lb la lg G (e0 + dr) F.out.hlg F.out.hM F.out.hGp.symm F.out.neG.symm (by have := F.out.bnb; omega) (by have := F.out.bna; omega) C_b C_a _ HF_f S_b S_a Q_b_f Q_a_f).mono ?_
        rintro e w11 ⟨v, rfl, hO, hF, hb⟩
        obtain ⟨q_x, c_x, rfl, S_x, C_x, hQ⟩ := hO.tell (n := ng) F.out.hlg.byt F.out.nge
        clear hO
        have Q_x_f := hQ _ HF_f.lt
        clear hQ
        replace HB := HB.trans (hb.below HB.size (by rintro k rfl; exact HL_f))
        replace S_p := S_p.but hb Q_p_f
        replace S_q := S_q.but hb Q_q_f
        replace S_r := S_r.but hb Q_r_f
        replace S_a := S_a.but hb Q_a_f
        replace S_b := S_b.but hb Q_b_f
        replace S_g := S_g.but hb Q_g_f
        clear HF_f hb
        have HF_f := hF
        clear hF
        clear hcg
        go_wp2_with fail
        refine (psame_calls _ q_x ng c_g ng c_x lg lg true (iff_of_true rfl rfl) C_g C_x _ S_g S_x).mono ?_
        rintro e w12 ⟨rfl, hb⟩
        replace HB := HB.trans (hb.mono HB.size)
        replace HF_f := HF_f.below hb
        replace S_p := S_p.below hb
        replace S_q := S_q.below hb
        replace S_r := S_r.below hb
        replace S_a := S_a.below hb
        replace S_b := S_b.below hb
        replace S_g := S_g.below hb
        replace S_x := S_x.below hb
        clear hb
        clear S_x
        go_wp2_with fail
        refine (qgcd_calls k B_f T_f n c m d q p xs ys l0 g0 e0 F.out.hl0 F.out.hM0 F.out.hg0 F.out.ne0 (by have := F.out.bn; omega) (by have := F.out.bm; omega) Cp Cq _ HF_f S_p S_q Q_p_f Q_q_f).mono ?_
        rintro e w13 ⟨v, rfl, hO, hF, hb⟩
        obtain ⟨q_x, c_x, rfl, S_x, C_x, hQ⟩ := hO.tell (n := n0) F.out.hl0.byt F.out.n0e
        clear hO
        have Q_x_f := hQ _ HF_f.lt
        clear hQ
        replace HB := HB.trans (hb.below HB.size (by rintro k rfl; exact HL_f))
        replace S_p := S_p.but hb Q_p_f
        replace S_q := S_q.but hb Q_q_f
        replace S_r := S_r.but hb Q_r_f
        replace S_a := S_a.but hb Q_a_f
        replace S_b := S_b.but hb Q_b_f
        replace S_g := S_g.but hb Q_g_f
        clear HF_f hb
        have HF_f := hF
        clear hF
        go_wp2_with fail
        refine (qmonic_calls k B_f T_f l e dr r zs lrm F.out.gr F.out.hlrm (by have := F.out.bl; omega) Cr _ HF_f S_r Q_r_f).mono ?_
        rintro e w14 ⟨v, rfl, hO, hF, hb⟩
        obtain ⟨q_y, c_y, rfl, S_y, C_y, hQ⟩ := hO.tell (n := nrm) F.out.hlrm.byt F.out.nrme
        clear hO
        have Q_y_f := hQ _ HF_f.lt
        clear hQ
        replace HB := HB.trans (hb.below HB.size (by rintro k rfl; exact HL_f))
        replace S_p := S_p.but hb Q_p_f
        replace S_q := S_q.but hb Q_q_f
        replace S_r := S_r.but hb Q_r_f
        replace S_a := S_a.but hb Q_a_f
        replace S_b := S_b.but hb Q_b_f
        replace S_g := S_g.but hb Q_g_f
        replace S_x := S_x.but hb Q_x_f
        clear HF_f hb
        have HF_f := hF
        clear hF
        go_wp2_with fail
        refine (pmul_calls k B_f T_f n0 c_x nrm c_y q_x q_y l0 lrm lg F.out.hgm (by have := F.out.bn0; omega) (by have := F.out.bnrm; omega) C_x C_y _ HF_f S_x S_y Q_x_f Q_y_f).mono ?_
        rintro e w15 ⟨v, rfl, hO, hF, hb⟩
        obtain ⟨q_z, c_z, rfl, S_z, C_z, hQ⟩ := hO.tell (n := ng) F.out.hlg.byt F.out.nge
        clear hO
        have Q_z_f := hQ _ HF_f.lt
        clear hQ
        replace HB := HB.trans (hb.below HB.size (by rintro k rfl; exact HL_f))
        replace S_p := S_p.but hb Q_p_f
        replace S_q := S_q.but hb Q_q_f
        replace S_r := S_r.but hb Q_r_f
        replace S_a := S_a.but hb Q_a_f
        replace S_b := S_b.but hb Q_b_f
        replace S_g := S_g.but hb Q_g_f
        replace S_x := S_x.but hb Q_x_f
        replace S_y := S_y.but hb Q_y_f
        clear HF_f hb
        have HF_f := hF
        clear hF
        go_wp2_with fail
        refine (psame_calls _ q_z ng c_g ng c_z lg lg true (iff_of_true rfl rfl) C_g C_z _ S_g S_z).mono ?_
        rintro e w16 ⟨rfl, hb⟩
        replace HB := HB.trans (hb.mono HB.size)
        replace HF_f := HF_f.below hb
        replace S_p := S_p.below hb
        replace S_q := S_q.below hb
        replace S_r := S_r.below hb
        replace S_a := S_a.below hb
        replace S_b := S_b.below hb
        replace S_g := S_g.below hb
        replace S_x := S_x.below hb
        replace S_y := S_y.below hb
        replace S_z := S_z.below hb
        clear hb
        go_wp2
        go_ret
        exact ⟨rfl, HB⟩
      · have hp : ((da : Int) - 1 < 0) = False := eq_false (by omega)
        clear Hd
        go_wp2_with fail
        refine (qexact_calls k B_f T_f na c_a ng c_g nt q_a q_g la lg l1 A1 F.out.dG F.out.h1 F.out.e1 (by have := F.out.bna; omega) (by have := F.out.bng; omega) C_a C_g _ HF_f S_a S_g Q_a_f Q_g_f).mono ?_
        rintro e w6 ⟨v, rfl, hO, hF, hb⟩
        obtain ⟨q_x, c_x, rfl, S_x, C_x, hQ⟩ := hO.tell (n := n1) F.out.h1.byt F.out.n1e
        clear hO
        have Q_x_f := hQ _ HF_f.lt
        clear hQ
        replace HB := HB.trans (hb.below HB.size (by rintro k rfl; exact HL_f))
        replace S_p := S_p.but hb Q_p_f
        replace S_q := S_q.but hb Q_q_f
        replace S_r := S_r.but hb Q_r_f
        replace S_a := S_a.but hb Q_a_f
        replace S_b := S_b.but hb Q_b_f
        replace S_g := S_g.but hb Q_g_f
        clear HF_f hb
        have HF_f := hF
        clear hF
        clear S_x
        go_wp2_with fail
        refine (qexact_calls k B_f T_f nb c_b ng c_g nt q_b q_g lb lg l2 A2 F.out.dG F.out.h2 F.out.e2 (by have := F.out.bnb; omega) (by have := F.out.bng; omega) C_b C_g _ HF_f S_b S_g Q_b_f Q_g_f).mono ?_
        rintro e w7 ⟨v, rfl, hO, hF, hb⟩
        obtain ⟨q_x, c_x, rfl, S_x, C_x, hQ⟩ := hO.tell (n := n2) F.out.h2.byt F.out.n2e
        clear hO
        have Q_x_f := hQ _ HF_f.lt
        clear hQ
        replace HB := HB.trans (hb.below HB.size (by rintro k rfl; exact HL_f))
        replace S_p := S_p.but hb Q_p_f
        replace S_q := S_q.but hb Q_q_f
        replace S_r := S_r.but hb Q_r_f
        replace S_a := S_a.but hb Q_a_f
        replace S_b := S_b.but hb Q_b_f
        replace S_g := S_g.but hb Q_g_f
        clear HF_f hb
        have HF_f := hF
        clear hF
        clear S_x
        go_wp2_with fail
        refine (qexact_calls k B_f T_f ng c_g l e dr q_g r lg zs l3 A3 F.out.gr F.out.h3 F.out.e3 (by have := F.out.bng; omega) (by have := F.out.bl; omega) C_g Cr _ HF_f S_g S_r Q_g_f Q_r_f).mono ?_
        rintro e w8 ⟨v, rfl, hO, hF, hb⟩
        obtain ⟨q_x, c_x, rfl, S_x, C_x, hQ⟩ := hO.tell (n := n3) F.out.h3.byt F.out.n3e
        clear hO
        have Q_x_f := hQ _ HF_f.lt
        clear hQ
        replace HB := HB.trans (hb.below HB.size (by rintro k rfl; exact HL_f))
        replace S_p := S_p.but hb Q_p_f
        replace S_q := S_q.but hb Q_q_f
        replace S_r := S_r.but hb Q_r_f
        replace S_a := S_a.but hb Q_a_f
        replace S_b := S_b.but hb Q_b_f
        replace S_g := S_g.but hb Q_g_f
        clear HF_f hb
        have HF_f := hF
        clear hF
        clear S_x
        go_wp2_with fail
        refine (known06_calls _).mono ?_
        rintro e w9 ⟨rfl, hb⟩
        replace HB := HB.trans (hb.mono HB.size)
        replace HF_f := HF_f.below hb
        replace S_p := S_p.below hb
        replace S_q := S_q.below hb
        replace S_r := S_r.below hb
        replace S_a := S_a.below hb
        replace S_b := S_b.below hb
        replace S_g := S_g.below hb
        clear hb
        have hcg := S_g.cell nt (by omega)
        rw [F.out.top] at hcg
        obtain ⟨ag, rfl, -, hcg⟩ := hcg
        go_wp2_with fail
        refine (qgcd_calls k B_f T_f nb c_b na c_a q_b q_a lb la lg G (e0 + dr) F.out.hlg F.out.hM F.out.hGp.symm F.out.neG.symm (by have := F.out.bnb; omega) (by have := F.out.bna; omega) C_b C_a _ HF_f S_b S_a Q_b_f Q_a_f).mono ?_
        rintro e w10 ⟨v, rfl, hO, hF, hb⟩
        obtain ⟨q_x, c_x, rfl, S_x, C_x, hQ⟩ := hO.tell (n := ng) F.out.hlg.byt F.out.nge
        clear hO
        have Q_x_f := hQ _ HF_f.lt
        clear hQ
        replace HB := HB.trans (hb.below HB.size (by rintro k rfl; exact HL_f))
        replace S_p := S_p.but hb Q_p_f
        replace S_q := S_q.but hb Q_q_f
        replace S_r := S_r.but hb Q_r_f
        replace S_a := S_a.but hb Q_a_f
        replace S_b := S_b.but hb Q_b_f
        replace S_g := S_g.but hb Q_g_f
        clear HF_f hb
        have HF_f := hF
        clear hF
        clear hcg
        go_wp2_with fail
        refine (psame_calls _ q_x ng c_g ng c_x lg lg true (iff_of_true rfl rfl) C_g C_x _ S_g S_x).mono ?_
        rintro e w11 ⟨rfl, hb⟩
        replace HB := HB.trans (hb.mono HB.size)
        replace HF_f := HF_f.below hb
        replace S_p := S_p.below hb
        replace S_q := S_q.below hb
        replace S_r := S_r.below hb
        replace S_a := S_a.below hb
        replace S_b := S_b.below hb
        replace S_g := S_g.below hb
        replace S_x := S_x.below hb
        clear hb
        clear S_x
        go_wp2_with fail
        refine (qgcd_calls k B_f T_f n c m d q p xs ys l0 g0 e0 F.out.hl0 F.out.hM0 F.out.hg0 F.out.ne0 (by have := F.out.bn; omega) (by have := F.out.bm; omega) Cp Cq _ HF_f S_p S_q Q_p_f Q_q_f).mono ?_
        rintro e w12 ⟨v, rfl, hO, hF, hb⟩
        obtain ⟨q_x, c_x, rfl, S_x, C_x, hQ⟩ := hO.tell (n := n0) F.out.hl0.byt F.out.n0e
        clear hO
        have Q_x_f := hQ _ HF_f.lt
        clear hQ
        replace HB := HB.trans (hb.below HB.size (by rintro k rfl; exact HL_f))
        replace S_p := S_p.but hb Q_p_f
        replace S_q := S_q.but hb Q_q_f
        replace S_r := S_r.but hb Q_r_f
        replace S_a := S_a.but hb Q_a_f
        replace S_b := S_b.but hb Q_b_f
        replace S_g := S_g.but hb Q_g_f
        clear HF_f hb
        have HF_f := hF
        clear hF
        go_wp2_with fail
        refine (qmonic_calls k B_f T_f l e dr r zs lrm F.out.gr F.out.hlrm (by have := F.out.bl; omega) Cr _ HF_f S_r Q_r_f).mono ?_
        rintro e w13 ⟨v, rfl, hO, hF, hb⟩
        obtain ⟨q_y, c_y, rfl, S_y, C_y, hQ⟩ := hO.tell (n := nrm) F.out.hlrm.byt F.out.nrme
        clear hO
        have Q_y_f := hQ _ HF_f.lt
        clear hQ
        replace HB := HB.trans (hb.below HB.size (by rintro k rfl; exact HL_f))
        replace S_p := S_p.but hb Q_p_f
        replace S_q := S_q.but hb Q_q_f
        replace S_r := S_r.but hb Q_r_f
        replace S_a := S_a.but hb Q_a_f
        replace S_b := S_b.but hb Q_b_f
        replace S_g := S_g.but hb Q_g_f
        replace S_x := S_x.but hb Q_x_f
        clear HF_f hb
        have HF_f := hF
        clear hF
        go_wp2_with fail
        refine (pmul_calls k B_f T_f n0 c_x nrm c_y q_x q_y l0 lrm lg F.out.hgm (by have := F.out.bn0; omega) (by have := F.out.bnrm; omega) C_x C_y _ HF_f S_x S_y Q_x_f Q_y_f).mono ?_
        rintro e w14 ⟨v, rfl, hO, hF, hb⟩
        obtain ⟨q_z, c_z, rfl, S_z, C_z, hQ⟩ := hO.tell (n := ng) F.out.hlg.byt F.out.nge
        clear hO
        have Q_z_f := hQ _ HF_f.lt
        clear hQ
        replace HB := HB.trans (hb.below HB.size (by rintro k rfl; exact HL_f))
        replace S_p := S_p.but hb Q_p_f
        replace S_q := S_q.but hb Q_q_f
        replace S_r := S_r.but hb Q_r_f
        replace S_a := S_a.but hb Q_a_f
        replace S_b := S_b.but hb Q_b_f
        replace S_g := S_g.but hb Q_g_f
        replace S_x := S_x.but hb Q_x_f
        replace S_y := S_y.but hb Q_y_f
        clear HF_f hb
        have HF_f := hF
        clear hF
        go_wp2_with fail
        refine (psame_calls _ q_z ng c_g ng c_z lg lg true (iff_of_true rfl rfl) C_g C_z _ S_g S_z).mono ?_
        rintro e w15 ⟨rfl, hb⟩
        replace HB := HB.trans (hb.mono HB.size)
        replace HF_f := HF_f.below hb
        replace S_p := S_p.below hb
        replace S_q := S_q.below hb
        replace S_r := S_r.below hb
        replace S_a := S_a.below hb
        replace S_b := S_b.below hb
        replace S_g := S_g.below hb
        replace S_x := S_x.below hb
        replace S_y := S_y.below hb
        replace S_z := S_z.below hb
        clear hb
        go_wp2
        go_ret
        exact ⟨rfl, HB⟩
theorem own : ownKnob Try.prog.godebug = none := by kernel_rfl
theorem laidOut : laidOutB Try.prog = true := by kernel_rfl
set_option maxRecDepth 100000 in
theorem lifted (os : Os) (started : os.Started) (H : Type) (enc : TypeId × Value → H) :
    ReturnsInHanded {} Try.checked os 5 .any (Rows.quotGcdSpec.pre6 enc Try.prog Try.f5 Rows.quotGcdRow.domain false) (Rows.quotGcdSpec.post enc Try.prog Try.f5 false true false false) := by
  refine returnsInHanded_of_change_sized (C := Try.checked) own started (by kernel_rfl) Try.func5
    (ChangeSpec.witness6 (enc := enc) (C := Try.checked) false ⟨#[], #[.int .u8 0, .slice none 0 0, .slice none 0 0, .slice none 0 0], []⟩ 8 (by kernel_rfl) (by kernel_rfl) (by kernel_rfl) (by kernel_rfl)) ?_
  intro W base args ds gs before hval0 hW _ hz _
  have hval : ∀ (j : Nat) t v, Try.f5.params[j]? = some t → args[j]? = some v → Value.okWide Try.prog W .any base t v := hval0
  have hW' := hW
  obtain ⟨p, q, hA0, hV, rfl, _, _⟩ := hW
  have hA : DataW.TrodAll enc Try.prog W 0 (fun _ => true) true Try.f5.params.toList args.toList ds p := hA0
  rw [Try.params5] at hA hval
  obtain ⟨v0, vs0, d0, ds0, p0, q0, hargs, rfl, rfl, h0, r0⟩ := trodAll_cons hA
  obtain ⟨v1, vs1, d1, ds1, p1, q1, rfl, rfl, rfl, h1, r1⟩ := trodAll_cons r0
  obtain ⟨v2, vs2, d2, ds2, p2, q2, rfl, rfl, rfl, h2, r2⟩ := trodAll_cons r1
  obtain ⟨v3, vs3, d3, ds3, p3, q3, rfl, rfl, rfl, h3, r3⟩ := trodAll_cons r2
  obtain ⟨rfl, rfl, rfl⟩ := trodAll_nil r3
  obtain rfl : args = #[v0, v1, v2, v3] := by cases args; simp_all
  obtain ⟨rfl, rfl⟩ := trodVars_none hV
  obtain ⟨a0, rfl, rfl, rfl, w0⟩ := open_int Try.underlying5 (hval 0 5 v0 rfl rfl) h0
  obtain ⟨n0, b0, rfl⟩ := nat_of_u8 w0
  have k1 := h1
  obtain ⟨q1, n1, c1, xs1, rfl, w1, m1⟩ := open_bytes_sz Try.underlying22 Try.underlying5 (by kernel_rfl) (hval 1 22 v1 rfl rfl) h1
  have y1 : n1 ≤ c1 ∧ c1 ≤ 140737488351232 := ⟨m1.1, m1.2 _ fun el sp hd => by have := sized_slice (j := 1) (t := 22) (e := 5) (elems := el) (spare := sp) hz (by kernel_rfl) (by first | (rw [← hd]; done) | (rw [← hd]; rfl)) Try.underlying22; have hbe : Try.checked.prog.bytesOf 5 = 1 := (by kernel_rfl); have hre : reachBytes = 140737488351232 := rfl; rw [hbe, hre] at this; omega⟩
  have k2 := h2
  obtain ⟨q2, n2, c2, xs2, rfl, w2, m2⟩ := open_bytes_sz Try.underlying22 Try.underlying5 (by kernel_rfl) (hval 2 22 v2 rfl rfl) h2
  have y2 : n2 ≤ c2 ∧ c2 ≤ 140737488351232 := ⟨m2.1, m2.2 _ fun el sp hd => by have := sized_slice (j := 2) (t := 22) (e := 5) (elems := el) (spare := sp) hz (by kernel_rfl) (by first | (rw [← hd]; done) | (rw [← hd]; rfl)) Try.underlying22; have hbe : Try.checked.prog.bytesOf 5 = 1 := (by kernel_rfl); have hre : reachBytes = 140737488351232 := rfl; rw [hbe, hre] at this; omega⟩
  have k3 := h3
  obtain ⟨q3, n3, c3, xs3, rfl, w3, m3⟩ := open_bytes_sz Try.underlying22 Try.underlying5 (by kernel_rfl) (hval 3 22 v3 rfl rfl) h3
  have y3 : n3 ≤ c3 ∧ c3 ≤ 140737488351232 := ⟨m3.1, m3.2 _ fun el sp hd => by have := sized_slice (j := 3) (t := 22) (e := 5) (elems := el) (spare := sp) hz (by kernel_rfl) (by first | (rw [← hd]; done) | (rw [← hd]; rfl)) Try.underlying22; have hbe : Try.checked.prog.bytesOf 5 = 1 := (by kernel_rfl); have hre : reachBytes = 140737488351232 := rfl; rw [hbe, hre] at this; omega⟩
  clear hA0 hval0
  simp only [List.append_nil] at hW'
  refine (walk (w := W) n0 q1 n1 c1 xs1 q2 n2 c2 xs2 q3 n3 c3 xs3 b0 w1 y1 w2 y2 w3 y3).mono fun e W' ⟨he, bel⟩ => ?_
  subst he
  exact ⟨_, rfl, _, _, _, [], _, [], hW', trodAll_mk1 (shut_bool Try.underlying4 _), (trodAll_cons_mk (shut_int Try.underlying5 w0) (trodAll_cons_mk (shut_same laidOut (by kernel_rfl) (of_decide_eq_true (by kernel_rfl)) k1 bel) (trodAll_cons_mk (shut_same laidOut (by kernel_rfl) (of_decide_eq_true (by kernel_rfl)) k2 bel) (trodAll_cons_mk (shut_same laidOut (by kernel_rfl) (of_decide_eq_true (by kernel_rfl)) k3 bel) trodAll_mk0)))), rfl, bel.frame _, fun h => by cases h⟩
theorem over : Rows.quotGcdRow.holds Try.pinned (OpenSpec.ofChange Rows.quotGcdSpec) :=
  OpenClaim.holds_of_wide 5 Try.f5 rfl rfl rfl rfl rfl rfl rfl ⟨rfl, rfl, rfl, rfl, rfl⟩ rfl rfl rfl rfl rfl (by kernel_rfl) Try.func5 (by kernel_rfl)
    (of_decide_eq_true (by kernel_rfl)) (by unfold Func.isWrapper; first | (rw [if_pos (by decide +kernel)]; kernel_rfl) | (rw [if_neg (by decide +kernel)]; exact ⟨rfl, rfl⟩))
    (fun os started H enc _ => lifted os started H enc)
theorem proved : Rows.QuotGcdSaid := over
#print axioms proved
end Go.Proofs.Ytphhehppcfddgaa.quotGcd
