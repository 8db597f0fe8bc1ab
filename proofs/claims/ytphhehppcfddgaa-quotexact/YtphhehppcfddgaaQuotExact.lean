/- QuotExact holds for every input: a product is divided exactly by each of its factors; with something more of a lower degree it is not. No conditions. -/
import Derived.Test.YtphhehppcfddgaaRows
import Derived.Test.YtphhehppcfddgaaMB
import Derived.Test.YtphhehppcfddgaaKnown06
import Derived.Test.YtphhehppcfddgaaMJ
namespace Go.Proofs.Ytphhehppcfddgaa.quotExact
open Go.ChangeShapes Go.WideShapes Go.ChangeAt Go.RowKit
open Pol (IsN Dg ofL Byt)

set_option maxRecDepth 100000 in
set_option maxHeartbeats 4000000 in
theorem walk (j : Nat) (q : Option Addr) (n c : Nat) (xs : List Nat) (p : Option Addr) (m d : Nat) (ys : List Nat) (r : Option Addr) (l e : Nat) (zs : List Nat) (w : World) (hj : j < 256) (S_p : Bs w q n xs) (y_p : n ≤ c ∧ c ≤ 140737488351232) (S_q : Bs w p m ys) (y_q : m ≤ d ∧ d ≤ 140737488351232) (S_r : Bs w r l zs) (y_r : l ≤ e ∧ e ≤ 140737488351232) :
    Calls Try.prog 4 #[.int .u8 j, .slice q n c, .slice p m d, .slice r l e] w fun e w' => e = .returned (.bool true) ∧ Below w.heap.size w w' := by
  have hnot : ∀ (x : Bool) (w : World), (Op.unary .not (.bool x)).run Try.prog w = .ok (.bool (!x)) w := fun _ _ => rfl
  obtain ⟨k, hk⟩ : ∃ k : Nat, 1 + j % 3 = k := ⟨_, rfl⟩
  have hk1 : 1 ≤ k := by omega
  have hk3 : k ≤ 3 := by omega
  have hki : (1 : Int) + (j : Int) % 3 = (k : Int) := by omega
  clear hk
  have HB : Below w.heap.size w w := Below.refl _ _
  have Cp := y_p.1
  have Cq := y_q.1
  have Cr := y_r.1
  have HW : Hid (wrap64 ((n : Int) + (m : Int)) = (n : Int) + (m : Int)) := by show _ = _; unfold wrap64; omega
  have HW2 : Hid (wrap64 ((n : Int) + (m : Int) + (l : Int)) = (n : Int) + (m : Int) + (l : Int)) := by show _ = _; unfold wrap64; omega
  clear y_p y_q y_r
  go_enter Try.func4, Try.ntmps4
  by_cases hbig : 120 < n + m + l
  · have hb1 : (120 : Int) < (n : Int) + (m : Int) + (l : Int) := by omega
    have hs1 := HW.out
    have hs2 := HW2.out
    go_wp2_with fail
    refine (known06_calls _).mono ?_
    rintro e w1 ⟨rfl, hb⟩
    replace HB := HB.trans (hb.mono HB.size)
    replace S_p := S_p.below hb
    replace S_q := S_q.below hb
    replace S_r := S_r.below hb
    clear hb
    go_wp2
    go_ret
    exact ⟨rfl, HB⟩
  · have hb1 : ((120 : Int) < (n : Int) + (m : Int) + (l : Int)) = False := eq_false (by omega)
    have HU0 : Hid (n ≤ 120 ∧ m ≤ 120 ∧ l ≤ 120) := by show _ ∧ _; omega
    clear hbig
    obtain ⟨lm, hm, bm⟩ := Pol.isN_mul xs ys
    obtain ⟨nm, nme⟩ : ∃ nm, lm.length = nm := ⟨_, rfl⟩
    have HM : Hid (IsN lm (Pol.mul (ofL xs) (ofL ys)) ∧ lm.length = nm ∧ nm ≤ 1000) := ⟨hm, nme, by have := S_p.len; have := S_q.len; have := HU0.out; omega⟩
    clear hm bm nme
    have hs1 := HW.out
    have hs2 := HW2.out
    go_wp2_with fail
    refine (fof_calls k hk1 hk3 _).mono ?_
    rintro e w1 ⟨B_f, T_f, rfl, HF_f, hb, hlB, hlT⟩
    have HL_f : w.heap.size ≤ T_f := Nat.le_trans HB.size hlT
    have Q_p_f := S_p.off hlT
    have Q_q_f := S_q.off hlT
    have Q_r_f := S_r.off hlT
    replace HB := HB.trans (hb.mono HB.size)
    replace S_p := S_p.below hb
    replace S_q := S_q.below hb
    replace S_r := S_r.below hb
    clear hb hlB hlT
    clear hs1 hs2 HW HW2 hb1 hki
    go_wp2_with fail
    refine (pmul_calls k B_f T_f n c m d q p xs ys lm HM.out.1 (by have := HU0.out; omega) (by have := HU0.out; omega) Cp Cq _ HF_f S_p S_q Q_p_f Q_q_f).mono ?_
    rintro e w2 ⟨v, rfl, hO, hF, hb⟩
    obtain ⟨q_m, c_m, rfl, S_m, C_m, hQ⟩ := hO.tell (n := nm) HM.out.1.byt HM.out.2.1
    clear hO
    have Q_m_f := hQ _ HF_f.lt
    clear hQ
    replace HB := HB.trans (hb.below HB.size (by rintro k rfl; exact HL_f))
    replace S_p := S_p.but hb Q_p_f
    replace S_q := S_q.but hb Q_q_f
    replace S_r := S_r.but hb Q_r_f
    clear HF_f hb
    have HF_f := hF
    clear hF
    obtain ⟨dq, hdq, gq⟩ := Pol.dg_list ys
    have Hdq : Hid (dq ≤ ys.length) := hdq
    clear hdq
    cases dq with
    | zero =>
      go_wp2_with fail
      refine (qexact_zero k B_f T_f nm c_m m d q_m p ys gq _ HF_f S_q).mono ?_
      rintro e w3 ⟨rfl, hF, hb⟩
      replace HB := HB.trans (hb.below HB.size (by rintro k rfl; exact HL_f))
      replace S_p := S_p.but hb Q_p_f
      replace S_q := S_q.but hb Q_q_f
      replace S_r := S_r.but hb Q_r_f
      replace S_m := S_m.but hb Q_m_f
      clear HF_f hb
      have HF_f := hF
      clear hF
      go_wp2_with fail
      refine (pdeg_calls p m d ys 0 gq _ S_q).mono ?_
      rintro e w4 ⟨rfl, hb⟩
      replace HB := HB.trans (hb.mono HB.size)
      replace HF_f := HF_f.below hb
      replace S_p := S_p.below hb
      replace S_q := S_q.below hb
      replace S_r := S_r.below hb
      replace S_m := S_m.below hb
      clear hb
      go_wp2_with fail
      refine (known06_calls _).mono ?_
      rintro e w5 ⟨rfl, hb⟩
      replace HB := HB.trans (hb.mono HB.size)
      replace HF_f := HF_f.below hb
      replace S_p := S_p.below hb
      replace S_q := S_q.below hb
      replace S_r := S_r.below hb
      replace S_m := S_m.below hb
      clear hb
      go_wp2
      go_ret
      exact ⟨rfl, HB⟩
    | succ dq =>
      obtain ⟨l1, h1, b1⟩ := Pol.isN_norm xs
      obtain ⟨A, R, hA, hR, he⟩ := Pol.div_exists gq l (ofL zs) (by have := Pol.ofL_bd zs; rwa [S_r.len] at this)
      obtain ⟨la, ha, ba⟩ := Pol.isN_of_bd hA
      obtain ⟨lc, hc, bc⟩ := Pol.isN_of_bd hR
      obtain ⟨ls, hs, bs⟩ := Pol.isN_add lm lc
      obtain ⟨n1, n1e⟩ : ∃ n1, l1.length = n1 := ⟨_, rfl⟩
      obtain ⟨nc, nce⟩ : ∃ nc, lc.length = nc := ⟨_, rfl⟩
      obtain ⟨ns, nse⟩ : ∃ ns, ls.length = ns := ⟨_, rfl⟩
      have HU : Hid (n1 ≤ 1000 ∧ nc ≤ 1000 ∧ ns ≤ 10000 ∧ n ≤ 1000 ∧ m ≤ 1000 ∧ l ≤ 1000 ∧ nm ≤ 1000) := by
        have := HU0.out; have := HM.out.2; have := Hdq.out; have := S_p.len; have := S_q.len; show _ ∧ _; omega
      have HH : Hid (Dg (dq + 1) (ofL ys) ∧ IsN l1 (ofL xs) ∧ IsN la A ∧ IsN lc R ∧ Pol.Bd dq R ∧ ofL zs = Pol.add (Pol.mul A (ofL ys)) R ∧ IsN ls (Pol.add (ofL lm) (ofL lc))) := ⟨gq, h1, ha, hc, hR, he, hs⟩
      have HNl : Hid (l1.length = n1 ∧ lc.length = nc ∧ ls.length = ns) := ⟨n1e, nce, nse⟩
      have H2 : Hid (ofL ls = Pol.add (Pol.mul (ofL xs) (ofL ys)) R) := by show _ = _; rw [hs.eq, HM.out.1.eq, hc.eq]
      have hz : nc = 0 ↔ R = Pol.zero := by rw [← nce]; exact hc.nil_iff
      clear gq h1 b1 hA hR he ha ba hc bc hs bs n1e nce nse HU0 Hdq
      go_wp2_with fail
      refine (qexact_calls k B_f T_f nm c_m m d dq q_m p lm ys l1 (ofL xs) HH.out.1 HH.out.2.1 HM.out.1.eq (by have := HU.out; omega) (by have := HU.out; omega) C_m Cq _ HF_f S_m S_q Q_m_f Q_q_f).mono ?_
      rintro e w3 ⟨v, rfl, hO, hF, hb⟩
      obtain ⟨q_a, c_a, rfl, S_a, C_a, hQ⟩ := hO.tell (n := n1) HH.out.2.1.byt HNl.out.1
      clear hO
      have Q_a_f := hQ _ HF_f.lt
      clear hQ
      replace HB := HB.trans (hb.below HB.size (by rintro k rfl; exact HL_f))
      replace S_p := S_p.but hb Q_p_f
      replace S_q := S_q.but hb Q_q_f
      replace S_r := S_r.but hb Q_r_f
      replace S_m := S_m.but hb Q_m_f
      clear HF_f hb
      have HF_f := hF
      clear hF
      go_wp2_with fail
      refine (pdeg_calls p m d ys (dq + 1) HH.out.1 _ S_q).mono ?_
      rintro e w4 ⟨rfl, hb⟩
      replace HB := HB.trans (hb.mono HB.size)
      replace HF_f := HF_f.below hb
      replace S_p := S_p.below hb
      replace S_q := S_q.below hb
      replace S_r := S_r.below hb
      replace S_m := S_m.below hb
      replace S_a := S_a.below hb
      clear hb
      go_wp2_with fail
      refine (qmod_calls k B_f T_f l e m d dq r p zs ys la lc A R HH.out.1 HH.out.2.2.1 HH.out.2.2.2.1 HH.out.2.2.2.2.1 HH.out.2.2.2.2.2.1 (by have := HU.out; omega) (by have := HU.out; omega) Cr Cq _ HF_f S_r S_q Q_r_f Q_q_f).mono ?_
      rintro e w5 ⟨v, rfl, hO, hF, hb⟩
      obtain ⟨q_c, c_c, rfl, S_c, C_c, hQ⟩ := hO.tell (n := nc) HH.out.2.2.2.1.byt HNl.out.2.1
      clear hO
      have Q_c_f := hQ _ HF_f.lt
      clear hQ
      replace HB := HB.trans (hb.below HB.size (by rintro k rfl; exact HL_f))
      replace S_p := S_p.but hb Q_p_f
      replace S_q := S_q.but hb Q_q_f
      replace S_r := S_r.but hb Q_r_f
      replace S_m := S_m.but hb Q_m_f
      replace S_a := S_a.but hb Q_a_f
      clear HF_f hb
      have HF_f := hF
      clear hF
      go_wp2_with fail
      refine (padd_calls q_m q_c nm c_m nc c_c lm lc ls HH.out.2.2.2.2.2.2 (by have := HU.out; omega) (by have := HU.out; omega) _ S_m S_c).mono ?_
      rintro e w6 ⟨v, rfl, hO, hb⟩
      obtain ⟨q_s, c_s, rfl, S_s, C_s, hQ⟩ := hO.tell (n := ns) HH.out.2.2.2.2.2.2.byt HNl.out.2.2
      clear hO
      have Q_s_f := hQ _ HF_f.lt
      clear hQ
      replace HB := HB.trans (hb.mono HB.size)
      replace HF_f := HF_f.below hb
      replace S_p := S_p.below hb
      replace S_q := S_q.below hb
      replace S_r := S_r.below hb
      replace S_m := S_m.below hb
      replace S_a := S_a.below hb
      replace S_c := S_c.below hb
      clear hb
      by_cases h0 : R = Pol.zero
      · have h00 := hz.2 h0
        subst h00
        have H3 : Hid (ofL ls = Pol.mul (ofL xs) (ofL ys)) := by show _ = _; rw [H2.out, h0, Pol.add_zero]
        clear hz h0
        go_wp2_with fail
        refine (qexact_calls k B_f T_f ns c_s m d dq q_s p ls ys l1 (ofL xs) HH.out.1 HH.out.2.1 H3.out (by have := HU.out; omega) (by have := HU.out; omega) C_s Cq _ HF_f S_s S_q Q_s_f Q_q_f).mono ?_
        rintro e w7 ⟨v, rfl, hO, hF, hb⟩
        obtain ⟨q_x, c_x, rfl, S_x, C_x, hQ⟩ := hO.tell (n := n1) HH.out.2.1.byt HNl.out.1
        clear hO
        have Q_x_f := hQ _ HF_f.lt
        clear hQ
        replace HB := HB.trans (hb.below HB.size (by rintro k rfl; exact HL_f))
        replace S_p := S_p.but hb Q_p_f
        replace S_q := S_q.but hb Q_q_f
        replace S_r := S_r.but hb Q_r_f
        replace S_m := S_m.but hb Q_m_f
        replace S_a := S_a.but hb Q_a_f
        replace S_c := S_c.but hb Q_c_f
        replace S_s := S_s.but hb Q_s_f
        clear HF_f hb
        have HF_f := hF
        clear hF
        go_wp2_with fail
        refine (known06_calls _).mono ?_
        rintro e w8 ⟨rfl, hb⟩
        replace HB := HB.trans (hb.mono HB.size)
        replace HF_f := HF_f.below hb
        replace S_p := S_p.below hb
        replace S_q := S_q.below hb
        replace S_r := S_r.below hb
        replace S_m := S_m.below hb
        replace S_a := S_a.below hb
        replace S_c := S_c.below hb
        replace S_s := S_s.below hb
        replace S_x := S_x.below hb
        clear hb
        go_wp2_with fail
        refine (psame_calls q_a q n1 c_a n c l1 xs true (iff_of_true rfl HH.out.2.1.eq) C_a Cp _ S_a S_p).mono ?_
        rintro e w9 ⟨rfl, hb⟩
        replace HB := HB.trans (hb.mono HB.size)
        replace HF_f := HF_f.below hb
        replace S_p := S_p.below hb
        replace S_q := S_q.below hb
        replace S_r := S_r.below hb
        replace S_m := S_m.below hb
        replace S_a := S_a.below hb
        replace S_c := S_c.below hb
        replace S_s := S_s.below hb
        replace S_x := S_x.below hb
        clear hb
        go_wp2
        go_ret
        exact ⟨rfl, HB⟩
      · have h00 : ((nc : Int) == 0) = false := by have := mt hz.1 h0; simp; omega
        have H3 : Hid (R ≠ Pol.zero) := h0
        clear hz h0
        go_wp2_with fail
        refine (qexact_no k B_f T_f ns c_s m d dq q_s p ls ys l1 lc (ofL xs) R HH.out.1 HH.out.2.1 HH.out.2.2.2.1 H3.out HH.out.2.2.2.2.1 H2.out (by have := HU.out; omega) (by have := HU.out; omega) C_s Cq _ HF_f S_s S_q Q_s_f Q_q_f).mono ?_
        rintro e w7 ⟨rfl, hF, hb⟩
        replace HB := HB.trans (hb.below HB.size (by rintro k rfl; exact HL_f))
        replace S_p := S_p.but hb Q_p_f
        replace S_q := S_q.but hb Q_q_f
        replace S_r := S_r.but hb Q_r_f
        replace S_m := S_m.but hb Q_m_f
        replace S_a := S_a.but hb Q_a_f
        replace S_c := S_c.but hb Q_c_f
        replace S_s := S_s.but hb Q_s_f
        clear HF_f hb
        have HF_f := hF
        clear hF
        go_wp2_with fail
        refine (known06_calls _).mono ?_
        rintro e w8 ⟨rfl, hb⟩
        replace HB := HB.trans (hb.mono HB.size)
        replace HF_f := HF_f.below hb
        replace S_p := S_p.below hb
        replace S_q := S_q.below hb
        replace S_r := S_r.below hb
        replace S_m := S_m.below hb
        replace S_a := S_a.below hb
        replace S_c := S_c.below hb
        replace S_s := S_s.below hb
        clear hb
        go_wp2_with fail
        refine (psame_calls q_a q n1 c_a n c l1 xs true (iff_of_true rfl HH.out.2.1.eq) C_a Cp _ S_a S_p).mono ?_
        rintro e w9 ⟨rfl, hb⟩
        replace HB := HB.trans (hb.mono HB.size)
        replace HF_f := HF_f.below hb
        replace S_p := S_p.below hb
        replace S_q := S_q.below hb
        replace S_r := S_r.below hb
        replace S_m := S_m.below hb
        replace S_a := S_a.below hb
        replace S_c := S_c.below hb
        replace S_s := S_s.below hb
        clear hb
        go_wp2
        go_ret
        exact ⟨rfl, HB⟩
theorem own : ownKnob Try.prog.godebug = none := by kernel_rfl
theorem laidOut : laidOutB Try.prog = true := by kernel_rfl
set_option maxRecDepth 100000 in
theorem lifted (os : Os) (started : os.Started) (H : Type) (enc : TypeId × Value → H) :
    ReturnsInHanded {} Try.checked os 4 .any (Rows.quotExactSpec.pre6 enc Try.prog Try.f4 Rows.quotExactRow.domain false) (Rows.quotExactSpec.post enc Try.prog Try.f4 false true false false) := by
  refine returnsInHanded_of_change_sized (C := Try.checked) own started (by kernel_rfl) Try.func4
    (ChangeSpec.witness6 (enc := enc) (C := Try.checked) false ⟨#[], #[.int .u8 0, .slice none 0 0, .slice none 0 0, .slice none 0 0], []⟩ 8 (by kernel_rfl) (by kernel_rfl) (by kernel_rfl) (by kernel_rfl)) ?_
  intro W base args ds gs before hval0 hW _ hz _
  have hval : ∀ (j : Nat) t v, Try.f4.params[j]? = some t → args[j]? = some v → Value.okWide Try.prog W .any base t v := hval0
  have hW' := hW
  obtain ⟨p, q, hA0, hV, rfl, _, _⟩ := hW
  have hA : DataW.TrodAll enc Try.prog W 0 (fun _ => true) true Try.f4.params.toList args.toList ds p := hA0
  rw [Try.params4] at hA hval
  obtain ⟨v0, vs0, d0, ds0, p0, q0, hargs, rfl, rfl, h0, r0⟩ := trodAll_cons hA
  obtain ⟨v1, vs1, d1, ds1, p1, q1, rfl, rfl, rfl, h1, r1⟩ := trodAll_cons r0
  obtain ⟨v2, vs2, d2, ds2, p2, q2, rfl, rfl, rfl, h2, r2⟩ := trodAll_cons r1
  obtain ⟨v3, vs3, d3, ds3, p3, q3, rfl, rfl, rfl, h3, r3⟩ := trodAll_cons r2
  obtain ⟨rfl, rfl, rfl⟩ := trodAll_nil r3
  obtain rfl : args = #[v0, v1, v2, v3] := by cases args; simp_all
  obtain ⟨rfl, rfl⟩ := trodVars_none hV
  obtain ⟨a0, rfl, rfl, rfl, w0⟩ := open_int Try.underlying5 (hval 0 5 v0 rfl rfl) h0
  obtain ⟨n0, b0, rfl⟩ := nat_of_u8 w0
  have k1 := h1
  obtain ⟨q1, n1, c1, xs1, rfl, w1, m1⟩ := open_bytes_sz Try.underlying22 Try.underlying5 (by kernel_rfl) (hval 1 22 v1 rfl rfl) h1
  have y1 : n1 ≤ c1 ∧ c1 ≤ 140737488351232 := ⟨m1.1, m1.2 _ fun el sp hd => by have := sized_slice (j := 1) (t := 22) (e := 5) (elems := el) (spare := sp) hz (by kernel_rfl) (by first | (rw [← hd]; done) | (rw [← hd]; rfl)) Try.underlying22; have hbe : Try.checked.prog.bytesOf 5 = 1 := (by kernel_rfl); have hre : reachBytes = 140737488351232 := rfl; rw [hbe, hre] at this; omega⟩
  have k2 := h2
  obtain ⟨q2, n2, c2, xs2, rfl, w2, m2⟩ := open_bytes_sz Try.underlying22 Try.underlying5 (by kernel_rfl) (hval 2 22 v2 rfl rfl) h2
  have y2 : n2 ≤ c2 ∧ c2 ≤ 140737488351232 := ⟨m2.1, m2.2 _ fun el sp hd => by have := sized_slice (j := 2) (t := 22) (e := 5) (elems := el) (spare := sp) hz (by kernel_rfl) (by first | (rw [← hd]; done) | (rw [← hd]; rfl)) Try.underlying22; have hbe : Try.checked.prog.bytesOf 5 = 1 := (by kernel_rfl); have hre : reachBytes = 140737488351232 := rfl; rw [hbe, hre] at this; omega⟩
  have k3 := h3
  obtain ⟨q3, n3, c3, xs3, rfl, w3, m3⟩ := open_bytes_sz Try.underlying22 Try.underlying5 (by kernel_rfl) (hval 3 22 v3 rfl rfl) h3
  have y3 : n3 ≤ c3 ∧ c3 ≤ 140737488351232 := ⟨m3.1, m3.2 _ fun el sp hd => by have := sized_slice (j := 3) (t := 22) (e := 5) (elems := el) (spare := sp) hz (by kernel_rfl) (by first | (rw [← hd]; done) | (rw [← hd]; rfl)) Try.underlying22; have hbe : Try.checked.prog.bytesOf 5 = 1 := (by kernel_rfl); have hre : reachBytes = 140737488351232 := rfl; rw [hbe, hre] at this; omega⟩
  clear hA0 hval0
  simp only [List.append_nil] at hW'
  refine (walk (w := W) n0 q1 n1 c1 xs1 q2 n2 c2 xs2 q3 n3 c3 xs3 b0 w1 y1 w2 y2 w3 y3).mono fun e W' ⟨he, bel⟩ => ?_
  subst he
  exact ⟨_, rfl, _, _, _, [], _, [], hW', trodAll_mk1 (shut_bool Try.underlying4 _), (trodAll_cons_mk (shut_int Try.underlying5 w0) (trodAll_cons_mk (shut_same laidOut (by kernel_rfl) (of_decide_eq_true (by kernel_rfl)) k1 bel) (trodAll_cons_mk (shut_same laidOut (by kernel_rfl) (of_decide_eq_true (by kernel_rfl)) k2 bel) (trodAll_cons_mk (shut_same laidOut (by kernel_rfl) (of_decide_eq_true (by kernel_rfl)) k3 bel) trodAll_mk0)))), rfl, bel.frame _, fun h => by cases h⟩
theorem over : Rows.quotExactRow.holds Try.pinned (OpenSpec.ofChange Rows.quotExactSpec) :=
  OpenClaim.holds_of_wide 4 Try.f4 rfl rfl rfl rfl rfl rfl rfl ⟨rfl, rfl, rfl, rfl, rfl⟩ rfl rfl rfl rfl rfl (by kernel_rfl) Try.func4 (by kernel_rfl)
    (of_decide_eq_true (by kernel_rfl)) (by unfold Func.isWrapper; first | (rw [if_pos (by decide +kernel)]; kernel_rfl) | (rw [if_neg (by decide +kernel)]; exact ⟨rfl, rfl⟩))
    (fun os started H enc _ => lifted os started H enc)
theorem proved : Rows.QuotExactSaid := over
#print axioms proved
end Go.Proofs.Ytphhehppcfddgaa.quotExact
