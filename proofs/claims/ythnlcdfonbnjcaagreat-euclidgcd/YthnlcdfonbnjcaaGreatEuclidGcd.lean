/- EuclidGcd holds for every input: the remainder ahead of nothing is the greatest that divides both, but for a byte. No conditions. -/
import Derived.Test.YthnlcdfonbnjcaaGreatRows
import Derived.Test.YthnlcdfonbnjcaaGreatMB
import Derived.Test.YthnlcdfonbnjcaaGreatQW
import Derived.Test.YthnlcdfonbnjcaaGreatMG
namespace Go.Proofs.YthnlcdfonbnjcaaGreat.euclidGcd
open Go.ChangeShapes Go.WideShapes Go.ChangeAt Go.RowKit
open Pol (IsN Dg ofL Byt)
open Eu (IsRun IsKey)

set_option maxRecDepth 100000 in
set_option maxHeartbeats 8000000 in
theorem walk (j : Nat) (q : Option Addr) (n c : Nat) (xs : List Nat) (p : Option Addr) (m d : Nat) (ys : List Nat) (w : World) (_hj : j < 256) (hs : Bs w q n xs) (hc : n ≤ c ∧ c ≤ 140737488351232) (hy : Bs w p m ys) (hd : m ≤ d ∧ d ≤ 140737488351232) :
    Calls Tryz.prog 4 #[.int .u8 j, .slice q n c, .slice p m d] w fun e w' => e = .returned (.bool true) ∧ Below w.heap.size w w' := by
  have hwnm : IntKind.i64.wrap ((n : Int) + (m : Int)) = (n : Int) + (m : Int) := by rw [IntKind.wrap_i64]; omega
  by_cases hbig : n + m ≤ 80
  · have hbi : ¬ (80 : Int) < (n : Int) + (m : Int) := by omega
    obtain ⟨db, hdb, hdg⟩ := Pol.dg_list ys
    have e2 := hy.len
    have KR := rdeg_calls p m d ys db hdg (by omega) w hy
    by_cases hd0 : db = 0
    · subst hd0
      have KN := known15_calls w
      clear hs hc hy hd hbig hdb hdg e2
      go_enter Tryz.func4, Tryz.ntmps4
      go_wp2_with fail
      refine KR.mono ?_
      rintro e_ w0 ⟨rfl, hw⟩
      obtain rfl := hw.symm
      clear KR
      go_wp2_with fail
      refine KN.mono ?_
      rintro e_ w1 ⟨rfl, hb⟩
      clear KN
      go_wp2
      go_ret
      exact ⟨rfl, hb⟩
    · have hdi : ¬ (db : Int) - 1 < 0 := by omega
      obtain ⟨f, hfe⟩ : ∃ f : Nat, 1 + j % 3 = f := ⟨_, rfl⟩
      have hf1 : 1 ≤ f := by omega
      have hf3 : f ≤ 3 := by omega
      have hfi : (1 : Int) + (j : Int) % 3 = (f : Int) := by omega
      have K0 := fof_calls f hf1 hf3 w
      obtain ⟨gs, hG, hgl⟩ := isGc_exists xs ys
      have e1 := hs.len
      obtain ⟨e, g, hgs, hmo, hgc, -⟩ : ∃ e g, IsN gs g ∧ Pol.Mon e g ∧ Pol.IsGcd g (ofL xs) (ofL ys) ∧ (ofL xs ≠ Pol.zero ∨ ofL ys ≠ Pol.zero) := by
        rcases hG with ⟨_, h2, _⟩ | h
        · exact absurd (h2.unique hdg) (fun h => hd0 h.symm)
        · exact h
      have hge := hgs.len hmo.dg
      obtain ⟨e1', he1⟩ : ∃ e1', e + 1 = e1' := ⟨_, rfl⟩
      obtain ⟨s0, v0, N0, hR0⟩ := Eu.isRun_exists 0 xs ys
      obtain ⟨s1, v1, N1, hR1⟩ := Eu.isRun_exists (e + 1) xs ys
      obtain ⟨s2, v2, N2, hR2⟩ := Eu.isRun_exists e xs ys
      have hs0 : s0 = [] := List.length_eq_zero_iff.1 (Nat.le_zero.1 hR0.short)
      subst hs0
      have hs2 : s2 = [] := by
        have h1 := hR2.er.gcd_none hmo hgc
        have h2 := hR2.s
        rw [h1] at h2
        exact Pol.isN_zero h2
      subst hs2
      have hN0 : (0 : Int) < (N0 : Int) := by
        rcases hR0.er.inv hdg with ⟨h1, -⟩ | ⟨_, _, _, _, _, _, h1, -⟩ <;> omega
      have hone := hR1.er.gcd_one hmo hgc
      rw [he1] at hR1 hge
      obtain ⟨a1, l1⟩ : ∃ a, s1.length = a := ⟨_, rfl⟩
      obtain ⟨b0, m0⟩ : ∃ a, v0.length = a := ⟨_, rfl⟩
      obtain ⟨b1, m1⟩ : ∃ a, v1.length = a := ⟨_, rfl⟩
      obtain ⟨b2, m2⟩ : ∃ a, v2.length = a := ⟨_, rfl⟩
      have hdg1 : Pol.Dg e1' (ofL gs) := by rw [hgs.eq, ← he1]; exact hmo.dg
      have hd1 : Pol.Dg a1 (ofL s1) := by have h := hR1.s.dg; rw [l1] at h; exact h
      have her : ((e1' : Nat) : Int) - 1 = (e : Int) := by omega
      have hei : (e : Int) + 1 = (e1' : Int) := by omega
      have hwe := wrap_nat e1' (by omega)
      have hsh := hR1.short
      have HX : Hid (Bs w q n xs ∧ n ≤ c ∧ Bs w p m ys ∧ m ≤ d ∧ n ≤ 80 ∧ m ≤ 80 ∧ IsRun xs ys 0 [] v0 N0 ∧ IsRun xs ys e1' s1 v1 N1 ∧ IsRun xs ys e [] v2 N2 ∧ s1.length = a1 ∧ v0.length = b0 ∧ v1.length = b1 ∧ v2.length = b2 ∧ IsGc xs ys gs ∧ gs.length = e1' ∧ Pol.Dg e1' (ofL gs) ∧ Pol.Dg a1 (ofL s1) ∧ ((e1' : Nat) : Int) - 1 = (e : Int) ∧ a1 ≤ e1' ∧ e1' ≤ 200) := ⟨hs, hc.1, hy, hd.1, by omega, by omega, hR0, hR1, hR2, l1, m0, m1, m2, hG, hge, hdg1, hd1, her, by omega, by omega⟩
      have HO : Hid (ofL s1 = Pol.zero ∨ (Pol.Dg (e + 1) (ofL s1) ∧ Pol.smul (GF.inv (ofL s1 e)) (ofL s1) = g)) := hone
      have HG : Hid (IsN gs g ∧ e + 1 = e1') := ⟨hgs, he1⟩
      clear hs hc hy hd hbig hf1 hf3 hfe hd0 hdb hdg e1 e2 hG hgl hgs hmo hgc hge he1 hR0 hR1 hR2 hone l1 m0 m1 m2 hdg1 hd1 her hsh
      go_enter Tryz.func4, Tryz.ntmps4
      go_wp2_with fail
      refine KR.mono ?_
      rintro e_ w0 ⟨rfl, hw⟩
      obtain rfl := hw.symm
      clear KR
      go_wp2_with fail
      refine K0.mono ?_
      rintro e_ w1 ⟨B, T, rfl, hF, hb, hlB, hlT⟩
      have HT : Hid (w.heap.size ≤ T) := hlT
      have H1 : Hid (Tw f B T w w1 ∧ Tl w1 T q n c xs ∧ Tl w1 T p m d ys) := ⟨⟨hF, But.of_below hb⟩, ⟨(HX.out.1).below hb, HX.out.2.1, (HX.out.1).off hlT⟩, ⟨(HX.out.2.2.1).below hb, HX.out.2.2.2.1, (HX.out.2.2.1).off hlT⟩⟩
      clear K0 hF hb hlB hlT
      clear hwnm hbi hfi hdi
      have K := xstep f B T w n c m d 0 N0 q p 0 xs ys [] v0 rfl HX.out.2.2.2.2.2.2.1 (by have := HX.out; omega) (by have := HX.out; omega) (w1) H1.out.1 H1.out.2.1 H1.out.2.2
      go_wp2_with fail
      refine K.mono ?_
      rintro e_ w2 ⟨rfl, hT, hb⟩
      have H2 : Hid (Tw f B T w w2 ∧ Tl w2 T q n c xs ∧ Tl w2 T p m d ys) := ⟨hT, (H1.out.2.1).but hb, (H1.out.2.2).but hb⟩
      clear K hT hb  H1
      have K := xgcd f B T w n c m d e1' q p xs ys gs HX.out.2.2.2.2.2.2.2.2.2.2.2.2.2.1 HX.out.2.2.2.2.2.2.2.2.2.2.2.2.2.2.1 (by have := HX.out; omega) (by have := HX.out; omega) (w2) H2.out.1 H2.out.2.1 H2.out.2.2
      go_wp2_with fail
      refine K.mono ?_
      rintro e_ w3 ⟨q2, c2, rfl, t3_0, hT, hb⟩
      have H3 : Hid (Tw f B T w w3 ∧ Tl w3 T q n c xs ∧ Tl w3 T p m d ys ∧ Tl w3 T q2 e1' c2 gs) := ⟨hT, (H2.out.2.1).but hb, (H2.out.2.2).but hb, t3_0⟩
      clear K hT hb t3_0 H2
      have K := xrun f B T w n c m d 0 N0 0 b0 q p 0 xs ys [] v0 rfl HX.out.2.2.2.2.2.2.1 rfl HX.out.2.2.2.2.2.2.2.2.2.2.1 (by have := HX.out; omega) (by have := HX.out; omega) (w3) H3.out.1 H3.out.2.1 H3.out.2.2.1
      go_wp2_with fail
      refine K.mono ?_
      rintro e_ w4 ⟨q3, c3, p3, d3, rfl, t4_0, t4_1, hT, hb⟩
      have H4 : Hid (Tw f B T w w4 ∧ Tl w4 T q n c xs ∧ Tl w4 T p m d ys ∧ Tl w4 T q2 e1' c2 gs ∧ Tl w4 T q3 0 c3 [] ∧ Tl w4 T p3 b0 d3 v0) := ⟨hT, (H3.out.2.1).but hb, (H3.out.2.2.1).but hb, (H3.out.2.2.2).but hb, t4_0, t4_1⟩
      clear K hT hb t4_0 t4_1 H3
      have K := xdeg f B T w q2 e1' c2 e1' gs (e : Int) HX.out.2.2.2.2.2.2.2.2.2.2.2.2.2.2.2.1 HX.out.2.2.2.2.2.2.2.2.2.2.2.2.2.2.2.2.2.1 (w4) H4.out.1 H4.out.2.2.2.1
      go_wp2_with fail
      refine K.mono ?_
      rintro e_ w5 ⟨rfl, hT, hb⟩
      have H5 : Hid (Tw f B T w w5 ∧ Tl w5 T q n c xs ∧ Tl w5 T p m d ys ∧ Tl w5 T q2 e1' c2 gs) := ⟨hT, (H4.out.2.1).but hb, (H4.out.2.2.1).but hb, (H4.out.2.2.2.1).but hb⟩
      clear K hT hb  H4
      have K := xrun f B T w n c m d e1' N1 a1 b1 q p (e1' : Int) xs ys s1 v1 (if_neg (by omega)) HX.out.2.2.2.2.2.2.2.1 HX.out.2.2.2.2.2.2.2.2.2.1 HX.out.2.2.2.2.2.2.2.2.2.2.2.1 (by have := HX.out; omega) (by have := HX.out; omega) (w5) H5.out.1 H5.out.2.1 H5.out.2.2.1
      go_wp2_with fail
      refine K.mono ?_
      rintro e_ w6 ⟨q4, c4, p4, d4, rfl, t6_0, t6_1, hT, hb⟩
      have H6 : Hid (Tw f B T w w6 ∧ Tl w6 T q n c xs ∧ Tl w6 T p m d ys ∧ Tl w6 T q2 e1' c2 gs ∧ Tl w6 T q4 a1 c4 s1 ∧ Tl w6 T p4 b1 d4 v1) := ⟨hT, (H5.out.2.1).but hb, (H5.out.2.2.1).but hb, (H5.out.2.2.2).but hb, t6_0, t6_1⟩
      clear K hT hb t6_0 t6_1 H5
      have K := xdeg f B T w q2 e1' c2 e1' gs (e : Int) HX.out.2.2.2.2.2.2.2.2.2.2.2.2.2.2.2.1 HX.out.2.2.2.2.2.2.2.2.2.2.2.2.2.2.2.2.2.1 (w6) H6.out.1 H6.out.2.2.2.1
      go_wp2_with fail
      refine K.mono ?_
      rintro e_ w7 ⟨rfl, hT, hb⟩
      have H7 : Hid (Tw f B T w w7 ∧ Tl w7 T q n c xs ∧ Tl w7 T p m d ys ∧ Tl w7 T q2 e1' c2 gs ∧ Tl w7 T q4 a1 c4 s1) := ⟨hT, (H6.out.2.1).but hb, (H6.out.2.2.1).but hb, (H6.out.2.2.2.1).but hb, (H6.out.2.2.2.2.1).but hb⟩
      clear K hT hb  H6
      have K := xrun f B T w n c m d e N2 0 b2 q p (e : Int) xs ys [] v2 (if_neg (by omega)) HX.out.2.2.2.2.2.2.2.2.1 rfl HX.out.2.2.2.2.2.2.2.2.2.2.2.2.1 (by have := HX.out; omega) (by have := HX.out; omega) (w7) H7.out.1 H7.out.2.1 H7.out.2.2.1
      go_wp2_with fail
      refine K.mono ?_
      rintro e_ w8 ⟨q5, c5, p5, d5, rfl, t8_0, t8_1, hT, hb⟩
      have H8 : Hid (Tw f B T w w8 ∧ Tl w8 T q n c xs ∧ Tl w8 T p m d ys ∧ Tl w8 T q2 e1' c2 gs ∧ Tl w8 T q4 a1 c4 s1 ∧ Tl w8 T q5 0 c5 [] ∧ Tl w8 T p5 b2 d5 v2) := ⟨hT, (H7.out.2.1).but hb, (H7.out.2.2.1).but hb, (H7.out.2.2.2.1).but hb, (H7.out.2.2.2.2).but hb, t8_0, t8_1⟩
      clear K hT hb t8_0 t8_1 H7
      have K := xknown f B T w  (w8) H8.out.1
      go_wp2_with fail
      refine K.mono ?_
      rintro e_ w9 ⟨rfl, hT, hb⟩
      have H9 : Hid (Tw f B T w w9 ∧ Tl w9 T q2 e1' c2 gs ∧ Tl w9 T q4 a1 c4 s1) := ⟨hT, (H8.out.2.2.2.1).but hb, (H8.out.2.2.2.2.1).but hb⟩
      clear K hT hb  H8
      have K := xdeg f B T w q4 a1 c4 a1 s1 ((a1 : Int) - 1) HX.out.2.2.2.2.2.2.2.2.2.2.2.2.2.2.2.2.1 rfl (w9) H9.out.1 H9.out.2.2
      go_wp2_with fail
      refine K.mono ?_
      rintro e_ w10 ⟨rfl, hT, hb⟩
      have H10 : Hid (Tw f B T w w10 ∧ Tl w10 T q2 e1' c2 gs ∧ Tl w10 T q4 a1 c4 s1) := ⟨hT, (H9.out.2.1).but hb, (H9.out.2.2).but hb⟩
      clear K hT hb  H9
      rcases HO.out with h0 | ⟨h1, h2⟩
      · have ha1 : a1 = 0 := by
          have h3 := HX.out.2.2.2.2.2.2.2.2.2.2.2.2.2.2.2.2.1
          rw [h0] at h3
          exact h3.unique (Pol.dg_zero)
        have hlt : (a1 : Int) - 1 < 0 := by omega
        clear h0 ha1
        have HZ : Hid (Below w.heap.size w w10) := (H10.out.1).but.below (Nat.le_refl _) (by rintro k rfl; exact HT.out)
        clear H10
        go_wp2
        go_ret
        exact ⟨rfl, HZ.out⟩
      · have ha1 : a1 = e + 1 := (HX.out.2.2.2.2.2.2.2.2.2.2.2.2.2.2.2.2.1).unique h1
        have hlt : ¬ (a1 : Int) - 1 < 0 := by omega
        have hMo : IsMo s1 gs := .inr ⟨e, h1, by rw [h2]; exact HG.out.1⟩
        clear h1 h2 ha1
        have K := xmonic f B T w a1 c4 e1' q4 s1 gs hMo HX.out.2.2.2.2.2.2.2.2.2.2.2.2.2.2.1 (by have := HX.out; omega) (w10) H10.out.1 H10.out.2.2
        go_wp2_with fail
        refine K.mono ?_
        rintro e_ w11 ⟨q6, c6, rfl, t11_0, hT, hb⟩
        have H11 : Hid (Tw f B T w w11 ∧ Tl w11 T q2 e1' c2 gs ∧ Tl w11 T q6 e1' c6 gs) := ⟨hT, (H10.out.2.1).but hb, t11_0⟩
        clear K hT hb t11_0 H10 hMo
        have K := xpsame f B T w q6 q2 e1' c6 e1' c2 gs gs true ⟨fun _ => rfl, fun _ => rfl⟩ (w11) H11.out.1 H11.out.2.2 H11.out.2.1
        go_wp2_with fail
        refine K.mono ?_
        rintro e_ w12 ⟨rfl, hT, hb⟩
        have H12 : Hid (Tw f B T w w12 ∧ Tl w12 T q2 e1' c2 gs ∧ Tl w12 T q6 e1' c6 gs) := ⟨hT, (H11.out.2.1).but hb, (H11.out.2.2).but hb⟩
        clear K hT hb  H11
        have HZ : Hid (Below w.heap.size w w12) := (H12.out.1).but.below (Nat.le_refl _) (by rintro k rfl; exact HT.out)
        clear H12
        go_wp2
        go_ret
        exact ⟨rfl, HZ.out⟩
  · have hbi : (80 : Int) < (n : Int) + (m : Int) := by omega
    have KN := known15_calls w
    clear hs hc hy hd hbig
    go_enter Tryz.func4, Tryz.ntmps4
    go_wp2_with fail
    refine KN.mono ?_
    rintro e_ w1 ⟨rfl, hb⟩
    clear KN
    go_wp2
    go_ret
    exact ⟨rfl, hb⟩
theorem own : ownKnob Tryz.prog.godebug = none := by kernel_rfl
theorem laidOut : laidOutB Tryz.prog = true := by kernel_rfl
set_option maxRecDepth 100000 in
theorem lifted (os : Os) (started : os.Started) (H : Type) (enc : TypeId × Value → H) :
    ReturnsInHanded {} Tryz.checked os 4 .any (Rows.euclidGcdSpec.pre6 enc Tryz.prog Tryz.f4 Rows.euclidGcdRow.domain false) (Rows.euclidGcdSpec.post enc Tryz.prog Tryz.f4 false true false false) := by
  refine returnsInHanded_of_change_sized (C := Tryz.checked) own started (by kernel_rfl) Tryz.func4
    (ChangeSpec.witness6 (enc := enc) (C := Tryz.checked) false ⟨#[], #[.int .u8 0, .slice none 0 0, .slice none 0 0], []⟩ 8 (by kernel_rfl) (by kernel_rfl) (by kernel_rfl) (by kernel_rfl)) ?_
  intro W base args ds gs before hval0 hW _ hz _
  have hval : ∀ (j : Nat) t v, Tryz.f4.params[j]? = some t → args[j]? = some v → Value.okWide Tryz.prog W .any base t v := hval0
  have hW' := hW
  obtain ⟨p, q, hA0, hV, rfl, _, _⟩ := hW
  have hA : DataW.TrodAll enc Tryz.prog W 0 (fun _ => true) true Tryz.f4.params.toList args.toList ds p := hA0
  rw [Tryz.params4] at hA hval
  obtain ⟨v0, vs0, d0, ds0, p0, q0, hargs, rfl, rfl, h0, r0⟩ := trodAll_cons hA
  obtain ⟨v1, vs1, d1, ds1, p1, q1, rfl, rfl, rfl, h1, r1⟩ := trodAll_cons r0
  obtain ⟨v2, vs2, d2, ds2, p2, q2, rfl, rfl, rfl, h2, r2⟩ := trodAll_cons r1
  obtain ⟨rfl, rfl, rfl⟩ := trodAll_nil r2
  obtain rfl : args = #[v0, v1, v2] := by cases args; simp_all
  obtain ⟨rfl, rfl⟩ := trodVars_none hV
  obtain ⟨a0, rfl, rfl, rfl, w0⟩ := open_int Tryz.underlying5 (hval 0 5 v0 rfl rfl) h0
  obtain ⟨n0, b0, rfl⟩ := nat_of_u8 w0
  have k1 := h1
  obtain ⟨q1, n1, c1, xs1, rfl, w1, m1⟩ := open_bytes_sz Tryz.underlying22 Tryz.underlying5 (by kernel_rfl) (hval 1 22 v1 rfl rfl) h1
  have y1 : n1 ≤ c1 ∧ c1 ≤ 140737488351232 := ⟨m1.1, m1.2 _ fun el sp hd => by have := sized_slice (j := 1) (t := 22) (e := 5) (elems := el) (spare := sp) hz (by kernel_rfl) (by first | (rw [← hd]; done) | (rw [← hd]; rfl)) Tryz.underlying22; have hbe : Tryz.checked.prog.bytesOf 5 = 1 := (by kernel_rfl); have hre : reachBytes = 140737488351232 := rfl; rw [hbe, hre] at this; omega⟩
  have k2 := h2
  obtain ⟨q2, n2, c2, xs2, rfl, w2, m2⟩ := open_bytes_sz Tryz.underlying22 Tryz.underlying5 (by kernel_rfl) (hval 2 22 v2 rfl rfl) h2
  have y2 : n2 ≤ c2 ∧ c2 ≤ 140737488351232 := ⟨m2.1, m2.2 _ fun el sp hd => by have := sized_slice (j := 2) (t := 22) (e := 5) (elems := el) (spare := sp) hz (by kernel_rfl) (by first | (rw [← hd]; done) | (rw [← hd]; rfl)) Tryz.underlying22; have hbe : Tryz.checked.prog.bytesOf 5 = 1 := (by kernel_rfl); have hre : reachBytes = 140737488351232 := rfl; rw [hbe, hre] at this; omega⟩
  clear hA0 hval0
  simp only [List.append_nil] at hW'
  refine (walk (w := W) n0 q1 n1 c1 xs1 q2 n2 c2 xs2 b0 w1 y1 w2 y2).mono fun e W' ⟨he, bel⟩ => ?_
  subst he
  exact ⟨_, rfl, _, _, _, [], _, [], hW', trodAll_mk1 (shut_bool Tryz.underlying4 _), (trodAll_cons_mk (shut_int Tryz.underlying5 w0) (trodAll_cons_mk (shut_same laidOut (by kernel_rfl) (of_decide_eq_true (by kernel_rfl)) k1 bel) (trodAll_cons_mk (shut_same laidOut (by kernel_rfl) (of_decide_eq_true (by kernel_rfl)) k2 bel) trodAll_mk0))), rfl, bel.frame _, fun h => by cases h⟩
theorem over : Rows.euclidGcdRow.holds Tryz.pinned (OpenSpec.ofChange Rows.euclidGcdSpec) :=
  OpenClaim.holds_of_wide 4 Tryz.f4 rfl rfl rfl rfl rfl rfl rfl ⟨rfl, rfl, rfl, rfl, rfl⟩ rfl rfl rfl rfl rfl (by kernel_rfl) Tryz.func4 (by kernel_rfl)
    (of_decide_eq_true (by kernel_rfl)) (by unfold Func.isWrapper; first | (rw [if_pos (by decide +kernel)]; kernel_rfl) | (rw [if_neg (by decide +kernel)]; exact ⟨rfl, rfl⟩))
    (fun os started H enc _ => lifted os started H enc)
theorem proved : Rows.EuclidGcdSaid := over
#print axioms proved
end Go.Proofs.YthnlcdfonbnjcaaGreat.euclidGcd
