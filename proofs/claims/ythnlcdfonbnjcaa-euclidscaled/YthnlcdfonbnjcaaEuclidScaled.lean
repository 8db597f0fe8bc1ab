/- EuclidScaled holds for every input: scaled, both what is left and by what it is a multiple are scaled; steps are as many; a nil field tells nothing. No conditions. -/
import Derived.Test.YthnlcdfonbnjcaaRows
import Derived.Test.YthnlcdfonbnjcaaMB
import Derived.Test.YthnlcdfonbnjcaaQW
namespace Go.Proofs.Ythnlcdfonbnjcaa.euclidScaled
open Go.ChangeShapes Go.WideShapes Go.ChangeAt Go.RowKit
open Pol (IsN Dg ofL Byt)
open Eu (IsRun IsKey)

set_option maxRecDepth 100000 in
set_option maxHeartbeats 8000000 in
theorem walk (j : Nat) (q : Option Addr) (n c : Nat) (xs : List Nat) (p : Option Addr) (m d : Nat) (ys : List Nat) (e g : Nat) (w : World) (_hj : j < 256) (hs : Bs w q n xs) (hc : n ≤ c ∧ c ≤ 140737488351232) (hy : Bs w p m ys) (hd : m ≤ d ∧ d ≤ 140737488351232) (_he : e < 256) (hg : g < 256) :
    Calls Try.prog 5 #[.int .u8 j, .slice q n c, .slice p m d, .int .u8 e, .int .u8 g] w fun e w' => e = .returned (.bool true) ∧ Below w.heap.size w w' := by
  have hwnm : IntKind.i64.wrap ((n : Int) + (m : Int)) = (n : Int) + (m : Int) := by rw [IntKind.wrap_i64]; omega
  by_cases hbig : n + m ≤ 100
  · have hbi : ¬ (100 : Int) < (n : Int) + (m : Int) := by omega
    by_cases hg0 : g = 0
    · subst hg0
      have KN := known15_calls w
      clear hs hc hy hd hbig _he hg
      go_enter Try.func5, Try.ntmps5
      go_wp2_with fail
      refine KN.mono ?_
      rintro e_ w1 ⟨rfl, hb⟩
      clear KN
      go_wp2
      go_ret
      exact ⟨rfl, hb⟩
    · have hg0i : ¬ (g : Int) = 0 := by omega
      obtain ⟨f, hfe⟩ : ∃ f : Nat, 1 + j % 3 = f := ⟨_, rfl⟩
      have hf1 : 1 ≤ f := by omega
      have hf3 : f ≤ 3 := by omega
      have hfi : (1 : Int) + (j : Int) % 3 = (f : Int) := by omega
      have K0 := fof_calls f hf1 hf3 w
      obtain ⟨k, hk⟩ : ∃ k, e % 30 = k := ⟨_, rfl⟩
      have hki : (e : Int) % 30 = (k : Int) := by omega
      have hx0 : GF.of g ≠ 0 := fun e0 => by
        have h2 := GF.of_val g hg
        rw [e0] at h2
        exact hg0 h2.symm
      have e1 := hs.len
      have e2 := hy.len
      obtain ⟨za, hza, hzal⟩ := Pol.isN_smul (GF.of g) xs
      obtain ⟨zb, hzb, hzbl⟩ := Pol.isN_smul (GF.of g) ys
      obtain ⟨ss, vs, N, hR⟩ := Eu.isRun_exists k xs ys
      obtain ⟨ts, us, N2, hR2⟩ := Eu.isRun_exists k za zb
      obtain ⟨rfl, hts, rfl⟩ := hR.scale hx0 hza.eq hzb.eq hR2
      obtain ⟨zs, hzs, hzsl⟩ := Pol.isN_smul (GF.of g) ss
      have hsh := hR.short
      obtain ⟨a1, l1⟩ : ∃ a, ss.length = a := ⟨_, rfl⟩
      obtain ⟨a2, l2⟩ : ∃ a, vs.length = a := ⟨_, rfl⟩
      obtain ⟨a3, l3⟩ : ∃ a, za.length = a := ⟨_, rfl⟩
      obtain ⟨a4, l4⟩ : ∃ a, zb.length = a := ⟨_, rfl⟩
      obtain ⟨a5, l5⟩ : ∃ a, ts.length = a := ⟨_, rfl⟩
      obtain ⟨a6, l6⟩ : ∃ a, zs.length = a := ⟨_, rfl⟩
      have HX : Hid (Bs w q n xs ∧ n ≤ c ∧ Bs w p m ys ∧ m ≤ d ∧ n ≤ 120 ∧ m ≤ 120 ∧ IsRun xs ys k ss vs N ∧ IsRun za zb k ts vs N ∧ ofL ts = Pol.smul (GF.of g) (ofL ss) ∧ IsN za (Pol.smul (GF.of g) (ofL xs)) ∧ IsN zb (Pol.smul (GF.of g) (ofL ys)) ∧ IsN zs (Pol.smul (GF.of g) (ofL ss)) ∧ ss.length = a1 ∧ vs.length = a2 ∧ za.length = a3 ∧ zb.length = a4 ∧ ts.length = a5 ∧ zs.length = a6 ∧ a3 ≤ 120 ∧ a4 ≤ 120 ∧ a1 ≤ 1000 ∧ g < 256) := ⟨hs, hc.1, hy, hd.1, by omega, by omega, hR, hR2, hts, hza, hzb, hzs, l1, l2, l3, l4, l5, l6, by omega, by omega, by omega, hg⟩
      clear hs hc hy hd hbig hf1 hf3 hfe hk _he hg hg0 hx0 e1 e2 hza hzal hzb hzbl hR hR2 hts hzs hzsl hsh l1 l2 l3 l4 l5 l6
      go_enter Try.func5, Try.ntmps5
      go_wp2_with fail
      refine K0.mono ?_
      rintro e_ w1 ⟨B, T, rfl, hF, hb, hlB, hlT⟩
      have HT : Hid (w.heap.size ≤ T) := hlT
      have H1 : Hid (Tw f B T w w1 ∧ Tl w1 T q n c xs ∧ Tl w1 T p m d ys) := ⟨⟨hF, But.of_below hb⟩, ⟨(HX.out.1).below hb, HX.out.2.1, (HX.out.1).off hlT⟩, ⟨(HX.out.2.2.1).below hb, HX.out.2.2.2.1, (HX.out.2.2.1).off hlT⟩⟩
      clear K0 hF hb hlB hlT
      clear hwnm hbi hfi
      have K := xrun f B T w n c m d k N a1 a2 q p (k : Int) xs ys ss vs (if_neg (by omega)) HX.out.2.2.2.2.2.2.1 HX.out.2.2.2.2.2.2.2.2.2.2.2.2.1 HX.out.2.2.2.2.2.2.2.2.2.2.2.2.2.1 (by have := HX.out; omega) (by have := HX.out; omega) (w1) H1.out.1 H1.out.2.1 H1.out.2.2
      go_wp2_with fail
      refine K.mono ?_
      rintro e_ w2 ⟨q2, c2, q3, c3, rfl, t2_0, t2_1, hT, hb⟩
      have H2 : Hid (Tw f B T w w2 ∧ Tl w2 T q n c xs ∧ Tl w2 T p m d ys ∧ Tl w2 T q2 a1 c2 ss ∧ Tl w2 T q3 a2 c3 vs) := ⟨hT, (H1.out.2.1).but hb, (H1.out.2.2).but hb, t2_0, t2_1⟩
      clear K hT hb t2_0 t2_1 H1 hki
      have K := xscale f B T w g n c a3 q xs za HX.out.2.2.2.2.2.2.2.2.2.2.2.2.2.2.2.2.2.2.2.2.2 HX.out.2.2.2.2.2.2.2.2.2.1 HX.out.2.2.2.2.2.2.2.2.2.2.2.2.2.2.1 (by have := HX.out; omega) (w2) H2.out.1 H2.out.2.1
      go_wp2_with fail
      refine K.mono ?_
      rintro e_ w3 ⟨q4, c4, rfl, t3_0, hT, hb⟩
      have H3 : Hid (Tw f B T w w3 ∧ Tl w3 T q n c xs ∧ Tl w3 T p m d ys ∧ Tl w3 T q2 a1 c2 ss ∧ Tl w3 T q3 a2 c3 vs ∧ Tl w3 T q4 a3 c4 za) := ⟨hT, (H2.out.2.1).but hb, (H2.out.2.2.1).but hb, (H2.out.2.2.2.1).but hb, (H2.out.2.2.2.2).but hb, t3_0⟩
      clear K hT hb t3_0 H2
      have K := xscale f B T w g m d a4 p ys zb HX.out.2.2.2.2.2.2.2.2.2.2.2.2.2.2.2.2.2.2.2.2.2 HX.out.2.2.2.2.2.2.2.2.2.2.1 HX.out.2.2.2.2.2.2.2.2.2.2.2.2.2.2.2.1 (by have := HX.out; omega) (w3) H3.out.1 H3.out.2.2.1
      go_wp2_with fail
      refine K.mono ?_
      rintro e_ w4 ⟨q5, c5, rfl, t4_0, hT, hb⟩
      have H4 : Hid (Tw f B T w w4 ∧ Tl w4 T q n c xs ∧ Tl w4 T p m d ys ∧ Tl w4 T q2 a1 c2 ss ∧ Tl w4 T q3 a2 c3 vs ∧ Tl w4 T q4 a3 c4 za ∧ Tl w4 T q5 a4 c5 zb) := ⟨hT, (H3.out.2.1).but hb, (H3.out.2.2.1).but hb, (H3.out.2.2.2.1).but hb, (H3.out.2.2.2.2.1).but hb, (H3.out.2.2.2.2.2).but hb, t4_0⟩
      clear K hT hb t4_0 H3
      have K := xrun f B T w a3 c4 a4 c5 k N a5 a2 q4 q5 (k : Int) za zb ts vs (if_neg (by omega)) HX.out.2.2.2.2.2.2.2.1 HX.out.2.2.2.2.2.2.2.2.2.2.2.2.2.2.2.2.1 HX.out.2.2.2.2.2.2.2.2.2.2.2.2.2.1 (by have := HX.out; omega) (by have := HX.out; omega) (w4) H4.out.1 H4.out.2.2.2.2.2.1 H4.out.2.2.2.2.2.2
      go_wp2_with fail
      refine K.mono ?_
      rintro e_ w5 ⟨q6, c6, q7, c7, rfl, t5_0, t5_1, hT, hb⟩
      have H5 : Hid (Tw f B T w w5 ∧ Tl w5 T q n c xs ∧ Tl w5 T p m d ys ∧ Tl w5 T q2 a1 c2 ss ∧ Tl w5 T q3 a2 c3 vs ∧ Tl w5 T q6 a5 c6 ts ∧ Tl w5 T q7 a2 c7 vs) := ⟨hT, (H4.out.2.1).but hb, (H4.out.2.2.1).but hb, (H4.out.2.2.2.1).but hb, (H4.out.2.2.2.2.1).but hb, t5_0, t5_1⟩
      clear K hT hb t5_0 t5_1 H4
      have K := xnone f B T w n c m d q p (k : Int) (w5) H5.out.1
      go_wp2_with fail
      refine K.mono ?_
      rintro e_ w6 ⟨rfl, hT, hb⟩
      have H6 : Hid (Tw f B T w w6 ∧ Tl w6 T q n c xs ∧ Tl w6 T p m d ys ∧ Tl w6 T q2 a1 c2 ss ∧ Tl w6 T q3 a2 c3 vs ∧ Tl w6 T q6 a5 c6 ts ∧ Tl w6 T q7 a2 c7 vs) := ⟨hT, (H5.out.2.1).but hb, (H5.out.2.2.1).but hb, (H5.out.2.2.2.1).but hb, (H5.out.2.2.2.2.1).but hb, (H5.out.2.2.2.2.2.1).but hb, (H5.out.2.2.2.2.2.2).but hb⟩
      clear K hT hb  H5
      have K := xknown f B T w  (w6) H6.out.1
      go_wp2_with fail
      refine K.mono ?_
      rintro e_ w7 ⟨rfl, hT, hb⟩
      have H7 : Hid (Tw f B T w w7 ∧ Tl w7 T q n c xs ∧ Tl w7 T p m d ys ∧ Tl w7 T q2 a1 c2 ss ∧ Tl w7 T q3 a2 c3 vs ∧ Tl w7 T q6 a5 c6 ts ∧ Tl w7 T q7 a2 c7 vs) := ⟨hT, (H6.out.2.1).but hb, (H6.out.2.2.1).but hb, (H6.out.2.2.2.1).but hb, (H6.out.2.2.2.2.1).but hb, (H6.out.2.2.2.2.2.1).but hb, (H6.out.2.2.2.2.2.2).but hb⟩
      clear K hT hb  H6
      have K := xscale f B T w g a1 c2 a6 q2 ss zs HX.out.2.2.2.2.2.2.2.2.2.2.2.2.2.2.2.2.2.2.2.2.2 HX.out.2.2.2.2.2.2.2.2.2.2.2.1 HX.out.2.2.2.2.2.2.2.2.2.2.2.2.2.2.2.2.2.1 (by have := HX.out; omega) (w7) H7.out.1 H7.out.2.2.2.1
      go_wp2_with fail
      refine K.mono ?_
      rintro e_ w8 ⟨q8, c8, rfl, t8_0, hT, hb⟩
      have H8 : Hid (Tw f B T w w8 ∧ Tl w8 T q n c xs ∧ Tl w8 T p m d ys ∧ Tl w8 T q3 a2 c3 vs ∧ Tl w8 T q6 a5 c6 ts ∧ Tl w8 T q7 a2 c7 vs ∧ Tl w8 T q8 a6 c8 zs) := ⟨hT, (H7.out.2.1).but hb, (H7.out.2.2.1).but hb, (H7.out.2.2.2.2.1).but hb, (H7.out.2.2.2.2.2.1).but hb, (H7.out.2.2.2.2.2.2).but hb, t8_0⟩
      clear K hT hb t8_0 H7
      have K := xpsame f B T w q6 q8 a5 c6 a6 c8 ts zs true ⟨fun _ => (HX.out.2.2.2.2.2.2.2.2.1).trans (HX.out.2.2.2.2.2.2.2.2.2.2.2.1).eq.symm, fun _ => rfl⟩ (w8) H8.out.1 H8.out.2.2.2.2.1 H8.out.2.2.2.2.2.2
      go_wp2_with fail
      refine K.mono ?_
      rintro e_ w9 ⟨rfl, hT, hb⟩
      have H9 : Hid (Tw f B T w w9 ∧ Tl w9 T q n c xs ∧ Tl w9 T p m d ys ∧ Tl w9 T q3 a2 c3 vs ∧ Tl w9 T q7 a2 c7 vs) := ⟨hT, (H8.out.2.1).but hb, (H8.out.2.2.1).but hb, (H8.out.2.2.2.1).but hb, (H8.out.2.2.2.2.2.1).but hb⟩
      clear K hT hb  H8
      have K := xsame f B T w q3 q7 a2 a2 c3 c7 vs vs true ⟨fun _ => rfl, fun _ => rfl⟩ (w9) H9.out.1 H9.out.2.2.2.1 H9.out.2.2.2.2
      go_wp2_with fail
      refine K.mono ?_
      rintro e_ w10 ⟨rfl, hT, hb⟩
      have H10 : Hid (Tw f B T w w10 ∧ Tl w10 T q n c xs ∧ Tl w10 T p m d ys) := ⟨hT, (H9.out.2.1).but hb, (H9.out.2.2.1).but hb⟩
      clear K hT hb  H9
      have K := xstep f B T w n c m d k N q p (k : Int) xs ys ss vs (if_neg (by omega)) HX.out.2.2.2.2.2.2.1 (by have := HX.out; omega) (by have := HX.out; omega) (w10) H10.out.1 H10.out.2.1 H10.out.2.2
      go_wp2_with fail
      refine K.mono ?_
      rintro e_ w11 ⟨rfl, hT, hb⟩
      have H11 : Hid (Tw f B T w w11 ∧ Tl w11 T q n c xs ∧ Tl w11 T p m d ys) := ⟨hT, (H10.out.2.1).but hb, (H10.out.2.2).but hb⟩
      clear K hT hb  H10
      have K := xscale f B T w g n c a3 q xs za HX.out.2.2.2.2.2.2.2.2.2.2.2.2.2.2.2.2.2.2.2.2.2 HX.out.2.2.2.2.2.2.2.2.2.1 HX.out.2.2.2.2.2.2.2.2.2.2.2.2.2.2.1 (by have := HX.out; omega) (w11) H11.out.1 H11.out.2.1
      go_wp2_with fail
      refine K.mono ?_
      rintro e_ w12 ⟨q9, c9, rfl, t12_0, hT, hb⟩
      have H12 : Hid (Tw f B T w w12 ∧ Tl w12 T p m d ys ∧ Tl w12 T q9 a3 c9 za) := ⟨hT, (H11.out.2.2).but hb, t12_0⟩
      clear K hT hb t12_0 H11
      have K := xscale f B T w g m d a4 p ys zb HX.out.2.2.2.2.2.2.2.2.2.2.2.2.2.2.2.2.2.2.2.2.2 HX.out.2.2.2.2.2.2.2.2.2.2.1 HX.out.2.2.2.2.2.2.2.2.2.2.2.2.2.2.2.1 (by have := HX.out; omega) (w12) H12.out.1 H12.out.2.1
      go_wp2_with fail
      refine K.mono ?_
      rintro e_ w13 ⟨p1, d1, rfl, t13_0, hT, hb⟩
      have H13 : Hid (Tw f B T w w13 ∧ Tl w13 T q9 a3 c9 za ∧ Tl w13 T p1 a4 d1 zb) := ⟨hT, (H12.out.2.2).but hb, t13_0⟩
      clear K hT hb t13_0 H12
      have K := xstep f B T w a3 c9 a4 d1 k N q9 p1 (k : Int) za zb ts vs (if_neg (by omega)) HX.out.2.2.2.2.2.2.2.1 (by have := HX.out; omega) (by have := HX.out; omega) (w13) H13.out.1 H13.out.2.1 H13.out.2.2
      go_wp2_with fail
      refine K.mono ?_
      rintro e_ w14 ⟨rfl, hT, hb⟩
      have H14 : Hid (Tw f B T w w14) := hT
      clear K hT hb  H13
      have HZ : Hid (Below w.heap.size w w14) := (H14.out).but.below (Nat.le_refl _) (by rintro k rfl; exact HT.out)
      clear H14
      go_wp2
      go_ret
      exact ⟨rfl, HZ.out⟩
  · have hbi : (100 : Int) < (n : Int) + (m : Int) := by omega
    have KN := known15_calls w
    clear hs hc hy hd hbig _he hg
    go_enter Try.func5, Try.ntmps5
    go_wp2_with fail
    refine KN.mono ?_
    rintro e_ w1 ⟨rfl, hb⟩
    clear KN
    go_wp2
    go_ret
    exact ⟨rfl, hb⟩
theorem own : ownKnob Try.prog.godebug = none := by kernel_rfl
theorem laidOut : laidOutB Try.prog = true := by kernel_rfl
set_option maxRecDepth 100000 in
theorem lifted (os : Os) (started : os.Started) (H : Type) (enc : TypeId × Value → H) :
    ReturnsInHanded {} Try.checked os 5 .any (Rows.euclidScaledSpec.pre6 enc Try.prog Try.f5 Rows.euclidScaledRow.domain false) (Rows.euclidScaledSpec.post enc Try.prog Try.f5 false true false false) := by
  refine returnsInHanded_of_change_sized (C := Try.checked) own started (by kernel_rfl) Try.func5
    (ChangeSpec.witness6 (enc := enc) (C := Try.checked) false ⟨#[], #[.int .u8 0, .slice none 0 0, .slice none 0 0, .int .u8 0, .int .u8 0], []⟩ 8 (by kernel_rfl) (by kernel_rfl) (by kernel_rfl) (by kernel_rfl)) ?_
  intro W base args ds gs before hval0 hW _ hz _
  have hval : ∀ (j : Nat) t v, Try.f5.params[j]? = some t → args[j]? = some v → Value.okWide Try.prog W .any base t v := hval0
  have hW' := hW
  obtain ⟨p, q, hA0, hV, rfl, _, _⟩ := hW
  have hA : DataW.TrodAll enc Try.prog W 0 (fun _ => true) true Try.f5.params.toList args.toList ds p := hA0
  rw [Try.params5] at hA hval
  obtain ⟨v0, vs0, d0, ds0, p0, q0, hargs, rfl, rfl, h0, r0⟩ := trodAll_cons hA
  obtain ⟨v1, vs1, d1, ds1, p1, q1, rfl, rfl, rfl, h1, r1⟩ := trodAll_cons r0
  obtain ⟨v2, vs2, d2, ds2, p2, q2, rfl, rfl, rfl, h2, r2⟩ := trodAll_cons r1
  obtain ⟨v3, vs3, d3, ds3, p3, q3, rfl, rfl, rfl, h3, r3⟩ := trodAll_cons r2
  obtain ⟨v4, vs4, d4, ds4, p4, q4, rfl, rfl, rfl, h4, r4⟩ := trodAll_cons r3
  obtain ⟨rfl, rfl, rfl⟩ := trodAll_nil r4
  obtain rfl : args = #[v0, v1, v2, v3, v4] := by cases args; simp_all
  obtain ⟨rfl, rfl⟩ := trodVars_none hV
  obtain ⟨a0, rfl, rfl, rfl, w0⟩ := open_int Try.underlying5 (hval 0 5 v0 rfl rfl) h0
  obtain ⟨n0, b0, rfl⟩ := nat_of_u8 w0
  have k1 := h1
  obtain ⟨q1, n1, c1, xs1, rfl, w1, m1⟩ := open_bytes_sz Try.underlying22 Try.underlying5 (by kernel_rfl) (hval 1 22 v1 rfl rfl) h1
  have y1 : n1 ≤ c1 ∧ c1 ≤ 140737488351232 := ⟨m1.1, m1.2 _ fun el sp hd => by have := sized_slice (j := 1) (t := 22) (e := 5) (elems := el) (spare := sp) hz (by kernel_rfl) (by first | (rw [← hd]; done) | (rw [← hd]; rfl)) Try.underlying22; have hbe : Try.checked.prog.bytesOf 5 = 1 := (by kernel_rfl); have hre : reachBytes = 140737488351232 := rfl; rw [hbe, hre] at this; omega⟩
  have k2 := h2
  obtain ⟨q2, n2, c2, xs2, rfl, w2, m2⟩ := open_bytes_sz Try.underlying22 Try.underlying5 (by kernel_rfl) (hval 2 22 v2 rfl rfl) h2
  have y2 : n2 ≤ c2 ∧ c2 ≤ 140737488351232 := ⟨m2.1, m2.2 _ fun el sp hd => by have := sized_slice (j := 2) (t := 22) (e := 5) (elems := el) (spare := sp) hz (by kernel_rfl) (by first | (rw [← hd]; done) | (rw [← hd]; rfl)) Try.underlying22; have hbe : Try.checked.prog.bytesOf 5 = 1 := (by kernel_rfl); have hre : reachBytes = 140737488351232 := rfl; rw [hbe, hre] at this; omega⟩
  obtain ⟨a3, rfl, rfl, rfl, w3⟩ := open_int Try.underlying5 (hval 3 5 v3 rfl rfl) h3
  obtain ⟨n3, b3, rfl⟩ := nat_of_u8 w3
  obtain ⟨a4, rfl, rfl, rfl, w4⟩ := open_int Try.underlying5 (hval 4 5 v4 rfl rfl) h4
  obtain ⟨n4, b4, rfl⟩ := nat_of_u8 w4
  clear hA0 hval0
  simp only [List.append_nil] at hW'
  refine (walk (w := W) n0 q1 n1 c1 xs1 q2 n2 c2 xs2 n3 n4 b0 w1 y1 w2 y2 b3 b4).mono fun e W' ⟨he, bel⟩ => ?_
  subst he
  exact ⟨_, rfl, _, _, _, [], _, [], hW', trodAll_mk1 (shut_bool Try.underlying4 _), (trodAll_cons_mk (shut_int Try.underlying5 w0) (trodAll_cons_mk (shut_same laidOut (by kernel_rfl) (of_decide_eq_true (by kernel_rfl)) k1 bel) (trodAll_cons_mk (shut_same laidOut (by kernel_rfl) (of_decide_eq_true (by kernel_rfl)) k2 bel) (trodAll_cons_mk (shut_int Try.underlying5 w3) (trodAll_cons_mk (shut_int Try.underlying5 w4) trodAll_mk0))))), rfl, bel.frame _, fun h => by cases h⟩
theorem over : Rows.euclidScaledRow.holds Try.pinned (OpenSpec.ofChange Rows.euclidScaledSpec) :=
  OpenClaim.holds_of_wide 5 Try.f5 rfl rfl rfl rfl rfl rfl rfl ⟨rfl, rfl, rfl, rfl, rfl⟩ rfl rfl rfl rfl rfl (by kernel_rfl) Try.func5 (by kernel_rfl)
    (of_decide_eq_true (by kernel_rfl)) (by unfold Func.isWrapper; first | (rw [if_pos (by decide +kernel)]; kernel_rfl) | (rw [if_neg (by decide +kernel)]; exact ⟨rfl, rfl⟩))
    (fun os started H enc _ => lifted os started H enc)
theorem proved : Rows.EuclidScaledSaid := over
#print axioms proved
end Go.Proofs.Ythnlcdfonbnjcaa.euclidScaled
