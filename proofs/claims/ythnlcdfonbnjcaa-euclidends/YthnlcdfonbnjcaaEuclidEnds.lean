/- EuclidEnds holds for every input: till nothing is left there are no more steps than the second one's degree and two; with a greater stop there are no more; what is short already is told. No conditions. -/
import Derived.Test.YthnlcdfonbnjcaaRows
import Derived.Test.YthnlcdfonbnjcaaMB
import Derived.Test.YthnlcdfonbnjcaaQW
namespace Go.Proofs.Ythnlcdfonbnjcaa.euclidEnds
open Go.ChangeShapes Go.WideShapes Go.ChangeAt Go.RowKit
open Pol (IsN Dg ofL Byt)
open Eu (IsRun IsKey)

set_option maxRecDepth 100000 in
set_option maxHeartbeats 8000000 in
theorem walk (j : Nat) (q : Option Addr) (n c : Nat) (xs : List Nat) (p : Option Addr) (m d : Nat) (ys : List Nat) (e g : Nat) (w : World) (_hj : j < 256) (hs : Bs w q n xs) (hc : n ≤ c ∧ c ≤ 140737488351232) (hy : Bs w p m ys) (hd : m ≤ d ∧ d ≤ 140737488351232) (_he : e < 256) (_hg : g < 256) :
    Calls Try.prog 4 #[.int .u8 j, .slice q n c, .slice p m d, .int .u8 e, .int .u8 g] w fun e w' => e = .returned (.bool true) ∧ Below w.heap.size w w' := by
  have hwnm : IntKind.i64.wrap ((n : Int) + (m : Int)) = (n : Int) + (m : Int) := by rw [IntKind.wrap_i64]; omega
  by_cases hbig : n + m ≤ 120
  · have hbi : ¬ (120 : Int) < (n : Int) + (m : Int) := by omega
    obtain ⟨f, hfe⟩ : ∃ f : Nat, 1 + j % 3 = f := ⟨_, rfl⟩
    have hf1 : 1 ≤ f := by omega
    have hf3 : f ≤ 3 := by omega
    have hfi : (1 : Int) + (j : Int) % 3 = (f : Int) := by omega
    have K0 := fof_calls f hf1 hf3 w
    obtain ⟨k, hk⟩ : ∃ k, e % 40 = k := ⟨_, rfl⟩
    have hki : (e : Int) % 40 = (k : Int) := by omega
    obtain ⟨r9, hr9⟩ : ∃ r, g % 9 = r := ⟨_, rfl⟩
    have hri : (g : Int) % 9 = (r9 : Int) := by omega
    obtain ⟨k2, hk2⟩ : ∃ k2, k + r9 = k2 := ⟨_, rfl⟩
    have hk2i : (k : Int) + (r9 : Int) = (k2 : Int) := by omega
    have hwk := wrap_nat k2 (by omega)
    obtain ⟨db, hdb, hdg⟩ := Pol.dg_list ys
    have e2 := hy.len
    obtain ⟨s1, v1, N1, hR1⟩ := Eu.isRun_exists k xs ys
    obtain ⟨s2, v2, N2, hR2⟩ := Eu.isRun_exists k2 xs ys
    obtain ⟨s3, v3, N3, hR3⟩ := Eu.isRun_exists 0 xs ys
    obtain ⟨ss, vs, N, hR⟩ := Eu.isRun_exists db xs ys
    obtain ⟨rfl, hss, rfl⟩ := hR.at_once hdg (Nat.le_refl _)
    obtain ⟨a1, l1⟩ : ∃ a, ss.length = a := ⟨_, rfl⟩
    have hn12 : (N2 : Int) ≤ (N1 : Int) := by have := hR1.stop (by omega) hR2; omega
    have hn13 : (N1 : Int) ≤ (N3 : Int) := by have := hR3.stop (by omega) hR1; omega
    have hcn := hR3.count hdg
    obtain ⟨M, hM⟩ : ∃ M, db - 1 = M := ⟨_, rfl⟩
    obtain ⟨M2, hM2⟩ : ∃ M2, M + 2 = M2 := ⟨_, rfl⟩
    have hM2i : (M : Int) + 2 = (M2 : Int) := by omega
    have hn3 : (N3 : Int) ≤ (M2 : Int) := by omega
    have hwM := wrap_nat M2 (by omega)
    obtain ⟨r, hr⟩ : ∃ r : Int, (db : Int) - 1 = r := ⟨_, rfl⟩
    have hr1 : r + 1 = (db : Int) := by omega
    have hwd := wrap_nat db (by omega)
    have hmx : (if r < 0 then 0 else r) = (M : Int) := by split <;> omega
    have HX : Hid (Bs w q n xs ∧ n ≤ c ∧ Bs w p m ys ∧ m ≤ d ∧ n ≤ 120 ∧ m ≤ 120 ∧ IsRun xs ys k s1 v1 N1 ∧ IsRun xs ys k2 s2 v2 N2 ∧ IsRun xs ys 0 s3 v3 N3 ∧ IsRun xs ys db ss [1] 0 ∧ ss.length = a1 ∧ Dg db (ofL ys) ∧ ofL ss = ofL ys ∧ (db : Int) - 1 = r) := ⟨hs, hc.1, hy, hd.1, by omega, by omega, hR1, hR2, hR3, hR, l1, hdg, hss, hr⟩
    clear hs hc hy hd hbig hf1 hf3 hfe hk hr9 hk2 hdb hdg e2 hR1 hR2 hR3 hR hss l1 hcn hM hM2 hr _he _hg
    go_enter Try.func4, Try.ntmps4
    go_wp2_with fail
    refine K0.mono ?_
    rintro e_ w1 ⟨B, T, rfl, hF, hb, hlB, hlT⟩
    have HT : Hid (w.heap.size ≤ T) := hlT
    have H1 : Hid (Tw f B T w w1 ∧ Tl w1 T q n c xs ∧ Tl w1 T p m d ys) := ⟨⟨hF, But.of_below hb⟩, ⟨(HX.out.1).below hb, HX.out.2.1, (HX.out.1).off hlT⟩, ⟨(HX.out.2.2.1).below hb, HX.out.2.2.2.1, (HX.out.2.2.1).off hlT⟩⟩
    clear K0 hF hb hlB hlT
    clear hwnm hbi hfi
    have K := xstep f B T w n c m d k N1 q p (k : Int) xs ys s1 v1 (if_neg (by omega)) HX.out.2.2.2.2.2.2.1 (by have := HX.out; omega) (by have := HX.out; omega) (w1) H1.out.1 H1.out.2.1 H1.out.2.2
    go_wp2_with fail
    refine K.mono ?_
    rintro e_ w2 ⟨rfl, hT, hb⟩
    have H2 : Hid (Tw f B T w w2 ∧ Tl w2 T q n c xs ∧ Tl w2 T p m d ys) := ⟨hT, (H1.out.2.1).but hb, (H1.out.2.2).but hb⟩
    clear K hT hb  H1 hki
    have K := xstep f B T w n c m d k2 N2 q p (k2 : Int) xs ys s2 v2 (if_neg (by omega)) HX.out.2.2.2.2.2.2.2.1 (by have := HX.out; omega) (by have := HX.out; omega) (w2) H2.out.1 H2.out.2.1 H2.out.2.2
    go_wp2_with fail
    refine K.mono ?_
    rintro e_ w3 ⟨rfl, hT, hb⟩
    have H3 : Hid (Tw f B T w w3 ∧ Tl w3 T q n c xs ∧ Tl w3 T p m d ys) := ⟨hT, (H2.out.2.1).but hb, (H2.out.2.2).but hb⟩
    clear K hT hb  H2 hri hk2i hwk
    have K := xstep f B T w n c m d 0 N3 q p 0 xs ys s3 v3 rfl HX.out.2.2.2.2.2.2.2.2.1 (by have := HX.out; omega) (by have := HX.out; omega) (w3) H3.out.1 H3.out.2.1 H3.out.2.2
    go_wp2_with fail
    refine K.mono ?_
    rintro e_ w4 ⟨rfl, hT, hb⟩
    have H4 : Hid (Tw f B T w w4 ∧ Tl w4 T q n c xs ∧ Tl w4 T p m d ys) := ⟨hT, (H3.out.2.1).but hb, (H3.out.2.2).but hb⟩
    clear K hT hb  H3
    have K := xdeg f B T w p m d db ys r HX.out.2.2.2.2.2.2.2.2.2.2.2.1 HX.out.2.2.2.2.2.2.2.2.2.2.2.2.2 (w4) H4.out.1 H4.out.2.2
    go_wp2_with fail
    refine K.mono ?_
    rintro e_ w5 ⟨rfl, hT, hb⟩
    have H5 : Hid (Tw f B T w w5 ∧ Tl w5 T q n c xs ∧ Tl w5 T p m d ys) := ⟨hT, (H4.out.2.1).but hb, (H4.out.2.2).but hb⟩
    clear K hT hb  H4
    have K := xrun f B T w n c m d db 0 a1 1 q p (db : Int) xs ys ss [1] (if_neg (by omega)) HX.out.2.2.2.2.2.2.2.2.2.1 HX.out.2.2.2.2.2.2.2.2.2.2.1 rfl (by have := HX.out; omega) (by have := HX.out; omega) (w5) H5.out.1 H5.out.2.1 H5.out.2.2
    go_wp2_with fail
    refine K.mono ?_
    rintro e_ w6 ⟨q2, c2, q3, c3, rfl, t6_0, t6_1, hT, hb⟩
    have H6 : Hid (Tw f B T w w6 ∧ Tl w6 T q n c xs ∧ Tl w6 T p m d ys ∧ Tl w6 T q2 a1 c2 ss ∧ Tl w6 T q3 1 c3 [1]) := ⟨hT, (H5.out.2.1).but hb, (H5.out.2.2).but hb, t6_0, t6_1⟩
    clear K hT hb t6_0 t6_1 H5
    have K := xknown f B T w  (w6) H6.out.1
    go_wp2_with fail
    refine K.mono ?_
    rintro e_ w7 ⟨rfl, hT, hb⟩
    have H7 : Hid (Tw f B T w w7 ∧ Tl w7 T q n c xs ∧ Tl w7 T p m d ys ∧ Tl w7 T q2 a1 c2 ss ∧ Tl w7 T q3 1 c3 [1]) := ⟨hT, (H6.out.2.1).but hb, (H6.out.2.2.1).but hb, (H6.out.2.2.2.1).but hb, (H6.out.2.2.2.2).but hb⟩
    clear K hT hb  H6
    have K := xdeg f B T w p m d db ys r HX.out.2.2.2.2.2.2.2.2.2.2.2.1 HX.out.2.2.2.2.2.2.2.2.2.2.2.2.2 (w7) H7.out.1 H7.out.2.2.1
    go_wp2_with fail
    refine K.mono ?_
    rintro e_ w8 ⟨rfl, hT, hb⟩
    have H8 : Hid (Tw f B T w w8 ∧ Tl w8 T q n c xs ∧ Tl w8 T p m d ys ∧ Tl w8 T q2 a1 c2 ss ∧ Tl w8 T q3 1 c3 [1]) := ⟨hT, (H7.out.2.1).but hb, (H7.out.2.2.1).but hb, (H7.out.2.2.2.1).but hb, (H7.out.2.2.2.2).but hb⟩
    clear K hT hb  H7
    have K := xdeg f B T w p m d db ys r HX.out.2.2.2.2.2.2.2.2.2.2.2.1 HX.out.2.2.2.2.2.2.2.2.2.2.2.2.2 (w8) H8.out.1 H8.out.2.2.1
    go_wp2_with fail
    refine K.mono ?_
    rintro e_ w9 ⟨rfl, hT, hb⟩
    have H9 : Hid (Tw f B T w w9 ∧ Tl w9 T q n c xs ∧ Tl w9 T p m d ys ∧ Tl w9 T q2 a1 c2 ss ∧ Tl w9 T q3 1 c3 [1]) := ⟨hT, (H8.out.2.1).but hb, (H8.out.2.2.1).but hb, (H8.out.2.2.2.1).but hb, (H8.out.2.2.2.2).but hb⟩
    clear K hT hb  H8
    have K := xstep f B T w n c m d db 0 q p (db : Int) xs ys ss [1] (if_neg (by omega)) HX.out.2.2.2.2.2.2.2.2.2.1 (by have := HX.out; omega) (by have := HX.out; omega) (w9) H9.out.1 H9.out.2.1 H9.out.2.2.1
    go_wp2_with fail
    refine K.mono ?_
    rintro e_ w10 ⟨rfl, hT, hb⟩
    have H10 : Hid (Tw f B T w w10 ∧ Tl w10 T p m d ys ∧ Tl w10 T q2 a1 c2 ss ∧ Tl w10 T q3 1 c3 [1]) := ⟨hT, (H9.out.2.2.1).but hb, (H9.out.2.2.2.1).but hb, (H9.out.2.2.2.2).but hb⟩
    clear K hT hb  H9
    have K := xpsame f B T w q2 p a1 c2 m d ss ys true ⟨fun _ => HX.out.2.2.2.2.2.2.2.2.2.2.2.2.1, fun _ => rfl⟩ (w10) H10.out.1 H10.out.2.2.1 H10.out.2.1
    go_wp2_with fail
    refine K.mono ?_
    rintro e_ w11 ⟨rfl, hT, hb⟩
    have H11 : Hid (Tw f B T w w11 ∧ Tl w11 T q3 1 c3 [1]) := ⟨hT, (H10.out.2.2.2).but hb⟩
    clear K hT hb  H10
    have H12 : Hid (Tw f B T w (w11.alloc (.cells #[.int .u8 1] 5)) ∧ Tl (w11.alloc (.cells #[.int .u8 1] 5)) T q3 1 c3 [1] ∧ Tl (w11.alloc (.cells #[.int .u8 1] 5)) T (some ⟨w11.heap.size, 0, none⟩) 1 1 [1]) := ⟨(H11.out.1).alloc _, (H11.out.2).alloc _, tl_lt w11 T [1] #[.int .u8 1] _ 1 (H11.out.1).lt rfl rfl rfl (by decide) (by decide)⟩
    clear H11
    have K := xsame f B T w q3 _ 1 1 c3 1 [1] [1] true ⟨fun _ => rfl, fun _ => rfl⟩ (w11.alloc (.cells #[.int .u8 1] 5)) H12.out.1 H12.out.2.1 H12.out.2.2
    go_wp2_with fail
    refine K.mono ?_
    rintro e_ w13 ⟨rfl, hT, hb⟩
    have H13 : Hid (Tw f B T w w13 ∧ Tl w13 T q3 1 c3 [1] ∧ Tl w13 T (some ⟨w11.heap.size, 0, none⟩) 1 1 [1]) := ⟨hT, (H12.out.2.1).but hb, (H12.out.2.2).but hb⟩
    clear K hT hb  H12
    have HZ : Hid (Below w.heap.size w w13) := (H13.out.1).but.below (Nat.le_refl _) (by rintro k rfl; exact HT.out)
    clear H13
    go_wp2
    go_ret
    exact ⟨rfl, HZ.out⟩
  · have hbi : (120 : Int) < (n : Int) + (m : Int) := by omega
    have KN := known15_calls w
    clear hs hc hy hd hbig _he _hg
    go_enter Try.func4, Try.ntmps4
    go_wp2_with fail
    refine KN.mono ?_
    rintro e_ w1 ⟨rfl, hb⟩
    clear KN
    go_wp2
    go_ret
    exact ⟨rfl, hb⟩
theorem own : ownKnob Try.prog.godebug = none := by kernel_rfl
theorem laidOut : laidOutB Try.prog = true := by kernel_rfl
set_option maxRecDepth 100000 in
theorem lifted (os : Os) (started : os.Started) (H : Type) (enc : TypeId × Value → H) :
    ReturnsInHanded {} Try.checked os 4 .any (Rows.euclidEndsSpec.pre6 enc Try.prog Try.f4 Rows.euclidEndsRow.domain false) (Rows.euclidEndsSpec.post enc Try.prog Try.f4 false true false false) := by
  refine returnsInHanded_of_change_sized (C := Try.checked) own started (by kernel_rfl) Try.func4
    (ChangeSpec.witness6 (enc := enc) (C := Try.checked) false ⟨#[], #[.int .u8 0, .slice none 0 0, .slice none 0 0, .int .u8 0, .int .u8 0], []⟩ 8 (by kernel_rfl) (by kernel_rfl) (by kernel_rfl) (by kernel_rfl)) ?_
  intro W base args ds gs before hval0 hW _ hz _
  have hval : ∀ (j : Nat) t v, Try.f4.params[j]? = some t → args[j]? = some v → Value.okWide Try.prog W .any base t v := hval0
  have hW' := hW
  obtain ⟨p, q, hA0, hV, rfl, _, _⟩ := hW
  have hA : DataW.TrodAll enc Try.prog W 0 (fun _ => true) true Try.f4.params.toList args.toList ds p := hA0
  rw [Try.params4] at hA hval
  obtain ⟨v0, vs0, d0, ds0, p0, q0, hargs, rfl, rfl, h0, r0⟩ := trodAll_cons hA
  obtain ⟨v1, vs1, d1, ds1, p1, q1, rfl, rfl, rfl, h1, r1⟩ := trodAll_cons r0
  obtain ⟨v2, vs2, d2, ds2, p2, q2, rfl, rfl, rfl, h2, r2⟩ := trodAll_cons r1
  obtain ⟨v3, vs3, d3, ds3, p3, q3, rfl, rfl, rfl, h3, r3⟩ := trodAll_cons r2
  obtain ⟨v4, vs4, d4, ds4, p4, q4, rfl, rfl, rfl, h4, r4⟩ := trodAll_cons r3
  obtain ⟨rfl, rfl, rfl⟩ := trodAll_nil r4
  obtain rfl : args = #[v0, v1, v2, v3, v4] := by cases args; simp_all
  obtain ⟨rfl, rfl⟩ := trodVars_none hV
  obtain ⟨a0, rfl, rfl, rfl, w0⟩ := open_int Try.underlying5 (hval 0 5 v0 rfl rfl) h0
  obtain ⟨n0, b0, rfl⟩ := nat_of_u8 w0
  have k1 := h1
  obtain ⟨q1, n1, c1, xs1, rfl, w1, m1⟩ := open_bytes_sz Try.underlying22 Try.underlying5 (by kernel_rfl) (hval 1 22 v1 rfl rfl) h1
  have y1 : n1 ≤ c1 ∧ c1 ≤ 140737488351232 := ⟨m1.1, m1.2 _ fun el sp hd => by have := sized_slice (j := 1) (t := 22) (e := 5) (elems := el) (spare := sp) hz (by kernel_rfl) (by first | (rw [← hd]; done) | (rw [← hd]; rfl)) Try.underlying22; have hbe : Try.checked.prog.bytesOf 5 = 1 := (by kernel_rfl); have hre : reachBytes = 140737488351232 := rfl; rw [hbe, hre] at this; omega⟩
  have k2 := h2
  obtain ⟨q2, n2, c2, xs2, rfl, w2, m2⟩ := open_bytes_sz Try.underlying22 Try.underlying5 (by kernel_rfl) (hval 2 22 v2 rfl rfl) h2
  have y2 : n2 ≤ c2 ∧ c2 ≤ 140737488351232 := ⟨m2.1, m2.2 _ fun el sp hd => by have := sized_slice (j := 2) (t := 22) (e := 5) (elems := el) (spare := sp) hz (by kernel_rfl) (by first | (rw [← hd]; done) | (rw [← hd]; rfl)) Try.underlying22; have hbe : Try.checked.prog.bytesOf 5 = 1 := (by kernel_rfl); have hre : reachBytes = 140737488351232 := rfl; rw [hbe, hre] at this; omega⟩
  obtain ⟨a3, rfl, rfl, rfl, w3⟩ := open_int Try.underlying5 (hval 3 5 v3 rfl rfl) h3
  obtain ⟨n3, b3, rfl⟩ := nat_of_u8 w3
  obtain ⟨a4, rfl, rfl, rfl, w4⟩ := open_int Try.underlying5 (hval 4 5 v4 rfl rfl) h4
  obtain ⟨n4, b4, rfl⟩ := nat_of_u8 w4
  clear hA0 hval0
  simp only [List.append_nil] at hW'
  refine (walk (w := W) n0 q1 n1 c1 xs1 q2 n2 c2 xs2 n3 n4 b0 w1 y1 w2 y2 b3 b4).mono fun e W' ⟨he, bel⟩ => ?_
  subst he
  exact ⟨_, rfl, _, _, _, [], _, [], hW', trodAll_mk1 (shut_bool Try.underlying4 _), (trodAll_cons_mk (shut_int Try.underlying5 w0) (trodAll_cons_mk (shut_same laidOut (by kernel_rfl) (of_decide_eq_true (by kernel_rfl)) k1 bel) (trodAll_cons_mk (shut_same laidOut (by kernel_rfl) (of_decide_eq_true (by kernel_rfl)) k2 bel) (trodAll_cons_mk (shut_int Try.underlying5 w3) (trodAll_cons_mk (shut_int Try.underlying5 w4) trodAll_mk0))))), rfl, bel.frame _, fun h => by cases h⟩
theorem over : Rows.euclidEndsRow.holds Try.pinned (OpenSpec.ofChange Rows.euclidEndsSpec) :=
  OpenClaim.holds_of_wide 4 Try.f4 rfl rfl rfl rfl rfl rfl rfl ⟨rfl, rfl, rfl, rfl, rfl⟩ rfl rfl rfl rfl rfl (by kernel_rfl) Try.func4 (by kernel_rfl)
    (of_decide_eq_true (by kernel_rfl)) (by unfold Func.isWrapper; first | (rw [if_pos (by decide +kernel)]; kernel_rfl) | (rw [if_neg (by decide +kernel)]; exact ⟨rfl, rfl⟩))
    (fun os started H enc _ => lifted os started H enc)
theorem proved : Rows.EuclidEndsSaid := over
#print axioms proved
end Go.Proofs.Ythnlcdfonbnjcaa.euclidEnds
