/- EuclidRest holds for every input: what is told is short, and is a multiple of the second one but for the first one. No conditions. -/
import Derived.Test.YthnlcdfonbnjcaaRows
import Derived.Test.YthnlcdfonbnjcaaMB
import Derived.Test.YthnlcdfonbnjcaaQW
namespace Go.Proofs.Ythnlcdfonbnjcaa.euclidRest
open Go.ChangeShapes Go.WideShapes Go.ChangeAt Go.RowKit
open Pol (IsN Dg ofL Byt)
open Eu (IsRun IsKey)

set_option maxRecDepth 100000 in
set_option maxHeartbeats 8000000 in
theorem walk (j : Nat) (q : Option Addr) (n c : Nat) (xs : List Nat) (p : Option Addr) (m d : Nat) (ys : List Nat) (e : Nat) (w : World) (_hj : j < 256) (hs : Bs w q n xs) (hc : n ≤ c ∧ c ≤ 140737488351232) (hy : Bs w p m ys) (hd : m ≤ d ∧ d ≤ 140737488351232) (he : e < 256) :
    Calls Try.prog 3 #[.int .u8 j, .slice q n c, .slice p m d, .int .u8 e] w fun e w' => e = .returned (.bool true) ∧ Below w.heap.size w w' := by
  have hwnm : IntKind.i64.wrap ((n : Int) + (m : Int)) = (n : Int) + (m : Int) := by rw [IntKind.wrap_i64]; omega
  by_cases hbig : n + m ≤ 120
  · have hbi : ¬ (120 : Int) < (n : Int) + (m : Int) := by omega
    obtain ⟨f, hfe⟩ : ∃ f : Nat, 1 + j % 3 = f := ⟨_, rfl⟩
    have hf1 : 1 ≤ f := by omega
    have hf3 : f ≤ 3 := by omega
    have hfi : (1 : Int) + (j : Int) % 3 = (f : Int) := by omega
    have K0 := fof_calls f hf1 hf3 w
    obtain ⟨k, hk⟩ : ∃ k, e % 30 = k := ⟨_, rfl⟩
    have hki : (e : Int) % 30 = (k : Int) := by omega
    have hk3 : (k : Int) ≤ 30 := by omega
    obtain ⟨ss, vs, N, hR⟩ := Eu.isRun_exists k xs ys
    obtain ⟨a1, l1⟩ : ∃ a, ss.length = a := ⟨_, rfl⟩
    obtain ⟨a2, l2⟩ : ∃ a, vs.length = a := ⟨_, rfl⟩
    obtain ⟨mv, hmv, hml⟩ := Pol.isN_mul vs ys
    obtain ⟨ms, hms, hsl⟩ := Pol.isN_add mv ss
    obtain ⟨a3, l3⟩ : ∃ a, mv.length = a := ⟨_, rfl⟩
    obtain ⟨a4, l4⟩ : ∃ a, ms.length = a := ⟨_, rfl⟩
    obtain ⟨Q, hQ, hQe⟩ := hR.rest
    obtain ⟨da, hda, hdg⟩ := Pol.dg_list xs
    have hme : ofL ms = Pol.mul Q (ofL xs) := by rw [hms.eq, hmv.eq]; exact hQe
    have hsh := hR.short
    have hlv := hR.lenV
    have e1 := hs.len
    have e2 := hy.len
    have HX : Hid (Bs w q n xs ∧ n ≤ c ∧ Bs w p m ys ∧ m ≤ d ∧ n ≤ 120 ∧ m ≤ 120 ∧ IsRun xs ys k ss vs N ∧ ss.length = a1 ∧ vs.length = a2 ∧ mv.length = a3 ∧ ms.length = a4 ∧ IsN mv (Pol.mul (ofL vs) (ofL ys)) ∧ IsN ms (Pol.add (ofL mv) (ofL ss)) ∧ a1 ≤ k ∧ a2 ≤ 1000 ∧ a3 ≤ 2000 ∧ k ≤ 30 ∧ a4 ≤ 3000 ∧ Pol.Fin Q ∧ ofL ms = Pol.mul Q (ofL xs) ∧ Dg da (ofL xs) ∧ da ≤ 120) := ⟨hs, hc.1, hy, hd.1, by omega, by omega, hR, l1, l2, l3, l4, hmv, hms, by omega, by omega, by omega, by omega, by omega, hQ, hme, hdg, by omega⟩
    clear hs hc hy hd hbig hf1 hf3 hfe hk l1 l2 l3 l4 hmv hml hms hsl hQ hQe hR hme hda hdg hsh hlv e1 e2
    go_enter Try.func3, Try.ntmps3
    go_wp2_with fail
    refine K0.mono ?_
    rintro e_ w1 ⟨B, T, rfl, hF, hb, hlB, hlT⟩
    have HT : Hid (w.heap.size ≤ T) := hlT
    have H1 : Hid (Tw f B T w w1 ∧ Tl w1 T q n c xs ∧ Tl w1 T p m d ys) := ⟨⟨hF, But.of_below hb⟩, ⟨(HX.out.1).below hb, HX.out.2.1, (HX.out.1).off hlT⟩, ⟨(HX.out.2.2.1).below hb, HX.out.2.2.2.1, (HX.out.2.2.1).off hlT⟩⟩
    clear K0 hF hb hlB hlT
    clear hwnm hbi hfi
    have K := xrun f B T w n c m d k N a1 a2 q p (k : Int) xs ys ss vs (if_neg (by omega)) HX.out.2.2.2.2.2.2.1 HX.out.2.2.2.2.2.2.2.1 HX.out.2.2.2.2.2.2.2.2.1 (by have := HX.out; omega) (by have := HX.out; omega) (w1) H1.out.1 H1.out.2.1 H1.out.2.2
    go_wp2_with fail
    refine K.mono ?_
    rintro e_ w2 ⟨q2, c2, q3, c3, rfl, t2_0, t2_1, hT, hb⟩
    have H2 : Hid (Tw f B T w w2 ∧ Tl w2 T q n c xs ∧ Tl w2 T p m d ys ∧ Tl w2 T q2 a1 c2 ss ∧ Tl w2 T q3 a2 c3 vs) := ⟨hT, (H1.out.2.1).but hb, (H1.out.2.2).but hb, t2_0, t2_1⟩
    clear K hT hb t2_0 t2_1 H1 hki
    have K := xmul f B T w q3 p a2 c3 m d a3 vs ys mv HX.out.2.2.2.2.2.2.2.2.2.2.2.1 HX.out.2.2.2.2.2.2.2.2.2.1 (by have := HX.out; omega) (by have := HX.out; omega) (w2) H2.out.1 H2.out.2.2.2.2 H2.out.2.2.1
    go_wp2_with fail
    refine K.mono ?_
    rintro e_ w3 ⟨q4, c4, rfl, t3_0, hT, hb⟩
    have H3 : Hid (Tw f B T w w3 ∧ Tl w3 T q n c xs ∧ Tl w3 T q2 a1 c2 ss ∧ Tl w3 T q4 a3 c4 mv) := ⟨hT, (H2.out.2.1).but hb, (H2.out.2.2.2.1).but hb, t3_0⟩
    clear K hT hb t3_0 H2
    have K := xadd f B T w q4 q2 a3 c4 a1 c2 a4 mv ss ms HX.out.2.2.2.2.2.2.2.2.2.2.2.2.1 HX.out.2.2.2.2.2.2.2.2.2.2.1 (by have := HX.out; omega) (by have := HX.out; omega) (w3) H3.out.1 H3.out.2.2.2 H3.out.2.2.1
    go_wp2_with fail
    refine K.mono ?_
    rintro e_ w4 ⟨q5, c5, rfl, t4_0, hT, hb⟩
    have H4 : Hid (Tw f B T w w4 ∧ Tl w4 T q n c xs ∧ Tl w4 T q2 a1 c2 ss ∧ Tl w4 T q5 a4 c5 ms) := ⟨hT, (H3.out.2.1).but hb, (H3.out.2.2.1).but hb, t4_0⟩
    clear K hT hb t4_0 H3
    have K := xdeg f B T w q n c da xs ((da : Int) - 1) HX.out.2.2.2.2.2.2.2.2.2.2.2.2.2.2.2.2.2.2.2.2.1 rfl (w4) H4.out.1 H4.out.2.1
    go_wp2_with fail
    refine K.mono ?_
    rintro e_ w5 ⟨rfl, hT, hb⟩
    have H5 : Hid (Tw f B T w w5 ∧ Tl w5 T q n c xs ∧ Tl w5 T q2 a1 c2 ss ∧ Tl w5 T q5 a4 c5 ms) := ⟨hT, (H4.out.2.1).but hb, (H4.out.2.2.1).but hb, (H4.out.2.2.2).but hb⟩
    clear K hT hb  H4
    by_cases hda : da = 0
    · subst hda
      have ha4 : a4 = 0 := by
        have hx0 := HX.out.2.2.2.2.2.2.2.2.2.2.2.2.2.2.2.2.2.2.2.2.1
        have h1 := HX.out.2.2.2.2.2.2.2.2.2.2.2.2.2.2.2.2.2.2.2.1
        have h2 : ofL xs = Pol.zero := funext fun i => hx0.bd i (Nat.zero_le i)
        rw [h2, Pol.mul_zero] at h1
        have h3 := HX.out.2.2.2.2.2.2.2.2.2.2.2.2.1
        rw [← h3.eq, h1] at h3
        have h4 := Pol.isN_zero h3
        have h5 := HX.out.2.2.2.2.2.2.2.2.2.2.1
        rw [← h5, h4]; rfl
      subst ha4
      have hlt : (a1 : Int) - 1 < (k : Int) := by have := HX.out; omega
      have K := xknown f B T w  (w5) H5.out.1
      go_wp2_with fail
      refine K.mono ?_
      rintro e_ w6 ⟨rfl, hT, hb⟩
      have H6 : Hid (Tw f B T w w6 ∧ Tl w6 T q n c xs ∧ Tl w6 T q2 a1 c2 ss ∧ Tl w6 T q5 0 c5 ms) := ⟨hT, (H5.out.2.1).but hb, (H5.out.2.2.1).but hb, (H5.out.2.2.2).but hb⟩
      clear K hT hb  H5
      have K := xdeg f B T w q2 a1 c2 a1 ss ((a1 : Int) - 1) (by have h := (HX.out.2.2.2.2.2.2.1).s.dg; rw [HX.out.2.2.2.2.2.2.2.1] at h; exact h) rfl (w6) H6.out.1 H6.out.2.2.1
      go_wp2_with fail
      refine K.mono ?_
      rintro e_ w7 ⟨rfl, hT, hb⟩
      have H7 : Hid (Tw f B T w w7 ∧ Tl w7 T q n c xs ∧ Tl w7 T q2 a1 c2 ss ∧ Tl w7 T q5 0 c5 ms) := ⟨hT, (H6.out.2.1).but hb, (H6.out.2.2.1).but hb, (H6.out.2.2.2).but hb⟩
      clear K hT hb  H6
      have HZ : Hid (Below w.heap.size w w7) := (H7.out.1).but.below (Nat.le_refl _) (by rintro k rfl; exact HT.out)
      clear H7
      go_wp2
      go_ret
      exact ⟨rfl, HZ.out⟩
    · obtain ⟨e0, rfl⟩ : ∃ e0, da = e0 + 1 := ⟨da - 1, by omega⟩
      obtain ⟨mQ, hmQ⟩ := HX.out.2.2.2.2.2.2.2.2.2.2.2.2.2.2.2.2.2.2.1
      obtain ⟨qs, hqs, -⟩ := Pol.isN_of_bd hmQ
      obtain ⟨a6, l6⟩ : ∃ a, qs.length = a := ⟨_, rfl⟩
      have hEx : IsEx ms xs qs true := .inl ⟨rfl, e0, Q, HX.out.2.2.2.2.2.2.2.2.2.2.2.2.2.2.2.2.2.2.2.2.1, hqs, HX.out.2.2.2.2.2.2.2.2.2.2.2.2.2.2.2.2.2.2.2.1⟩
      have hde : (0 : Int) ≤ ((e0 + 1 : Nat) : Int) - 1 := by omega
      have hlt : (a1 : Int) - 1 < (k : Int) := by have := HX.out; omega
      have K := xexact f B T w a4 c5 n c a6 q5 q ms xs qs true hEx l6 (by have := HX.out; omega) (by have := HX.out; omega) (w5) H5.out.1 H5.out.2.2.2 H5.out.2.1
      go_wp2_with fail
      refine K.mono ?_
      rintro e_ w6 ⟨q6, c6, rfl, hT, hb⟩
      have H6 : Hid (Tw f B T w w6 ∧ Tl w6 T q n c xs ∧ Tl w6 T q2 a1 c2 ss ∧ Tl w6 T q5 a4 c5 ms) := ⟨hT, (H5.out.2.1).but hb, (H5.out.2.2.1).but hb, (H5.out.2.2.2).but hb⟩
      clear K hT hb  H5 hEx hqs l6 hmQ
      have K := xknown f B T w  (w6) H6.out.1
      go_wp2_with fail
      refine K.mono ?_
      rintro e_ w7 ⟨rfl, hT, hb⟩
      have H7 : Hid (Tw f B T w w7 ∧ Tl w7 T q n c xs ∧ Tl w7 T q2 a1 c2 ss ∧ Tl w7 T q5 a4 c5 ms) := ⟨hT, (H6.out.2.1).but hb, (H6.out.2.2.1).but hb, (H6.out.2.2.2).but hb⟩
      clear K hT hb  H6
      have K := xdeg f B T w q2 a1 c2 a1 ss ((a1 : Int) - 1) (by have h := (HX.out.2.2.2.2.2.2.1).s.dg; rw [HX.out.2.2.2.2.2.2.2.1] at h; exact h) rfl (w7) H7.out.1 H7.out.2.2.1
      go_wp2_with fail
      refine K.mono ?_
      rintro e_ w8 ⟨rfl, hT, hb⟩
      have H8 : Hid (Tw f B T w w8 ∧ Tl w8 T q n c xs ∧ Tl w8 T q2 a1 c2 ss ∧ Tl w8 T q5 a4 c5 ms) := ⟨hT, (H7.out.2.1).but hb, (H7.out.2.2.1).but hb, (H7.out.2.2.2).but hb⟩
      clear K hT hb  H7
      have HZ : Hid (Below w.heap.size w w8) := (H8.out.1).but.below (Nat.le_refl _) (by rintro k rfl; exact HT.out)
      clear H8
      go_wp2
      go_ret
      exact ⟨rfl, HZ.out⟩
  · have hbi : (120 : Int) < (n : Int) + (m : Int) := by omega
    have KN := known15_calls w
    clear hs hc hy hd hbig he
    go_enter Try.func3, Try.ntmps3
    go_wp2_with fail
    refine KN.mono ?_
    rintro e_ w1 ⟨rfl, hb⟩
    clear KN
    go_wp2
    go_ret
    exact ⟨rfl, hb⟩
theorem own : ownKnob Try.prog.godebug = none := by kernel_rfl
theorem laidOut : laidOutB Try.prog = true := by kernel_rfl
set_option maxRecDepth 100000 in
theorem lifted (os : Os) (started : os.Started) (H : Type) (enc : TypeId × Value → H) :
    ReturnsInHanded {} Try.checked os 3 .any (Rows.euclidRestSpec.pre6 enc Try.prog Try.f3 Rows.euclidRestRow.domain false) (Rows.euclidRestSpec.post enc Try.prog Try.f3 false true false false) := by
  refine returnsInHanded_of_change_sized (C := Try.checked) own started (by kernel_rfl) Try.func3
    (ChangeSpec.witness6 (enc := enc) (C := Try.checked) false ⟨#[], #[.int .u8 0, .slice none 0 0, .slice none 0 0, .int .u8 0], []⟩ 8 (by kernel_rfl) (by kernel_rfl) (by kernel_rfl) (by kernel_rfl)) ?_
  intro W base args ds gs before hval0 hW _ hz _
  have hval : ∀ (j : Nat) t v, Try.f3.params[j]? = some t → args[j]? = some v → Value.okWide Try.prog W .any base t v := hval0
  have hW' := hW
  obtain ⟨p, q, hA0, hV, rfl, _, _⟩ := hW
  have hA : DataW.TrodAll enc Try.prog W 0 (fun _ => true) true Try.f3.params.toList args.toList ds p := hA0
  rw [Try.params3] at hA hval
  obtain ⟨v0, vs0, d0, ds0, p0, q0, hargs, rfl, rfl, h0, r0⟩ := trodAll_cons hA
  obtain ⟨v1, vs1, d1, ds1, p1, q1, rfl, rfl, rfl, h1, r1⟩ := trodAll_cons r0
  obtain ⟨v2, vs2, d2, ds2, p2, q2, rfl, rfl, rfl, h2, r2⟩ := trodAll_cons r1
  obtain ⟨v3, vs3, d3, ds3, p3, q3, rfl, rfl, rfl, h3, r3⟩ := trodAll_cons r2
  obtain ⟨rfl, rfl, rfl⟩ := trodAll_nil r3
  obtain rfl : args = #[v0, v1, v2, v3] := by cases args; simp_all
  obtain ⟨rfl, rfl⟩ := trodVars_none hV
  obtain ⟨a0, rfl, rfl, rfl, w0⟩ := open_int Try.underlying5 (hval 0 5 v0 rfl rfl) h0
  obtain ⟨n0, b0, rfl⟩ := nat_of_u8 w0
  have k1 := h1
  obtain ⟨q1, n1, c1, xs1, rfl, w1, m1⟩ := open_bytes_sz Try.underlying22 Try.underlying5 (by kernel_rfl) (hval 1 22 v1 rfl rfl) h1
  have y1 : n1 ≤ c1 ∧ c1 ≤ 140737488351232 := ⟨m1.1, m1.2 _ fun el sp hd => by have := sized_slice (j := 1) (t := 22) (e := 5) (elems := el) (spare := sp) hz (by kernel_rfl) (by first | (rw [← hd]; done) | (rw [← hd]; rfl)) Try.underlying22; have hbe : Try.checked.prog.bytesOf 5 = 1 := (by kernel_rfl); have hre : reachBytes = 140737488351232 := rfl; rw [hbe, hre] at this; omega⟩
  have k2 := h2
  obtain ⟨q2, n2, c2, xs2, rfl, w2, m2⟩ := open_bytes_sz Try.underlying22 Try.underlying5 (by kernel_rfl) (hval 2 22 v2 rfl rfl) h2
  have y2 : n2 ≤ c2 ∧ c2 ≤ 140737488351232 := ⟨m2.1, m2.2 _ fun el sp hd => by have := sized_slice (j := 2) (t := 22) (e := 5) (elems := el) (spare := sp) hz (by kernel_rfl) (by first | (rw [← hd]; done) | (rw [← hd]; rfl)) Try.underlying22; have hbe : Try.checked.prog.bytesOf 5 = 1 := (by kernel_rfl); have hre : reachBytes = 140737488351232 := rfl; rw [hbe, hre] at this; omega⟩
  obtain ⟨a3, rfl, rfl, rfl, w3⟩ := open_int Try.underlying5 (hval 3 5 v3 rfl rfl) h3
  obtain ⟨n3, b3, rfl⟩ := nat_of_u8 w3
  clear hA0 hval0
  simp only [List.append_nil] at hW'
  refine (walk (w := W) n0 q1 n1 c1 xs1 q2 n2 c2 xs2 n3 b0 w1 y1 w2 y2 b3).mono fun e W' ⟨he, bel⟩ => ?_
  subst he
  exact ⟨_, rfl, _, _, _, [], _, [], hW', trodAll_mk1 (shut_bool Try.underlying4 _), (trodAll_cons_mk (shut_int Try.underlying5 w0) (trodAll_cons_mk (shut_same laidOut (by kernel_rfl) (of_decide_eq_true (by kernel_rfl)) k1 bel) (trodAll_cons_mk (shut_same laidOut (by kernel_rfl) (of_decide_eq_true (by kernel_rfl)) k2 bel) (trodAll_cons_mk (shut_int Try.underlying5 w3) trodAll_mk0)))), rfl, bel.frame _, fun h => by cases h⟩
theorem over : Rows.euclidRestRow.holds Try.pinned (OpenSpec.ofChange Rows.euclidRestSpec) :=
  OpenClaim.holds_of_wide 3 Try.f3 rfl rfl rfl rfl rfl rfl rfl ⟨rfl, rfl, rfl, rfl, rfl⟩ rfl rfl rfl rfl rfl (by kernel_rfl) Try.func3 (by kernel_rfl)
    (of_decide_eq_true (by kernel_rfl)) (by unfold Func.isWrapper; first | (rw [if_pos (by decide +kernel)]; kernel_rfl) | (rw [if_neg (by decide +kernel)]; exact ⟨rfl, rfl⟩))
    (fun os started H enc _ => lifted os started H enc)
theorem proved : Rows.EuclidRestSaid := over
#print axioms proved
end Go.Proofs.Ythnlcdfonbnjcaa.euclidRest
