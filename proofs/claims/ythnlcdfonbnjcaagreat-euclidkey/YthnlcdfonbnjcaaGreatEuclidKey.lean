/- EuclidKey holds for every input: of what a register makes the locator is the shortest register, where the list is long enough; the evaluator is the product, cut. No conditions. -/
import Derived.Test.YthnlcdfonbnjcaaGreatRows
import Derived.Test.YthnlcdfonbnjcaaGreatMB
import Derived.Test.YthnlcdfonbnjcaaGreatQW
namespace Go.Proofs.YthnlcdfonbnjcaaGreat.euclidKey
open Go.ChangeShapes Go.WideShapes Go.ChangeAt Go.RowKit
open Pol (IsN Dg ofL Byt)
open Eu (IsRun IsKey)

set_option maxRecDepth 100000 in
set_option maxHeartbeats 8000000 in
theorem walk (j : Nat) (q : Option Addr) (n c : Nat) (xs : List Nat) (p : Option Addr) (m d : Nat) (ys : List Nat) (e : Nat) (w : World) (_hj : j < 256) (hs : Bs w q n xs) (hc : n ≤ c ∧ c ≤ 140737488351232) (hy : Bs w p m ys) (hd : m ≤ d ∧ d ≤ 140737488351232) (_he : e < 256) :
    Calls Tryz.prog 5 #[.int .u8 j, .slice q n c, .slice p m d, .int .u8 e] w fun e w' => e = .returned (.bool true) ∧ Below w.heap.size w w' := by
  have hwnm : IntKind.i64.wrap ((n : Int) + (m : Int)) = (n : Int) + (m : Int) := by rw [IntKind.wrap_i64]; omega
  by_cases hbig : n + m ≤ 200
  · have hbi : ¬ (200 : Int) < (n : Int) + (m : Int) := by omega
    obtain ⟨f, hfe⟩ : ∃ f : Nat, 1 + j % 3 = f := ⟨_, rfl⟩
    have hf1 : 1 ≤ f := by omega
    have hf3 : f ≤ 3 := by omega
    have hfi : (1 : Int) + (j : Int) % 3 = (f : Int) := by omega
    have K0 := fof_calls f hf1 hf3 w
    obtain ⟨k, hk⟩ : ∃ k, min n 6 = k := ⟨_, rfl⟩
    have hki : (if (6 : Int) < (n : Int) then 6 else (n : Int)) = (k : Int) := by split <;> omega
    have hkc : (k : Int) ≤ (c : Int) := by have := hc.1; omega
    obtain ⟨own, how⟩ : ∃ own, xs.take k = own := ⟨_, rfl⟩
    obtain ⟨N, hN⟩ : ∃ N, 2 * k + e % 7 = N := ⟨_, rfl⟩
    have hNi : (2 : Int) * (k : Int) + (e : Int) % 7 = (N : Int) := by omega
    have hk6 : (k : Int) ≤ 6 := by omega
    have hN6 : (N : Int) ≤ 18 := by omega
    obtain ⟨ss, hss⟩ : ∃ ss, Ms.mdL own ys N = ss := ⟨_, rfl⟩
    obtain ⟨L, hL⟩ := Ms.least_exists (ofL ss) N
    have hol : own.length = k := by rw [← how, List.length_take, hs.len]; omega
    have HX : Hid (Bs w q n xs ∧ n ≤ c ∧ Bs w p m ys ∧ m ≤ d ∧ n ≤ 200 ∧ m ≤ 200 ∧ k ≤ n ∧ k ≤ 6 ∧ N ≤ 18 ∧ 2 * k ≤ N ∧ xs.take k = own ∧ own.length = k ∧ Ms.mdL own ys N = ss ∧ Ms.Least (ofL ss) N L ∧ Byt ys ∧ ss.length = N) := ⟨hs, hc.1, hy, hd.1, by omega, by omega, by omega, by omega, by omega, by omega, how, hol, hss, hL, hy.byte, hss ▸ Ms.mdL_length own ys N⟩
    clear hs hc hy hd hbig hf1 hf3 hfe hk how hN hss hL hol _he
    go_enter Tryz.func5, Tryz.ntmps5
    go_wp2_with fail
    refine K0.mono ?_
    rintro e_ w1 ⟨B, T, rfl, hF, hb, hlB, hlT⟩
    have HT : Hid (w.heap.size ≤ T) := hlT
    have H1 : Hid (Tw f B T w w1 ∧ Tl w1 T q n c xs ∧ Tl w1 T p m d ys) := ⟨⟨hF, But.of_below hb⟩, ⟨(HX.out.1).below hb, HX.out.2.1, (HX.out.1).off hlT⟩, ⟨(HX.out.2.2.1).below hb, HX.out.2.2.2.1, (HX.out.2.2.1).off hlT⟩⟩
    clear K0 hF hb hlB hlT
    have H1a : Hid (Tw f B T w w1 ∧ Tl w1 T q k c own ∧ Tl w1 T p m d ys) := ⟨H1.out.1, ⟨by rw [← HX.out.2.2.2.2.2.2.2.2.2.2.1]; exact bs_take (H1.out.2.1).bs k HX.out.2.2.2.2.2.2.1, by have := HX.out; omega, (H1.out.2.1).off.le HX.out.2.2.2.2.2.2.1⟩, H1.out.2.2⟩
    clear H1 hwnm hbi hfi
    have K := kmade f B T w q p k c m d N own ys (by have := HX.out; omega) (by have := HX.out; omega) (w1) H1a.out.1 H1a.out.2.1 H1a.out.2.2
    go_wp2_with fail
    refine K.mono ?_
    rintro e_ w2 ⟨q2, c2, rfl, t2_0, hT, hb⟩
    have H2 : Hid (Tw f B T w w2 ∧ Tl w2 T q2 N c2 (Ms.mdL own ys N)) := ⟨hT, t2_0⟩
    clear K hT hb t2_0 H1a
    have H2a : Hid (Tw f B T w w2 ∧ Tl w2 T q2 N c2 ss) := by
      have h := H2.out
      rw [HX.out.2.2.2.2.2.2.2.2.2.2.2.2.1] at h
      exact h
    clear H2 hki hkc hNi
    have K := kmassey f B T w q2 N c2 L ss (by have := HX.out; omega) HX.out.2.2.2.2.2.2.2.2.2.2.2.2.2.1 (w2) H2a.out.1 H2a.out.2
    go_wp2_with fail
    refine K.mono ?_
    rintro e_ w3 ⟨q3, n3, c3, rfl, ⟨rs, hl3, hrs, t3_0⟩, hT, hb⟩
    have H3 : Hid (Tw f B T w w3 ∧ Tl w3 T q2 N c2 ss ∧ Tl w3 T q3 n3 c3 rs) := ⟨hT, (H2a.out.2).but hb, t3_0⟩
    clear K hT hb t3_0 H2a
    obtain ⟨ls, es, bb, hK⟩ := Eu.isKey_exists ss 0
    obtain ⟨a2, l2⟩ : ∃ a, es.length = a := ⟨_, rfl⟩
    obtain ⟨hb1, hls, hes⟩ := Eu.key_made (N := N) (own := own) (rs := rs) (L := L) HX.out.2.2.2.2.2.2.2.2.2.2.2.2.2.2.1 (by rw [HX.out.2.2.2.2.2.2.2.2.2.2.2.1]; exact HX.out.2.2.2.2.2.2.2.2.2.1) (by rw [HX.out.2.2.2.2.2.2.2.2.2.2.2.2.1]; exact hrs) (by rw [HX.out.2.2.2.2.2.2.2.2.2.2.2.2.1]; exact hK)
    subst hb1 hls
    rw [HX.out.2.2.2.2.2.2.2.2.2.2.2.2.1] at hes
    obtain ⟨mz, hmz, hmzl⟩ := Pol.isN_mul ss ls
    obtain ⟨a5, l5⟩ : ∃ a, mz.length = a := ⟨_, rfl⟩
    have h0 : cof ls 0 = 1 := by
      have h1 := hrs.reg.one
      have h2 : ofL ls 0 = GF.of (ls.getD 0 0) := rfl
      have h3 := GF.of_val (ls.getD 0 0) (hrs.nrm.byt 0)
      rw [← h2, h1] at h3
      exact h3.symm
    have hdg : Pol.Dg n3 (ofL ls) := by have h := hrs.nrm.dg; rw [hl3] at h; exact h
    have hle := hrs.nrm.dg.le hrs.reg.bd
    have hLN := hrs.reg.le
    have HR : Hid (IsKey ss 0 ls es true ∧ ls.length = n3 ∧ es.length = a2 ∧ IsN es (Pol.cut N (Pol.mul (ofL ss) (ofL ls))) ∧ IsN mz (Pol.mul (ofL ss) (ofL ls)) ∧ mz.length = a5 ∧ cof ls 0 = 1 ∧ Pol.Dg n3 (ofL ls) ∧ n3 ≤ 100 ∧ a5 ≤ 1000) := ⟨hK, hl3, l2, hes, hmz, l5, h0, hdg, by have := HX.out; omega, by have := HX.out; omega⟩
    have hdl : (n3 : Int) - 1 ≤ (L : Int) := by omega
    clear hK l2 hes hmz hmzl l5 h0 hdg hle hLN hrs hl3
    have K := xkey f B T w N c2 n3 a2 q2 ss ls es 0 true HR.out.1 HR.out.2.1 HR.out.2.2.1 (by have := HX.out; have := HR.out; omega) (w3) H3.out.1 H3.out.2.1
    go_wp2_with fail
    refine K.mono ?_
    rintro e_ w4 ⟨q4, c4, q5, c5, rfl, t4_0, t4_1, hT, hb⟩
    have H4 : Hid (Tw f B T w w4 ∧ Tl w4 T q2 N c2 ss ∧ Tl w4 T q3 n3 c3 ls ∧ Tl w4 T q4 n3 c4 ls ∧ Tl w4 T q5 a2 c5 es) := ⟨hT, (H3.out.2.1).but hb, (H3.out.2.2).but hb, t4_0, t4_1⟩
    clear K hT hb t4_0 t4_1 H3
    have K := xknown f B T w  (w4) H4.out.1
    go_wp2_with fail
    refine K.mono ?_
    rintro e_ w5 ⟨rfl, hT, hb⟩
    have H5 : Hid (Tw f B T w w5 ∧ Tl w5 T q2 N c2 ss ∧ Tl w5 T q3 n3 c3 ls ∧ Tl w5 T q4 n3 c4 ls ∧ Tl w5 T q5 a2 c5 es) := ⟨hT, (H4.out.2.1).but hb, (H4.out.2.2.1).but hb, (H4.out.2.2.2.1).but hb, (H4.out.2.2.2.2).but hb⟩
    clear K hT hb  H4
    have K := xpsame f B T w q4 q3 n3 c4 n3 c3 ls ls true ⟨fun _ => rfl, fun _ => rfl⟩ (w5) H5.out.1 H5.out.2.2.2.1 H5.out.2.2.1
    go_wp2_with fail
    refine K.mono ?_
    rintro e_ w6 ⟨rfl, hT, hb⟩
    have H6 : Hid (Tw f B T w w6 ∧ Tl w6 T q2 N c2 ss ∧ Tl w6 T q4 n3 c4 ls ∧ Tl w6 T q5 a2 c5 es) := ⟨hT, (H5.out.2.1).but hb, (H5.out.2.2.2.1).but hb, (H5.out.2.2.2.2).but hb⟩
    clear K hT hb  H5
    have K := xdeg f B T w q4 n3 c4 n3 ls ((n3 : Int) - 1) HR.out.2.2.2.2.2.2.2.1 rfl (w6) H6.out.1 H6.out.2.2.1
    go_wp2_with fail
    refine K.mono ?_
    rintro e_ w7 ⟨rfl, hT, hb⟩
    have H7 : Hid (Tw f B T w w7 ∧ Tl w7 T q2 N c2 ss ∧ Tl w7 T q4 n3 c4 ls ∧ Tl w7 T q5 a2 c5 es) := ⟨hT, (H6.out.2.1).but hb, (H6.out.2.2.1).but hb, (H6.out.2.2.2).but hb⟩
    clear K hT hb  H6
    have K := xmul f B T w q2 q4 N c2 n3 c4 a5 ss ls mz HR.out.2.2.2.2.1 HR.out.2.2.2.2.2.1 (by have := HX.out; have := HR.out; omega) (by have := HX.out; have := HR.out; omega) (w7) H7.out.1 H7.out.2.1 H7.out.2.2.1
    go_wp2_with fail
    refine K.mono ?_
    rintro e_ w8 ⟨q6, c6, rfl, t8_0, hT, hb⟩
    have H8 : Hid (Tw f B T w w8 ∧ Tl w8 T q4 n3 c4 ls ∧ Tl w8 T q5 a2 c5 es ∧ Tl w8 T q6 a5 c6 mz) := ⟨hT, (H7.out.2.2.1).but hb, (H7.out.2.2.2).but hb, t8_0⟩
    clear K hT hb t8_0 H7
    have K := xcut f B T w q6 a5 c6 a2 mz es (N : Int) (by rw [Int.toNat_natCast, (HR.out.2.2.2.2.1).eq]; exact HR.out.2.2.2.1) HR.out.2.2.1 (by have := HX.out; have := HR.out; omega) (w8) H8.out.1 H8.out.2.2.2
    go_wp2_with fail
    refine K.mono ?_
    rintro e_ w9 ⟨q7, c7, rfl, t9_0, hT, hb⟩
    have H9 : Hid (Tw f B T w w9 ∧ Tl w9 T q4 n3 c4 ls ∧ Tl w9 T q5 a2 c5 es ∧ Tl w9 T q7 a2 c7 es) := ⟨hT, (H8.out.2.1).but hb, (H8.out.2.2.1).but hb, t9_0⟩
    clear K hT hb t9_0 H8
    have K := xpsame f B T w q5 q7 a2 c5 a2 c7 es es true ⟨fun _ => rfl, fun _ => rfl⟩ (w9) H9.out.1 H9.out.2.2.1 H9.out.2.2.2
    go_wp2_with fail
    refine K.mono ?_
    rintro e_ w10 ⟨rfl, hT, hb⟩
    have H10 : Hid (Tw f B T w w10 ∧ Tl w10 T q4 n3 c4 ls) := ⟨hT, (H9.out.2.1).but hb⟩
    clear K hT hb  H9
    have K := xcoef f B T w q4 n3 c4 1 ls 0 HR.out.2.2.2.2.2.2.1 (w10) H10.out.1 H10.out.2
    go_wp2_with fail
    refine K.mono ?_
    rintro e_ w11 ⟨rfl, hT, hb⟩
    have H11 : Hid (Tw f B T w w11 ∧ Tl w11 T q4 n3 c4 ls) := ⟨hT, (H10.out.2).but hb⟩
    clear K hT hb  H10
    have HZ : Hid (Below w.heap.size w w11) := (H11.out.1).but.below (Nat.le_refl _) (by rintro k rfl; exact HT.out)
    clear H11
    go_wp2
    go_ret
    exact ⟨rfl, HZ.out⟩
  · have hbi : (200 : Int) < (n : Int) + (m : Int) := by omega
    have KN := known15_calls w
    clear hs hc hy hd hbig _he
    go_enter Tryz.func5, Tryz.ntmps5
    go_wp2_with fail
    refine KN.mono ?_
    rintro e_ w1 ⟨rfl, hb⟩
    clear KN
    go_wp2
    go_ret
    exact ⟨rfl, hb⟩
theorem own : ownKnob Tryz.prog.godebug = none := by kernel_rfl
theorem laidOut : laidOutB Tryz.prog = true := by kernel_rfl
set_option maxRecDepth 100000 in
theorem lifted (os : Os) (started : os.Started) (H : Type) (enc : TypeId × Value → H) :
    ReturnsInHanded {} Tryz.checked os 5 .any (Rows.euclidKeySpec.pre6 enc Tryz.prog Tryz.f5 Rows.euclidKeyRow.domain false) (Rows.euclidKeySpec.post enc Tryz.prog Tryz.f5 false true false false) := by
  refine returnsInHanded_of_change_sized (C := Tryz.checked) own started (by kernel_rfl) Tryz.func5
    (ChangeSpec.witness6 (enc := enc) (C := Tryz.checked) false ⟨#[], #[.int .u8 0, .slice none 0 0, .slice none 0 0, .int .u8 0], []⟩ 8 (by kernel_rfl) (by kernel_rfl) (by kernel_rfl) (by kernel_rfl)) ?_
  intro W base args ds gs before hval0 hW _ hz _
  have hval : ∀ (j : Nat) t v, Tryz.f5.params[j]? = some t → args[j]? = some v → Value.okWide Tryz.prog W .any base t v := hval0
  have hW' := hW
  obtain ⟨p, q, hA0, hV, rfl, _, _⟩ := hW
  have hA : DataW.TrodAll enc Tryz.prog W 0 (fun _ => true) true Tryz.f5.params.toList args.toList ds p := hA0
  rw [Tryz.params5] at hA hval
  obtain ⟨v0, vs0, d0, ds0, p0, q0, hargs, rfl, rfl, h0, r0⟩ := trodAll_cons hA
  obtain ⟨v1, vs1, d1, ds1, p1, q1, rfl, rfl, rfl, h1, r1⟩ := trodAll_cons r0
  obtain ⟨v2, vs2, d2, ds2, p2, q2, rfl, rfl, rfl, h2, r2⟩ := trodAll_cons r1
  obtain ⟨v3, vs3, d3, ds3, p3, q3, rfl, rfl, rfl, h3, r3⟩ := trodAll_cons r2
  obtain ⟨rfl, rfl, rfl⟩ := trodAll_nil r3
  obtain rfl : args = #[v0, v1, v2, v3] := by cases args; simp_all
  obtain ⟨rfl, rfl⟩ := trodVars_none hV
  obtain ⟨a0, rfl, rfl, rfl, w0⟩ := open_int Tryz.underlying5 (hval 0 5 v0 rfl rfl) h0
  obtain ⟨n0, b0, rfl⟩ := nat_of_u8 w0
  have k1 := h1
  obtain ⟨q1, n1, c1, xs1, rfl, w1, m1⟩ := open_bytes_sz Tryz.underlying22 Tryz.underlying5 (by kernel_rfl) (hval 1 22 v1 rfl rfl) h1
  have y1 : n1 ≤ c1 ∧ c1 ≤ 140737488351232 := ⟨m1.1, m1.2 _ fun el sp hd => by have := sized_slice (j := 1) (t := 22) (e := 5) (elems := el) (spare := sp) hz (by kernel_rfl) (by first | (rw [← hd]; done) | (rw [← hd]; rfl)) Tryz.underlying22; have hbe : Tryz.checked.prog.bytesOf 5 = 1 := (by kernel_rfl); have hre : reachBytes = 140737488351232 := rfl; rw [hbe, hre] at this; omega⟩
  have k2 := h2
  obtain ⟨q2, n2, c2, xs2, rfl, w2, m2⟩ := open_bytes_sz Tryz.underlying22 Tryz.underlying5 (by kernel_rfl) (hval 2 22 v2 rfl rfl) h2
  have y2 : n2 ≤ c2 ∧ c2 ≤ 140737488351232 := ⟨m2.1, m2.2 _ fun el sp hd => by have := sized_slice (j := 2) (t := 22) (e := 5) (elems := el) (spare := sp) hz (by kernel_rfl) (by first | (rw [← hd]; done) | (rw [← hd]; rfl)) Tryz.underlying22; have hbe : Tryz.checked.prog.bytesOf 5 = 1 := (by kernel_rfl); have hre : reachBytes = 140737488351232 := rfl; rw [hbe, hre] at this; omega⟩
  obtain ⟨a3, rfl, rfl, rfl, w3⟩ := open_int Tryz.underlying5 (hval 3 5 v3 rfl rfl) h3
  obtain ⟨n3, b3, rfl⟩ := nat_of_u8 w3
  clear hA0 hval0
  simp only [List.append_nil] at hW'
  refine (walk (w := W) n0 q1 n1 c1 xs1 q2 n2 c2 xs2 n3 b0 w1 y1 w2 y2 b3).mono fun e W' ⟨he, bel⟩ => ?_
  subst he
  exact ⟨_, rfl, _, _, _, [], _, [], hW', trodAll_mk1 (shut_bool Tryz.underlying4 _), (trodAll_cons_mk (shut_int Tryz.underlying5 w0) (trodAll_cons_mk (shut_same laidOut (by kernel_rfl) (of_decide_eq_true (by kernel_rfl)) k1 bel) (trodAll_cons_mk (shut_same laidOut (by kernel_rfl) (of_decide_eq_true (by kernel_rfl)) k2 bel) (trodAll_cons_mk (shut_int Tryz.underlying5 w3) trodAll_mk0)))), rfl, bel.frame _, fun h => by cases h⟩
theorem over : Rows.euclidKeyRow.holds Tryz.pinned (OpenSpec.ofChange Rows.euclidKeySpec) :=
  OpenClaim.holds_of_wide 5 Tryz.f5 rfl rfl rfl rfl rfl rfl rfl ⟨rfl, rfl, rfl, rfl, rfl⟩ rfl rfl rfl rfl rfl (by kernel_rfl) Tryz.func5 (by kernel_rfl)
    (of_decide_eq_true (by kernel_rfl)) (by unfold Func.isWrapper; first | (rw [if_pos (by decide +kernel)]; kernel_rfl) | (rw [if_neg (by decide +kernel)]; exact ⟨rfl, rfl⟩))
    (fun os started H enc _ => lifted os started H enc)
theorem proved : Rows.EuclidKeySaid := over
#print axioms proved
end Go.Proofs.YthnlcdfonbnjcaaGreat.euclidKey
