/- EuclidAsks holds for every input: all calls of any polynomials and numbers, and of what registers make, are what the chapter says. No conditions. -/
import Derived.Test.YthnlcdfonbnjcaaGreatRows
import Derived.Test.YthnlcdfonbnjcaaGreatMB
import Derived.Test.YthnlcdfonbnjcaaGreatQX
import Derived.Test.YthnlcdfonbnjcaaGreatQH
namespace Go.Proofs.YthnlcdfonbnjcaaGreat.euclidAsks
open Go.ChangeShapes Go.WideShapes Go.ChangeAt Go.RowKit
open Pol (IsN Dg ofL Byt)
open Eu (IsRun IsKey)

set_option maxRecDepth 100000 in
set_option maxHeartbeats 8000000 in
theorem walk (j : Nat) (q : Option Addr) (n c : Nat) (xs : List Nat) (p : Option Addr) (m d : Nat) (ys : List Nat) (z : Int) (r : Option Addr) (l g : Nat) (ls : List Nat) (u : Option Addr) (o v : Nat) (fs : List Nat) (e t : Nat) (w : World) (_hj : j < 256) (hs : Bs w q n xs) (hc : n ≤ c ∧ c ≤ 140737488351232) (hy : Bs w p m ys) (hd : m ≤ d ∧ d ≤ 140737488351232) (_hz1 : -9223372036854775808 ≤ z) (_hz2 : z < 9223372036854775808) (hl : Bs w r l ls) (hg : l ≤ g ∧ g ≤ 140737488351232) (hf : Bs w u o fs) (hv : o ≤ v ∧ v ≤ 140737488351232) (_he : e < 256) (_ht : t < 256) :
    Calls Tryz.prog 3 #[.int .u8 j, .slice q n c, .slice p m d, .int .i64 z, .slice r l g, .slice u o v, .int .u8 e, .int .u8 t] w fun e w' => e = .returned (.bool true) ∧ Below w.heap.size w w' := by
  have hwnm : IntKind.i64.wrap ((n : Int) + (m : Int)) = (n : Int) + (m : Int) := by rw [IntKind.wrap_i64]; omega
  have hwnl : IntKind.i64.wrap ((n : Int) + (m : Int) + (l : Int)) = (n : Int) + (m : Int) + (l : Int) := by rw [IntKind.wrap_i64]; omega
  have hwno : IntKind.i64.wrap ((n : Int) + (m : Int) + (l : Int) + (o : Int)) = (n : Int) + (m : Int) + (l : Int) + (o : Int) := by rw [IntKind.wrap_i64]; omega
  by_cases hbig : n + m + l + o ≤ 160
  · have hbi : ¬ (160 : Int) < (n : Int) + (m : Int) + (l : Int) + (o : Int) := by omega
    obtain ⟨k, hk⟩ : ∃ k, min l 5 = k := ⟨_, rfl⟩
    have hki : (if (5 : Int) < (l : Int) then 5 else (l : Int)) = (k : Int) := by split <;> omega
    have hkc : (k : Int) ≤ (g : Int) := by have := hg.1; omega
    obtain ⟨own, how⟩ : ∃ own, ls.take k = own := ⟨_, rfl⟩
    obtain ⟨N, hN⟩ : ∃ N, e % 24 = N := ⟨_, rfl⟩
    have hNi : (e : Int) % 24 = (N : Int) := by omega
    obtain ⟨k1, hk1⟩ : ∃ a, t % 20 = a := ⟨_, rfl⟩
    have hk1i : (t : Int) % 20 = (k1 : Int) := by omega
    obtain ⟨k2, hk2⟩ : ∃ a, t % 9 = a := ⟨_, rfl⟩
    have hk2i : (t : Int) % 9 = (k2 : Int) := by omega
    obtain ⟨k3, hk3⟩ : ∃ a, t % 12 = a := ⟨_, rfl⟩
    have hk3i : (t : Int) % 12 = (k3 : Int) := by omega
    obtain ⟨N2, hN2⟩ : ∃ a, N + 2 = a := ⟨_, rfl⟩
    have hN2i : (N : Int) + 2 = (N2 : Int) := by omega
    have hwN := wrap_nat N2 (by omega)
    have hN2z : (N2 = 0) = False := eq_false (by omega)
    have hN2y : ¬ (N2 : Int) = 0 := by omega
    obtain ⟨k4, hk4⟩ : ∃ a, t % N2 = a := ⟨_, rfl⟩
    have hk4i : (t : Int).tmod (N2 : Int) = (k4 : Int) := by rw [← hk4]; exact (Int.ofNat_tmod t N2).symm
    have hk4b : k4 < N2 := by rw [← hk4]; exact Nat.mod_lt _ (by omega)
    have hwk4 := wrap_nat k4 (by omega)
    have hwt := wrap_nat t (by omega)
    obtain ⟨z5, hz5⟩ : ∃ a : Int, (k4 : Int) - 1 = a := ⟨_, rfl⟩
    have hwz5 : IntKind.i64.wrap z5 = z5 := by rw [IntKind.wrap_i64]; omega
    have KN := known15_calls w
    have HX : Hid (Bs w q n xs ∧ n ≤ c ∧ Bs w p m ys ∧ m ≤ d ∧ Bs w r l ls ∧ Bs w u o fs ∧ n ≤ 160 ∧ m ≤ 160 ∧ l ≤ 160 ∧ o ≤ 160 ∧ k ≤ l ∧ ls.take k = own ∧ N ≤ 24 ∧ k ≤ g) := ⟨hs, hc.1, hy, hd.1, hl, hf, by omega, by omega, by omega, by omega, by omega, how, by omega, by omega⟩
    clear hs hc hy hd hl hg hf hv hbig hk how hN hk1 hk2 hk3 hN2 hk4 hk4b _he _ht
    go_enter Tryz.func3, Tryz.ntmps3
    go_wp2_with fail
    refine KN.mono ?_
    rintro e_ w1 ⟨rfl, hb⟩
    clear KN hwnm hwnl hwno hbi
    have H1 : Hid (Below w.heap.size w w1 ∧ Bs w1 q n xs ∧ Bs w1 p m ys ∧ Bs w1 r k own ∧ Bs w1 u o fs) := ⟨hb, (HX.out.1).below hb, (HX.out.2.2.1).below hb, by rw [← HX.out.2.2.2.2.2.2.2.2.2.2.2.1]; exact bs_take ((HX.out.2.2.2.2.1).below hb) k HX.out.2.2.2.2.2.2.2.2.2.2.1, (HX.out.2.2.2.2.2.1).below hb⟩
    clear hb
    have K := lmade_calls r u k g o v N own fs (by have := HX.out; omega) (by have := HX.out; omega) w1 (H1.out.2.2.2.1) (H1.out.2.2.2.2)
    go_wp2_with fail
    refine K.mono ?_
    rintro e_ w2 ⟨v2, rfl, hO, hb⟩
    obtain ⟨q2, c2, rfl, S2, C2, -⟩ := hO.tell (n := N) (Ms.mdL_byt (H1.out.2.2.2.2).byte N) (Ms.mdL_length own fs N)
    obtain ⟨ts, hts⟩ : ∃ ts, Ms.mdL own fs N = ts := ⟨_, rfl⟩
    rw [hts] at S2
    have H2 : Hid (Below w.heap.size w w2 ∧ Bs w2 q n xs ∧ Bs w2 p m ys ∧ Bs w2 q2 N ts) := ⟨(H1.out.1).trans (hb.mono (H1.out.1).size), (H1.out.2.1).below hb, (H1.out.2.2.1).below hb, S2⟩
    have HC : Hid (N ≤ c2) := C2
    clear K H1 hO hb S2 C2 hts hki hkc hNi
    have K := asks15_calls j q p n c m d xs ys z (by have := HX.out; omega) (by have := HX.out; omega) HX.out.2.1 HX.out.2.2.2.1 w2 (H2.out.2.1) (H2.out.2.2.1)
    go_wp2_with fail
    refine K.mono ?_
    rintro e_ w3 ⟨rfl, hb⟩
    have H3 : Hid (Below w.heap.size w w3 ∧ Bs w3 q n xs ∧ Bs w3 p m ys ∧ Bs w3 q2 N ts) := ⟨(H2.out.1).trans (hb.mono (H2.out.1).size), (H2.out.2.1).below hb, (H2.out.2.2.1).below hb, (H2.out.2.2.2).below hb⟩
    clear K hb H2
    have K := asks15_calls j q p n c m d xs ys (k1 : Int) (by have := HX.out; omega) (by have := HX.out; omega) HX.out.2.1 HX.out.2.2.2.1 w3 (H3.out.2.1) (H3.out.2.2.1)
    go_wp2_with fail
    refine K.mono ?_
    rintro e_ w4 ⟨rfl, hb⟩
    have H4 : Hid (Below w.heap.size w w4 ∧ Bs w4 q n xs ∧ Bs w4 p m ys ∧ Bs w4 q2 N ts) := ⟨(H3.out.1).trans (hb.mono (H3.out.1).size), (H3.out.2.1).below hb, (H3.out.2.2.1).below hb, (H3.out.2.2.2).below hb⟩
    clear K hb H3 hk1i
    have K := asks15_calls j q2 q N c2 n c ts xs (k2 : Int) (by have := HX.out; omega) (by have := HX.out; omega) HC.out HX.out.2.1 w4 (H4.out.2.2.2) (H4.out.2.1)
    go_wp2_with fail
    refine K.mono ?_
    rintro e_ w5 ⟨rfl, hb⟩
    have H5 : Hid (Below w.heap.size w w5 ∧ Bs w5 p m ys ∧ Bs w5 q2 N ts) := ⟨(H4.out.1).trans (hb.mono (H4.out.1).size), (H4.out.2.2.1).below hb, (H4.out.2.2.2).below hb⟩
    clear K hb H4 hk2i
    have K := keys15_calls j p m d ys z (by have := HX.out; omega) HX.out.2.2.2.1 w5 (H5.out.2.1)
    go_wp2_with fail
    refine K.mono ?_
    rintro e_ w6 ⟨rfl, hb⟩
    have H6 : Hid (Below w.heap.size w w6 ∧ Bs w6 p m ys ∧ Bs w6 q2 N ts) := ⟨(H5.out.1).trans (hb.mono (H5.out.1).size), (H5.out.2.1).below hb, (H5.out.2.2).below hb⟩
    clear K hb H5
    have K := keys15_calls j q2 N c2 ts z5 (by have := HX.out; omega) HC.out w6 (H6.out.2.2)
    go_wp2_with fail
    refine K.mono ?_
    rintro e_ w7 ⟨rfl, hb⟩
    have H7 : Hid (Below w.heap.size w w7 ∧ Bs w7 p m ys) := ⟨(H6.out.1).trans (hb.mono (H6.out.1).size), (H6.out.2.1).below hb⟩
    clear K hb H6 hN2i hwN hN2z hN2y hk4i hwk4 hz5 hwz5 hwt
    have K := keys15_calls j p m d ys (k3 : Int) (by have := HX.out; omega) HX.out.2.2.2.1 w7 (H7.out.2)
    go_wp2_with fail
    refine K.mono ?_
    rintro e_ w8 ⟨rfl, hb⟩
    have H8 : Hid (Below w.heap.size w w8) := (H7.out.1).trans (hb.mono (H7.out.1).size)
    clear K hb H7
    have HZ : Hid (Below w.heap.size w w8) := H8.out
    clear H8
    go_wp2
    go_ret
    exact ⟨rfl, HZ.out⟩
  · have hbi : (160 : Int) < (n : Int) + (m : Int) + (l : Int) + (o : Int) := by omega
    have KN := known15_calls w
    clear hs hc hy hd hl hg hf hv hbig _he _ht
    go_enter Tryz.func3, Tryz.ntmps3
    go_wp2_with fail
    refine KN.mono ?_
    rintro e_ w1 ⟨rfl, hb⟩
    clear KN
    go_wp2
    go_ret
    exact ⟨rfl, hb⟩
theorem own : ownKnob Tryz.prog.godebug = none := by kernel_rfl
theorem laidOut : laidOutB Tryz.prog = true := by kernel_rfl
set_option maxRecDepth 100000 in
theorem lifted (os : Os) (started : os.Started) (H : Type) (enc : TypeId × Value → H) :
    ReturnsInHanded {} Tryz.checked os 3 .any (Rows.euclidAsksSpec.pre6 enc Tryz.prog Tryz.f3 Rows.euclidAsksRow.domain false) (Rows.euclidAsksSpec.post enc Tryz.prog Tryz.f3 false true false false) := by
  refine returnsInHanded_of_change_sized (C := Tryz.checked) own started (by kernel_rfl) Tryz.func3
    (ChangeSpec.witness6 (enc := enc) (C := Tryz.checked) false ⟨#[], #[.int .u8 0, .slice none 0 0, .slice none 0 0, .int .i64 0, .slice none 0 0, .slice none 0 0, .int .u8 0, .int .u8 0], []⟩ 8 (by kernel_rfl) (by kernel_rfl) (by kernel_rfl) (by kernel_rfl)) ?_
  intro W base args ds gs before hval0 hW _ hz _
  have hval : ∀ (j : Nat) t v, Tryz.f3.params[j]? = some t → args[j]? = some v → Value.okWide Tryz.prog W .any base t v := hval0
  have hW' := hW
  obtain ⟨p, q, hA0, hV, rfl, _, _⟩ := hW
  have hA : DataW.TrodAll enc Tryz.prog W 0 (fun _ => true) true Tryz.f3.params.toList args.toList ds p := hA0
  rw [Tryz.params3] at hA hval
  obtain ⟨v0, vs0, d0, ds0, p0, q0, hargs, rfl, rfl, h0, r0⟩ := trodAll_cons hA
  obtain ⟨v1, vs1, d1, ds1, p1, q1, rfl, rfl, rfl, h1, r1⟩ := trodAll_cons r0
  obtain ⟨v2, vs2, d2, ds2, p2, q2, rfl, rfl, rfl, h2, r2⟩ := trodAll_cons r1
  obtain ⟨v3, vs3, d3, ds3, p3, q3, rfl, rfl, rfl, h3, r3⟩ := trodAll_cons r2
  obtain ⟨v4, vs4, d4, ds4, p4, q4, rfl, rfl, rfl, h4, r4⟩ := trodAll_cons r3
  obtain ⟨v5, vs5, d5, ds5, p5, q5, rfl, rfl, rfl, h5, r5⟩ := trodAll_cons r4
  obtain ⟨v6, vs6, d6, ds6, p6, q6, rfl, rfl, rfl, h6, r6⟩ := trodAll_cons r5
  obtain ⟨v7, vs7, d7, ds7, p7, q7, rfl, rfl, rfl, h7, r7⟩ := trodAll_cons r6
  obtain ⟨rfl, rfl, rfl⟩ := trodAll_nil r7
  obtain rfl : args = #[v0, v1, v2, v3, v4, v5, v6, v7] := by cases args; simp_all
  obtain ⟨rfl, rfl⟩ := trodVars_none hV
  obtain ⟨a0, rfl, rfl, rfl, w0⟩ := open_int Tryz.underlying5 (hval 0 5 v0 rfl rfl) h0
  obtain ⟨n0, b0, rfl⟩ := nat_of_u8 w0
  have k1 := h1
  obtain ⟨q1, n1, c1, xs1, rfl, w1, m1⟩ := open_bytes_sz Tryz.underlying22 Tryz.underlying5 (by kernel_rfl) (hval 1 22 v1 rfl rfl) h1
  have y1 : n1 ≤ c1 ∧ c1 ≤ 140737488351232 := ⟨m1.1, m1.2 _ fun el sp hd => by have := sized_slice (j := 1) (t := 22) (e := 5) (elems := el) (spare := sp) hz (by kernel_rfl) (by first | (rw [← hd]; done) | (rw [← hd]; rfl)) Tryz.underlying22; have hbe : Tryz.checked.prog.bytesOf 5 = 1 := (by kernel_rfl); have hre : reachBytes = 140737488351232 := rfl; rw [hbe, hre] at this; omega⟩
  have k2 := h2
  obtain ⟨q2, n2, c2, xs2, rfl, w2, m2⟩ := open_bytes_sz Tryz.underlying22 Tryz.underlying5 (by kernel_rfl) (hval 2 22 v2 rfl rfl) h2
  have y2 : n2 ≤ c2 ∧ c2 ≤ 140737488351232 := ⟨m2.1, m2.2 _ fun el sp hd => by have := sized_slice (j := 2) (t := 22) (e := 5) (elems := el) (spare := sp) hz (by kernel_rfl) (by first | (rw [← hd]; done) | (rw [← hd]; rfl)) Tryz.underlying22; have hbe : Tryz.checked.prog.bytesOf 5 = 1 := (by kernel_rfl); have hre : reachBytes = 140737488351232 := rfl; rw [hbe, hre] at this; omega⟩
  obtain ⟨a3, rfl, rfl, rfl, w3⟩ := open_int Tryz.underlying3 (hval 3 3 v3 rfl rfl) h3
  obtain ⟨b3, c3⟩ := int_of_i64 w3
  have k4 := h4
  obtain ⟨q4, n4, c4, xs4, rfl, w4, m4⟩ := open_bytes_sz Tryz.underlying22 Tryz.underlying5 (by kernel_rfl) (hval 4 22 v4 rfl rfl) h4
  have y4 : n4 ≤ c4 ∧ c4 ≤ 140737488351232 := ⟨m4.1, m4.2 _ fun el sp hd => by have := sized_slice (j := 4) (t := 22) (e := 5) (elems := el) (spare := sp) hz (by kernel_rfl) (by first | (rw [← hd]; done) | (rw [← hd]; rfl)) Tryz.underlying22; have hbe : Tryz.checked.prog.bytesOf 5 = 1 := (by kernel_rfl); have hre : reachBytes = 140737488351232 := rfl; rw [hbe, hre] at this; omega⟩
  have k5 := h5
  obtain ⟨q5, n5, c5, xs5, rfl, w5, m5⟩ := open_bytes_sz Tryz.underlying22 Tryz.underlying5 (by kernel_rfl) (hval 5 22 v5 rfl rfl) h5
  have y5 : n5 ≤ c5 ∧ c5 ≤ 140737488351232 := ⟨m5.1, m5.2 _ fun el sp hd => by have := sized_slice (j := 5) (t := 22) (e := 5) (elems := el) (spare := sp) hz (by kernel_rfl) (by first | (rw [← hd]; done) | (rw [← hd]; rfl)) Tryz.underlying22; have hbe : Tryz.checked.prog.bytesOf 5 = 1 := (by kernel_rfl); have hre : reachBytes = 140737488351232 := rfl; rw [hbe, hre] at this; omega⟩
  obtain ⟨a6, rfl, rfl, rfl, w6⟩ := open_int Tryz.underlying5 (hval 6 5 v6 rfl rfl) h6
  obtain ⟨n6, b6, rfl⟩ := nat_of_u8 w6
  obtain ⟨a7, rfl, rfl, rfl, w7⟩ := open_int Tryz.underlying5 (hval 7 5 v7 rfl rfl) h7
  obtain ⟨n7, b7, rfl⟩ := nat_of_u8 w7
  clear hA0 hval0
  simp only [List.append_nil] at hW'
  refine (walk (w := W) n0 q1 n1 c1 xs1 q2 n2 c2 xs2 a3 q4 n4 c4 xs4 q5 n5 c5 xs5 n6 n7 b0 w1 y1 w2 y2 b3 c3 w4 y4 w5 y5 b6 b7).mono fun e W' ⟨he, bel⟩ => ?_
  subst he
  exact ⟨_, rfl, _, _, _, [], _, [], hW', trodAll_mk1 (shut_bool Tryz.underlying4 _), (trodAll_cons_mk (shut_int Tryz.underlying5 w0) (trodAll_cons_mk (shut_same laidOut (by kernel_rfl) (of_decide_eq_true (by kernel_rfl)) k1 bel) (trodAll_cons_mk (shut_same laidOut (by kernel_rfl) (of_decide_eq_true (by kernel_rfl)) k2 bel) (trodAll_cons_mk (shut_int Tryz.underlying3 w3) (trodAll_cons_mk (shut_same laidOut (by kernel_rfl) (of_decide_eq_true (by kernel_rfl)) k4 bel) (trodAll_cons_mk (shut_same laidOut (by kernel_rfl) (of_decide_eq_true (by kernel_rfl)) k5 bel) (trodAll_cons_mk (shut_int Tryz.underlying5 w6) (trodAll_cons_mk (shut_int Tryz.underlying5 w7) trodAll_mk0)))))))), rfl, bel.frame _, fun h => by cases h⟩
theorem over : Rows.euclidAsksRow.holds Tryz.pinned (OpenSpec.ofChange Rows.euclidAsksSpec) :=
  OpenClaim.holds_of_wide 3 Tryz.f3 rfl rfl rfl rfl rfl rfl rfl ⟨rfl, rfl, rfl, rfl, rfl⟩ rfl rfl rfl rfl rfl (by kernel_rfl) Tryz.func3 (by kernel_rfl)
    (of_decide_eq_true (by kernel_rfl)) (by unfold Func.isWrapper; first | (rw [if_pos (by decide +kernel)]; kernel_rfl) | (rw [if_neg (by decide +kernel)]; exact ⟨rfl, rfl⟩))
    (fun os started H enc _ => lifted os started H enc)
theorem proved : Rows.EuclidAsksSaid := over
#print axioms proved
end Go.Proofs.YthnlcdfonbnjcaaGreat.euclidAsks
