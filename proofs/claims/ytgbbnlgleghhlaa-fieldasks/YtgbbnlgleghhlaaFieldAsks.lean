/- FieldAsks holds for every input: all calls by any number of a backend, of any bytes and numbers, are what the chapter says. No conditions. -/
import Derived.Test.YtgbbnlgleghhlaaRows
import Derived.Test.YtgbbnlgleghhlaaNums
import Derived.Test.YtgbbnlgleghhlaaCaps
import Derived.Test.YtgbbnlgleghhlaaKnown04
import Derived.Test.YtgbbnlgleghhlaaRef04
import Derived.Test.YtgbbnlgleghhlaaRefSame
import Derived.Test.YtgbbnlgleghhlaaTold
namespace Go.Proofs.Ytgbbnlgleghhlaa.fieldAsks
open Go.ChangeShapes Go.WideShapes Go.ChangeAt Go.RowKit

set_option maxRecDepth 100000 in
set_option maxHeartbeats 4000000 in
theorem asks_calls (k a b : Nat) (q : Option Addr) (n c : Nat) (xs : List Nat) (p : Option Addr) (m d : Nat) (ys : List Nat) (z : Int) (w : World) (hk1 : 1 ≤ k) (hk3 : k ≤ 3) (ha : a < 256) (hb0 : b < 256) (S_l : Bs w q n xs) (hnc : n ≤ c) (hn : n ≤ 1000000000) (S_m : Bs w p m ys) (hmd : m ≤ d) (hm : m ≤ 1000000000) (hz1 : -9223372036854775808 ≤ z) (hz2 : z < 9223372036854775808) :
    Calls Try.prog 10 #[.int .i64 (k : Int), .int .u8 a, .int .u8 b, .slice q n c, .slice p m d, .int .i64 z] w fun e w' => e = .returned (.bool true) ∧ Below w.heap.size w w' := by
  obtain ⟨bt, hbt⟩ : ∃ bt, (b != 0) = bt := ⟨_, rfl⟩
  have hbi : ((b : Int) != 0) = bt := by
    rw [← hbt, Bool.eq_iff_iff]
    simp only [bne_iff_ne]
    omega
  have HBt : Hid ((b != 0) = bt) := hbt
  have HE : Hid (∀ i, (xs.map (Gf.mul a)).getD i 0 < 256) := map_byte a xs ha
  have HEn : Hid ((xs.map (Gf.mul a)).length = n) := by
    show (xs.map (Gf.mul a)).length = n
    rw [List.length_map]; exact S_l.len
  obtain ⟨mn, hmn⟩ : ∃ mn, (List.zipWith Gf.mul xs ys).length = mn := ⟨_, rfl⟩
  have HPn : Hid ((List.zipWith Gf.mul xs ys).length = mn) := hmn
  clear hmn
  have HP : Hid (∀ i, (List.zipWith Gf.mul xs ys).getD i 0 < 256) := zip_byte xs ys S_l.byte
  obtain ⟨iv, hiv⟩ : ∃ iv, Gf.inv a = iv := ⟨_, rfl⟩
  have HIv : Hid (Gf.inv a = iv) := hiv
  have KI : Hid (∀ w, Calls Try.prog 21 #[.int .u8 a] w fun e w' => e = .returned (.tuple #[.int .u8 (iv : Nat), .bool (a != 0)]) ∧ w' = w) := fun w => by
    have := rinv_calls a ha w
    rw [hiv] at this
    exact this
  clear hbt hiv
  have HB : Below w.heap.size w w := Below.refl _ _
  go_enter Try.func10, Try.ntmps10
  go_wp2_with fail
  refine (fof_calls k hk1 hk3 _).mono ?_
  rintro e w1 ⟨B_f, T_f, rfl, HF_f, hb, hlB, hlT⟩
  have HL_f : w.heap.size ≤ T_f := Nat.le_trans HB.size hlT
  have Q_l_f := S_l.off hlT
  have Q_m_f := S_m.off hlT
  replace HB := HB.trans (hb.mono HB.size)
  replace S_l := S_l.below hb
  replace S_m := S_m.below hb
  clear hb hlB hlT
  go_wp2_with fail
  refine (finv_e k B_f T_f a iv (a != 0) ha HIv.out rfl _ HF_f).mono ?_
  rintro e w2 ⟨rfl, hF, hb⟩
  replace HB := HB.trans (hb.below HB.size (by rintro k rfl; exact HL_f))
  replace S_l := S_l.but hb Q_l_f
  replace S_m := S_m.but hb Q_m_f
  clear HF_f hb
  have HF_f := hF
  clear hF
  go_wp2_with fail
  refine (KI.out _).mono ?_
  rintro e w3 ⟨rfl, hw⟩
  subst hw
  go_wp2_with fail
  refine (fdiv_e k B_f T_f a b (Gf.div a b) bt ha hb0 rfl HBt.out _ HF_f).mono ?_
  rintro e w4 ⟨rfl, hF, hb⟩
  replace HB := HB.trans (hb.below HB.size (by rintro k rfl; exact HL_f))
  replace S_l := S_l.but hb Q_l_f
  replace S_m := S_m.but hb Q_m_f
  clear HF_f hb
  have HF_f := hF
  clear hF
  go_wp2_with fail
  refine (fbackend_calls k B_f T_f _ HF_f).mono ?_
  rintro e w5 ⟨rfl, hw⟩
  subst hw
  go_wp2_with fail
  refine (fmul_e k B_f T_f a b (Gf.mul a b) ha hb0 rfl _ HF_f).mono ?_
  rintro e w6 ⟨rfl, hF, hb⟩
  replace HB := HB.trans (hb.below HB.size (by rintro k rfl; exact HL_f))
  replace S_l := S_l.but hb Q_l_f
  replace S_m := S_m.but hb Q_m_f
  clear HF_f hb
  have HF_f := hF
  clear hF
  go_wp2_with fail
  refine (rmul_calls a b ha _).mono ?_
  rintro e w7 ⟨rfl, hw⟩
  subst hw
  go_wp2_with fail
  refine (rdiv_calls a b ha hb0 _).mono ?_
  rintro e w8 ⟨rfl, hw⟩
  subst hw
  go_wp2_with fail
  refine (fpow_e k B_f T_f a z (Gf.powZ a z) ha hz1 hz2 rfl _ HF_f).mono ?_
  rintro e w9 ⟨rfl, hF, hb⟩
  replace HB := HB.trans (hb.below HB.size (by rintro k rfl; exact HL_f))
  replace S_l := S_l.but hb Q_l_f
  replace S_m := S_m.but hb Q_m_f
  clear HF_f hb
  have HF_f := hF
  clear hF
  go_wp2_with fail
  refine (rpow_calls a z ha _).mono ?_
  rintro e w10 ⟨rfl, hw⟩
  subst hw
  go_wp2_with fail
  refine (feach_calls k B_f T_f a n c q xs ha hn hnc _ HF_f S_l Q_l_f).mono ?_
  rintro e w11 ⟨v, rfl, hO, hF, hb⟩
  obtain ⟨q_e, c_e, rfl, S_e, C_e, hQ⟩ := hO.tell HE.out HEn.out
  clear hO
  have Q_e_f := hQ _ HF_f.lt
  clear hQ
  replace HB := HB.trans (hb.below HB.size (by rintro k rfl; exact HL_f))
  replace S_l := S_l.but hb Q_l_f
  replace S_m := S_m.but hb Q_m_f
  clear HF_f hb
  have HF_f := hF
  clear hF
  go_wp2_with fail
  refine (reach_calls a n c q xs ha hn _ S_l).mono ?_
  rintro e w12 ⟨v, rfl, hO, hb⟩
  obtain ⟨q_g, c_g, rfl, S_g, C_g, hQ⟩ := hO.tell HE.out HEn.out
  clear hO
  have Q_g_f := hQ _ HF_f.lt
  clear hQ
  replace HB := HB.trans (hb.mono HB.size)
  replace HF_f := HF_f.below hb
  replace S_l := S_l.below hb
  replace S_m := S_m.below hb
  replace S_e := S_e.below hb
  clear hb
  go_wp2_with fail
  refine (same_calls _ _ _ _ _ _ _ S_e S_g).mono ?_
  rintro e w13 ⟨rfl, hb⟩
  replace HB := HB.trans (hb.mono HB.size)
  replace HF_f := HF_f.below hb
  replace S_l := S_l.below hb
  replace S_m := S_m.below hb
  replace S_e := S_e.below hb
  replace S_g := S_g.below hb
  clear hb
  go_wp2_with fail
  refine (fpairs_calls k B_f T_f n m c d q p xs ys hn hm hnc hmd _ HF_f S_l S_m Q_l_f Q_m_f).mono ?_
  rintro e w14 ⟨v, rfl, hO, hF, hb⟩
  obtain ⟨q_u, c_u, rfl, S_u, C_u, hQ⟩ := hO.tell HP.out HPn.out
  clear hO
  have Q_u_f := hQ _ HF_f.lt
  clear hQ
  replace HB := HB.trans (hb.below HB.size (by rintro k rfl; exact HL_f))
  replace S_l := S_l.but hb Q_l_f
  replace S_m := S_m.but hb Q_m_f
  replace S_e := S_e.but hb Q_e_f
  replace S_g := S_g.but hb Q_g_f
  clear HF_f hb
  have HF_f := hF
  clear hF
  go_wp2_with fail
  refine (rpairs_calls n m c d q p xs ys hn hm _ S_l S_m).mono ?_
  rintro e w15 ⟨v, rfl, hO, hb⟩
  obtain ⟨q_v, c_v, rfl, S_v, C_v, hQ⟩ := hO.tell HP.out HPn.out
  clear hO
  have Q_v_f := hQ _ HF_f.lt
  clear hQ
  replace HB := HB.trans (hb.mono HB.size)
  replace HF_f := HF_f.below hb
  replace S_l := S_l.below hb
  replace S_m := S_m.below hb
  replace S_e := S_e.below hb
  replace S_g := S_g.below hb
  replace S_u := S_u.below hb
  clear hb
  go_wp2_with fail
  refine (same_calls _ _ _ _ _ _ _ S_u S_v).mono ?_
  rintro e w16 ⟨rfl, hb⟩
  replace HB := HB.trans (hb.mono HB.size)
  replace HF_f := HF_f.below hb
  replace S_l := S_l.below hb
  replace S_m := S_m.below hb
  replace S_e := S_e.below hb
  replace S_g := S_g.below hb
  replace S_u := S_u.below hb
  replace S_v := S_v.below hb
  clear hb
  go_wp2_with fail
  refine (fdot_calls k B_f T_f n m c d q p xs ys hn hm hnc hmd _ HF_f S_l S_m Q_l_f Q_m_f).mono ?_
  rintro e w17 ⟨rfl, hF, hb⟩
  replace HB := HB.trans (hb.below HB.size (by rintro k rfl; exact HL_f))
  replace S_l := S_l.but hb Q_l_f
  replace S_m := S_m.but hb Q_m_f
  replace S_e := S_e.but hb Q_e_f
  replace S_g := S_g.but hb Q_g_f
  replace S_u := S_u.but hb Q_u_f
  replace S_v := S_v.but hb Q_v_f
  clear HF_f hb
  have HF_f := hF
  clear hF
  go_wp2_with fail
  refine (rdot_calls n m c d q p xs ys hn hm _ S_l S_m).mono ?_
  rintro e w18 ⟨rfl, hb⟩
  replace HB := HB.trans (hb.mono HB.size)
  replace HF_f := HF_f.below hb
  replace S_l := S_l.below hb
  replace S_m := S_m.below hb
  replace S_e := S_e.below hb
  replace S_g := S_g.below hb
  replace S_u := S_u.below hb
  replace S_v := S_v.below hb
  clear hb
  go_wp2
  go_ret
  exact ⟨rfl, HB⟩

set_option maxRecDepth 100000 in
set_option maxHeartbeats 4000000 in
theorem walk (x : Int) (j a b : Nat) (q : Option Addr) (n c : Nat) (xs : List Nat) (p : Option Addr) (m d : Nat) (ys : List Nat) (z : Int) (w : World) (_hx1 : -9223372036854775808 ≤ x) (_hx2 : x < 9223372036854775808) (hj : j < 256) (ha : a < 256) (hb0 : b < 256) (S_l : Bs w q n xs) (hc : n ≤ c ∧ c ≤ 140737488351232) (S_m : Bs w p m ys) (hd : m ≤ d ∧ d ≤ 140737488351232) (hz1 : -9223372036854775808 ≤ z) (hz2 : z < 9223372036854775808) :
    Calls Try.prog 3 #[.int .i64 x, .int .u8 j, .int .u8 a, .int .u8 b, .slice q n c, .slice p m d, .int .i64 z] w fun e w' => e = .returned (.bool true) ∧ Below w.heap.size w w' := by
  have hnot : ∀ (x : Bool) (w : World), (Op.unary .not (.bool x)).run Try.prog w = .ok (.bool (!x)) w := fun _ _ => rfl
  obtain ⟨k, hk⟩ : ∃ k : Nat, 1 + j % 3 = k := ⟨_, rfl⟩
  have hk1 : 1 ≤ k := by omega
  have hk3 : k ≤ 3 := by omega
  have hki : (1 : Int) + (j : Int) % 3 = (k : Int) := by omega
  clear hk
  have HB : Below w.heap.size w w := Below.refl _ _
  go_enter Try.func3, Try.ntmps3
  by_cases hbig : 300 < n + m
  · have hbi : (300 : Int) < (n : Int) + (m : Int) := by omega
    go_wp2_with fail
    refine (known04_calls _).mono ?_
    rintro e w1 ⟨rfl, hb⟩
    replace HB := HB.trans (hb.mono HB.size)
    replace S_l := S_l.below hb
    replace S_m := S_m.below hb
    clear hb
    go_wp2
    go_ret
    exact ⟨rfl, HB⟩
  · have hbi : ¬ (300 : Int) < (n : Int) + (m : Int) := by omega
    go_wp2_with fail
    refine (known04_calls _).mono ?_
    rintro e w1 ⟨rfl, hb⟩
    replace HB := HB.trans (hb.mono HB.size)
    replace S_l := S_l.below hb
    replace S_m := S_m.below hb
    clear hb
    have KA : Hid (∀ w, Bs w q n xs → Bs w p m ys → Calls Try.prog 10 #[.int .i64 (k : Int), .int .u8 a, .int .u8 b, .slice q n c, .slice p m d, .int .i64 z] w fun e w' => e = .returned (.bool true) ∧ Below w.heap.size w w') := fun w h1 h2 => asks_calls k a b q n c xs p m d ys z w hk1 hk3 ha hb0 h1 hc.1 (by omega) h2 hd.1 (by omega) hz1 hz2
    by_cases hx : 1 ≤ x ∧ x ≤ 3
    · obtain ⟨h1, h3⟩ := hx
      have KO : Hid (∀ w, Calls Try.prog 9 #[.int .i64 x] w fun e w' => ∃ B T, e = .returned (.pointer (some ⟨B, 0, none⟩)) ∧ Fd x.toNat B T w' ∧ Below w.heap.size w w' ∧ w.heap.size ≤ B ∧ w.heap.size ≤ T) := fun w => by
        have := fof_calls x.toNat (by omega) (by omega) w
        rw [Int.toNat_of_nonneg (by omega)] at this
        exact this
      go_wp2_with fail
      refine (KO.out _).mono ?_
      rintro e w2 ⟨B_f, T_f, rfl, HF_f, hb, hlB, hlT⟩
      have HL_f : w.heap.size ≤ T_f := Nat.le_trans HB.size hlT
      have Q_l_f := S_l.off hlT
      have Q_m_f := S_m.off hlT
      replace HB := HB.trans (hb.mono HB.size)
      replace S_l := S_l.below hb
      replace S_m := S_m.below hb
      clear hb hlB hlT
      go_wp2_with fail
      refine (KA.out _ S_l S_m).mono ?_
      rintro e w3 ⟨rfl, hb⟩
      replace HB := HB.trans (hb.mono HB.size)
      replace HF_f := HF_f.below hb
      replace S_l := S_l.below hb
      replace S_m := S_m.below hb
      clear hb
      go_wp2
      go_ret
      exact ⟨rfl, HB⟩
    · have KO : Hid (∀ w, Calls Try.prog 9 #[.int .i64 x] w fun e w' => e = .returned (.pointer none) ∧ w' = w) := fun w => fof_none x (by omega) w
      rcases (by omega : x < 1 ∨ 3 < x) with hx1 | hx3
      · have hxi : ¬ 1 ≤ x := by omega
        go_wp2_with fail
        refine (KO.out _).mono ?_
        rintro e w2 ⟨rfl, hw⟩
        subst hw
        go_wp2_with fail
        refine (KA.out _ S_l S_m).mono ?_
        rintro e w3 ⟨rfl, hb⟩
        replace HB := HB.trans (hb.mono HB.size)
        replace S_l := S_l.below hb
        replace S_m := S_m.below hb
        clear hb
        go_wp2
        go_ret
        exact ⟨rfl, HB⟩
      · have hxi : 1 ≤ x := by omega
        have hxj : (x ≤ 3) = False := eq_false (by omega)
        go_wp2_with fail
        refine (KO.out _).mono ?_
        rintro e w2 ⟨rfl, hw⟩
        subst hw
        go_wp2_with fail
        refine (KA.out _ S_l S_m).mono ?_
        rintro e w3 ⟨rfl, hb⟩
        replace HB := HB.trans (hb.mono HB.size)
        replace S_l := S_l.below hb
        replace S_m := S_m.below hb
        clear hb
        go_wp2
        go_ret
        exact ⟨rfl, HB⟩

theorem own : ownKnob Try.prog.godebug = none := by kernel_rfl
theorem laidOut : laidOutB Try.prog = true := by kernel_rfl
set_option maxRecDepth 100000 in
theorem lifted (os : Os) (started : os.Started) (H : Type) (enc : TypeId × Value → H) :
    ReturnsInHanded {} Try.checked os 3 .any (Rows.fieldAsksSpec.pre6 enc Try.prog Try.f3 Rows.fieldAsksRow.domain false) (Rows.fieldAsksSpec.post enc Try.prog Try.f3 false true false false) := by
  refine returnsInHanded_of_change_sized (C := Try.checked) own started (by kernel_rfl) Try.func3
    (ChangeSpec.witness6 (enc := enc) (C := Try.checked) false ⟨#[], #[.int .i64 0, .int .u8 0, .int .u8 0, .int .u8 0, .slice none 0 0, .slice none 0 0, .int .i64 0], []⟩ 8 (by kernel_rfl) (by kernel_rfl) (by kernel_rfl) (by kernel_rfl)) ?_
  intro W base args ds gs before hval0 hW _ hz _
  have hval : ∀ (j : Nat) t v, Try.f3.params[j]? = some t → args[j]? = some v → Value.okWide Try.prog W .any base t v := hval0
  have hW' := hW
  obtain ⟨p, q, hA0, hV, rfl, _, _⟩ := hW
  have hA : DataW.TrodAll enc Try.prog W 0 (fun _ => true) true Try.f3.params.toList args.toList ds p := hA0
  rw [Try.params3] at hA hval
  obtain ⟨v0, vs0, d0, ds0, p0, q0, hargs, rfl, rfl, h0, r0⟩ := trodAll_cons hA
  obtain ⟨v1, vs1, d1, ds1, p1, q1, rfl, rfl, rfl, h1, r1⟩ := trodAll_cons r0
  obtain ⟨v2, vs2, d2, ds2, p2, q2, rfl, rfl, rfl, h2, r2⟩ := trodAll_cons r1
  obtain ⟨v3, vs3, d3, ds3, p3, q3, rfl, rfl, rfl, h3, r3⟩ := trodAll_cons r2
  obtain ⟨v4, vs4, d4, ds4, p4, q4, rfl, rfl, rfl, h4, r4⟩ := trodAll_cons r3
  obtain ⟨v5, vs5, d5, ds5, p5, q5, rfl, rfl, rfl, h5, r5⟩ := trodAll_cons r4
  obtain ⟨v6, vs6, d6, ds6, p6, q6, rfl, rfl, rfl, h6, r6⟩ := trodAll_cons r5
  obtain ⟨rfl, rfl, rfl⟩ := trodAll_nil r6
  obtain rfl : args = #[v0, v1, v2, v3, v4, v5, v6] := by cases args; simp_all
  obtain ⟨rfl, rfl⟩ := trodVars_none hV
  obtain ⟨a0, rfl, rfl, rfl, w0⟩ := open_int Try.underlying3 (hval 0 3 v0 rfl rfl) h0
  obtain ⟨b0, c0⟩ := int_of_i64 w0
  obtain ⟨a1, rfl, rfl, rfl, w1⟩ := open_int Try.underlying5 (hval 1 5 v1 rfl rfl) h1
  obtain ⟨n1, b1, rfl⟩ := nat_of_u8 w1
  obtain ⟨a2, rfl, rfl, rfl, w2⟩ := open_int Try.underlying5 (hval 2 5 v2 rfl rfl) h2
  obtain ⟨n2, b2, rfl⟩ := nat_of_u8 w2
  obtain ⟨a3, rfl, rfl, rfl, w3⟩ := open_int Try.underlying5 (hval 3 5 v3 rfl rfl) h3
  obtain ⟨n3, b3, rfl⟩ := nat_of_u8 w3
  have k4 := h4
  obtain ⟨q4, n4, c4, xs4, rfl, w4, m4⟩ := open_bytes_sz Try.underlying22 Try.underlying5 (by kernel_rfl) (hval 4 22 v4 rfl rfl) h4
  have y4 : n4 ≤ c4 ∧ c4 ≤ 140737488351232 := ⟨m4.1, m4.2 _ fun el sp hd => by have := sized_slice (j := 4) (t := 22) (e := 5) (elems := el) (spare := sp) hz (by kernel_rfl) (by first | (rw [← hd]; done) | (rw [← hd]; rfl)) Try.underlying22; have hbe : Try.checked.prog.bytesOf 5 = 1 := (by kernel_rfl); have hre : reachBytes = 140737488351232 := rfl; rw [hbe, hre] at this; omega⟩
  have k5 := h5
  obtain ⟨q5, n5, c5, xs5, rfl, w5, m5⟩ := open_bytes_sz Try.underlying22 Try.underlying5 (by kernel_rfl) (hval 5 22 v5 rfl rfl) h5
  have y5 : n5 ≤ c5 ∧ c5 ≤ 140737488351232 := ⟨m5.1, m5.2 _ fun el sp hd => by have := sized_slice (j := 5) (t := 22) (e := 5) (elems := el) (spare := sp) hz (by kernel_rfl) (by first | (rw [← hd]; done) | (rw [← hd]; rfl)) Try.underlying22; have hbe : Try.checked.prog.bytesOf 5 = 1 := (by kernel_rfl); have hre : reachBytes = 140737488351232 := rfl; rw [hbe, hre] at this; omega⟩
  obtain ⟨a6, rfl, rfl, rfl, w6⟩ := open_int Try.underlying3 (hval 6 3 v6 rfl rfl) h6
  obtain ⟨b6, c6⟩ := int_of_i64 w6
  clear hA0 hval0
  simp only [List.append_nil] at hW'
  refine (walk (w := W) a0 n1 n2 n3 q4 n4 c4 xs4 q5 n5 c5 xs5 a6 b0 c0 b1 b2 b3 w4 y4 w5 y5 b6 c6).mono fun e W' ⟨he, bel⟩ => ?_
  subst he
  exact ⟨_, rfl, _, _, _, [], _, [], hW', trodAll_mk1 (shut_bool Try.underlying4 _), (trodAll_cons_mk (shut_int Try.underlying3 w0) (trodAll_cons_mk (shut_int Try.underlying5 w1) (trodAll_cons_mk (shut_int Try.underlying5 w2) (trodAll_cons_mk (shut_int Try.underlying5 w3) (trodAll_cons_mk (shut_same laidOut (by kernel_rfl) (of_decide_eq_true (by kernel_rfl)) k4 bel) (trodAll_cons_mk (shut_same laidOut (by kernel_rfl) (of_decide_eq_true (by kernel_rfl)) k5 bel) (trodAll_cons_mk (shut_int Try.underlying3 w6) trodAll_mk0))))))), rfl, bel.frame _, fun h => by cases h⟩
theorem over : Rows.fieldAsksRow.holds Try.pinned (OpenSpec.ofChange Rows.fieldAsksSpec) :=
  OpenClaim.holds_of_wide 3 Try.f3 rfl rfl rfl rfl rfl rfl rfl ⟨rfl, rfl, rfl, rfl, rfl⟩ rfl rfl rfl rfl rfl (by kernel_rfl) Try.func3 (by kernel_rfl)
    (of_decide_eq_true (by kernel_rfl)) (by unfold Func.isWrapper; first | (rw [if_pos (by decide +kernel)]; kernel_rfl) | (rw [if_neg (by decide +kernel)]; exact ⟨rfl, rfl⟩))
    (fun os started H enc _ => lifted os started H enc)
theorem proved : Rows.FieldAsksSaid := over
#print axioms proved
end Go.Proofs.Ytgbbnlgleghhlaa.fieldAsks
