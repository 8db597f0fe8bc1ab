/- ShiftPowers holds for every input: powers are multiplied by sums; the power 255 of all but 0 is 1, and squares go with sums. No conditions. -/
import Derived.Test.YtfpeabdgajpcjaaRows
import Derived.Test.YtfpeabdgajpcjaaNums
import Derived.Test.YtfpeabdgajpcjaaKnown01
namespace Go.Proofs.Ytfpeabdgajpcjaa.shiftPowers
open Go.ChangeShapes Go.WideShapes Go.ChangeAt Go.RowKit

set_option maxHeartbeats 1000000 in
theorem walk_zero (b : Nat) (n m : Int) (hn1 : -32768 ≤ n) (hn2 : n < 32768) (w : World) :
    Calls Try.prog 6 #[.int .u8 ((0 : Nat) : Int), .int .u8 b, .int .i16 n, .int .i16 m] w fun e w' => e = .returned (.bool true) ∧ Below w.heap.size w w' := by
  by_cases h : n = 0
  · subst h
    have HB : Below w.heap.size w w := Below.refl _ _
    go_enter Try.func6, Try.ntmps6
    go_wp2_with fail
    refine (known01_calls _).mono ?_
    rintro e w1 ⟨rfl, hb⟩
    replace HB := HB.trans (hb.mono HB.size)
    clear hb
    go_wp2_with fail
    refine (pow_e 0 0 1 (by decide) (by decide) (by decide) rfl _).mono ?_
    rintro e w2 ⟨rfl, hb⟩
    replace HB := HB.trans (hb.mono HB.size)
    clear hb
    go_wp2
    go_ret
    exact ⟨rfl, HB⟩
  · have hn : (n == 0) = false := by simp [h]
    have HB : Below w.heap.size w w := Below.refl _ _
    go_enter Try.func6, Try.ntmps6
    go_wp2_with fail
    refine (known01_calls _).mono ?_
    rintro e w1 ⟨rfl, hb⟩
    replace HB := HB.trans (hb.mono HB.size)
    clear hb
    go_wp2_with fail
    refine (pow_e 0 0 1 (by decide) (by decide) (by decide) rfl _).mono ?_
    rintro e w2 ⟨rfl, hb⟩
    replace HB := HB.trans (hb.mono HB.size)
    clear hb
    go_wp2_with fail
    refine (pow_e 0 n 0 (by decide) (by omega) (by omega) (Gf.powZ_zero_left n h) _).mono ?_
    rintro e w3 ⟨rfl, hb⟩
    replace HB := HB.trans (hb.mono HB.size)
    clear hb
    go_wp2
    go_ret
    exact ⟨rfl, HB⟩
set_option maxHeartbeats 1000000 in
theorem walk_some (a b : Nat) (n m : Int) (ha : a < 256) (hb : b < 256) (h0 : a ≠ 0) (hn1 : -32768 ≤ n) (hn2 : n < 32768) (hm1 : -32768 ≤ m) (hm2 : m < 32768) (w : World) :
    Calls Try.prog 6 #[.int .u8 a, .int .u8 b, .int .i16 n, .int .i16 m] w fun e w' => e = .returned (.bool true) ∧ Below w.heap.size w w' := by
  have ht : ((a : Int) == 0) = false := by simp; omega
  have hx := u8_xor_nat a b ha hb
  have hy := u8_xor_nat (Gf.mul a a) (Gf.mul b b) (Gf.mul_lt a a ha) (Gf.mul_lt b b hb)
  have hl := Gf.xor_lt8 ha hb
  have HB : Below w.heap.size w w := Below.refl _ _
  go_enter Try.func6, Try.ntmps6
  go_wp2_with fail
  refine (known01_calls _).mono ?_
  rintro e w1 ⟨rfl, hb⟩
  replace HB := HB.trans (hb.mono HB.size)
  clear hb
  go_wp2_with fail
  refine (pow_e a n (Gf.powZ a n) ha (by omega) (by omega) rfl _).mono ?_
  rintro e w2 ⟨rfl, hb⟩
  replace HB := HB.trans (hb.mono HB.size)
  clear hb
  go_wp2_with fail
  refine (pow_e a m (Gf.powZ a m) ha (by omega) (by omega) rfl _).mono ?_
  rintro e w3 ⟨rfl, hb⟩
  replace HB := HB.trans (hb.mono HB.size)
  clear hb
  go_wp2_with fail
  refine (mul_e (Gf.powZ a n) (Gf.powZ a m) (Gf.powZ a (n + m)) (Gf.powZ_lt a n ha) (Gf.powZ_lt a m ha) (Gf.powZ_add a n m ha h0) _).mono ?_
  rintro e w4 ⟨rfl, hb⟩
  replace HB := HB.trans (hb.mono HB.size)
  clear hb
  go_wp2_with fail
  refine (pow_e a (n + m) (Gf.powZ a (n + m)) ha (by omega) (by omega) rfl _).mono ?_
  rintro e w5 ⟨rfl, hb⟩
  replace HB := HB.trans (hb.mono HB.size)
  clear hb
  go_wp2_with fail
  refine (pow_e a 255 1 ha (by decide) (by decide) (Gf.powZ_255 a ha h0) _).mono ?_
  rintro e w6 ⟨rfl, hb⟩
  replace HB := HB.trans (hb.mono HB.size)
  clear hb
  go_wp2_with fail
  refine (pow_e a 1 a ha (by decide) (by decide) (Gf.powZ_one a ha) _).mono ?_
  rintro e w7 ⟨rfl, hb⟩
  replace HB := HB.trans (hb.mono HB.size)
  clear hb
  go_wp2_with fail
  refine (pow_e a 0 1 ha (by decide) (by decide) (Gf.powZ_zero a) _).mono ?_
  rintro e w8 ⟨rfl, hb⟩
  replace HB := HB.trans (hb.mono HB.size)
  clear hb
  go_wp2_with fail
  refine (pow_e (a ^^^ b) 2 (Gf.mul a a ^^^ Gf.mul b b) hl (by decide) (by decide) ((Gf.powZ_two _ hl).trans (Gf.square_xor a b ha hb)) _).mono ?_
  rintro e w9 ⟨rfl, hb⟩
  replace HB := HB.trans (hb.mono HB.size)
  clear hb
  go_wp2_with fail
  refine (pow_e a 2 (Gf.mul a a) ha (by decide) (by decide) (Gf.powZ_two a ha) _).mono ?_
  rintro e w10 ⟨rfl, hb⟩
  replace HB := HB.trans (hb.mono HB.size)
  clear hb
  go_wp2_with fail
  refine (pow_e b 2 (Gf.mul b b) hb (by decide) (by decide) (Gf.powZ_two b hb) _).mono ?_
  rintro e w11 ⟨rfl, hb⟩
  replace HB := HB.trans (hb.mono HB.size)
  clear hb
  go_wp2
  go_ret
  exact ⟨rfl, HB⟩
theorem walk (a b : Nat) (n m : Int) (ha : a < 256) (hb : b < 256) (hn1 : -32768 ≤ n) (hn2 : n < 32768) (hm1 : -32768 ≤ m) (hm2 : m < 32768) (w : World) :
    Calls Try.prog 6 #[.int .u8 a, .int .u8 b, .int .i16 n, .int .i16 m] w fun e w' => e = .returned (.bool true) ∧ Below w.heap.size w w' := by
  by_cases h0 : a = 0
  · subst h0; exact walk_zero b n m hn1 hn2 w
  · exact walk_some a b n m ha hb h0 hn1 hn2 hm1 hm2 w

theorem own : ownKnob Try.prog.godebug = none := by kernel_rfl
set_option maxRecDepth 100000 in
theorem lifted (os : Os) (started : os.Started) (H : Type) (enc : TypeId × Value → H) :
    ReturnsInHanded {} Try.checked os 6 .any (Rows.shiftPowersSpec.pre6 enc Try.prog Try.f6 Rows.shiftPowersRow.domain false) (Rows.shiftPowersSpec.post enc Try.prog Try.f6 false true false false) := by
  refine returnsInHanded_of_change (C := Try.checked) own started (by kernel_rfl) Try.func6
    (ChangeSpec.witness6 (enc := enc) (C := Try.checked) false ⟨#[], #[.int .u8 0, .int .u8 0, .int .i16 0, .int .i16 0], []⟩ 8 (by kernel_rfl) (by kernel_rfl) (by kernel_rfl) (by kernel_rfl)) ?_
  intro W base args ds gs before hval0 hW _ _
  have hval : ∀ (j : Nat) t v, Try.f6.params[j]? = some t → args[j]? = some v → Value.okWide Try.prog W .any base t v := hval0
  have hW' := hW
  obtain ⟨p, q, hA0, hV, rfl, _, _⟩ := hW
  have hA : DataW.TrodAll enc Try.prog W 0 (fun _ => true) true Try.f6.params.toList args.toList ds p := hA0
  rw [Try.params6] at hA hval
  obtain ⟨v0, vs0, d0, ds0, p0, q0, hargs, rfl, rfl, h0, r0⟩ := trodAll_cons hA
  obtain ⟨v1, vs1, d1, ds1, p1, q1, rfl, rfl, rfl, h1, r1⟩ := trodAll_cons r0
  obtain ⟨v2, vs2, d2, ds2, p2, q2, rfl, rfl, rfl, h2, r2⟩ := trodAll_cons r1
  obtain ⟨v3, vs3, d3, ds3, p3, q3, rfl, rfl, rfl, h3, r3⟩ := trodAll_cons r2
  obtain ⟨rfl, rfl, rfl⟩ := trodAll_nil r3
  obtain rfl : args = #[v0, v1, v2, v3] := by cases args; simp_all
  obtain ⟨rfl, rfl⟩ := trodVars_none hV
  obtain ⟨a0, rfl, rfl, rfl, w0⟩ := open_int Try.underlying5 (hval 0 5 v0 rfl rfl) h0
  obtain ⟨n0, b0, rfl⟩ := nat_of_u8 w0
  obtain ⟨a1, rfl, rfl, rfl, w1⟩ := open_int Try.underlying5 (hval 1 5 v1 rfl rfl) h1
  obtain ⟨n1, b1, rfl⟩ := nat_of_u8 w1
  obtain ⟨a2, rfl, rfl, rfl, w2⟩ := open_int Try.underlying23 (hval 2 23 v2 rfl rfl) h2
  obtain ⟨b2, c2⟩ := int_of_i16 w2
  obtain ⟨a3, rfl, rfl, rfl, w3⟩ := open_int Try.underlying23 (hval 3 23 v3 rfl rfl) h3
  obtain ⟨b3, c3⟩ := int_of_i16 w3
  clear hA0 hval0
  simp only [List.append_nil] at hW'
  refine (walk n0 n1 a2 a3 b0 b1 b2 c2 b3 c3 W).mono fun e W' ⟨he, bel⟩ => ?_
  subst he
  exact ⟨_, rfl, _, _, _, [], [], [], hW', trodAll_mk1 (shut_bool Try.underlying4 _), (trodAll_cons_mk (shut_int Try.underlying5 w0) (trodAll_cons_mk (shut_int Try.underlying5 w1) (trodAll_cons_mk (shut_int Try.underlying23 w2) (trodAll_cons_mk (shut_int Try.underlying23 w3) trodAll_mk0)))), rfl, bel.frame _, fun h => by cases h⟩
theorem over : Rows.shiftPowersRow.holds Try.pinned (OpenSpec.ofChange Rows.shiftPowersSpec) :=
  OpenClaim.holds_of_wide 6 Try.f6 rfl rfl rfl rfl rfl rfl rfl ⟨rfl, rfl, rfl, rfl, rfl⟩ rfl rfl rfl rfl rfl (by kernel_rfl) Try.func6 (by kernel_rfl)
    (of_decide_eq_true (by kernel_rfl)) (by unfold Func.isWrapper; first | (rw [if_pos (by decide +kernel)]; kernel_rfl) | (rw [if_neg (by decide +kernel)]; exact ⟨rfl, rfl⟩))
    (fun os started H enc _ => lifted os started H enc)
theorem proved : Rows.ShiftPowersSaid := over
#print axioms proved
end Go.Proofs.Ytfpeabdgajpcjaa.shiftPowers
