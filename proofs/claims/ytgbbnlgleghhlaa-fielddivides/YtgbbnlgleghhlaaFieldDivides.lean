/- FieldDivides holds for every input: what is multiplied is divided again; nothing is divided by 0. No conditions. -/
import Derived.Test.YtgbbnlgleghhlaaRows
import Derived.Test.YtgbbnlgleghhlaaNums
import Derived.Test.YtgbbnlgleghhlaaSlices
import Derived.Test.YtgbbnlgleghhlaaKnown04
namespace Go.Proofs.Ytgbbnlgleghhlaa.fieldDivides
open Go.ChangeShapes Go.WideShapes Go.ChangeAt Go.RowKit

theorem div_lt (a b : Nat) (ha : a < 256) : Gf.div a b < 256 := Gf.mul_lt _ _ ha
theorem div_mul (a b : Nat) (ha : a < 256) (hb : b < 256) (h0 : b ≠ 0) : Gf.div (Gf.mul a b) b = a := by
  unfold Gf.div
  rw [← Gf.mul_assoc a b _ ha hb (Gf.inv_lt b hb), Gf.mul_inv b hb h0, Gf.mul_one a ha]
theorem mul_div (a b : Nat) (ha : a < 256) (hb : b < 256) (h0 : b ≠ 0) : Gf.mul (Gf.div a b) b = a := by
  unfold Gf.div
  rw [← Gf.mul_assoc a _ b ha (Gf.inv_lt b hb) hb, Gf.mul_comm _ b (Gf.inv_lt b hb) hb, Gf.mul_inv b hb h0, Gf.mul_one a ha]
theorem div_xor (a c b : Nat) : Gf.div (a ^^^ c) b = Gf.div a b ^^^ Gf.div c b := Gf.mul_xor_left _ _ _

set_option maxRecDepth 100000 in
set_option maxHeartbeats 2000000 in
theorem walk (j a b c : Nat) (w : World) (hj : j < 256) (ha : a < 256) (hb0 : b < 256) (hc : c < 256) :
    Calls Try.prog 5 #[.int .u8 j, .int .u8 a, .int .u8 b, .int .u8 c] w fun e w' => e = .returned (.bool true) ∧ Below w.heap.size w w' := by
  have hnot : ∀ (x : Bool) (w : World), (Op.unary .not (.bool x)).run Try.prog w = .ok (.bool (!x)) w := fun _ _ => rfl
  obtain ⟨k, hk⟩ : ∃ k : Nat, 1 + j % 3 = k := ⟨_, rfl⟩
  have hk1 : 1 ≤ k := by omega
  have hk3 : k ≤ 3 := by omega
  have hki : (1 : Int) + (j : Int) % 3 = (k : Int) := by omega
  clear hk
  have HB : Below w.heap.size w w := Below.refl _ _
  go_enter Try.func5, Try.ntmps5
  by_cases h0 : b = 0
  · subst h0
    go_wp2_with fail
    refine (fof_calls k hk1 hk3 _).mono ?_
    rintro e w1 ⟨B_f, T_f, rfl, HF_f, hb, hlB, hlT⟩
    have HL_f : w.heap.size ≤ T_f := Nat.le_trans HB.size hlT
    replace HB := HB.trans (hb.mono HB.size)
    clear hb hlB hlT
    have e0 : Gf.mul a 0 = 0 := Gf.mul_zero a
    go_wp2_with fail
    refine (fmul_e k B_f T_f a 0 0 ha (by decide) e0 _ HF_f).mono ?_
    rintro e w2 ⟨rfl, hF, hb⟩
    replace HB := HB.trans (hb.below HB.size (by rintro k rfl; exact HL_f))
    clear HF_f hb
    have HF_f := hF
    clear hF
    go_wp2_with fail
    refine (fdiv_e k B_f T_f 0 0 0 false (by decide) (by decide) (Gf.div_zero 0) rfl _ HF_f).mono ?_
    rintro e w3 ⟨rfl, hF, hb⟩
    replace HB := HB.trans (hb.below HB.size (by rintro k rfl; exact HL_f))
    clear HF_f hb
    have HF_f := hF
    clear hF
    go_wp2_with fail
    refine (fdiv_e k B_f T_f a 0 0 false ha (by decide) (Gf.div_zero a) rfl _ HF_f).mono ?_
    rintro e w4 ⟨rfl, hF, hb⟩
    replace HB := HB.trans (hb.below HB.size (by rintro k rfl; exact HL_f))
    clear HF_f hb
    have HF_f := hF
    clear hF
    go_wp2_with fail
    refine (fdiv_e k B_f T_f a 0 0 false ha (by decide) (Gf.div_zero a) rfl _ HF_f).mono ?_
    rintro e w5 ⟨rfl, hF, hb⟩
    replace HB := HB.trans (hb.below HB.size (by rintro k rfl; exact HL_f))
    clear HF_f hb
    have HF_f := hF
    clear hF
    go_wp2_with fail
    refine (known04_calls _).mono ?_
    rintro e w6 ⟨rfl, hb⟩
    replace HB := HB.trans (hb.mono HB.size)
    replace HF_f := HF_f.below hb
    clear hb
    go_wp2
    go_ret
    exact ⟨rfl, HB⟩
  · have hb1 : ((b : Int) == 0) = false := by simp; omega
    have hbt : (b != 0) = true := by simp [h0]
    have hac := Gf.xor_lt8 ha hc
    have hxor := u8_xor_nat a c ha hc
    obtain ⟨m, hm⟩ : ∃ m, Gf.mul a b = m := ⟨_, rfl⟩
    have hm8 : m < 256 := by rw [← hm]; exact Gf.mul_lt _ _ ha
    have HX : Hid (Gf.div m b = a) := by
      show Gf.div m b = a
      rw [← hm]; exact div_mul a b ha hb0 h0
    obtain ⟨y, hy⟩ : ∃ y, Gf.div a b = y := ⟨_, rfl⟩
    have hy8 : y < 256 := by rw [← hy]; exact div_lt a b ha
    have HY : Hid (Gf.mul y b = a) := by
      show Gf.mul y b = a
      rw [← hy]; exact mul_div a b ha hb0 h0
    obtain ⟨v, hv⟩ : ∃ v, Gf.div c b = v := ⟨_, rfl⟩
    have hv8 : v < 256 := by rw [← hv]; exact div_lt c b hc
    have HZ : Hid (Gf.div (a ^^^ c) b = y ^^^ v) := by
      show Gf.div (a ^^^ c) b = y ^^^ v
      rw [div_xor, hy, hv]
    have hxor2 := u8_xor_nat y v hy8 hv8
    obtain ⟨ac, hacq⟩ : ∃ ac, a ^^^ c = ac := ⟨_, rfl⟩
    rw [hacq] at hac hxor HZ
    have HM : Hid (Gf.mul a b = m) := hm
    have HD : Hid (Gf.div a b = y) := hy
    have HV : Hid (Gf.div c b = v) := hv
    clear hm hy hv hacq
    go_wp2_with fail
    refine (fof_calls k hk1 hk3 _).mono ?_
    rintro e w1 ⟨B_f, T_f, rfl, HF_f, hb, hlB, hlT⟩
    have HL_f : w.heap.size ≤ T_f := Nat.le_trans HB.size hlT
    replace HB := HB.trans (hb.mono HB.size)
    clear hb hlB hlT
    go_wp2_with fail
    refine (fmul_e k B_f T_f a b m ha hb0 HM.out _ HF_f).mono ?_
    rintro e w2 ⟨rfl, hF, hb⟩
    replace HB := HB.trans (hb.below HB.size (by rintro k rfl; exact HL_f))
    clear HF_f hb
    have HF_f := hF
    clear hF
    go_wp2_with fail
    refine (fdiv_e k B_f T_f m b a true hm8 hb0 HX.out hbt _ HF_f).mono ?_
    rintro e w3 ⟨rfl, hF, hb⟩
    replace HB := HB.trans (hb.below HB.size (by rintro k rfl; exact HL_f))
    clear HF_f hb
    have HF_f := hF
    clear hF
    go_wp2_with fail
    refine (fdiv_e k B_f T_f a b y true ha hb0 HD.out hbt _ HF_f).mono ?_
    rintro e w4 ⟨rfl, hF, hb⟩
    replace HB := HB.trans (hb.below HB.size (by rintro k rfl; exact HL_f))
    clear HF_f hb
    have HF_f := hF
    clear hF
    go_wp2_with fail
    refine (fdiv_e k B_f T_f a 0 0 false ha (by decide) (Gf.div_zero a) rfl _ HF_f).mono ?_
    rintro e w5 ⟨rfl, hF, hb⟩
    replace HB := HB.trans (hb.below HB.size (by rintro k rfl; exact HL_f))
    clear HF_f hb
    have HF_f := hF
    clear hF
    go_wp2_with fail
    refine (fdiv_e k B_f T_f ac b (y ^^^ v) true hac hb0 HZ.out hbt _ HF_f).mono ?_
    rintro e w6 ⟨rfl, hF, hb⟩
    replace HB := HB.trans (hb.below HB.size (by rintro k rfl; exact HL_f))
    clear HF_f hb
    have HF_f := hF
    clear hF
    go_wp2_with fail
    refine (fdiv_e k B_f T_f c b v true hc hb0 HV.out hbt _ HF_f).mono ?_
    rintro e w7 ⟨rfl, hF, hb⟩
    replace HB := HB.trans (hb.below HB.size (by rintro k rfl; exact HL_f))
    clear HF_f hb
    have HF_f := hF
    clear hF
    go_wp2_with fail
    refine (known04_calls _).mono ?_
    rintro e w8 ⟨rfl, hb⟩
    replace HB := HB.trans (hb.mono HB.size)
    replace HF_f := HF_f.below hb
    clear hb
    go_wp2_with fail
    refine (fmul_e k B_f T_f y b a hy8 hb0 HY.out _ HF_f).mono ?_
    rintro e w9 ⟨rfl, hF, hb⟩
    replace HB := HB.trans (hb.below HB.size (by rintro k rfl; exact HL_f))
    clear HF_f hb
    have HF_f := hF
    clear hF
    go_wp2
    go_ret
    exact ⟨rfl, HB⟩

theorem own : ownKnob Try.prog.godebug = none := by kernel_rfl
set_option maxRecDepth 100000 in
theorem lifted (os : Os) (started : os.Started) (H : Type) (enc : TypeId × Value → H) :
    ReturnsInHanded {} Try.checked os 5 .any (Rows.fieldDividesSpec.pre6 enc Try.prog Try.f5 Rows.fieldDividesRow.domain false) (Rows.fieldDividesSpec.post enc Try.prog Try.f5 false true false false) := by
  refine returnsInHanded_of_change (C := Try.checked) own started (by kernel_rfl) Try.func5
    (ChangeSpec.witness6 (enc := enc) (C := Try.checked) false ⟨#[], #[.int .u8 0, .int .u8 0, .int .u8 0, .int .u8 0], []⟩ 8 (by kernel_rfl) (by kernel_rfl) (by kernel_rfl) (by kernel_rfl)) ?_
  intro W base args ds gs before hval0 hW _ _
  have hval : ∀ (j : Nat) t v, Try.f5.params[j]? = some t → args[j]? = some v → Value.okWide Try.prog W .any base t v := hval0
  have hW' := hW
  obtain ⟨p, q, hA0, hV, rfl, _, _⟩ := hW
  have hA : DataW.TrodAll enc Try.prog W 0 (fun _ => true) true Try.f5.params.toList args.toList ds p := hA0
  rw [Try.params5] at hA hval
  obtain ⟨v0, vs0, d0, ds0, p0, q0, hargs, rfl, rfl, h0, r0⟩ := trodAll_cons hA
  obtain ⟨v1, vs1, d1, ds1, p1, q1, rfl, rfl, rfl, h1, r1⟩ := trodAll_cons r0
  obtain ⟨v2, vs2, d2, ds2, p2, q2, rfl, rfl, rfl, h2, r2⟩ := trodAll_cons r1
  obtain ⟨v3, vs3, d3, ds3, p3, q3, rfl, rfl, rfl, h3, r3⟩ := trodAll_cons r2
  obtain ⟨rfl, rfl, rfl⟩ := trodAll_nil r3
  obtain rfl : args = #[v0, v1, v2, v3] := by cases args; simp_all
  obtain ⟨rfl, rfl⟩ := trodVars_none hV
  obtain ⟨a0, rfl, rfl, rfl, w0⟩ := open_int Try.underlying5 (hval 0 5 v0 rfl rfl) h0
  obtain ⟨n0, b0, rfl⟩ := nat_of_u8 w0
  obtain ⟨a1, rfl, rfl, rfl, w1⟩ := open_int Try.underlying5 (hval 1 5 v1 rfl rfl) h1
  obtain ⟨n1, b1, rfl⟩ := nat_of_u8 w1
  obtain ⟨a2, rfl, rfl, rfl, w2⟩ := open_int Try.underlying5 (hval 2 5 v2 rfl rfl) h2
  obtain ⟨n2, b2, rfl⟩ := nat_of_u8 w2
  obtain ⟨a3, rfl, rfl, rfl, w3⟩ := open_int Try.underlying5 (hval 3 5 v3 rfl rfl) h3
  obtain ⟨n3, b3, rfl⟩ := nat_of_u8 w3
  clear hA0 hval0
  simp only [List.append_nil] at hW'
  refine (walk (w := W) n0 n1 n2 n3 b0 b1 b2 b3).mono fun e W' ⟨he, bel⟩ => ?_
  subst he
  exact ⟨_, rfl, _, _, _, [], _, [], hW', trodAll_mk1 (shut_bool Try.underlying4 _), (trodAll_cons_mk (shut_int Try.underlying5 w0) (trodAll_cons_mk (shut_int Try.underlying5 w1) (trodAll_cons_mk (shut_int Try.underlying5 w2) (trodAll_cons_mk (shut_int Try.underlying5 w3) trodAll_mk0)))), rfl, bel.frame _, fun h => by cases h⟩
theorem over : Rows.fieldDividesRow.holds Try.pinned (OpenSpec.ofChange Rows.fieldDividesSpec) :=
  OpenClaim.holds_of_wide 5 Try.f5 rfl rfl rfl rfl rfl rfl rfl ⟨rfl, rfl, rfl, rfl, rfl⟩ rfl rfl rfl rfl rfl (by kernel_rfl) Try.func5 (by kernel_rfl)
    (of_decide_eq_true (by kernel_rfl)) (by unfold Func.isWrapper; first | (rw [if_pos (by decide +kernel)]; kernel_rfl) | (rw [if_neg (by decide +kernel)]; exact ⟨rfl, rfl⟩))
    (fun os started H enc _ => lifted os started H enc)
theorem proved : Rows.FieldDividesSaid := over
#print axioms proved
end Go.Proofs.Ytgbbnlgleghhlaa.fieldDivides
