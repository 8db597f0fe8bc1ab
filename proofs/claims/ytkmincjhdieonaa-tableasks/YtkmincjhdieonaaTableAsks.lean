/- TableAsks holds for every input: all calls of any bytes and numbers are what the chapter says. No conditions. -/
import Derived.Test.YtkmincjhdieonaaRows
import Derived.Test.YtkmincjhdieonaaNums
import Derived.Test.YtkmincjhdieonaaKnown02
namespace Go.Proofs.Ytkmincjhdieonaa.tableAsks
open Go.ChangeShapes Go.WideShapes Go.ChangeAt Go.RowKit

set_option maxHeartbeats 1000000 in
theorem walk (a b : Nat) (n k : Int) (ha : a < 256) (hb : b < 256) (_hn1 : -9223372036854775808 ≤ n) (_hn2 : n < 9223372036854775808) (hk1 : -32768 ≤ k) (hk2 : k < 32768) (w : World) :
    Calls Try.prog 3 #[.int .u8 a, .int .u8 b, .int .i64 n, .int .i16 k] w fun e w' => e = .returned (.bool true) ∧ Below w.heap.size w w' := by
  obtain ⟨iz, hz⟩ : ∃ iz, (a != 0) = iz := ⟨_, rfl⟩
  have hr := rinv_calls a ha
  have hl := rlog_calls a ha
  rw [hz] at hr hl
  have HR : Hid (∀ w, Calls Try.prog 10 #[.int .u8 a] w fun e w' => e = .returned (.tuple #[.int .u8 (Gf.inv a), .bool iz]) ∧ w' = w) := hr
  have HL : Hid (∀ w, Calls Try.prog 12 #[.int .u8 a] w fun e w' => e = .returned (.tuple #[.int .i64 (Gf.lg a : Nat), .bool iz]) ∧ w' = w) := hl
  clear hr hl
  have HZ : Hid ((a != 0) = iz) := hz
  clear hz
  have HB : Below w.heap.size w w := Below.refl _ _
  go_enter Try.func3, Try.ntmps3
  go_wp2_with fail
  refine (tnew_any _).mono ?_
  rintro e w1 ⟨B, rfl, HF_B, hb, hn⟩
  have HL_B : w.heap.size ≤ B := by rw [hn]; exact HB.size
  replace HB := HB.trans (hb.mono HB.size)
  clear hb hn
  go_wp2_with fail
  refine (tinv_e B a (Gf.inv a) iz ha rfl HZ.out _ (.inl HF_B)).mono ?_
  rintro e w2 ⟨rfl, hm, hb⟩
  replace HB := HB.trans (hb.below HB.size (by rintro k rfl; exact HL_B))
  clear HF_B hb
  have HM_B := hm
  clear hm
  go_wp2_with fail
  refine (HR.out _).mono ?_
  rintro e w3 ⟨rfl, rfl⟩
  go_wp2_with fail
  refine (tlog_e B a (Gf.lg a) iz ha rfl HZ.out _ (.inr HM_B)).mono ?_
  rintro e w4 ⟨rfl, hm, hb⟩
  replace HB := HB.trans (hb.below HB.size (by rintro k rfl; exact HL_B))
  clear HM_B hb
  have HM_B := hm
  clear hm
  go_wp2_with fail
  refine (HL.out _).mono ?_
  rintro e w5 ⟨rfl, rfl⟩
  go_wp2_with fail
  refine (known02_calls _).mono ?_
  rintro e w6 ⟨rfl, hb⟩
  replace HB := HB.trans (hb.mono HB.size)
  replace HM_B := HM_B.but (But.of_below (S := fun _ => False) hb) (fun f => f)
  clear hb
  go_wp2_with fail
  refine (tmul_e B a b (Gf.mul a b) ha hb rfl _ (.inr HM_B)).mono ?_
  rintro e w7 ⟨rfl, hm, hb⟩
  replace HB := HB.trans (hb.below HB.size (by rintro k rfl; exact HL_B))
  clear HM_B hb
  have HM_B := hm
  clear hm
  go_wp2_with fail
  refine (rmul_calls a b ha _).mono ?_
  rintro e w8 ⟨rfl, rfl⟩
  go_wp2_with fail
  refine (texp_e B n (Gf.powZ 2 n) rfl _ (.inr HM_B)).mono ?_
  rintro e w9 ⟨rfl, hm, hb⟩
  replace HB := HB.trans (hb.below HB.size (by rintro k rfl; exact HL_B))
  clear HM_B hb
  have HM_B := hm
  clear hm
  go_wp2_with fail
  refine (rexp_calls n _).mono ?_
  rintro e w10 ⟨rfl, rfl⟩
  go_wp2_with fail
  refine (texp_e B k (Gf.powZ 2 k) rfl _ (.inr HM_B)).mono ?_
  rintro e w11 ⟨rfl, hm, hb⟩
  replace HB := HB.trans (hb.below HB.size (by rintro k rfl; exact HL_B))
  clear HM_B hb
  have HM_B := hm
  clear hm
  go_wp2_with fail
  refine (rexp_calls k _).mono ?_
  rintro e w12 ⟨rfl, rfl⟩
  go_wp2_with fail
  refine (tpow_e B a n (Gf.powZ a n) ha rfl _ (.inr HM_B)).mono ?_
  rintro e w13 ⟨rfl, hm, hb⟩
  replace HB := HB.trans (hb.below HB.size (by rintro k rfl; exact HL_B))
  clear HM_B hb
  have HM_B := hm
  clear hm
  go_wp2_with fail
  refine (rpow_calls a n ha _).mono ?_
  rintro e w14 ⟨rfl, rfl⟩
  go_wp2_with fail
  refine (tpow_e B a k (Gf.powZ a k) ha rfl _ (.inr HM_B)).mono ?_
  rintro e w15 ⟨rfl, hm, hb⟩
  replace HB := HB.trans (hb.below HB.size (by rintro k rfl; exact HL_B))
  clear HM_B hb
  have HM_B := hm
  clear hm
  go_wp2_with fail
  refine (rpow_calls a k ha _).mono ?_
  rintro e w16 ⟨rfl, rfl⟩
  go_wp2
  go_ret
  exact ⟨rfl, HB⟩

theorem own : ownKnob Try.prog.godebug = none := by kernel_rfl
set_option maxRecDepth 100000 in
theorem lifted (os : Os) (started : os.Started) (H : Type) (enc : TypeId × Value → H) :
    ReturnsInHanded {} Try.checked os 3 .any (Rows.tableAsksSpec.pre6 enc Try.prog Try.f3 Rows.tableAsksRow.domain false) (Rows.tableAsksSpec.post enc Try.prog Try.f3 false true false false) := by
  refine returnsInHanded_of_change (C := Try.checked) own started (by kernel_rfl) Try.func3
    (ChangeSpec.witness6 (enc := enc) (C := Try.checked) false ⟨#[], #[.int .u8 0, .int .u8 0, .int .i64 0, .int .i16 0], []⟩ 8 (by kernel_rfl) (by kernel_rfl) (by kernel_rfl) (by kernel_rfl)) ?_
  intro W base args ds gs before hval0 hW _ _
  have hval : ∀ (j : Nat) t v, Try.f3.params[j]? = some t → args[j]? = some v → Value.okWide Try.prog W .any base t v := hval0
  have hW' := hW
  obtain ⟨p, q, hA0, hV, rfl, _, _⟩ := hW
  have hA : DataW.TrodAll enc Try.prog W 0 (fun _ => true) true Try.f3.params.toList args.toList ds p := hA0
  rw [Try.params3] at hA hval
  obtain ⟨v0, vs0, d0, ds0, p0, q0, hargs, rfl, rfl, h0, r0⟩ := trodAll_cons hA
  obtain ⟨v1, vs1, d1, ds1, p1, q1, rfl, rfl, rfl, h1, r1⟩ := trodAll_cons r0
  obtain ⟨v2, vs2, d2, ds2, p2, q2, rfl, rfl, rfl, h2, r2⟩ := trodAll_cons r1
  obtain ⟨v3, vs3, d3, ds3, p3, q3, rfl, rfl, rfl, h3, r3⟩ := trodAll_cons r2
  obtain ⟨rfl, rfl, rfl⟩ := trodAll_nil r3
  obtain rfl : args = #[v0, v1, v2, v3] := by cases args; simp_all
  obtain ⟨rfl, rfl⟩ := trodVars_none hV
  obtain ⟨a0, rfl, rfl, rfl, w0⟩ := open_int Try.underlying5 (hval 0 5 v0 rfl rfl) h0
  obtain ⟨n0, b0, rfl⟩ := nat_of_u8 w0
  obtain ⟨a1, rfl, rfl, rfl, w1⟩ := open_int Try.underlying5 (hval 1 5 v1 rfl rfl) h1
  obtain ⟨n1, b1, rfl⟩ := nat_of_u8 w1
  obtain ⟨a2, rfl, rfl, rfl, w2⟩ := open_int Try.underlying3 (hval 2 3 v2 rfl rfl) h2
  obtain ⟨b2, c2⟩ := int_of_i64 w2
  obtain ⟨a3, rfl, rfl, rfl, w3⟩ := open_int Try.underlying22 (hval 3 22 v3 rfl rfl) h3
  obtain ⟨b3, c3⟩ := int_of_i16 w3
  clear hA0 hval0
  simp only [List.append_nil] at hW'
  refine (walk n0 n1 a2 a3 b0 b1 b2 c2 b3 c3 W).mono fun e W' ⟨he, bel⟩ => ?_
  subst he
  exact ⟨_, rfl, _, _, _, [], [], [], hW', trodAll_mk1 (shut_bool Try.underlying4 _), (trodAll_cons_mk (shut_int Try.underlying5 w0) (trodAll_cons_mk (shut_int Try.underlying5 w1) (trodAll_cons_mk (shut_int Try.underlying3 w2) (trodAll_cons_mk (shut_int Try.underlying22 w3) trodAll_mk0)))), rfl, bel.frame _, fun h => by cases h⟩
theorem over : Rows.tableAsksRow.holds Try.pinned (OpenSpec.ofChange Rows.tableAsksSpec) :=
  OpenClaim.holds_of_wide 3 Try.f3 rfl rfl rfl rfl rfl rfl rfl ⟨rfl, rfl, rfl, rfl, rfl⟩ rfl rfl rfl rfl rfl (by kernel_rfl) Try.func3 (by kernel_rfl)
    (of_decide_eq_true (by kernel_rfl)) (by unfold Func.isWrapper; first | (rw [if_pos (by decide +kernel)]; kernel_rfl) | (rw [if_neg (by decide +kernel)]; exact ⟨rfl, rfl⟩))
    (fun os started H enc _ => lifted os started H enc)
theorem proved : Rows.TableAsksSaid := over
#print axioms proved
end Go.Proofs.Ytkmincjhdieonaa.tableAsks
