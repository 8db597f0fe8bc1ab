/- TableTwo holds for every input: two tables are each made by their own calls, and tell the same. No conditions. -/
import Derived.Test.YtkmincjhdieonaaRows
import Derived.Test.YtkmincjhdieonaaNums
import Derived.Test.YtkmincjhdieonaaKnown02
namespace Go.Proofs.Ytkmincjhdieonaa.tableTwo
open Go.ChangeShapes Go.WideShapes Go.ChangeAt Go.RowKit

set_option maxHeartbeats 1000000 in
theorem walk (a b : Nat) (ha : a < 256) (hb : b < 256) (w : World) :
    Calls Try.prog 6 #[.int .u8 a, .int .u8 b] w fun e w' => e = .returned (.bool true) ∧ Below w.heap.size w w' := by
  obtain ⟨r, hr⟩ : ∃ r, Gf.mul a b = r := ⟨_, rfl⟩
  have HR : Hid (Gf.mul a b = r) := hr
  clear hr
  have HB : Below w.heap.size w w := Below.refl _ _
  go_enter Try.func6, Try.ntmps6
  go_wp2_with fail
  refine (tnew_any _).mono ?_
  rintro e w1 ⟨B, rfl, HF_B, hb, hn⟩
  have HL_B : w.heap.size ≤ B := by rw [hn]; exact HB.size
  replace HB := HB.trans (hb.mono HB.size)
  clear hb hn
  go_wp2_with fail
  refine (tnew_any _).mono ?_
  rintro e w2 ⟨C, rfl, HF_C, hb, hn⟩
  have hd_B_C : ¬ B = C := by have := HF_B.tb.lt; omega
  have hd_C_B : ¬ C = B := fun q => hd_B_C q.symm
  have HL_C : w.heap.size ≤ C := by rw [hn]; exact HB.size
  replace HB := HB.trans (hb.mono HB.size)
  replace HF_B := HF_B.but (But.of_below (S := fun _ => False) hb) (fun f => f)
  clear hb hn
  go_wp2_with fail
  refine (tmul_e B a b r ha hb HR.out _ (.inl HF_B)).mono ?_
  rintro e w3 ⟨rfl, hm, hb⟩
  replace HB := HB.trans (hb.below HB.size (by rintro k rfl; exact HL_B))
  replace HF_C := HF_C.but hb hd_C_B
  clear HF_B hb
  have HM_B := hm
  clear hm
  go_wp2_with fail
  refine (tmade_calls C 0 _ HF_C.made).mono ?_
  rintro e w4 ⟨rfl, rfl⟩
  go_wp2_with fail
  refine (tmul_e C a b r ha hb HR.out _ (.inl HF_C)).mono ?_
  rintro e w5 ⟨rfl, hm, hb⟩
  replace HB := HB.trans (hb.below HB.size (by rintro k rfl; exact HL_C))
  replace HM_B := HM_B.but hb hd_B_C
  clear HF_C hb
  have HM_C := hm
  clear hm
  go_wp2_with fail
  refine (known02_calls _).mono ?_
  rintro e w6 ⟨rfl, hb⟩
  replace HB := HB.trans (hb.mono HB.size)
  replace HM_B := HM_B.but (But.of_below (S := fun _ => False) hb) (fun f => f)
  replace HM_C := HM_C.but (But.of_below (S := fun _ => False) hb) (fun f => f)
  clear hb
  go_wp2_with fail
  refine (tmade_calls B 1 _ HM_B.made).mono ?_
  rintro e w7 ⟨rfl, rfl⟩
  go_wp2_with fail
  refine (tmade_calls C 1 _ HM_C.made).mono ?_
  rintro e w8 ⟨rfl, rfl⟩
  go_wp2
  go_ret
  exact ⟨rfl, HB⟩

theorem own : ownKnob Try.prog.godebug = none := by kernel_rfl
set_option maxRecDepth 100000 in
theorem lifted (os : Os) (started : os.Started) (H : Type) (enc : TypeId × Value → H) :
    ReturnsInHanded {} Try.checked os 6 .any (Rows.tableTwoSpec.pre6 enc Try.prog Try.f6 Rows.tableTwoRow.domain false) (Rows.tableTwoSpec.post enc Try.prog Try.f6 false true false false) := by
  refine returnsInHanded_of_change (C := Try.checked) own started (by kernel_rfl) Try.func6
    (ChangeSpec.witness6 (enc := enc) (C := Try.checked) false ⟨#[], #[.int .u8 0, .int .u8 0], []⟩ 8 (by kernel_rfl) (by kernel_rfl) (by kernel_rfl) (by kernel_rfl)) ?_
  intro W base args ds gs before hval0 hW _ _
  have hval : ∀ (j : Nat) t v, Try.f6.params[j]? = some t → args[j]? = some v → Value.okWide Try.prog W .any base t v := hval0
  have hW' := hW
  obtain ⟨p, q, hA0, hV, rfl, _, _⟩ := hW
  have hA : DataW.TrodAll enc Try.prog W 0 (fun _ => true) true Try.f6.params.toList args.toList ds p := hA0
  rw [Try.params6] at hA hval
  obtain ⟨v0, vs0, d0, ds0, p0, q0, hargs, rfl, rfl, h0, r0⟩ := trodAll_cons hA
  obtain ⟨v1, vs1, d1, ds1, p1, q1, rfl, rfl, rfl, h1, r1⟩ := trodAll_cons r0
  obtain ⟨rfl, rfl, rfl⟩ := trodAll_nil r1
  obtain rfl : args = #[v0, v1] := by cases args; simp_all
  obtain ⟨rfl, rfl⟩ := trodVars_none hV
  obtain ⟨a0, rfl, rfl, rfl, w0⟩ := open_int Try.underlying5 (hval 0 5 v0 rfl rfl) h0
  obtain ⟨n0, b0, rfl⟩ := nat_of_u8 w0
  obtain ⟨a1, rfl, rfl, rfl, w1⟩ := open_int Try.underlying5 (hval 1 5 v1 rfl rfl) h1
  obtain ⟨n1, b1, rfl⟩ := nat_of_u8 w1
  clear hA0 hval0
  simp only [List.append_nil] at hW'
  refine (walk n0 n1 b0 b1 W).mono fun e W' ⟨he, bel⟩ => ?_
  subst he
  exact ⟨_, rfl, _, _, _, [], [], [], hW', trodAll_mk1 (shut_bool Try.underlying4 _), (trodAll_cons_mk (shut_int Try.underlying5 w0) (trodAll_cons_mk (shut_int Try.underlying5 w1) trodAll_mk0)), rfl, bel.frame _, fun h => by cases h⟩
theorem over : Rows.tableTwoRow.holds Try.pinned (OpenSpec.ofChange Rows.tableTwoSpec) :=
  OpenClaim.holds_of_wide 6 Try.f6 rfl rfl rfl rfl rfl rfl rfl ⟨rfl, rfl, rfl, rfl, rfl⟩ rfl rfl rfl rfl rfl (by kernel_rfl) Try.func6 (by kernel_rfl)
    (of_decide_eq_true (by kernel_rfl)) (by unfold Func.isWrapper; first | (rw [if_pos (by decide +kernel)]; kernel_rfl) | (rw [if_neg (by decide +kernel)]; exact ⟨rfl, rfl⟩))
    (fun os started H enc _ => lifted os started H enc)
theorem proved : Rows.TableTwoSaid := over
#print axioms proved
end Go.Proofs.Ytkmincjhdieonaa.tableTwo
