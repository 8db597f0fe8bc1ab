/- CodeBent holds for every input: a code with one number another one is what the chapter says, right or not. No conditions. -/
import Derived.Test.YtbikchgkglllkaaGreatRows
import Derived.Test.YtbikchgkglllkaaGreatMB
import Derived.Test.YtbikchgkglllkaaGreatOA
import Derived.Test.YtbikchgkglllkaaGreatNY
namespace Go.Proofs.YtbikchgkglllkaaGreat.codeBent
open Go.ChangeShapes Go.WideShapes Go.ChangeAt Go.RowKit

set_option maxRecDepth 100000 in
set_option maxHeartbeats 4000000 in
theorem walk (n k b : Nat) (m : Int) (u : Nat) (w : World) (hn : n < 256) (hk : k < 256) (hb : b < 256) (_hm1 : -9223372036854775808 ≤ m) (_hm2 : m < 9223372036854775808) (_hu : u < 256) :
    Calls Tryz.prog 4 #[.int .u8 n, .int .u8 k, .int .u8 b, .int .i64 m, .int .u8 u] w fun e w' => e = .returned (.bool true) ∧ Below w.heap.size w w' := by
  clear _hm1 _hm2 _hu
  have HB : Below w.heap.size w w := Below.refl _ _
  have K0 := lcode_calls n k b hn hk hb w
  obtain ⟨N, hN⟩ : ∃ N, ckN n k = N := ⟨_, rfl⟩
  obtain ⟨K, hK⟩ : ∃ K, ckK n k = K := ⟨_, rfl⟩
  obtain ⟨B, hB⟩ : ∃ B, ckB b = B := ⟨_, rfl⟩
  rw [hN, hK, hB] at K0
  clear hn hk hb hN hK hB
  have hc : u % 3 = 0 ∨ u % 3 = 1 ∨ u % 3 = 2 := by omega
  go_enter Tryz.func4, Tryz.ntmps4
  go_wp2_with fail
  refine K0.mono ?_
  rintro e w1 ⟨rfl, hb⟩
  clear K0
  replace HB := HB.trans (hb.mono HB.size)
  clear hb
  have HB1 : Hid (Below w.heap.size w w1) := HB
  clear HB
  obtain ⟨x, y, z, hx⟩ : ∃ x y z : Int, (x = if u % 3 = 0 then m else (N : Int)) ∧ (y = if u % 3 = 1 then m else (K : Int)) ∧ (z = if u % 3 = 2 then m else (B : Int)) := ⟨_, _, _, rfl, rfl, rfl⟩
  obtain ⟨P, hP⟩ : ∃ P, w1.heap.size = P := ⟨_, rfl⟩
  obtain ⟨W2, hW2⟩ : ∃ W2, w1.alloc (.cells #[.int .i64 x, .int .i64 y, .int .i64 z] 23) = W2 := ⟨_, rfl⟩
  have hC : Cb W2 P x y z := by rw [← hW2, ← hP]; exact cb_new w1 x y z
  have HB2 : Hid (Below w.heap.size w W2) := hW2 ▸ HB1.out.alloc HB1.out.size _
  have hT0 : Below w.heap.size w W2.drew ∧ Cb W2.drew P x y z := ⟨HB2.out.drew, hC.drew⟩
  have KK : Hid (∀ W, Below w.heap.size w W ∧ Cb W P x y z → Calls Tryz.prog 10 #[] W fun e w' => e = .returned (.bool true) ∧ Below w.heap.size w w' ∧ Cb w' P x y z) := fun W hW => (known10_calls W).mono fun e w' ⟨he, hb⟩ => ⟨he, hW.1.trans (hb.mono hW.1.size), hW.2.below hb⟩
  have KR : Hid (∀ W, Below w.heap.size w W ∧ Cb W P x y z → Calls Tryz.prog 15 #[.agg #[.int .i64 x, .int .i64 y, .int .i64 z]] W fun e w' => e = .returned (.int .u16 (cdE x y z)) ∧ Below w.heap.size w w' ∧ Cb w' P x y z) := fun W hW => (cright_calls x y z W).mono fun e w' ⟨he, hb⟩ => ⟨he, hW.1.trans (hb.mono hW.1.size), hW.2.below hb⟩
  have KQ : Hid (∀ W, Below w.heap.size w W ∧ Cb W P x y z → Calls Tryz.prog 12 #[.agg #[.int .i64 x, .int .i64 y, .int .i64 z]] W fun e w' => e = .returned (.int .i64 (cdE x y z)) ∧ Below w.heap.size w w' ∧ Cb w' P x y z) := fun W hW => (r10right_calls x y z W).mono fun e w' ⟨he, hb⟩ => ⟨he, hW.1.trans (hb.mono hW.1.size), hW.2.below hb⟩
  have KS : Hid (∀ W, Below w.heap.size w W ∧ Cb W P x y z → Calls Tryz.prog 16 #[.agg #[.int .i64 x, .int .i64 y, .int .i64 z]] W fun e w' => e = .returned (.int .i64 (cdS x y z)) ∧ Below w.heap.size w w' ∧ Cb w' P x y z) := fun W hW => (cspace_calls x y z W).mono fun e w' ⟨he, hb⟩ => ⟨he, hW.1.trans (hb.mono hW.1.size), hW.2.below hb⟩
  have KP : Hid (∀ W, Below w.heap.size w W ∧ Cb W P x y z → Calls Tryz.prog 17 #[.agg #[.int .i64 x, .int .i64 y, .int .i64 z]] W fun e w' => e = .returned (.int .i64 (cdS x y z)) ∧ Below w.heap.size w w' ∧ Cb w' P x y z) := fun W hW => (r10space_calls x y z W).mono fun e w' ⟨he, hb⟩ => ⟨he, hW.1.trans (hb.mono hW.1.size), hW.2.below hb⟩
  obtain ⟨r, hr⟩ : ∃ r, cdE x y z = r := ⟨_, rfl⟩
  obtain ⟨s, hs⟩ : ∃ s, cdS x y z = s := ⟨_, rfl⟩
  have hr2 : r = 0 ∨ r = 10 := by rw [← hr]; unfold cdE; split; exact .inl rfl; exact .inr rfl
  rw [hr] at KR KQ
  rw [hs] at KS KP
  clear hr hs
  have HW2 : Hid (∀ X Y Z : Int, X = x → Y = y → Z = z → w1.alloc (.cells #[.int .i64 X, .int .i64 Y, .int .i64 Z] 23) = W2) := fun X Y Z e1 e2 e3 => by rw [e1, e2, e3]; exact hW2
  clear hW2
  rcases hc with h0 | h0 | h0
  · have h1 : ((u : Int) % 3 == 0) = true := by simp; omega
    have HX : Hid (m = x ∧ (K : Int) = y ∧ (B : Int) = z) := by rw [if_pos h0, if_neg (by omega), if_neg (by omega)] at hx; exact ⟨hx.1.symm, hx.2.1.symm, hx.2.2.symm⟩
    clear hx h0
    go_wp2
    rw [HW2.out _ _ _ HX.out.1 HX.out.2.1 HX.out.2.2]
    clear HW2 HX
    rcases hr2 with rfl | rfl
    all_goals
      go_region_held3 (fun w' => w'.cell? ⟨P, 0, none⟩ = some (.int .i64 x) ∧ w'.cell? ⟨P, 1, none⟩ = some (.int .i64 y) ∧ w'.cell? ⟨P, 2, none⟩ = some (.int .i64 z))
        (first | (with_reducible exact ⟨hT5.2.c0, hT5.2.c1, hT5.2.c2⟩) | (with_reducible exact ⟨hT4.2.c0, hT4.2.c1, hT4.2.c2⟩) | (with_reducible exact ⟨hT3.2.c0, hT3.2.c1, hT3.2.c2⟩) | (with_reducible exact ⟨hT2.2.c0, hT2.2.c1, hT2.2.c2⟩) | (with_reducible exact ⟨hT1.2.c0, hT1.2.c1, hT1.2.c2⟩) | (with_reducible exact ⟨hT0.2.c0, hT0.2.c1, hT0.2.c2⟩))
        (first
          | (go_at_call 10; with_reducible refine (KK.out _ hT0).mono ?_; rintro e w2 ⟨rfl, hT1⟩)
          | (go_at_call 15; with_reducible refine (KR.out _ hT1).mono ?_; rintro e w3 ⟨rfl, hT2⟩)
          | (go_at_call 12; with_reducible refine (KQ.out _ hT2).mono ?_; rintro e w4 ⟨rfl, hT3⟩)
          | (go_at_call 16; with_reducible refine (KS.out _ hT3).mono ?_; rintro e w5 ⟨rfl, hT4⟩)
          | (go_at_call 17; with_reducible refine (KP.out _ hT4).mono ?_; rintro e w6 ⟨rfl, hT5⟩))
      go_wp2
      go_ret
      exact ⟨rfl, hT5.1⟩
  · have h1 : ((u : Int) % 3 == 0) = false := by simp; omega
    have h2 : ((u : Int) % 3 == 1) = true := by simp; omega
    have HX : Hid ((N : Int) = x ∧ m = y ∧ (B : Int) = z) := by rw [if_neg (by omega), if_pos h0, if_neg (by omega)] at hx; exact ⟨hx.1.symm, hx.2.1.symm, hx.2.2.symm⟩
    clear hx h0
    go_wp2
    rw [HW2.out _ _ _ HX.out.1 HX.out.2.1 HX.out.2.2]
    clear HW2 HX
    rcases hr2 with rfl | rfl
    all_goals
      go_region_held3 (fun w' => w'.cell? ⟨P, 0, none⟩ = some (.int .i64 x) ∧ w'.cell? ⟨P, 1, none⟩ = some (.int .i64 y) ∧ w'.cell? ⟨P, 2, none⟩ = some (.int .i64 z))
        (first | (with_reducible exact ⟨hT5.2.c0, hT5.2.c1, hT5.2.c2⟩) | (with_reducible exact ⟨hT4.2.c0, hT4.2.c1, hT4.2.c2⟩) | (with_reducible exact ⟨hT3.2.c0, hT3.2.c1, hT3.2.c2⟩) | (with_reducible exact ⟨hT2.2.c0, hT2.2.c1, hT2.2.c2⟩) | (with_reducible exact ⟨hT1.2.c0, hT1.2.c1, hT1.2.c2⟩) | (with_reducible exact ⟨hT0.2.c0, hT0.2.c1, hT0.2.c2⟩))
        (first
          | (go_at_call 10; with_reducible refine (KK.out _ hT0).mono ?_; rintro e w2 ⟨rfl, hT1⟩)
          | (go_at_call 15; with_reducible refine (KR.out _ hT1).mono ?_; rintro e w3 ⟨rfl, hT2⟩)
          | (go_at_call 12; with_reducible refine (KQ.out _ hT2).mono ?_; rintro e w4 ⟨rfl, hT3⟩)
          | (go_at_call 16; with_reducible refine (KS.out _ hT3).mono ?_; rintro e w5 ⟨rfl, hT4⟩)
          | (go_at_call 17; with_reducible refine (KP.out _ hT4).mono ?_; rintro e w6 ⟨rfl, hT5⟩))
      go_wp2
      go_ret
      exact ⟨rfl, hT5.1⟩
  · have h1 : ((u : Int) % 3 == 0) = false := by simp; omega
    have h2 : ((u : Int) % 3 == 1) = false := by simp; omega
    have HX : Hid ((N : Int) = x ∧ (K : Int) = y ∧ m = z) := by rw [if_neg (by omega), if_neg (by omega), if_pos h0] at hx; exact ⟨hx.1.symm, hx.2.1.symm, hx.2.2.symm⟩
    clear hx h0
    go_wp2
    rw [HW2.out _ _ _ HX.out.1 HX.out.2.1 HX.out.2.2]
    clear HW2 HX
    rcases hr2 with rfl | rfl
    all_goals
      go_region_held3 (fun w' => w'.cell? ⟨P, 0, none⟩ = some (.int .i64 x) ∧ w'.cell? ⟨P, 1, none⟩ = some (.int .i64 y) ∧ w'.cell? ⟨P, 2, none⟩ = some (.int .i64 z))
        (first | (with_reducible exact ⟨hT5.2.c0, hT5.2.c1, hT5.2.c2⟩) | (with_reducible exact ⟨hT4.2.c0, hT4.2.c1, hT4.2.c2⟩) | (with_reducible exact ⟨hT3.2.c0, hT3.2.c1, hT3.2.c2⟩) | (with_reducible exact ⟨hT2.2.c0, hT2.2.c1, hT2.2.c2⟩) | (with_reducible exact ⟨hT1.2.c0, hT1.2.c1, hT1.2.c2⟩) | (with_reducible exact ⟨hT0.2.c0, hT0.2.c1, hT0.2.c2⟩))
        (first
          | (go_at_call 10; with_reducible refine (KK.out _ hT0).mono ?_; rintro e w2 ⟨rfl, hT1⟩)
          | (go_at_call 15; with_reducible refine (KR.out _ hT1).mono ?_; rintro e w3 ⟨rfl, hT2⟩)
          | (go_at_call 12; with_reducible refine (KQ.out _ hT2).mono ?_; rintro e w4 ⟨rfl, hT3⟩)
          | (go_at_call 16; with_reducible refine (KS.out _ hT3).mono ?_; rintro e w5 ⟨rfl, hT4⟩)
          | (go_at_call 17; with_reducible refine (KP.out _ hT4).mono ?_; rintro e w6 ⟨rfl, hT5⟩))
      go_wp2
      go_ret
      exact ⟨rfl, hT5.1⟩
theorem own : ownKnob Tryz.prog.godebug = none := by kernel_rfl
set_option maxRecDepth 100000 in
theorem lifted (os : Os) (started : os.Started) (H : Type) (enc : TypeId × Value → H) :
    ReturnsInHanded {} Tryz.checked os 4 .any (Rows.codeBentSpec.pre6 enc Tryz.prog Tryz.f4 Rows.codeBentRow.domain false) (Rows.codeBentSpec.post enc Tryz.prog Tryz.f4 false true false false) := by
  refine returnsInHanded_of_change (C := Tryz.checked) own started (by kernel_rfl) Tryz.func4
    (ChangeSpec.witness6 (enc := enc) (C := Tryz.checked) false ⟨#[], #[.int .u8 0, .int .u8 0, .int .u8 0, .int .i64 0, .int .u8 0], []⟩ 8 (by kernel_rfl) (by kernel_rfl) (by kernel_rfl) (by kernel_rfl)) ?_
  intro W base args ds gs before hval0 hW _ _
  have hval : ∀ (j : Nat) t v, Tryz.f4.params[j]? = some t → args[j]? = some v → Value.okWide Tryz.prog W .any base t v := hval0
  have hW' := hW
  obtain ⟨p, q, hA0, hV, rfl, _, _⟩ := hW
  have hA : DataW.TrodAll enc Tryz.prog W 0 (fun _ => true) true Tryz.f4.params.toList args.toList ds p := hA0
  rw [Tryz.params4] at hA hval
  obtain ⟨v0, vs0, d0, ds0, p0, q0, hargs, rfl, rfl, h0, r0⟩ := trodAll_cons hA
  obtain ⟨v1, vs1, d1, ds1, p1, q1, rfl, rfl, rfl, h1, r1⟩ := trodAll_cons r0
  obtain ⟨v2, vs2, d2, ds2, p2, q2, rfl, rfl, rfl, h2, r2⟩ := trodAll_cons r1
  obtain ⟨v3, vs3, d3, ds3, p3, q3, rfl, rfl, rfl, h3, r3⟩ := trodAll_cons r2
  obtain ⟨v4, vs4, d4, ds4, p4, q4, rfl, rfl, rfl, h4, r4⟩ := trodAll_cons r3
  obtain ⟨rfl, rfl, rfl⟩ := trodAll_nil r4
  obtain rfl : args = #[v0, v1, v2, v3, v4] := by cases args; simp_all
  obtain ⟨rfl, rfl⟩ := trodVars_none hV
  obtain ⟨a0, rfl, rfl, rfl, w0⟩ := open_int Tryz.underlying5 (hval 0 5 v0 rfl rfl) h0
  obtain ⟨n0, b0, rfl⟩ := nat_of_u8 w0
  obtain ⟨a1, rfl, rfl, rfl, w1⟩ := open_int Tryz.underlying5 (hval 1 5 v1 rfl rfl) h1
  obtain ⟨n1, b1, rfl⟩ := nat_of_u8 w1
  obtain ⟨a2, rfl, rfl, rfl, w2⟩ := open_int Tryz.underlying5 (hval 2 5 v2 rfl rfl) h2
  obtain ⟨n2, b2, rfl⟩ := nat_of_u8 w2
  obtain ⟨a3, rfl, rfl, rfl, w3⟩ := open_int Tryz.underlying3 (hval 3 3 v3 rfl rfl) h3
  obtain ⟨b3, c3⟩ := int_of_i64 w3
  obtain ⟨a4, rfl, rfl, rfl, w4⟩ := open_int Tryz.underlying5 (hval 4 5 v4 rfl rfl) h4
  obtain ⟨n4, b4, rfl⟩ := nat_of_u8 w4
  clear hA0 hval0
  simp only [List.append_nil] at hW'
  refine (walk (w := W) n0 n1 n2 a3 n4 b0 b1 b2 b3 c3 b4).mono fun e W' ⟨he, bel⟩ => ?_
  subst he
  exact ⟨_, rfl, _, _, _, [], _, [], hW', trodAll_mk1 (shut_bool Tryz.underlying4 _), (trodAll_cons_mk (shut_int Tryz.underlying5 w0) (trodAll_cons_mk (shut_int Tryz.underlying5 w1) (trodAll_cons_mk (shut_int Tryz.underlying5 w2) (trodAll_cons_mk (shut_int Tryz.underlying3 w3) (trodAll_cons_mk (shut_int Tryz.underlying5 w4) trodAll_mk0))))), rfl, bel.frame _, fun h => by cases h⟩
theorem over : Rows.codeBentRow.holds Tryz.pinned (OpenSpec.ofChange Rows.codeBentSpec) :=
  OpenClaim.holds_of_wide 4 Tryz.f4 rfl rfl rfl rfl rfl rfl rfl ⟨rfl, rfl, rfl, rfl, rfl⟩ rfl rfl rfl rfl rfl (by kernel_rfl) Tryz.func4 (by kernel_rfl)
    (of_decide_eq_true (by kernel_rfl)) (by unfold Func.isWrapper; first | (rw [if_pos (by decide +kernel)]; kernel_rfl) | (rw [if_neg (by decide +kernel)]; exact ⟨rfl, rfl⟩))
    (fun os started H enc _ => lifted os started H enc)
theorem proved : Rows.CodeBentSaid := over
#print axioms proved
end Go.Proofs.YtbikchgkglllkaaGreat.codeBent
