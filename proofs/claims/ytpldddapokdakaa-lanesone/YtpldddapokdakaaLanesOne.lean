/- LanesOne holds for every input: by 1 all stays, by 0 nothing does; to scale twice is to scale by the product. No conditions. -/
import Derived.Test.YtpldddapokdakaaRows
import Derived.Test.YtpldddapokdakaaNums
import Derived.Test.YtpldddapokdakaaSlices
import Derived.Test.YtpldddapokdakaaPlArg
import Derived.Test.YtpldddapokdakaaPlEq
import Derived.Test.YtpldddapokdakaaKnown03
import Derived.Test.YtpldddapokdakaaRefMul
import Derived.Deep.RegionHeld3
import Derived.Deep.DrawnRows
namespace Go.Proofs.Ytpldddapokdakaa.lanesOne
open Go.ChangeShapes Go.WideShapes Go.ChangeAt Go.RowKit
attribute [local go_sem ↓] Go.wp_at_zero Go.wp_at_succ

set_option maxRecDepth 100000 in
set_option maxHeartbeats 8000000 in
theorem walk (l : Nat → Nat) (a b : Nat) (w : World) (hl : ∀ n, l n < 256) (ha : a < 256) (hb : b < 256) :
    Calls Try.prog 7 #[V8 l, .int .u8 a, .int .u8 b] w fun e w' => e = .returned (.bool true) ∧ Below w.heap.size w w' := by
  have HB : Below w.heap.size w (w.alloc (.cells #[.int .u64 (Ln.pk l 0 : Nat), .int .u64 (Ln.pk l 1 : Nat), .int .u64 (Ln.pk l 2 : Nat), .int .u64 (Ln.pk l 3 : Nat), .int .u64 (Ln.pk l 4 : Nat), .int .u64 (Ln.pk l 5 : Nat), .int .u64 (Ln.pk l 6 : Nat), .int .u64 (Ln.pk l 7 : Nat)] 24)) := (Below.refl _ _).alloc (Nat.le_refl _) _
  have P := pl_box w rfl l 24
  obtain ⟨ra, hra⟩ : ∃ r : Nat → Nat, ∀ n, n < 64 → Gf.mul (l n) a = r n := ⟨_, fun _ _ => rfl⟩
  obtain ⟨rb, hrb⟩ : ∃ r : Nat → Nat, ∀ n, n < 64 → Gf.mul (l n) b = r n := ⟨_, fun _ _ => rfl⟩
  obtain ⟨rab, hrab⟩ : ∃ r : Nat → Nat, ∀ n, n < 64 → Gf.mul (ra n) b = r n := ⟨_, fun _ _ => rfl⟩
  obtain ⟨rs, hrs⟩ : ∃ r : Nat → Nat, ∀ n, n < 64 → ra n ^^^ rb n = r n := ⟨_, fun _ _ => rfl⟩
  obtain ⟨ab, hab⟩ : ∃ r : Nat, Gf.mul a b = r := ⟨_, rfl⟩
  obtain ⟨ax, hax⟩ : ∃ r : Nat, a ^^^ b = r := ⟨_, rfl⟩
  have hxor := u8_xor_nat a b ha hb
  rw [hax] at hxor
  have la : ∀ n, n < 64 → ra n < 256 := fun n hn => by rw [← hra n hn]; exact Gf.mul_lt _ _ (hl n)
  have k1 : Hid (∀ w, Calls Try.prog 19 #[V8 l, .int .u8 1] w fun e w' => e = .returned (V8 l) ∧ Below w.heap.size w w') := lscale_calls l l 1 (fun n _ => hl n) (by decide) (fun n _ => Gf.mul_one _ (hl n))
  have k2 : Hid (∀ w, Calls Try.prog 19 #[V8 l, .int .u8 0] w fun e w' => e = .returned (V8 (fun _ => 0)) ∧ Below w.heap.size w w') := lscale_calls l (fun _ => 0) 0 (fun n _ => hl n) (by decide) (fun n _ => Gf.mul_zero _)
  have k3 : Hid (∀ w, Calls Try.prog 19 #[V8 l, .int .u8 a] w fun e w' => e = .returned (V8 ra) ∧ Below w.heap.size w w') := lscale_calls l ra a (fun n _ => hl n) ha hra
  have k4 : Hid (∀ w, Calls Try.prog 19 #[V8 ra, .int .u8 b] w fun e w' => e = .returned (V8 rab) ∧ Below w.heap.size w w') := lscale_calls ra rab b la hb hrab
  have k5 : Hid (∀ w, Calls Try.prog 19 #[V8 l, .int .u8 ab] w fun e w' => e = .returned (V8 rab) ∧ Below w.heap.size w w') := lscale_calls l rab ab (fun n _ => hl n) (by rw [← hab]; exact Gf.mul_lt _ _ ha) (fun n hn => by rw [← hab, Gf.mul_assoc _ _ _ (hl n) ha hb, hra n hn, hrab n hn])
  have k6 : Hid (∀ w, Calls Try.prog 19 #[V8 l, .int .u8 b] w fun e w' => e = .returned (V8 rb) ∧ Below w.heap.size w w') := lscale_calls l rb b (fun n _ => hl n) hb hrb
  have k7 : Hid (∀ w, Calls Try.prog 19 #[V8 l, .int .u8 ax] w fun e w' => e = .returned (V8 rs) ∧ Below w.heap.size w w') := lscale_calls l rs ax (fun n _ => hl n) (by rw [← hax]; exact Gf.xor_lt8 ha hb) (fun n hn => by rw [← hax, Gf.mul_xor_right, hra n hn, hrb n hn, hrs n hn])
  have k8 : Hid (∀ w, Calls Try.prog 17 #[V8 ra, V8 rb] w fun e w' => e = .returned (V8 rs) ∧ Below w.heap.size w w') := ladd_calls ra rb rs hrs
  have k9 : Hid (∀ w, Calls Try.prog 16 #[.int .u8 a, .int .u8 b] w fun e w' => e = .returned (.int .u8 ab) ∧ w' = w) := RefMul.rmul_e a b ab ha hab
  have hz0 := pk_zero
  have heq := eq8
  clear hra hrb hrab hrs hab hax la hl ha hb
  have c0 := P.cell 0 (by decide)
  have c1 := P.cell 1 (by decide)
  have c2 := P.cell 2 (by decide)
  have c3 := P.cell 3 (by decide)
  have c4 := P.cell 4 (by decide)
  have c5 := P.cell 5 (by decide)
  have c6 := P.cell 6 (by decide)
  have c7 := P.cell 7 (by decide)
  go_enter Try.func7, Try.ntmps7
  go_wp2
  go_region_held3 (fun w' => w'.cell? ⟨w.heap.size, 0, none⟩ = some (.int .u64 (Ln.pk l 0 : Nat)) ∧ w'.cell? ⟨w.heap.size, 1, none⟩ = some (.int .u64 (Ln.pk l 1 : Nat)) ∧ w'.cell? ⟨w.heap.size, 2, none⟩ = some (.int .u64 (Ln.pk l 2 : Nat)) ∧ w'.cell? ⟨w.heap.size, 3, none⟩ = some (.int .u64 (Ln.pk l 3 : Nat)) ∧ w'.cell? ⟨w.heap.size, 4, none⟩ = some (.int .u64 (Ln.pk l 4 : Nat)) ∧ w'.cell? ⟨w.heap.size, 5, none⟩ = some (.int .u64 (Ln.pk l 5 : Nat)) ∧ w'.cell? ⟨w.heap.size, 6, none⟩ = some (.int .u64 (Ln.pk l 6 : Nat)) ∧ w'.cell? ⟨w.heap.size, 7, none⟩ = some (.int .u64 (Ln.pk l 7 : Nat)))
    (first | (go_keep; done) | ((try dsimp only); (repeat' apply And.intro) <;> with_reducible first | exact P.cell _ (by decide) | exact (P.alloc _).cell _ (by decide) | exact (P.other8 (by omega) _).cell _ (by decide)))
    (first
      | (go_at_call 9; refine (known03_calls _).mono ?_; rintro e w1 ⟨rfl, hb⟩; (try (with_reducible first | replace P := P.below hb | replace P := P.drew.below hb | replace P := (P.alloc _).below hb | replace P := (P.alloc _).drew.below hb)); (with_reducible first | replace HB := HB.trans (hb.mono HB.size) | replace HB := HB.drew.trans (hb.mono HB.drew.size) | replace HB := (HB.alloc HB.size _).trans (hb.mono (HB.alloc HB.size _).size) | replace HB := (HB.alloc HB.size _).drew.trans (hb.mono (HB.alloc HB.size _).drew.size)); clear hb)
      | (go_at_call 16; refine (k9.out _).mono ?_; rintro e w1 ⟨rfl, rfl⟩)
      | (go_at_call 17; refine (k8.out _).mono ?_; rintro e w1 ⟨rfl, hb⟩; (try (with_reducible first | replace P := P.below hb | replace P := P.drew.below hb | replace P := (P.alloc _).below hb | replace P := (P.alloc _).drew.below hb)); (with_reducible first | replace HB := HB.trans (hb.mono HB.size) | replace HB := HB.drew.trans (hb.mono HB.drew.size) | replace HB := (HB.alloc HB.size _).trans (hb.mono (HB.alloc HB.size _).size) | replace HB := (HB.alloc HB.size _).drew.trans (hb.mono (HB.alloc HB.size _).drew.size)); clear hb)
      | (go_at_call 19; with_reducible refine (k1.out _).mono ?_; rintro e w1 ⟨rfl, hb⟩; (try (with_reducible first | replace P := P.below hb | replace P := P.drew.below hb | replace P := (P.alloc _).below hb | replace P := (P.alloc _).drew.below hb)); (with_reducible first | replace HB := HB.trans (hb.mono HB.size) | replace HB := HB.drew.trans (hb.mono HB.drew.size) | replace HB := (HB.alloc HB.size _).trans (hb.mono (HB.alloc HB.size _).size) | replace HB := (HB.alloc HB.size _).drew.trans (hb.mono (HB.alloc HB.size _).drew.size)); clear hb)
      | (go_at_call 19; with_reducible refine (k2.out _).mono ?_; rintro e w1 ⟨rfl, hb⟩; (try (with_reducible first | replace P := P.below hb | replace P := P.drew.below hb | replace P := (P.alloc _).below hb | replace P := (P.alloc _).drew.below hb)); (with_reducible first | replace HB := HB.trans (hb.mono HB.size) | replace HB := HB.drew.trans (hb.mono HB.drew.size) | replace HB := (HB.alloc HB.size _).trans (hb.mono (HB.alloc HB.size _).size) | replace HB := (HB.alloc HB.size _).drew.trans (hb.mono (HB.alloc HB.size _).drew.size)); clear hb)
      | (go_at_call 19; with_reducible refine (k3.out _).mono ?_; rintro e w1 ⟨rfl, hb⟩; (try (with_reducible first | replace P := P.below hb | replace P := P.drew.below hb | replace P := (P.alloc _).below hb | replace P := (P.alloc _).drew.below hb)); (with_reducible first | replace HB := HB.trans (hb.mono HB.size) | replace HB := HB.drew.trans (hb.mono HB.drew.size) | replace HB := (HB.alloc HB.size _).trans (hb.mono (HB.alloc HB.size _).size) | replace HB := (HB.alloc HB.size _).drew.trans (hb.mono (HB.alloc HB.size _).drew.size)); clear hb)
      | (go_at_call 19; with_reducible refine (k4.out _).mono ?_; rintro e w1 ⟨rfl, hb⟩; (try (with_reducible first | replace P := P.below hb | replace P := P.drew.below hb | replace P := (P.alloc _).below hb | replace P := (P.alloc _).drew.below hb)); (with_reducible first | replace HB := HB.trans (hb.mono HB.size) | replace HB := HB.drew.trans (hb.mono HB.drew.size) | replace HB := (HB.alloc HB.size _).trans (hb.mono (HB.alloc HB.size _).size) | replace HB := (HB.alloc HB.size _).drew.trans (hb.mono (HB.alloc HB.size _).drew.size)); clear hb)
      | (go_at_call 19; with_reducible refine (k5.out _).mono ?_; rintro e w1 ⟨rfl, hb⟩; (try (with_reducible first | replace P := P.below hb | replace P := P.drew.below hb | replace P := (P.alloc _).below hb | replace P := (P.alloc _).drew.below hb)); (with_reducible first | replace HB := HB.trans (hb.mono HB.size) | replace HB := HB.drew.trans (hb.mono HB.drew.size) | replace HB := (HB.alloc HB.size _).trans (hb.mono (HB.alloc HB.size _).size) | replace HB := (HB.alloc HB.size _).drew.trans (hb.mono (HB.alloc HB.size _).drew.size)); clear hb)
      | (go_at_call 19; with_reducible refine (k6.out _).mono ?_; rintro e w1 ⟨rfl, hb⟩; (try (with_reducible first | replace P := P.below hb | replace P := P.drew.below hb | replace P := (P.alloc _).below hb | replace P := (P.alloc _).drew.below hb)); (with_reducible first | replace HB := HB.trans (hb.mono HB.size) | replace HB := HB.drew.trans (hb.mono HB.drew.size) | replace HB := (HB.alloc HB.size _).trans (hb.mono (HB.alloc HB.size _).size) | replace HB := (HB.alloc HB.size _).drew.trans (hb.mono (HB.alloc HB.size _).drew.size)); clear hb)
      | (go_at_call 19; with_reducible refine (k7.out _).mono ?_; rintro e w1 ⟨rfl, hb⟩; (try (with_reducible first | replace P := P.below hb | replace P := P.drew.below hb | replace P := (P.alloc _).below hb | replace P := (P.alloc _).drew.below hb)); (with_reducible first | replace HB := HB.trans (hb.mono HB.size) | replace HB := HB.drew.trans (hb.mono HB.drew.size) | replace HB := (HB.alloc HB.size _).trans (hb.mono (HB.alloc HB.size _).size) | replace HB := (HB.alloc HB.size _).drew.trans (hb.mono (HB.alloc HB.size _).drew.size)); clear hb))
  clear c0 c1 c2 c3 c4 c5 c6 c7
  clear heq hz0
  go_wp2
  go_ret
  exact ⟨rfl, HB⟩

theorem own : ownKnob Try.prog.godebug = none := by kernel_rfl
theorem laidOut : laidOutB Try.prog = true := by kernel_rfl
set_option maxRecDepth 100000 in
theorem lifted (os : Os) (started : os.Started) (H : Type) (enc : TypeId × Value → H) :
    ReturnsInHanded {} Try.checked os 7 .any (Rows.lanesOneSpec.pre6 enc Try.prog Try.f7 Rows.lanesOneRow.domain false) (Rows.lanesOneSpec.post enc Try.prog Try.f7 false true false false) := by
  refine returnsInHanded_of_change (C := Try.checked) own started (by kernel_rfl) Try.func7
    (ChangeSpec.witness6 (enc := enc) (C := Try.checked) false ⟨#[], #[.agg #[.int .u64 0, .int .u64 0, .int .u64 0, .int .u64 0, .int .u64 0, .int .u64 0, .int .u64 0, .int .u64 0], .int .u8 0, .int .u8 0], []⟩ 8 (by kernel_rfl) (by kernel_rfl) (by kernel_rfl) (by kernel_rfl)) ?_
  intro W base args ds gs before hval0 hW _ _
  have hval : ∀ (j : Nat) t v, Try.f7.params[j]? = some t → args[j]? = some v → Value.okWide Try.prog W .any base t v := hval0
  have hW' := hW
  obtain ⟨p, q, hA0, hV, rfl, _, _⟩ := hW
  have hA : DataW.TrodAll enc Try.prog W 0 (fun _ => true) true Try.f7.params.toList args.toList ds p := hA0
  rw [Try.params7] at hA hval
  obtain ⟨v0, vs0, d0, ds0, p0, q0, hargs, rfl, rfl, h0, r0⟩ := trodAll_cons hA
  obtain ⟨v1, vs1, d1, ds1, p1, q1, rfl, rfl, rfl, h1, r1⟩ := trodAll_cons r0
  obtain ⟨v2, vs2, d2, ds2, p2, q2, rfl, rfl, rfl, h2, r2⟩ := trodAll_cons r1
  obtain ⟨rfl, rfl, rfl⟩ := trodAll_nil r2
  obtain rfl : args = #[v0, v1, v2] := by cases args; simp_all
  obtain ⟨rfl, rfl⟩ := trodVars_none hV
  have k0 := h0
  obtain ⟨l0, b0, rfl⟩ := open_planes Try.underlying24 Try.underlying22 (by kernel_rfl) (by kernel_rfl) (hval 0 24 v0 rfl rfl) h0
  obtain ⟨a1, rfl, rfl, rfl, w1⟩ := open_int Try.underlying5 (hval 1 5 v1 rfl rfl) h1
  obtain ⟨n1, b1, rfl⟩ := nat_of_u8 w1
  obtain ⟨a2, rfl, rfl, rfl, w2⟩ := open_int Try.underlying5 (hval 2 5 v2 rfl rfl) h2
  obtain ⟨n2, b2, rfl⟩ := nat_of_u8 w2
  clear hA0 hval0
  simp only [List.append_nil] at hW'
  refine (walk (w := W) l0 n1 n2 b0 b1 b2).mono fun e W' ⟨he, bel⟩ => ?_
  subst he
  exact ⟨_, rfl, _, _, _, [], _, [], hW', trodAll_mk1 (shut_bool Try.underlying4 _), (trodAll_cons_mk (shut_same laidOut (by kernel_rfl) (of_decide_eq_true (by kernel_rfl)) k0 bel) (trodAll_cons_mk (shut_int Try.underlying5 w1) (trodAll_cons_mk (shut_int Try.underlying5 w2) trodAll_mk0))), rfl, bel.frame _, fun h => by cases h⟩
theorem over : Rows.lanesOneRow.holds Try.pinned (OpenSpec.ofChange Rows.lanesOneSpec) :=
  OpenClaim.holds_of_wide 7 Try.f7 rfl rfl rfl rfl rfl rfl rfl ⟨rfl, rfl, rfl, rfl, rfl⟩ rfl rfl rfl rfl rfl (by kernel_rfl) Try.func7 (by kernel_rfl)
    (of_decide_eq_true (by kernel_rfl)) (by unfold Func.isWrapper; first | (rw [if_pos (by decide +kernel)]; kernel_rfl) | (rw [if_neg (by decide +kernel)]; exact ⟨rfl, rfl⟩))
    (fun os started H enc _ => lifted os started H enc)
theorem proved : Rows.LanesOneSaid := over
#print axioms proved
end Go.Proofs.Ytpldddapokdakaa.lanesOne
