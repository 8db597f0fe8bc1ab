/- LanesOrder holds for every input: squared eight times all is as it was. No conditions. -/
import Derived.Test.YtpldddapokdakaaRows
import Derived.Test.YtpldddapokdakaaNums
import Derived.Test.YtpldddapokdakaaSlices
import Derived.Test.YtpldddapokdakaaPlArg
import Derived.Test.YtpldddapokdakaaPlEq
import Derived.Test.YtpldddapokdakaaKnown03
import Derived.Deep.RegionHeld3
import Derived.Deep.DrawnRows
namespace Go.Proofs.Ytpldddapokdakaa.lanesOrder
open Go.ChangeShapes Go.WideShapes Go.ChangeAt Go.RowKit
attribute [local go_sem ↓] Go.wp_at_zero Go.wp_at_succ


/-- Squared k times. -/
def sqn (a : Nat) : Nat → Nat
  | 0 => a
  | k + 1 => Gf.mul (sqn a k) (sqn a k)
theorem sqn_lt (a k : Nat) (ha : a < 256) : sqn a k < 256 := by
  induction k with
  | zero => exact ha
  | succ k ih => exact Gf.mul_lt _ _ ih
set_option maxRecDepth 100000 in
theorem sqn_all : ∀ a, a < 256 → sqn a 8 = a := by decide +kernel
set_option maxRecDepth 100000 in
set_option maxHeartbeats 8000000 in
theorem walk (l : Nat → Nat) (w : World) (hl : ∀ n, l n < 256) :
    Calls Try.prog 8 #[V8 l] w fun e w' => e = .returned (.bool true) ∧ Below w.heap.size w w' := by
  have HL : Hid (∀ n, l n < 256) := hl
  clear hl
  go_enter Try.func8, Try.ntmps8
  go_wp2
  go_loopw [4] (fun i wr => ∃ k : Nat, k ≤ 8 ∧ i = .int .i64 (k : Int) ∧ Pl wr w.heap.size 8 l ∧ Pl wr (w.heap.size + 1) 8 (fun n => sqn (l n) k) ∧ Below w.heap.size w wr) (fun i _ => 8 - (intOf i).toNat)
  case atStart => exact ⟨0, by omega, rfl, (pl_box w rfl l _).alloc _, pl_box _ (by simp) l _, ((Below.refl _ _).alloc (Nat.le_refl _) _).alloc (by simp) _⟩
  case round =>
    obtain ⟨k, hk, rfl, P, Q, HB⟩ := hrel
    by_cases hlt : k < 8
    · obtain ⟨s, hs⟩ : ∃ s : Nat → Nat, (fun n => sqn (l n) k) = s := ⟨_, rfl⟩
      obtain ⟨r, hr⟩ : ∃ r : Nat → Nat, (fun n => sqn (l n) (k + 1)) = r := ⟨_, rfl⟩
      have hs1 : ∀ n, n < 64 → s n < 256 := fun n _ => by rw [← hs]; exact sqn_lt _ _ (HL.out n)
      have hr1 : ∀ n, n < 64 → Gf.mul (s n) (s n) = r n := fun n _ => by rw [← hs, ← hr]; rfl
      rw [hs] at Q
      have HR : Hid ((∀ n, n < 64 → s n < 256) ∧ (∀ n, n < 64 → Gf.mul (s n) (s n) = r n)) := ⟨hs1, hr1⟩
      have HE : Hid ((fun n => sqn (l n) (k + 1)) = r) := hr
      clear hs hr hs1 hr1
      have c0 := Q.cell 0 (by decide)
      have c1 := Q.cell 1 (by decide)
      have c2 := Q.cell 2 (by decide)
      have c3 := Q.cell 3 (by decide)
      have c4 := Q.cell 4 (by decide)
      have c5 := Q.cell 5 (by decide)
      have c6 := Q.cell 6 (by decide)
      have c7 := Q.cell 7 (by decide)
      go_wp2_with fail
      refine (lsquare_calls s r HR.out.1 HR.out.2 _).mono ?_
      rintro e w1 ⟨rfl, hb⟩
      clear c0 c1 c2 c3 c4 c5 c6 c7
      replace HB := HB.trans (hb.mono HB.size)
      replace P := P.below hb
      replace Q := Q.below hb
      clear hb
      have c0 := Q.cell 0 (by decide)
      have c1 := Q.cell 1 (by decide)
      have c2 := Q.cell 2 (by decide)
      have c3 := Q.cell 3 (by decide)
      have c4 := Q.cell 4 (by decide)
      have c5 := Q.cell 5 (by decide)
      have c6 := Q.cell 6 (by decide)
      have c7 := Q.cell 7 (by decide)
      have f0 := Q.fz 0
      have f1 := Q.fz 1
      have f2 := Q.fz 2
      have f3 := Q.fz 3
      have f4 := Q.fz 4
      have f5 := Q.fz 5
      have f6 := Q.fz 6
      have f7 := Q.fz 7
      go_wp2
      go_roundw
      case rel =>
        have e := Q.set8 r
        refine ⟨k + 1, by omega, by go_num, ?_, by rw [HE.out]; exact e, below_set8 HB (by omega) r⟩
        exact P.belowN (below_set8 (Below.refl (w.heap.size + 1) w1) (Nat.le_refl _) r) (by omega)
      case measure => simp [intOf]; omega
    · have e8 : k = 8 := by omega
      subst e8
      replace Q : Pl wr (w.heap.size + 1) 8 l := Q.same (fun i _ => Ln.pk_same (fun n _ => (sqn_all _ (HL.out n)).symm) i)
      have heq := eq8
      have c0 := P.cell 0 (by decide)
      have c1 := P.cell 1 (by decide)
      have c2 := P.cell 2 (by decide)
      have c3 := P.cell 3 (by decide)
      have c4 := P.cell 4 (by decide)
      have c5 := P.cell 5 (by decide)
      have c6 := P.cell 6 (by decide)
      have c7 := P.cell 7 (by decide)
      have d0 := Q.cell 0 (by decide)
      have d1 := Q.cell 1 (by decide)
      have d2 := Q.cell 2 (by decide)
      have d3 := Q.cell 3 (by decide)
      have d4 := Q.cell 4 (by decide)
      have d5 := Q.cell 5 (by decide)
      have d6 := Q.cell 6 (by decide)
      have d7 := Q.cell 7 (by decide)
      go_wp2_with fail
      refine (known03_calls _).mono ?_
      rintro e w1 ⟨rfl, hb⟩
      replace HB := HB.trans (hb.mono HB.size)
      clear c0 c1 c2 c3 c4 c5 c6 c7
      replace P := P.below hb
      have c0 := P.cell 0 (by decide)
      have c1 := P.cell 1 (by decide)
      have c2 := P.cell 2 (by decide)
      have c3 := P.cell 3 (by decide)
      have c4 := P.cell 4 (by decide)
      have c5 := P.cell 5 (by decide)
      have c6 := P.cell 6 (by decide)
      have c7 := P.cell 7 (by decide)
      clear d0 d1 d2 d3 d4 d5 d6 d7
      replace Q := Q.below hb
      have d0 := Q.cell 0 (by decide)
      have d1 := Q.cell 1 (by decide)
      have d2 := Q.cell 2 (by decide)
      have d3 := Q.cell 3 (by decide)
      have d4 := Q.cell 4 (by decide)
      have d5 := Q.cell 5 (by decide)
      have d6 := Q.cell 6 (by decide)
      have d7 := Q.cell 7 (by decide)
      clear hb
      clear P Q
      go_wp2
      go_ret
      exact ⟨rfl, HB⟩

theorem own : ownKnob Try.prog.godebug = none := by kernel_rfl
theorem laidOut : laidOutB Try.prog = true := by kernel_rfl
set_option maxRecDepth 100000 in
theorem lifted (os : Os) (started : os.Started) (H : Type) (enc : TypeId × Value → H) :
    ReturnsInHanded {} Try.checked os 8 .any (Rows.lanesOrderSpec.pre6 enc Try.prog Try.f8 Rows.lanesOrderRow.domain false) (Rows.lanesOrderSpec.post enc Try.prog Try.f8 false true false false) := by
  refine returnsInHanded_of_change (C := Try.checked) own started (by kernel_rfl) Try.func8
    (ChangeSpec.witness6 (enc := enc) (C := Try.checked) false ⟨#[], #[.agg #[.int .u64 0, .int .u64 0, .int .u64 0, .int .u64 0, .int .u64 0, .int .u64 0, .int .u64 0, .int .u64 0]], []⟩ 8 (by kernel_rfl) (by kernel_rfl) (by kernel_rfl) (by kernel_rfl)) ?_
  intro W base args ds gs before hval0 hW _ _
  have hval : ∀ (j : Nat) t v, Try.f8.params[j]? = some t → args[j]? = some v → Value.okWide Try.prog W .any base t v := hval0
  have hW' := hW
  obtain ⟨p, q, hA0, hV, rfl, _, _⟩ := hW
  have hA : DataW.TrodAll enc Try.prog W 0 (fun _ => true) true Try.f8.params.toList args.toList ds p := hA0
  rw [Try.params8] at hA hval
  obtain ⟨v0, vs0, d0, ds0, p0, q0, hargs, rfl, rfl, h0, r0⟩ := trodAll_cons hA
  obtain ⟨rfl, rfl, rfl⟩ := trodAll_nil r0
  obtain rfl : args = #[v0] := by cases args; simp_all
  obtain ⟨rfl, rfl⟩ := trodVars_none hV
  have k0 := h0
  obtain ⟨l0, b0, rfl⟩ := open_planes Try.underlying24 Try.underlying22 (by kernel_rfl) (by kernel_rfl) (hval 0 24 v0 rfl rfl) h0
  clear hA0 hval0
  simp only [List.append_nil] at hW'
  refine (walk (w := W) l0 b0).mono fun e W' ⟨he, bel⟩ => ?_
  subst he
  exact ⟨_, rfl, _, _, _, [], _, [], hW', trodAll_mk1 (shut_bool Try.underlying4 _), (trodAll_cons_mk (shut_same laidOut (by kernel_rfl) (of_decide_eq_true (by kernel_rfl)) k0 bel) trodAll_mk0), rfl, bel.frame _, fun h => by cases h⟩
theorem over : Rows.lanesOrderRow.holds Try.pinned (OpenSpec.ofChange Rows.lanesOrderSpec) :=
  OpenClaim.holds_of_wide 8 Try.f8 rfl rfl rfl rfl rfl rfl rfl ⟨rfl, rfl, rfl, rfl, rfl⟩ rfl rfl rfl rfl rfl (by kernel_rfl) Try.func8 (by kernel_rfl)
    (of_decide_eq_true (by kernel_rfl)) (by unfold Func.isWrapper; first | (rw [if_pos (by decide +kernel)]; kernel_rfl) | (rw [if_neg (by decide +kernel)]; exact ⟨rfl, rfl⟩))
    (fun os started H enc _ => lifted os started H enc)
theorem proved : Rows.LanesOrderSaid := over
#print axioms proved
end Go.Proofs.Ytpldddapokdakaa.lanesOrder
