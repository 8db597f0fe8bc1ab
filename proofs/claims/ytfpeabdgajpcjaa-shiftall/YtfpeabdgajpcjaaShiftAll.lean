/- ShiftAll holds for every input: the powers of 2 up to the one that is asked for are unlike one another. No conditions. -/
import Derived.Test.YtfpeabdgajpcjaaRows
import Derived.Test.YtfpeabdgajpcjaaNums
import Derived.Test.YtfpeabdgajpcjaaKnown01
namespace Go.Proofs.Ytfpeabdgajpcjaa.shiftAll
open Go.ChangeShapes Go.WideShapes Go.ChangeAt Go.RowKit

theorem same (x y : Nat) (hx : x < 255) (hy : y < 255) : (((Gf.pow 2 x : Nat) : Int) == ((Gf.pow 2 y : Nat) : Int)) = ((x : Int) == (y : Int)) := by
  have h := Gf.pow_two_inj x y hx hy
  rw [Bool.eq_iff_iff]
  simp only [beq_iff_eq, Int.ofNat_inj]
  exact h
set_option maxHeartbeats 1000000 in
theorem walk (n m : Nat) (hn : n < 256) (hm : m < 256) (w : World) :
    Calls Try.prog 8 #[.int .u8 n, .int .u8 m] w fun e w' => e = .returned (.bool true) ∧ Below w.heap.size w w' := by
  have h2 : (2 : Nat) < 256 := by decide
  obtain ⟨x, hx⟩ : ∃ x, n % 255 = x := ⟨_, rfl⟩
  obtain ⟨y, hy⟩ : ∃ y, m % 255 = y := ⟨_, rfl⟩
  have hx1 : x < 255 := by omega
  have hy1 : y < 255 := by omega
  have ex : (n : Int) % 255 = (x : Int) := by omega
  have ey : (m : Int) % 255 = (y : Int) := by omega
  have hs := same x y hx1 hy1
  have hnz : (((Gf.pow 2 x : Nat) : Int) != 0) = true := by
    have := Gf.pow_ne_zero 2 x h2 (by decide)
    simp; omega
  have hp : Gf.powZ 2 ((x : Int) + 255) = Gf.pow 2 x := by
    rw [Gf.powZ_mod 2 _ h2 (by decide)]; congr 1; omega
  have hpx : Gf.powZ 2 (x : Int) = Gf.pow 2 x := by
    rw [Gf.powZ_mod 2 _ h2 (by decide)]; congr 1; omega
  have hpy : Gf.powZ 2 (y : Int) = Gf.pow 2 y := by
    rw [Gf.powZ_mod 2 _ h2 (by decide)]; congr 1; omega
  clear hx hy
  have HB : Below w.heap.size w w := Below.refl _ _
  go_enter Try.func8, Try.ntmps8
  go_wp2_with fail
  refine (known01_calls _).mono ?_
  rintro e w1 ⟨rfl, hb⟩
  replace HB := HB.trans (hb.mono HB.size)
  clear hb
  go_wp2_with fail
  refine (pow_e 2 (x : Int) (Gf.pow 2 x) h2 (by omega) (by omega) hpx _).mono ?_
  rintro e w2 ⟨rfl, hb⟩
  replace HB := HB.trans (hb.mono HB.size)
  clear hb
  go_wp2_with fail
  refine (pow_e 2 (y : Int) (Gf.pow 2 y) h2 (by omega) (by omega) hpy _).mono ?_
  rintro e w3 ⟨rfl, hb⟩
  replace HB := HB.trans (hb.mono HB.size)
  clear hb
  go_wp2_with fail
  refine (pow_e 2 (x : Int) (Gf.pow 2 x) h2 (by omega) (by omega) hpx _).mono ?_
  rintro e w4 ⟨rfl, hb⟩
  replace HB := HB.trans (hb.mono HB.size)
  clear hb
  go_wp2_with fail
  refine (pow_e 2 ((x : Int) + 255) (Gf.pow 2 x) h2 (by omega) (by omega) hp _).mono ?_
  rintro e w5 ⟨rfl, hb⟩
  replace HB := HB.trans (hb.mono HB.size)
  clear hb
  go_wp2_with fail
  refine (pow_e 2 (x : Int) (Gf.pow 2 x) h2 (by omega) (by omega) hpx _).mono ?_
  rintro e w6 ⟨rfl, hb⟩
  replace HB := HB.trans (hb.mono HB.size)
  clear hb
  go_wp2
  go_ret
  exact ⟨rfl, HB⟩

theorem own : ownKnob Try.prog.godebug = none := by kernel_rfl
set_option maxRecDepth 100000 in
theorem lifted (os : Os) (started : os.Started) (H : Type) (enc : TypeId × Value → H) :
    ReturnsInHanded {} Try.checked os 8 .any (Rows.shiftAllSpec.pre6 enc Try.prog Try.f8 Rows.shiftAllRow.domain false) (Rows.shiftAllSpec.post enc Try.prog Try.f8 false true false false) := by
  refine returnsInHanded_of_change (C := Try.checked) own started (by kernel_rfl) Try.func8
    (ChangeSpec.witness6 (enc := enc) (C := Try.checked) false ⟨#[], #[.int .u8 0, .int .u8 0], []⟩ 8 (by kernel_rfl) (by kernel_rfl) (by kernel_rfl) (by kernel_rfl)) ?_
  intro W base args ds gs before hval0 hW _ _
  have hval : ∀ (j : Nat) t v, Try.f8.params[j]? = some t → args[j]? = some v → Value.okWide Try.prog W .any base t v := hval0
  have hW' := hW
  obtain ⟨p, q, hA0, hV, rfl, _, _⟩ := hW
  have hA : DataW.TrodAll enc Try.prog W 0 (fun _ => true) true Try.f8.params.toList args.toList ds p := hA0
  rw [Try.params8] at hA hval
  obtain ⟨v0, vs0, d0, ds0, p0, q0, hargs, rfl, rfl, h0, r0⟩ := trodAll_cons hA
  obtain ⟨v1, vs1, d1, ds1, p1, q1, rfl, rfl, rfl, h1, r1⟩ := trodAll_cons r0
  obtain ⟨rfl, rfl, rfl⟩ := trodAll_nil r1
  obtain rfl : args = #[v0, v1] := by cases args; simp_all
  obtain ⟨rfl, rfl⟩ := trodVars_none hV
  obtain ⟨a0, rfl, rfl, rfl, w0⟩ := open_int Try.underlying5 (hval 0 5 v0 rfl rfl) h0
  obtain ⟨n0, b0, rfl⟩ := nat_of_u8 w0
  obtain ⟨a1, rfl, rfl, rfl, w1⟩ := open_int Try.underlying5 (hval 1 5 v1 rfl rfl) h1
  obtain ⟨n1, b1, rfl⟩ := nat_of_u8 w1
  clear hA0 hval0
  simp only [List.append_nil] at hW'
  refine (walk n0 n1 b0 b1 W).mono fun e W' ⟨he, bel⟩ => ?_
  subst he
  exact ⟨_, rfl, _, _, _, [], [], [], hW', trodAll_mk1 (shut_bool Try.underlying4 _), (trodAll_cons_mk (shut_int Try.underlying5 w0) (trodAll_cons_mk (shut_int Try.underlying5 w1) trodAll_mk0)), rfl, bel.frame _, fun h => by cases h⟩
theorem over : Rows.shiftAllRow.holds Try.pinned (OpenSpec.ofChange Rows.shiftAllSpec) :=
  OpenClaim.holds_of_wide 8 Try.f8 rfl rfl rfl rfl rfl rfl rfl ⟨rfl, rfl, rfl, rfl, rfl⟩ rfl rfl rfl rfl rfl (by kernel_rfl) Try.func8 (by kernel_rfl)
    (of_decide_eq_true (by kernel_rfl)) (by unfold Func.isWrapper; first | (rw [if_pos (by decide +kernel)]; kernel_rfl) | (rw [if_neg (by decide +kernel)]; exact ⟨rfl, rfl⟩))
    (fun os started H enc _ => lifted os started H enc)
theorem proved : Rows.ShiftAllSaid := over
#print axioms proved
end Go.Proofs.Ytfpeabdgajpcjaa.shiftAll
