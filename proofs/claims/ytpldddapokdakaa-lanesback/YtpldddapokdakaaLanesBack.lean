/- LanesBack holds for every input: what is packed is unpacked: the first sixty-four, and noughts; planes are packed again from their lanes. No conditions. -/
import Derived.Test.YtpldddapokdakaaRows
import Derived.Test.YtpldddapokdakaaNums
import Derived.Test.YtpldddapokdakaaSlices
import Derived.Test.YtpldddapokdakaaPlArg
import Derived.Test.YtpldddapokdakaaPlEq
import Derived.Test.YtpldddapokdakaaKnown03
import Derived.Deep.RegionHeld3
import Derived.Deep.DrawnRows
namespace Go.Proofs.Ytpldddapokdakaa.lanesBack
open Go.ChangeShapes Go.WideShapes Go.ChangeAt Go.RowKit
attribute [local go_sem ↓] Go.wp_at_zero Go.wp_at_succ

set_option maxRecDepth 100000 in
set_option maxHeartbeats 8000000 in
theorem walk (l : Nat → Nat) (q : Option Addr) (n c : Nat) (xs : List Nat) (w : World) (hl : ∀ n, l n < 256) (hs : Bs w q n xs) :
    Calls Try.prog 4 #[V8 l, .slice q n c] w fun e w' => e = .returned (.bool true) ∧ Below w.heap.size w w' := by
  have hmax := hs.max
  have HL : Hid (∀ n, n < 64 → l n < 256) := fun n _ => hl n
  obtain ⟨m, hm⟩ : ∃ m : Nat → Nat, ∀ k, xs.getD k 0 = m k := ⟨_, fun _ => rfl⟩
  have HMm : Hid (∀ k, k < 64 → xs.getD k 0 = m k) := fun k _ => hm k
  have HMb : Hid (∀ k, k < 64 → m k < 256) := fun k _ => by rw [← hm]; exact hs.byte k
  have HM0 : Hid (∀ k, n ≤ k → m k = 0) := fun k hk => by
    rw [← hm]
    have := hs.len
    simp [List.getD, List.getElem?_eq_none (by omega : xs.length ≤ k)]
  clear hl hm
  by_cases hbig : n > 300
  · clear hs
    have hgo : (300 : Int) < (n : Int) := by omega
    go_enter Try.func4, Try.ntmps4
    go_wp2_with fail
    refine (known03_calls _).mono ?_
    rintro e w1 ⟨rfl, hb⟩
    have HB : Below w.heap.size w w1 := ((Below.refl _ _).alloc (Nat.le_refl _) _).trans (hb.mono (by simp))
    clear hb
    go_wp2
    go_ret
    exact ⟨rfl, HB⟩
  · have hgo : ¬ (300 : Int) < (n : Int) := by omega
    clear hbig
    go_enter Try.func4, Try.ntmps4
    go_wp2_with fail
    obtain ⟨W, hW⟩ : ∃ W, w.alloc (.cells #[.int .u64 (Ln.pk l 0 : Nat), .int .u64 (Ln.pk l 1 : Nat), .int .u64 (Ln.pk l 2 : Nat), .int .u64 (Ln.pk l 3 : Nat), .int .u64 (Ln.pk l 4 : Nat), .int .u64 (Ln.pk l 5 : Nat), .int .u64 (Ln.pk l 6 : Nat), .int .u64 (Ln.pk l 7 : Nat)] 24) = W := ⟨_, rfl⟩
    have HB : Below w.heap.size w W := by rw [← hW]; exact (Below.refl _ _).alloc (Nat.le_refl _) _
    have P : Pl W w.heap.size 8 l := by rw [← hW]; exact pl_box _ rfl l _
    rw [hW]
    clear hW
    replace hs := hs.below HB
    refine (lpack_calls q n c xs m HMm.out _ hs).mono ?_
    rintro e w1 ⟨rfl, hb⟩
    replace HB := HB.trans (hb.mono HB.size)
    replace P := P.below hb
    replace hs := hs.below hb
    clear hb
    go_wp2_with fail
    refine (lunpack_calls m HMb.out _).mono ?_
    rintro e w2 ⟨v, rfl, hO, hb⟩
    replace HB := HB.trans (hb.mono HB.size)
    replace P := P.below hb
    replace hs := hs.below hb
    obtain ⟨qu, cu, rfl, hu⟩ := hO.bs (ll_byte m HMb.out)
    have e64 := ll_length m
    rw [e64] at hu
    rw [e64]
    clear hb hO e64
    have HU : Hid (Bs w2 qu 64 (ll m) ∧ Bs w2 q n xs ∧ Pl w2 w.heap.size 8 l ∧ Below w.heap.size w w2) := ⟨hu, hs, P, HB⟩
    clear hu hs P HB
    go_wp2
    go_loopw [6] (fun i wr => ∃ k : Nat, k ≤ 64 ∧ i = .int .i64 (k : Int) ∧ wr = w2) (fun i _ => 64 - (intOf i).toNat)
    case atStart => exact ⟨0, by omega, rfl, rfl⟩
    case round =>
      obtain ⟨k, hk, rfl, hwr⟩ := hrel
      subst hwr
      by_cases hlt : k < 64
      · obtain ⟨au, rfl, _, cu1⟩ := HU.out.1.cell k hlt
        rw [ll_at, if_pos hlt] at cu1
        by_cases hkn : k < n
        · obtain ⟨ax, rfl, _, cx1⟩ := HU.out.2.1.cell k hkn
          rw [HMm.out k hlt] at cx1
          have hi : (k : Int) < (n : Int) := by omega
          go_wp2
          go_roundw
          case rel => exact ⟨k + 1, by omega, by go_num, by trivial⟩
          case measure => simp [intOf]; omega
        · rw [HM0.out k (by omega)] at cu1
          have hi : ¬ (k : Int) < (n : Int) := by omega
          go_wp2
          go_roundw
          case rel => exact ⟨k + 1, by omega, by go_num, by trivial⟩
          case measure => simp [intOf]; omega
      · have e8 : k = 64 := by omega
        subst e8
        obtain ⟨_, _, P, HB⟩ := HU.out
        clear HU
        have heq := eq8
        have c0 := P.cell 0 (by decide)
        have c1 := P.cell 1 (by decide)
        have c2 := P.cell 2 (by decide)
        have c3 := P.cell 3 (by decide)
        have c4 := P.cell 4 (by decide)
        have c5 := P.cell 5 (by decide)
        have c6 := P.cell 6 (by decide)
        have c7 := P.cell 7 (by decide)
        go_wp2
        go_region_held3 (fun w' => w'.cell? ⟨w.heap.size, 0, none⟩ = some (.int .u64 (Ln.pk l 0 : Nat)) ∧ w'.cell? ⟨w.heap.size, 1, none⟩ = some (.int .u64 (Ln.pk l 1 : Nat)) ∧ w'.cell? ⟨w.heap.size, 2, none⟩ = some (.int .u64 (Ln.pk l 2 : Nat)) ∧ w'.cell? ⟨w.heap.size, 3, none⟩ = some (.int .u64 (Ln.pk l 3 : Nat)) ∧ w'.cell? ⟨w.heap.size, 4, none⟩ = some (.int .u64 (Ln.pk l 4 : Nat)) ∧ w'.cell? ⟨w.heap.size, 5, none⟩ = some (.int .u64 (Ln.pk l 5 : Nat)) ∧ w'.cell? ⟨w.heap.size, 6, none⟩ = some (.int .u64 (Ln.pk l 6 : Nat)) ∧ w'.cell? ⟨w.heap.size, 7, none⟩ = some (.int .u64 (Ln.pk l 7 : Nat)))
          (first | (go_keep; done) | ((try dsimp only); (repeat' apply And.intro) <;> with_reducible first | exact P.cell _ (by decide) | exact (P.alloc _).cell _ (by decide) | exact (P.other8 (by omega) _).cell _ (by decide)))
          (first
            | (go_at_call 9; refine (known03_calls _).mono ?_; rintro e w1 ⟨rfl, hb⟩; (try (with_reducible first | replace P := P.below hb | replace P := P.drew.below hb | replace P := (P.alloc _).below hb | replace P := (P.alloc _).drew.below hb)); (with_reducible first | replace HB := HB.trans (hb.mono HB.size) | replace HB := HB.drew.trans (hb.mono HB.drew.size) | replace HB := (HB.alloc HB.size _).trans (hb.mono (HB.alloc HB.size _).size) | replace HB := (HB.alloc HB.size _).drew.trans (hb.mono (HB.alloc HB.size _).drew.size)); clear hb)
            | (go_at_call 13; refine (lunpack_calls l HL.out _).mono ?_; rintro e w1 ⟨v2, rfl, hO, hb⟩; obtain ⟨qv, cv, rfl, hv⟩ := hO.bs (ll_byte l HL.out); have e64 := ll_length l; rw [e64] at hv; rw [e64]; clear hO e64; (try (with_reducible first | replace P := P.below hb | replace P := P.drew.below hb | replace P := (P.alloc _).below hb | replace P := (P.alloc _).drew.below hb)); (with_reducible first | replace HB := HB.trans (hb.mono HB.size) | replace HB := HB.drew.trans (hb.mono HB.drew.size) | replace HB := (HB.alloc HB.size _).trans (hb.mono (HB.alloc HB.size _).size) | replace HB := (HB.alloc HB.size _).drew.trans (hb.mono (HB.alloc HB.size _).drew.size)); clear hb)
            | (go_at_call 11; refine (lpack_calls qv 64 cv (ll l) l (fun k hk => by rw [ll_at, if_pos hk]) _ hv).mono ?_; rintro e w1 ⟨rfl, hb⟩; (try (with_reducible first | replace P := P.below hb | replace P := P.drew.below hb | replace P := (P.alloc _).below hb | replace P := (P.alloc _).drew.below hb)); (with_reducible first | replace HB := HB.trans (hb.mono HB.size) | replace HB := HB.drew.trans (hb.mono HB.drew.size) | replace HB := (HB.alloc HB.size _).trans (hb.mono (HB.alloc HB.size _).size) | replace HB := (HB.alloc HB.size _).drew.trans (hb.mono (HB.alloc HB.size _).drew.size)); clear hb))
        clear c0 c1 c2 c3 c4 c5 c6 c7
        clear heq
        go_wp2
        go_ret
        exact ⟨rfl, HB⟩

theorem own : ownKnob Try.prog.godebug = none := by kernel_rfl
theorem laidOut : laidOutB Try.prog = true := by kernel_rfl
set_option maxRecDepth 100000 in
theorem lifted (os : Os) (started : os.Started) (H : Type) (enc : TypeId × Value → H) :
    ReturnsInHanded {} Try.checked os 4 .any (Rows.lanesBackSpec.pre6 enc Try.prog Try.f4 Rows.lanesBackRow.domain false) (Rows.lanesBackSpec.post enc Try.prog Try.f4 false true false false) := by
  refine returnsInHanded_of_change (C := Try.checked) own started (by kernel_rfl) Try.func4
    (ChangeSpec.witness6 (enc := enc) (C := Try.checked) false ⟨#[], #[.agg #[.int .u64 0, .int .u64 0, .int .u64 0, .int .u64 0, .int .u64 0, .int .u64 0, .int .u64 0, .int .u64 0], .slice none 0 0], []⟩ 8 (by kernel_rfl) (by kernel_rfl) (by kernel_rfl) (by kernel_rfl)) ?_
  intro W base args ds gs before hval0 hW _ _
  have hval : ∀ (j : Nat) t v, Try.f4.params[j]? = some t → args[j]? = some v → Value.okWide Try.prog W .any base t v := hval0
  have hW' := hW
  obtain ⟨p, q, hA0, hV, rfl, _, _⟩ := hW
  have hA : DataW.TrodAll enc Try.prog W 0 (fun _ => true) true Try.f4.params.toList args.toList ds p := hA0
  rw [Try.params4] at hA hval
  obtain ⟨v0, vs0, d0, ds0, p0, q0, hargs, rfl, rfl, h0, r0⟩ := trodAll_cons hA
  obtain ⟨v1, vs1, d1, ds1, p1, q1, rfl, rfl, rfl, h1, r1⟩ := trodAll_cons r0
  obtain ⟨rfl, rfl, rfl⟩ := trodAll_nil r1
  obtain rfl : args = #[v0, v1] := by cases args; simp_all
  obtain ⟨rfl, rfl⟩ := trodVars_none hV
  have k0 := h0
  obtain ⟨l0, b0, rfl⟩ := open_planes Try.underlying24 Try.underlying22 (by kernel_rfl) (by kernel_rfl) (hval 0 24 v0 rfl rfl) h0
  have k1 := h1
  obtain ⟨q1, n1, c1, xs1, rfl, w1⟩ := open_bytes Try.underlying25 Try.underlying5 (by kernel_rfl) (hval 1 25 v1 rfl rfl) h1
  clear hA0 hval0
  simp only [List.append_nil] at hW'
  refine (walk (w := W) l0 q1 n1 c1 xs1 b0 w1).mono fun e W' ⟨he, bel⟩ => ?_
  subst he
  exact ⟨_, rfl, _, _, _, [], _, [], hW', trodAll_mk1 (shut_bool Try.underlying4 _), (trodAll_cons_mk (shut_same laidOut (by kernel_rfl) (of_decide_eq_true (by kernel_rfl)) k0 bel) (trodAll_cons_mk (shut_same laidOut (by kernel_rfl) (of_decide_eq_true (by kernel_rfl)) k1 bel) trodAll_mk0)), rfl, bel.frame _, fun h => by cases h⟩
theorem over : Rows.lanesBackRow.holds Try.pinned (OpenSpec.ofChange Rows.lanesBackSpec) :=
  OpenClaim.holds_of_wide 4 Try.f4 rfl rfl rfl rfl rfl rfl rfl ⟨rfl, rfl, rfl, rfl, rfl⟩ rfl rfl rfl rfl rfl (by kernel_rfl) Try.func4 (by kernel_rfl)
    (of_decide_eq_true (by kernel_rfl)) (by unfold Func.isWrapper; first | (rw [if_pos (by decide +kernel)]; kernel_rfl) | (rw [if_neg (by decide +kernel)]; exact ⟨rfl, rfl⟩))
    (fun os started H enc _ => lifted os started H enc)
theorem proved : Rows.LanesBackSaid := over
#print axioms proved
end Go.Proofs.Ytpldddapokdakaa.lanesBack
