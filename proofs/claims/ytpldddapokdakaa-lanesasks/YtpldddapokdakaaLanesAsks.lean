/- LanesAsks holds for every input: all calls of any planes, bytes and numbers are what the chapter says. No conditions. -/
import Derived.Test.YtpldddapokdakaaRows
import Derived.Test.YtpldddapokdakaaNums
import Derived.Test.YtpldddapokdakaaSlices
import Derived.Test.YtpldddapokdakaaPlArg
import Derived.Test.YtpldddapokdakaaPlEq
import Derived.Test.YtpldddapokdakaaKnown03
import Derived.Test.YtpldddapokdakaaRef03c
import Derived.Test.YtpldddapokdakaaRefSame
import Derived.Deep.RegionHeld3
import Derived.Deep.DrawnRows
namespace Go.Proofs.Ytpldddapokdakaa.lanesAsks
open Go.ChangeShapes Go.WideShapes Go.ChangeAt Go.RowKit
attribute [local go_sem ↓] Go.wp_at_zero Go.wp_at_succ

/-- What Lane tells of any number. -/
def at' (l : Nat → Nat) (n : Int) : Nat := if 0 ≤ n ∧ n < 64 then l n.toNat else 0
theorem lane_any (l : Nat → Nat) (n : Int) (hl : ∀ n, n < 64 → l n < 256) (w : World) :
    Calls Try.prog 15 #[V8 l, .int .i64 n] w fun e w' => e = .returned (.int .u8 (at' l n : Nat)) ∧ Below w.heap.size w w' := by
  unfold at'
  by_cases h : 0 ≤ n ∧ n < 64
  · rw [if_pos h]
    have := llane_in l n.toNat (by omega) (hl _ (by omega)) w
    rwa [Int.toNat_of_nonneg h.1] at this
  · rw [if_neg h]
    exact llane_out l n (by omega) w
theorem rlane_any (l : Nat → Nat) (n : Int) (hl : ∀ n, n < 64 → l n < 256) (w : World) :
    Calls Try.prog 22 #[V8 l, .int .i64 n] w fun e w' => e = .returned (.int .u8 (at' l n : Nat)) ∧ Below w.heap.size w w' := by
  unfold at'
  by_cases h : 0 ≤ n ∧ n < 64
  · rw [if_pos h]
    have := rlane_in l n.toNat (by omega) (hl _ (by omega)) w
    rwa [Int.toNat_of_nonneg h.1] at this
  · rw [if_neg h]
    exact rlane_out l n (by omega) w
set_option maxRecDepth 100000 in
set_option maxHeartbeats 8000000 in
theorem asks_calls (p q : Nat → Nat) (a : Nat) (n : Int) (w : World) (lp : ∀ n, n < 64 → p n < 256) (lq : ∀ n, n < 64 → q n < 256) (ha : a < 256) :
    Calls Try.prog 10 #[V8 p, V8 q, .int .u8 a, .int .i64 n] w fun e w' => e = .returned (.bool true) ∧ Below w.heap.size w w' := by
  obtain ⟨pq, hpq⟩ : ∃ x : Nat → Nat, ∀ n, n < 64 → Gf.mul (p n) (q n) = x n := ⟨_, fun _ _ => rfl⟩
  obtain ⟨pp, hpp⟩ : ∃ x : Nat → Nat, ∀ n, n < 64 → Gf.mul (p n) (p n) = x n := ⟨_, fun _ _ => rfl⟩
  obtain ⟨pa, hpa⟩ : ∃ x : Nat → Nat, ∀ n, n < 64 → Gf.mul (p n) a = x n := ⟨_, fun _ _ => rfl⟩
  obtain ⟨sm, hsm⟩ : ∃ x : Nat → Nat, ∀ n, n < 64 → p n ^^^ q n = x n := ⟨_, fun _ _ => rfl⟩
  obtain ⟨xn, hxn⟩ : ∃ x, at' p n = x := ⟨_, rfl⟩
  obtain ⟨xa, hxa⟩ : ∃ x, at' p (a : Int) = x := ⟨_, rfl⟩
  have k1 : Hid (∀ w, Calls Try.prog 14 #[V8 p, V8 q] w fun e w' => e = .returned (V8 pq) ∧ Below w.heap.size w w') := lmul_calls p q pq lp lq hpq
  have k2 : Hid (∀ w, Calls Try.prog 24 #[V8 p, V8 q] w fun e w' => e = .returned (V8 pq) ∧ Below w.heap.size w w') := rlmul_calls p q pq lp lq hpq
  have k3 : Hid (∀ w, Calls Try.prog 24 #[V8 p, V8 p] w fun e w' => e = .returned (V8 pp) ∧ Below w.heap.size w w') := rlmul_calls p p pp lp lp hpp
  have k4 : Hid (∀ w, Calls Try.prog 18 #[V8 p] w fun e w' => e = .returned (V8 pp) ∧ Below w.heap.size w w') := lsquare_calls p pp lp hpp
  have k5 : Hid (∀ w, Calls Try.prog 19 #[V8 p, .int .u8 a] w fun e w' => e = .returned (V8 pa) ∧ Below w.heap.size w w') := lscale_calls p pa a lp ha hpa
  have k6 : Hid (∀ w, Calls Try.prog 25 #[V8 p, .int .u8 a] w fun e w' => e = .returned (V8 pa) ∧ Below w.heap.size w w') := rlscale_calls p pa a lp hpa
  have k7 : Hid (∀ w, Calls Try.prog 17 #[V8 p, V8 q] w fun e w' => e = .returned (V8 sm) ∧ Below w.heap.size w w') := ladd_calls p q sm hsm
  have k8 : Hid (∀ w, Calls Try.prog 23 #[V8 p, V8 q] w fun e w' => e = .returned (V8 sm) ∧ Below w.heap.size w w') := rladd_calls p q sm lp lq hsm
  have k9 : Hid (∀ w, Calls Try.prog 15 #[V8 p, .int .i64 n] w fun e w' => e = .returned (.int .u8 (xn : Nat)) ∧ Below w.heap.size w w') := by rw [← hxn]; exact lane_any p n lp
  have k10 : Hid (∀ w, Calls Try.prog 22 #[V8 p, .int .i64 n] w fun e w' => e = .returned (.int .u8 (xn : Nat)) ∧ Below w.heap.size w w') := by rw [← hxn]; exact rlane_any p n lp
  have k11 : Hid (∀ w, Calls Try.prog 15 #[V8 p, .int .i64 (a : Int)] w fun e w' => e = .returned (.int .u8 (xa : Nat)) ∧ Below w.heap.size w w') := by rw [← hxa]; exact lane_any p a lp
  have k12 : Hid (∀ w, Calls Try.prog 22 #[V8 p, .int .i64 (a : Int)] w fun e w' => e = .returned (.int .u8 (xa : Nat)) ∧ Below w.heap.size w w') := by rw [← hxa]; exact rlane_any p a lp
  have K : Hid (∀ n, n < 64 → p n < 256) := lp
  have HB : Below w.heap.size w ((w.alloc (.cells #[.int .u64 (Ln.pk p 0 : Nat), .int .u64 (Ln.pk p 1 : Nat), .int .u64 (Ln.pk p 2 : Nat), .int .u64 (Ln.pk p 3 : Nat), .int .u64 (Ln.pk p 4 : Nat), .int .u64 (Ln.pk p 5 : Nat), .int .u64 (Ln.pk p 6 : Nat), .int .u64 (Ln.pk p 7 : Nat)] 24)).alloc (.cells #[.int .u64 (Ln.pk q 0 : Nat), .int .u64 (Ln.pk q 1 : Nat), .int .u64 (Ln.pk q 2 : Nat), .int .u64 (Ln.pk q 3 : Nat), .int .u64 (Ln.pk q 4 : Nat), .int .u64 (Ln.pk q 5 : Nat), .int .u64 (Ln.pk q 6 : Nat), .int .u64 (Ln.pk q 7 : Nat)] 24)) := ((Below.refl _ _).alloc (Nat.le_refl _) _).alloc (by simp) _
  have P : Pl _ w.heap.size 8 p := (pl_box w rfl p 24).alloc (.cells #[.int .u64 (Ln.pk q 0 : Nat), .int .u64 (Ln.pk q 1 : Nat), .int .u64 (Ln.pk q 2 : Nat), .int .u64 (Ln.pk q 3 : Nat), .int .u64 (Ln.pk q 4 : Nat), .int .u64 (Ln.pk q 5 : Nat), .int .u64 (Ln.pk q 6 : Nat), .int .u64 (Ln.pk q 7 : Nat)] 24)
  have Q : Pl _ (w.heap.size + 1) 8 q := pl_box (w.alloc (.cells #[.int .u64 (Ln.pk p 0 : Nat), .int .u64 (Ln.pk p 1 : Nat), .int .u64 (Ln.pk p 2 : Nat), .int .u64 (Ln.pk p 3 : Nat), .int .u64 (Ln.pk p 4 : Nat), .int .u64 (Ln.pk p 5 : Nat), .int .u64 (Ln.pk p 6 : Nat), .int .u64 (Ln.pk p 7 : Nat)] 24)) (by simp) q 24
  have heq := eq8
  have hwa : IntKind.i64.wrap (a : Int) = (a : Int) := by rw [IntKind.wrap_i64]; omega
  clear hpq hpp hpa hsm hxn hxa lp lq
  have c0 := P.cell 0 (by decide)
  have c1 := P.cell 1 (by decide)
  have c2 := P.cell 2 (by decide)
  have c3 := P.cell 3 (by decide)
  have c4 := P.cell 4 (by decide)
  have c5 := P.cell 5 (by decide)
  have c6 := P.cell 6 (by decide)
  have c7 := P.cell 7 (by decide)
  have d0 := Q.cell 0 (by decide)
  have d1 := Q.cell 1 (by decide)
  have d2 := Q.cell 2 (by decide)
  have d3 := Q.cell 3 (by decide)
  have d4 := Q.cell 4 (by decide)
  have d5 := Q.cell 5 (by decide)
  have d6 := Q.cell 6 (by decide)
  have d7 := Q.cell 7 (by decide)
  go_enter Try.func10, Try.ntmps10
  go_wp2
  go_region_held3 (fun w' => w'.cell? ⟨w.heap.size, 0, none⟩ = some (.int .u64 (Ln.pk p 0 : Nat)) ∧ w'.cell? ⟨w.heap.size, 1, none⟩ = some (.int .u64 (Ln.pk p 1 : Nat)) ∧ w'.cell? ⟨w.heap.size, 2, none⟩ = some (.int .u64 (Ln.pk p 2 : Nat)) ∧ w'.cell? ⟨w.heap.size, 3, none⟩ = some (.int .u64 (Ln.pk p 3 : Nat)) ∧ w'.cell? ⟨w.heap.size, 4, none⟩ = some (.int .u64 (Ln.pk p 4 : Nat)) ∧ w'.cell? ⟨w.heap.size, 5, none⟩ = some (.int .u64 (Ln.pk p 5 : Nat)) ∧ w'.cell? ⟨w.heap.size, 6, none⟩ = some (.int .u64 (Ln.pk p 6 : Nat)) ∧ w'.cell? ⟨w.heap.size, 7, none⟩ = some (.int .u64 (Ln.pk p 7 : Nat)) ∧ w'.cell? ⟨w.heap.size + 1, 0, none⟩ = some (.int .u64 (Ln.pk q 0 : Nat)) ∧ w'.cell? ⟨w.heap.size + 1, 1, none⟩ = some (.int .u64 (Ln.pk q 1 : Nat)) ∧ w'.cell? ⟨w.heap.size + 1, 2, none⟩ = some (.int .u64 (Ln.pk q 2 : Nat)) ∧ w'.cell? ⟨w.heap.size + 1, 3, none⟩ = some (.int .u64 (Ln.pk q 3 : Nat)) ∧ w'.cell? ⟨w.heap.size + 1, 4, none⟩ = some (.int .u64 (Ln.pk q 4 : Nat)) ∧ w'.cell? ⟨w.heap.size + 1, 5, none⟩ = some (.int .u64 (Ln.pk q 5 : Nat)) ∧ w'.cell? ⟨w.heap.size + 1, 6, none⟩ = some (.int .u64 (Ln.pk q 6 : Nat)) ∧ w'.cell? ⟨w.heap.size + 1, 7, none⟩ = some (.int .u64 (Ln.pk q 7 : Nat)))
    (first | (go_keep; done) | ((try dsimp only); (repeat' apply And.intro) <;> with_reducible first | exact P.cell _ (by decide) | exact (P.alloc _).cell _ (by decide) | exact (P.other8 (by omega) _).cell _ (by decide) | exact Q.cell _ (by decide) | exact (Q.alloc _).cell _ (by decide) | exact (Q.other8 (by omega) _).cell _ (by decide)))
    (first
      | (go_at_call 13; refine (lunpack_calls p K.out _).mono ?_; rintro e w1 ⟨v1, rfl, hO, hb⟩; obtain ⟨qu, cu, rfl, U⟩ := hO.bs (ll_byte p K.out); rw [ll_length] at U; rw [ll_length]; clear hO; (try (with_reducible first | replace P := P.below hb | replace P := P.drew.below hb | replace P := (P.alloc _).below hb | replace P := (P.alloc _).drew.below hb)); (try (with_reducible first | replace Q := Q.below hb | replace Q := Q.drew.below hb | replace Q := (Q.alloc _).below hb | replace Q := (Q.alloc _).drew.below hb)); (try (with_reducible first | replace U := U.below hb | replace U := U.drew.below hb | replace U := (U.alloc _).below hb | replace U := (U.alloc _).drew.below hb)); (try (with_reducible first | replace V := V.below hb | replace V := V.drew.below hb | replace V := (V.alloc _).below hb | replace V := (V.alloc _).drew.below hb)); (with_reducible first | replace HB := HB.trans (hb.mono HB.size) | replace HB := HB.drew.trans (hb.mono HB.drew.size) | replace HB := (HB.alloc HB.size _).trans (hb.mono (HB.alloc HB.size _).size) | replace HB := (HB.alloc HB.size _).drew.trans (hb.mono (HB.alloc HB.size _).drew.size)); clear hb)
      | (go_at_call 21; refine (runpack_calls p K.out _).mono ?_; rintro e w1 ⟨v2, rfl, hO, hb⟩; (with_reducible first | replace U := U.below hb | replace U := U.drew.below hb); obtain ⟨qv, cv, rfl, V⟩ := hO.bs (ll_byte p K.out); rw [ll_length] at V; rw [ll_length]; clear hO; (try (with_reducible first | replace P := P.below hb | replace P := P.drew.below hb | replace P := (P.alloc _).below hb | replace P := (P.alloc _).drew.below hb)); (try (with_reducible first | replace Q := Q.below hb | replace Q := Q.drew.below hb | replace Q := (Q.alloc _).below hb | replace Q := (Q.alloc _).drew.below hb)); (try (with_reducible first | replace U := U.below hb | replace U := U.drew.below hb | replace U := (U.alloc _).below hb | replace U := (U.alloc _).drew.below hb)); (try (with_reducible first | replace V := V.below hb | replace V := V.drew.below hb | replace V := (V.alloc _).below hb | replace V := (V.alloc _).drew.below hb)); (with_reducible first | replace HB := HB.trans (hb.mono HB.size) | replace HB := HB.drew.trans (hb.mono HB.drew.size) | replace HB := (HB.alloc HB.size _).trans (hb.mono (HB.alloc HB.size _).size) | replace HB := (HB.alloc HB.size _).drew.trans (hb.mono (HB.alloc HB.size _).drew.size)); clear hb)
      | (go_at_call 20; refine (same_calls qu qv 64 cu cv (ll p) _ U V).mono ?_; rintro e w1 ⟨rfl, hb⟩; (try (with_reducible first | replace P := P.below hb | replace P := P.drew.below hb | replace P := (P.alloc _).below hb | replace P := (P.alloc _).drew.below hb)); (try (with_reducible first | replace Q := Q.below hb | replace Q := Q.drew.below hb | replace Q := (Q.alloc _).below hb | replace Q := (Q.alloc _).drew.below hb)); (try (with_reducible first | replace U := U.below hb | replace U := U.drew.below hb | replace U := (U.alloc _).below hb | replace U := (U.alloc _).drew.below hb)); (try (with_reducible first | replace V := V.below hb | replace V := V.drew.below hb | replace V := (V.alloc _).below hb | replace V := (V.alloc _).drew.below hb)); (with_reducible first | replace HB := HB.trans (hb.mono HB.size) | replace HB := HB.drew.trans (hb.mono HB.drew.size) | replace HB := (HB.alloc HB.size _).trans (hb.mono (HB.alloc HB.size _).size) | replace HB := (HB.alloc HB.size _).drew.trans (hb.mono (HB.alloc HB.size _).drew.size)); clear hb)
      | (go_at_call 15; with_reducible refine (k9.out _).mono ?_; rintro e w1 ⟨rfl, hb⟩; (try (with_reducible first | replace P := P.below hb | replace P := P.drew.below hb | replace P := (P.alloc _).below hb | replace P := (P.alloc _).drew.below hb)); (try (with_reducible first | replace Q := Q.below hb | replace Q := Q.drew.below hb | replace Q := (Q.alloc _).below hb | replace Q := (Q.alloc _).drew.below hb)); (try (with_reducible first | replace U := U.below hb | replace U := U.drew.below hb | replace U := (U.alloc _).below hb | replace U := (U.alloc _).drew.below hb)); (try (with_reducible first | replace V := V.below hb | replace V := V.drew.below hb | replace V := (V.alloc _).below hb | replace V := (V.alloc _).drew.below hb)); (with_reducible first | replace HB := HB.trans (hb.mono HB.size) | replace HB := HB.drew.trans (hb.mono HB.drew.size) | replace HB := (HB.alloc HB.size _).trans (hb.mono (HB.alloc HB.size _).size) | replace HB := (HB.alloc HB.size _).drew.trans (hb.mono (HB.alloc HB.size _).drew.size)); clear hb)
      | (go_at_call 22; with_reducible refine (k10.out _).mono ?_; rintro e w1 ⟨rfl, hb⟩; (try (with_reducible first | replace P := P.below hb | replace P := P.drew.below hb | replace P := (P.alloc _).below hb | replace P := (P.alloc _).drew.below hb)); (try (with_reducible first | replace Q := Q.below hb | replace Q := Q.drew.below hb | replace Q := (Q.alloc _).below hb | replace Q := (Q.alloc _).drew.below hb)); (try (with_reducible first | replace U := U.below hb | replace U := U.drew.below hb | replace U := (U.alloc _).below hb | replace U := (U.alloc _).drew.below hb)); (try (with_reducible first | replace V := V.below hb | replace V := V.drew.below hb | replace V := (V.alloc _).below hb | replace V := (V.alloc _).drew.below hb)); (with_reducible first | replace HB := HB.trans (hb.mono HB.size) | replace HB := HB.drew.trans (hb.mono HB.drew.size) | replace HB := (HB.alloc HB.size _).trans (hb.mono (HB.alloc HB.size _).size) | replace HB := (HB.alloc HB.size _).drew.trans (hb.mono (HB.alloc HB.size _).drew.size)); clear hb)
      | (go_at_call 15; with_reducible refine (k11.out _).mono ?_; rintro e w1 ⟨rfl, hb⟩; (try (with_reducible first | replace P := P.below hb | replace P := P.drew.below hb | replace P := (P.alloc _).below hb | replace P := (P.alloc _).drew.below hb)); (try (with_reducible first | replace Q := Q.below hb | replace Q := Q.drew.below hb | replace Q := (Q.alloc _).below hb | replace Q := (Q.alloc _).drew.below hb)); (try (with_reducible first | replace U := U.below hb | replace U := U.drew.below hb | replace U := (U.alloc _).below hb | replace U := (U.alloc _).drew.below hb)); (try (with_reducible first | replace V := V.below hb | replace V := V.drew.below hb | replace V := (V.alloc _).below hb | replace V := (V.alloc _).drew.below hb)); (with_reducible first | replace HB := HB.trans (hb.mono HB.size) | replace HB := HB.drew.trans (hb.mono HB.drew.size) | replace HB := (HB.alloc HB.size _).trans (hb.mono (HB.alloc HB.size _).size) | replace HB := (HB.alloc HB.size _).drew.trans (hb.mono (HB.alloc HB.size _).drew.size)); clear hb)
      | (go_at_call 22; with_reducible refine (k12.out _).mono ?_; rintro e w1 ⟨rfl, hb⟩; (try (with_reducible first | replace P := P.below hb | replace P := P.drew.below hb | replace P := (P.alloc _).below hb | replace P := (P.alloc _).drew.below hb)); (try (with_reducible first | replace Q := Q.below hb | replace Q := Q.drew.below hb | replace Q := (Q.alloc _).below hb | replace Q := (Q.alloc _).drew.below hb)); (try (with_reducible first | replace U := U.below hb | replace U := U.drew.below hb | replace U := (U.alloc _).below hb | replace U := (U.alloc _).drew.below hb)); (try (with_reducible first | replace V := V.below hb | replace V := V.drew.below hb | replace V := (V.alloc _).below hb | replace V := (V.alloc _).drew.below hb)); (with_reducible first | replace HB := HB.trans (hb.mono HB.size) | replace HB := HB.drew.trans (hb.mono HB.drew.size) | replace HB := (HB.alloc HB.size _).trans (hb.mono (HB.alloc HB.size _).size) | replace HB := (HB.alloc HB.size _).drew.trans (hb.mono (HB.alloc HB.size _).drew.size)); clear hb)
      | (go_at_call 17; refine (k7.out _).mono ?_; rintro e w1 ⟨rfl, hb⟩; (try (with_reducible first | replace P := P.below hb | replace P := P.drew.below hb | replace P := (P.alloc _).below hb | replace P := (P.alloc _).drew.below hb)); (try (with_reducible first | replace Q := Q.below hb | replace Q := Q.drew.below hb | replace Q := (Q.alloc _).below hb | replace Q := (Q.alloc _).drew.below hb)); (try (with_reducible first | replace U := U.below hb | replace U := U.drew.below hb | replace U := (U.alloc _).below hb | replace U := (U.alloc _).drew.below hb)); (try (with_reducible first | replace V := V.below hb | replace V := V.drew.below hb | replace V := (V.alloc _).below hb | replace V := (V.alloc _).drew.below hb)); (with_reducible first | replace HB := HB.trans (hb.mono HB.size) | replace HB := HB.drew.trans (hb.mono HB.drew.size) | replace HB := (HB.alloc HB.size _).trans (hb.mono (HB.alloc HB.size _).size) | replace HB := (HB.alloc HB.size _).drew.trans (hb.mono (HB.alloc HB.size _).drew.size)); clear hb)
      | (go_at_call 23; refine (k8.out _).mono ?_; rintro e w1 ⟨rfl, hb⟩; (try (with_reducible first | replace P := P.below hb | replace P := P.drew.below hb | replace P := (P.alloc _).below hb | replace P := (P.alloc _).drew.below hb)); (try (with_reducible first | replace Q := Q.below hb | replace Q := Q.drew.below hb | replace Q := (Q.alloc _).below hb | replace Q := (Q.alloc _).drew.below hb)); (try (with_reducible first | replace U := U.below hb | replace U := U.drew.below hb | replace U := (U.alloc _).below hb | replace U := (U.alloc _).drew.below hb)); (try (with_reducible first | replace V := V.below hb | replace V := V.drew.below hb | replace V := (V.alloc _).below hb | replace V := (V.alloc _).drew.below hb)); (with_reducible first | replace HB := HB.trans (hb.mono HB.size) | replace HB := HB.drew.trans (hb.mono HB.drew.size) | replace HB := (HB.alloc HB.size _).trans (hb.mono (HB.alloc HB.size _).size) | replace HB := (HB.alloc HB.size _).drew.trans (hb.mono (HB.alloc HB.size _).drew.size)); clear hb)
      | (go_at_call 14; refine (k1.out _).mono ?_; rintro e w1 ⟨rfl, hb⟩; (try (with_reducible first | replace P := P.below hb | replace P := P.drew.below hb | replace P := (P.alloc _).below hb | replace P := (P.alloc _).drew.below hb)); (try (with_reducible first | replace Q := Q.below hb | replace Q := Q.drew.below hb | replace Q := (Q.alloc _).below hb | replace Q := (Q.alloc _).drew.below hb)); (try (with_reducible first | replace U := U.below hb | replace U := U.drew.below hb | replace U := (U.alloc _).below hb | replace U := (U.alloc _).drew.below hb)); (try (with_reducible first | replace V := V.below hb | replace V := V.drew.below hb | replace V := (V.alloc _).below hb | replace V := (V.alloc _).drew.below hb)); (with_reducible first | replace HB := HB.trans (hb.mono HB.size) | replace HB := HB.drew.trans (hb.mono HB.drew.size) | replace HB := (HB.alloc HB.size _).trans (hb.mono (HB.alloc HB.size _).size) | replace HB := (HB.alloc HB.size _).drew.trans (hb.mono (HB.alloc HB.size _).drew.size)); clear hb)
      | (go_at_call 24; with_reducible refine (k2.out _).mono ?_; rintro e w1 ⟨rfl, hb⟩; (try (with_reducible first | replace P := P.below hb | replace P := P.drew.below hb | replace P := (P.alloc _).below hb | replace P := (P.alloc _).drew.below hb)); (try (with_reducible first | replace Q := Q.below hb | replace Q := Q.drew.below hb | replace Q := (Q.alloc _).below hb | replace Q := (Q.alloc _).drew.below hb)); (try (with_reducible first | replace U := U.below hb | replace U := U.drew.below hb | replace U := (U.alloc _).below hb | replace U := (U.alloc _).drew.below hb)); (try (with_reducible first | replace V := V.below hb | replace V := V.drew.below hb | replace V := (V.alloc _).below hb | replace V := (V.alloc _).drew.below hb)); (with_reducible first | replace HB := HB.trans (hb.mono HB.size) | replace HB := HB.drew.trans (hb.mono HB.drew.size) | replace HB := (HB.alloc HB.size _).trans (hb.mono (HB.alloc HB.size _).size) | replace HB := (HB.alloc HB.size _).drew.trans (hb.mono (HB.alloc HB.size _).drew.size)); clear hb)
      | (go_at_call 24; with_reducible refine (k3.out _).mono ?_; rintro e w1 ⟨rfl, hb⟩; (try (with_reducible first | replace P := P.below hb | replace P := P.drew.below hb | replace P := (P.alloc _).below hb | replace P := (P.alloc _).drew.below hb)); (try (with_reducible first | replace Q := Q.below hb | replace Q := Q.drew.below hb | replace Q := (Q.alloc _).below hb | replace Q := (Q.alloc _).drew.below hb)); (try (with_reducible first | replace U := U.below hb | replace U := U.drew.below hb | replace U := (U.alloc _).below hb | replace U := (U.alloc _).drew.below hb)); (try (with_reducible first | replace V := V.below hb | replace V := V.drew.below hb | replace V := (V.alloc _).below hb | replace V := (V.alloc _).drew.below hb)); (with_reducible first | replace HB := HB.trans (hb.mono HB.size) | replace HB := HB.drew.trans (hb.mono HB.drew.size) | replace HB := (HB.alloc HB.size _).trans (hb.mono (HB.alloc HB.size _).size) | replace HB := (HB.alloc HB.size _).drew.trans (hb.mono (HB.alloc HB.size _).drew.size)); clear hb)
      | (go_at_call 19; refine (k5.out _).mono ?_; rintro e w1 ⟨rfl, hb⟩; (try (with_reducible first | replace P := P.below hb | replace P := P.drew.below hb | replace P := (P.alloc _).below hb | replace P := (P.alloc _).drew.below hb)); (try (with_reducible first | replace Q := Q.below hb | replace Q := Q.drew.below hb | replace Q := (Q.alloc _).below hb | replace Q := (Q.alloc _).drew.below hb)); (try (with_reducible first | replace U := U.below hb | replace U := U.drew.below hb | replace U := (U.alloc _).below hb | replace U := (U.alloc _).drew.below hb)); (try (with_reducible first | replace V := V.below hb | replace V := V.drew.below hb | replace V := (V.alloc _).below hb | replace V := (V.alloc _).drew.below hb)); (with_reducible first | replace HB := HB.trans (hb.mono HB.size) | replace HB := HB.drew.trans (hb.mono HB.drew.size) | replace HB := (HB.alloc HB.size _).trans (hb.mono (HB.alloc HB.size _).size) | replace HB := (HB.alloc HB.size _).drew.trans (hb.mono (HB.alloc HB.size _).drew.size)); clear hb)
      | (go_at_call 25; refine (k6.out _).mono ?_; rintro e w1 ⟨rfl, hb⟩; (try (with_reducible first | replace P := P.below hb | replace P := P.drew.below hb | replace P := (P.alloc _).below hb | replace P := (P.alloc _).drew.below hb)); (try (with_reducible first | replace Q := Q.below hb | replace Q := Q.drew.below hb | replace Q := (Q.alloc _).below hb | replace Q := (Q.alloc _).drew.below hb)); (try (with_reducible first | replace U := U.below hb | replace U := U.drew.below hb | replace U := (U.alloc _).below hb | replace U := (U.alloc _).drew.below hb)); (try (with_reducible first | replace V := V.below hb | replace V := V.drew.below hb | replace V := (V.alloc _).below hb | replace V := (V.alloc _).drew.below hb)); (with_reducible first | replace HB := HB.trans (hb.mono HB.size) | replace HB := HB.drew.trans (hb.mono HB.drew.size) | replace HB := (HB.alloc HB.size _).trans (hb.mono (HB.alloc HB.size _).size) | replace HB := (HB.alloc HB.size _).drew.trans (hb.mono (HB.alloc HB.size _).drew.size)); clear hb)
      | (go_at_call 18; refine (k4.out _).mono ?_; rintro e w1 ⟨rfl, hb⟩; (try (with_reducible first | replace P := P.below hb | replace P := P.drew.below hb | replace P := (P.alloc _).below hb | replace P := (P.alloc _).drew.below hb)); (try (with_reducible first | replace Q := Q.below hb | replace Q := Q.drew.below hb | replace Q := (Q.alloc _).below hb | replace Q := (Q.alloc _).drew.below hb)); (try (with_reducible first | replace U := U.below hb | replace U := U.drew.below hb | replace U := (U.alloc _).below hb | replace U := (U.alloc _).drew.below hb)); (try (with_reducible first | replace V := V.below hb | replace V := V.drew.below hb | replace V := (V.alloc _).below hb | replace V := (V.alloc _).drew.below hb)); (with_reducible first | replace HB := HB.trans (hb.mono HB.size) | replace HB := HB.drew.trans (hb.mono HB.drew.size) | replace HB := (HB.alloc HB.size _).trans (hb.mono (HB.alloc HB.size _).size) | replace HB := (HB.alloc HB.size _).drew.trans (hb.mono (HB.alloc HB.size _).drew.size)); clear hb))
  clear c0 c1 c2 c3 c4 c5 c6 c7
  clear d0 d1 d2 d3 d4 d5 d6 d7
  clear heq
  go_wp2
  go_ret
  exact ⟨rfl, HB⟩
set_option maxRecDepth 100000 in
set_option maxHeartbeats 8000000 in
theorem walk (p q : Nat → Nat) (ql : Option Addr) (nl cl : Nat) (xs : List Nat) (qm : Option Addr) (nm cm : Nat) (ys : List Nat) (a : Nat) (n : Int) (w : World)
    (hp : ∀ n, p n < 256) (hq : ∀ n, q n < 256) (hL : Bs w ql nl xs) (hM : Bs w qm nm ys) (ha : a < 256) (_h1 : -9223372036854775808 ≤ n) (_h2 : n < 9223372036854775808) :
    Calls Try.prog 3 #[V8 p, V8 q, .slice ql nl cl, .slice qm nm cm, .int .u8 a, .int .i64 n] w fun e w' => e = .returned (.bool true) ∧ Below w.heap.size w w' := by
  have lp : ∀ n, n < 64 → p n < 256 := fun n _ => hp n
  have lq : ∀ n, n < 64 → q n < 256 := fun n _ => hq n
  obtain ⟨px, hpx⟩ : ∃ f : Nat → Nat, ∀ k, xs.getD k 0 = f k := ⟨_, fun _ => rfl⟩
  obtain ⟨py, hpy⟩ : ∃ f : Nat → Nat, ∀ k, ys.getD k 0 = f k := ⟨_, fun _ => rfl⟩
  have lx : ∀ n, n < 64 → px n < 256 := fun n _ => by rw [← hpx]; exact hL.byte n
  have ly : ∀ n, n < 64 → py n < 256 := fun n _ => by rw [← hpy]; exact hM.byte n
  have k1 : Hid (∀ w, Calls Try.prog 10 #[V8 p, V8 q, .int .u8 a, .int .i64 n] w fun e w' => e = .returned (.bool true) ∧ Below w.heap.size w w') := fun w => asks_calls p q a n w lp lq ha
  have k2 : Hid (∀ w, Calls Try.prog 10 #[V8 px, V8 py, .int .u8 a, .int .i64 n] w fun e w' => e = .returned (.bool true) ∧ Below w.heap.size w w') := fun w => asks_calls px py a n w lx ly ha
  have k3 : Hid ((∀ k, k < 64 → xs.getD k 0 = px k) ∧ (∀ k, k < 64 → ys.getD k 0 = py k)) := ⟨fun k _ => hpx k, fun k _ => hpy k⟩
  have HB : Below w.heap.size w ((w.alloc (.cells #[.int .u64 (Ln.pk p 0 : Nat), .int .u64 (Ln.pk p 1 : Nat), .int .u64 (Ln.pk p 2 : Nat), .int .u64 (Ln.pk p 3 : Nat), .int .u64 (Ln.pk p 4 : Nat), .int .u64 (Ln.pk p 5 : Nat), .int .u64 (Ln.pk p 6 : Nat), .int .u64 (Ln.pk p 7 : Nat)] 24)).alloc (.cells #[.int .u64 (Ln.pk q 0 : Nat), .int .u64 (Ln.pk q 1 : Nat), .int .u64 (Ln.pk q 2 : Nat), .int .u64 (Ln.pk q 3 : Nat), .int .u64 (Ln.pk q 4 : Nat), .int .u64 (Ln.pk q 5 : Nat), .int .u64 (Ln.pk q 6 : Nat), .int .u64 (Ln.pk q 7 : Nat)] 24)) := ((Below.refl _ _).alloc (Nat.le_refl _) _).alloc (by simp) _
  have P : Pl _ w.heap.size 8 p := (pl_box w rfl p 24).alloc (.cells #[.int .u64 (Ln.pk q 0 : Nat), .int .u64 (Ln.pk q 1 : Nat), .int .u64 (Ln.pk q 2 : Nat), .int .u64 (Ln.pk q 3 : Nat), .int .u64 (Ln.pk q 4 : Nat), .int .u64 (Ln.pk q 5 : Nat), .int .u64 (Ln.pk q 6 : Nat), .int .u64 (Ln.pk q 7 : Nat)] 24)
  have Q : Pl _ (w.heap.size + 1) 8 q := pl_box (w.alloc (.cells #[.int .u64 (Ln.pk p 0 : Nat), .int .u64 (Ln.pk p 1 : Nat), .int .u64 (Ln.pk p 2 : Nat), .int .u64 (Ln.pk p 3 : Nat), .int .u64 (Ln.pk p 4 : Nat), .int .u64 (Ln.pk p 5 : Nat), .int .u64 (Ln.pk p 6 : Nat), .int .u64 (Ln.pk p 7 : Nat)] 24)) (by simp) q 24
  have hml := hL.max
  have hmm := hM.max
  replace hL := hL.below HB
  replace hM := hM.below HB
  clear hpx hpy lx ly lp lq hp hq
  have HL : Hid (Bs _ ql nl xs ∧ Bs _ qm nm ys) := ⟨hL, hM⟩
  clear hL hM
  by_cases hbig : (300 : Int) < wrap64 ((nl : Int) + (nm : Int))
  · go_enter Try.func3, Try.ntmps3
    go_wp2_with fail
    refine (known03_calls _).mono ?_
    rintro e w1 ⟨rfl, hb⟩
    replace HB := HB.trans (hb.mono HB.size)
    clear hb P Q HL
    go_wp2
    go_ret
    exact ⟨rfl, HB⟩
  · go_enter Try.func3, Try.ntmps3
    go_wp2_with fail
    refine (known03_calls _).mono ?_
    rintro e w1 ⟨rfl, hb⟩
    replace HB := HB.trans (hb.mono HB.size)
    replace P := P.below hb
    replace Q := Q.below hb
    have X := HL.out.1.below hb
    have Y := HL.out.2.below hb
    clear hb HL hbig
    have c0 := P.cell 0 (by decide)
    have c1 := P.cell 1 (by decide)
    have c2 := P.cell 2 (by decide)
    have c3 := P.cell 3 (by decide)
    have c4 := P.cell 4 (by decide)
    have c5 := P.cell 5 (by decide)
    have c6 := P.cell 6 (by decide)
    have c7 := P.cell 7 (by decide)
    have d0 := Q.cell 0 (by decide)
    have d1 := Q.cell 1 (by decide)
    have d2 := Q.cell 2 (by decide)
    have d3 := Q.cell 3 (by decide)
    have d4 := Q.cell 4 (by decide)
    have d5 := Q.cell 5 (by decide)
    have d6 := Q.cell 6 (by decide)
    have d7 := Q.cell 7 (by decide)
    go_wp2_with fail
    refine (k1.out _).mono ?_
    rintro e w2 ⟨rfl, hb⟩
    clear c0 c1 c2 c3 c4 c5 c6 c7
    clear d0 d1 d2 d3 d4 d5 d6 d7
    clear P Q
    replace HB := HB.trans (hb.mono HB.size)
    replace X := X.below hb
    replace Y := Y.below hb
    clear hb
    go_wp2_with fail
    refine (lpack_calls ql nl cl xs px k3.out.1 _ X).mono ?_
    rintro e w3 ⟨rfl, hb⟩
    replace HB := HB.trans (hb.mono HB.size)
    replace X := X.below hb
    replace Y := Y.below hb
    clear hb
    go_wp2_with fail
    refine (lpack_calls qm nm cm ys py k3.out.2 _ Y).mono ?_
    rintro e w4 ⟨rfl, hb⟩
    replace HB := HB.trans (hb.mono HB.size)
    replace X := X.below hb
    clear hb Y
    go_wp2_with fail
    refine (k2.out _).mono ?_
    rintro e w5 ⟨rfl, hb⟩
    replace HB := HB.trans (hb.mono HB.size)
    replace X := X.below hb
    clear hb
    go_wp2_with fail
    refine (lpack_calls ql nl cl xs px k3.out.1 _ X).mono ?_
    rintro e w6 ⟨rfl, hb⟩
    replace HB := HB.trans (hb.mono HB.size)
    replace X := X.below hb
    clear hb
    go_wp2_with fail
    refine (rpack_calls ql nl cl xs px k3.out.1 _ X).mono ?_
    rintro e w7 ⟨rfl, hb⟩
    replace HB := HB.trans (hb.mono HB.size)
    clear hb X
    have heq := eq8
    go_wp2
    go_ret
    exact ⟨rfl, HB⟩

theorem own : ownKnob Try.prog.godebug = none := by kernel_rfl
theorem laidOut : laidOutB Try.prog = true := by kernel_rfl
set_option maxRecDepth 100000 in
theorem lifted (os : Os) (started : os.Started) (H : Type) (enc : TypeId × Value → H) :
    ReturnsInHanded {} Try.checked os 3 .any (Rows.lanesAsksSpec.pre6 enc Try.prog Try.f3 Rows.lanesAsksRow.domain false) (Rows.lanesAsksSpec.post enc Try.prog Try.f3 false true false false) := by
  refine returnsInHanded_of_change (C := Try.checked) own started (by kernel_rfl) Try.func3
    (ChangeSpec.witness6 (enc := enc) (C := Try.checked) false ⟨#[], #[.agg #[.int .u64 0, .int .u64 0, .int .u64 0, .int .u64 0, .int .u64 0, .int .u64 0, .int .u64 0, .int .u64 0], .agg #[.int .u64 0, .int .u64 0, .int .u64 0, .int .u64 0, .int .u64 0, .int .u64 0, .int .u64 0, .int .u64 0], .slice none 0 0, .slice none 0 0, .int .u8 0, .int .i64 0], []⟩ 8 (by kernel_rfl) (by kernel_rfl) (by kernel_rfl) (by kernel_rfl)) ?_
  intro W base args ds gs before hval0 hW _ _
  have hval : ∀ (j : Nat) t v, Try.f3.params[j]? = some t → args[j]? = some v → Value.okWide Try.prog W .any base t v := hval0
  have hW' := hW
  obtain ⟨p, q, hA0, hV, rfl, _, _⟩ := hW
  have hA : DataW.TrodAll enc Try.prog W 0 (fun _ => true) true Try.f3.params.toList args.toList ds p := hA0
  rw [Try.params3] at hA hval
  obtain ⟨v0, vs0, d0, ds0, p0, q0, hargs, rfl, rfl, h0, r0⟩ := trodAll_cons hA
  obtain ⟨v1, vs1, d1, ds1, p1, q1, rfl, rfl, rfl, h1, r1⟩ := trodAll_cons r0
  obtain ⟨v2, vs2, d2, ds2, p2, q2, rfl, rfl, rfl, h2, r2⟩ := trodAll_cons r1
  obtain ⟨v3, vs3, d3, ds3, p3, q3, rfl, rfl, rfl, h3, r3⟩ := trodAll_cons r2
  obtain ⟨v4, vs4, d4, ds4, p4, q4, rfl, rfl, rfl, h4, r4⟩ := trodAll_cons r3
  obtain ⟨v5, vs5, d5, ds5, p5, q5, rfl, rfl, rfl, h5, r5⟩ := trodAll_cons r4
  obtain ⟨rfl, rfl, rfl⟩ := trodAll_nil r5
  obtain rfl : args = #[v0, v1, v2, v3, v4, v5] := by cases args; simp_all
  obtain ⟨rfl, rfl⟩ := trodVars_none hV
  have k0 := h0
  obtain ⟨l0, b0, rfl⟩ := open_planes Try.underlying24 Try.underlying22 (by kernel_rfl) (by kernel_rfl) (hval 0 24 v0 rfl rfl) h0
  have k1 := h1
  obtain ⟨l1, b1, rfl⟩ := open_planes Try.underlying24 Try.underlying22 (by kernel_rfl) (by kernel_rfl) (hval 1 24 v1 rfl rfl) h1
  have k2 := h2
  obtain ⟨q2, n2, c2, xs2, rfl, w2⟩ := open_bytes Try.underlying25 Try.underlying5 (by kernel_rfl) (hval 2 25 v2 rfl rfl) h2
  have k3 := h3
  obtain ⟨q3, n3, c3, xs3, rfl, w3⟩ := open_bytes Try.underlying25 Try.underlying5 (by kernel_rfl) (hval 3 25 v3 rfl rfl) h3
  obtain ⟨a4, rfl, rfl, rfl, w4⟩ := open_int Try.underlying5 (hval 4 5 v4 rfl rfl) h4
  obtain ⟨n4, b4, rfl⟩ := nat_of_u8 w4
  obtain ⟨a5, rfl, rfl, rfl, w5⟩ := open_int Try.underlying3 (hval 5 3 v5 rfl rfl) h5
  obtain ⟨b5, c5⟩ := int_of_i64 w5
  clear hA0 hval0
  simp only [List.append_nil] at hW'
  refine (walk (w := W) l0 l1 q2 n2 c2 xs2 q3 n3 c3 xs3 n4 a5 b0 b1 w2 w3 b4 b5 c5).mono fun e W' ⟨he, bel⟩ => ?_
  subst he
  exact ⟨_, rfl, _, _, _, [], _, [], hW', trodAll_mk1 (shut_bool Try.underlying4 _), (trodAll_cons_mk (shut_same laidOut (by kernel_rfl) (of_decide_eq_true (by kernel_rfl)) k0 bel) (trodAll_cons_mk (shut_same laidOut (by kernel_rfl) (of_decide_eq_true (by kernel_rfl)) k1 bel) (trodAll_cons_mk (shut_same laidOut (by kernel_rfl) (of_decide_eq_true (by kernel_rfl)) k2 bel) (trodAll_cons_mk (shut_same laidOut (by kernel_rfl) (of_decide_eq_true (by kernel_rfl)) k3 bel) (trodAll_cons_mk (shut_int Try.underlying5 w4) (trodAll_cons_mk (shut_int Try.underlying3 w5) trodAll_mk0)))))), rfl, bel.frame _, fun h => by cases h⟩
theorem over : Rows.lanesAsksRow.holds Try.pinned (OpenSpec.ofChange Rows.lanesAsksSpec) :=
  OpenClaim.holds_of_wide 3 Try.f3 rfl rfl rfl rfl rfl rfl rfl ⟨rfl, rfl, rfl, rfl, rfl⟩ rfl rfl rfl rfl rfl (by kernel_rfl) Try.func3 (by kernel_rfl)
    (of_decide_eq_true (by kernel_rfl)) (by unfold Func.isWrapper; first | (rw [if_pos (by decide +kernel)]; kernel_rfl) | (rw [if_neg (by decide +kernel)]; exact ⟨rfl, rfl⟩))
    (fun os started H enc _ => lifted os started H enc)
theorem proved : Rows.LanesAsksSaid := over
#print axioms proved
end Go.Proofs.Ytpldddapokdakaa.lanesAsks
