/- LanesRing holds for every input: sixty-four products go with sixty-four sums; a square is a product with itself; to scale is to multiply by the same byte in each lane. No conditions. -/
import Derived.Test.YtpldddapokdakaaRows
import Derived.Test.YtpldddapokdakaaNums
import Derived.Test.YtpldddapokdakaaSlices
import Derived.Test.YtpldddapokdakaaPlArg
import Derived.Test.YtpldddapokdakaaPlEq
import Derived.Test.YtpldddapokdakaaKnown03
import Derived.Deep.RegionHeld3
import Derived.Deep.DrawnRows
namespace Go.Proofs.Ytpldddapokdakaa.lanesRing
open Go.ChangeShapes Go.WideShapes Go.ChangeAt Go.RowKit
attribute [local go_sem ↓] Go.wp_at_zero Go.wp_at_succ

theorem rep_at (n i a : Nat) : (List.replicate n a).getD i 0 = if i < n then a else 0 := by
  by_cases h : i < n
  · simp [List.getD, h]
  · simp [List.getD, h]
set_option maxRecDepth 100000 in
set_option maxHeartbeats 8000000 in
theorem walk (p q r : Nat → Nat) (a : Nat) (w : World) (hp : ∀ n, p n < 256) (hq : ∀ n, q n < 256) (hr : ∀ n, r n < 256) (ha : a < 256) :
    Calls Try.prog 6 #[V8 p, V8 q, V8 r, .int .u8 a] w fun e w' => e = .returned (.bool true) ∧ Below w.heap.size w w' := by
  obtain ⟨pq, hpq⟩ : ∃ x : Nat → Nat, ∀ n, n < 64 → Gf.mul (p n) (q n) = x n := ⟨_, fun _ _ => rfl⟩
  obtain ⟨pr, hpr⟩ : ∃ x : Nat → Nat, ∀ n, n < 64 → Gf.mul (p n) (r n) = x n := ⟨_, fun _ _ => rfl⟩
  obtain ⟨qr, hqr⟩ : ∃ x : Nat → Nat, ∀ n, n < 64 → Gf.mul (q n) (r n) = x n := ⟨_, fun _ _ => rfl⟩
  obtain ⟨sm, hsm⟩ : ∃ x : Nat → Nat, ∀ n, n < 64 → q n ^^^ r n = x n := ⟨_, fun _ _ => rfl⟩
  obtain ⟨ps, hps⟩ : ∃ x : Nat → Nat, ∀ n, n < 64 → Gf.mul (p n) (sm n) = x n := ⟨_, fun _ _ => rfl⟩
  obtain ⟨pqr, hpqr⟩ : ∃ x : Nat → Nat, ∀ n, n < 64 → Gf.mul (pq n) (r n) = x n := ⟨_, fun _ _ => rfl⟩
  obtain ⟨pp, hpp⟩ : ∃ x : Nat → Nat, ∀ n, n < 64 → Gf.mul (p n) (p n) = x n := ⟨_, fun _ _ => rfl⟩
  obtain ⟨pa, hpa⟩ : ∃ x : Nat → Nat, ∀ n, n < 64 → Gf.mul (p n) a = x n := ⟨_, fun _ _ => rfl⟩
  have lp : ∀ n, n < 64 → p n < 256 := fun n _ => hp n
  have lq : ∀ n, n < 64 → q n < 256 := fun n _ => hq n
  have lr : ∀ n, n < 64 → r n < 256 := fun n _ => hr n
  have lpq : ∀ n, n < 64 → pq n < 256 := fun n hn => by rw [← hpq n hn]; exact Gf.mul_lt _ _ (hp n)
  have lqr : ∀ n, n < 64 → qr n < 256 := fun n hn => by rw [← hqr n hn]; exact Gf.mul_lt _ _ (hq n)
  have lsm : ∀ n, n < 64 → sm n < 256 := fun n hn => by rw [← hsm n hn]; exact Gf.xor_lt8 (hq n) (hr n)
  have k1 : Hid (∀ w, Calls Try.prog 14 #[V8 p, V8 q] w fun e w' => e = .returned (V8 pq) ∧ Below w.heap.size w w') := lmul_calls p q pq lp lq hpq
  have k2 : Hid (∀ w, Calls Try.prog 14 #[V8 q, V8 p] w fun e w' => e = .returned (V8 pq) ∧ Below w.heap.size w w') := lmul_calls q p pq lq lp (fun n hn => by rw [Gf.mul_comm _ _ (hq n) (hp n)]; exact hpq n hn)
  have k3 : Hid (∀ w, Calls Try.prog 17 #[V8 q, V8 r] w fun e w' => e = .returned (V8 sm) ∧ Below w.heap.size w w') := ladd_calls q r sm hsm
  have k4 : Hid (∀ w, Calls Try.prog 14 #[V8 p, V8 sm] w fun e w' => e = .returned (V8 ps) ∧ Below w.heap.size w w') := lmul_calls p sm ps lp lsm hps
  have k5 : Hid (∀ w, Calls Try.prog 14 #[V8 p, V8 r] w fun e w' => e = .returned (V8 pr) ∧ Below w.heap.size w w') := lmul_calls p r pr lp lr hpr
  have k6 : Hid (∀ w, Calls Try.prog 17 #[V8 pq, V8 pr] w fun e w' => e = .returned (V8 ps) ∧ Below w.heap.size w w') := ladd_calls pq pr ps (fun n hn => by rw [← hpq n hn, ← hpr n hn, ← hps n hn, ← hsm n hn, Gf.mul_xor_right])
  have k7 : Hid (∀ w, Calls Try.prog 14 #[V8 pq, V8 r] w fun e w' => e = .returned (V8 pqr) ∧ Below w.heap.size w w') := lmul_calls pq r pqr lpq lr hpqr
  have k8 : Hid (∀ w, Calls Try.prog 14 #[V8 q, V8 r] w fun e w' => e = .returned (V8 qr) ∧ Below w.heap.size w w') := lmul_calls q r qr lq lr hqr
  have k9 : Hid (∀ w, Calls Try.prog 14 #[V8 p, V8 qr] w fun e w' => e = .returned (V8 pqr) ∧ Below w.heap.size w w') := lmul_calls p qr pqr lp lqr (fun n hn => by rw [← hqr n hn, ← hpqr n hn, ← hpq n hn, Gf.mul_assoc _ _ _ (hp n) (hq n) (hr n)])
  have k10 : Hid (∀ w, Calls Try.prog 18 #[V8 p] w fun e w' => e = .returned (V8 pp) ∧ Below w.heap.size w w') := lsquare_calls p pp lp hpp
  have k11 : Hid (∀ w, Calls Try.prog 14 #[V8 p, V8 p] w fun e w' => e = .returned (V8 pp) ∧ Below w.heap.size w w') := lmul_calls p p pp lp lp hpp
  have k12 : Hid (∀ w, Calls Try.prog 19 #[V8 p, .int .u8 a] w fun e w' => e = .returned (V8 pa) ∧ Below w.heap.size w w') := lscale_calls p pa a lp ha hpa
  have k13 : Hid (∀ w, Calls Try.prog 14 #[V8 p, V8 (fun _ => a)] w fun e w' => e = .returned (V8 pa) ∧ Below w.heap.size w w') := lmul_calls p (fun _ => a) pa lp (fun _ _ => ha) hpa
  have k14 : Hid (∀ w, Calls Try.prog 17 #[V8 p, V8 p] w fun e w' => e = .returned (V8 (fun _ => 0)) ∧ Below w.heap.size w w') := ladd_calls p p (fun _ => 0) (fun n _ => by simp)
  clear hpq hpr hqr hsm hps hpqr hpp hpa lp lq lr lpq lqr lsm hp hq hr
  go_enter Try.func6, Try.ntmps6
  go_wp2
  go_loopw [9, 10] (fun v i wr => ∃ k : Nat, k ≤ 64 ∧ i = .int .i64 (k : Int) ∧ Pl wr w.heap.size 8 p ∧ Pl wr (w.heap.size + 1) 8 q ∧ Pl wr (w.heap.size + 1 + 1) 8 r ∧ Ow wr (w.heap.size + 1 + 1 + 1) v (List.replicate k a) ∧ Below w.heap.size w wr) (fun _ i _ => 64 - (intOf i).toNat)
  case atStart => exact ⟨0, by omega, rfl, ((pl_box w rfl p _).alloc _).alloc _, (pl_box _ (by simp) q _).alloc _, pl_box _ (by simp) r _, ow_nil _ _, (((Below.refl _ _).alloc (Nat.le_refl _) _).alloc (by simp) _).alloc (by simp; omega) _⟩
  case round =>
    obtain ⟨k, hk, rfl, P, Q, R, O, HB⟩ := hrel
    by_cases hlt : k < 64
    · have hsz : w.heap.size + 1 + 1 + 1 ≤ wr.heap.size := by have := R.lt; omega
      have hlen : (List.replicate k a).length ≤ 1000000000 := by rw [List.length_replicate]; omega
      have HM : Hid (Pl wr w.heap.size 8 p ∧ Pl wr (w.heap.size + 1) 8 q ∧ Pl wr (w.heap.size + 1 + 1) 8 r ∧ Ow wr (w.heap.size + 1 + 1 + 1) u9 (List.replicate k a) ∧ Below w.heap.size w wr) := ⟨P, Q, R, O, HB⟩
      clear P Q R O HB
      go_wp2_with (at_builtin; refine wpList_push _ (by rfl) _ _ (by rfl) (w.heap.size + 1 + 1 + 1) u9 (List.replicate k a) a (by rfl) (by rfl) HM.out.2.2.2.1 hlen hsz ?_; intro v' w3 ho hbb)
      go_roundw
      case rel =>
        have h3 := hbb _ (Nat.le_refl _)
        exact ⟨k + 1, by omega, by go_num, HM.out.1.belowN h3 (by omega), HM.out.2.1.belowN h3 (by omega), HM.out.2.2.1.belowN h3 (by omega), by rw [List.replicate_succ']; exact ho, HM.out.2.2.2.2.trans (hbb _ (by omega))⟩
      case measure => simp [intOf]; omega
    · have e8 : k = 64 := by omega
      subst e8
      obtain ⟨xs, hxs⟩ : ∃ xs, List.replicate 64 a = xs := ⟨_, rfl⟩
      have hl : xs.length = 64 := by rw [← hxs]; exact List.length_replicate
      have hat : ∀ i, xs.getD i 0 = if i < 64 then a else 0 := fun i => by rw [← hxs]; exact rep_at 64 i a
      have hby : ∀ i, xs.getD i 0 < 256 := fun i => by
        rw [hat]; split
        · exact ha
        · decide
      rw [hxs] at O
      obtain ⟨qq, cc, rfl, X⟩ := O.bs hby
      have kX : Hid (∀ k, k < 64 → xs.getD k 0 = (fun _ => a) k) := fun k hk => by rw [hat, if_pos hk]
      rw [hl] at X
      rw [hl]
      clear O hl hat hby hxs
      have hz0 := pk_zero
      have heq := eq8
      have c0 := P.cell 0 (by decide)
      have c1 := P.cell 1 (by decide)
      have c2 := P.cell 2 (by decide)
      have c3 := P.cell 3 (by decide)
      have c4 := P.cell 4 (by decide)
      have c5 := P.cell 5 (by decide)
      have c6 := P.cell 6 (by decide)
      have c7 := P.cell 7 (by decide)
      have d0 := Q.cell 0 (by decide)
      have d1 := Q.cell 1 (by decide)
      have d2 := Q.cell 2 (by decide)
      have d3 := Q.cell 3 (by decide)
      have d4 := Q.cell 4 (by decide)
      have d5 := Q.cell 5 (by decide)
      have d6 := Q.cell 6 (by decide)
      have d7 := Q.cell 7 (by decide)
      have g0 := R.cell 0 (by decide)
      have g1 := R.cell 1 (by decide)
      have g2 := R.cell 2 (by decide)
      have g3 := R.cell 3 (by decide)
      have g4 := R.cell 4 (by decide)
      have g5 := R.cell 5 (by decide)
      have g6 := R.cell 6 (by decide)
      have g7 := R.cell 7 (by decide)
      go_wp2
      go_region_held3 (fun w' => w'.cell? ⟨w.heap.size, 0, none⟩ = some (.int .u64 (Ln.pk p 0 : Nat)) ∧ w'.cell? ⟨w.heap.size, 1, none⟩ = some (.int .u64 (Ln.pk p 1 : Nat)) ∧ w'.cell? ⟨w.heap.size, 2, none⟩ = some (.int .u64 (Ln.pk p 2 : Nat)) ∧ w'.cell? ⟨w.heap.size, 3, none⟩ = some (.int .u64 (Ln.pk p 3 : Nat)) ∧ w'.cell? ⟨w.heap.size, 4, none⟩ = some (.int .u64 (Ln.pk p 4 : Nat)) ∧ w'.cell? ⟨w.heap.size, 5, none⟩ = some (.int .u64 (Ln.pk p 5 : Nat)) ∧ w'.cell? ⟨w.heap.size, 6, none⟩ = some (.int .u64 (Ln.pk p 6 : Nat)) ∧ w'.cell? ⟨w.heap.size, 7, none⟩ = some (.int .u64 (Ln.pk p 7 : Nat)) ∧ w'.cell? ⟨w.heap.size + 1, 0, none⟩ = some (.int .u64 (Ln.pk q 0 : Nat)) ∧ w'.cell? ⟨w.heap.size + 1, 1, none⟩ = some (.int .u64 (Ln.pk q 1 : Nat)) ∧ w'.cell? ⟨w.heap.size + 1, 2, none⟩ = some (.int .u64 (Ln.pk q 2 : Nat)) ∧ w'.cell? ⟨w.heap.size + 1, 3, none⟩ = some (.int .u64 (Ln.pk q 3 : Nat)) ∧ w'.cell? ⟨w.heap.size + 1, 4, none⟩ = some (.int .u64 (Ln.pk q 4 : Nat)) ∧ w'.cell? ⟨w.heap.size + 1, 5, none⟩ = some (.int .u64 (Ln.pk q 5 : Nat)) ∧ w'.cell? ⟨w.heap.size + 1, 6, none⟩ = some (.int .u64 (Ln.pk q 6 : Nat)) ∧ w'.cell? ⟨w.heap.size + 1, 7, none⟩ = some (.int .u64 (Ln.pk q 7 : Nat)) ∧ w'.cell? ⟨w.heap.size + 1 + 1, 0, none⟩ = some (.int .u64 (Ln.pk r 0 : Nat)) ∧ w'.cell? ⟨w.heap.size + 1 + 1, 1, none⟩ = some (.int .u64 (Ln.pk r 1 : Nat)) ∧ w'.cell? ⟨w.heap.size + 1 + 1, 2, none⟩ = some (.int .u64 (Ln.pk r 2 : Nat)) ∧ w'.cell? ⟨w.heap.size + 1 + 1, 3, none⟩ = some (.int .u64 (Ln.pk r 3 : Nat)) ∧ w'.cell? ⟨w.heap.size + 1 + 1, 4, none⟩ = some (.int .u64 (Ln.pk r 4 : Nat)) ∧ w'.cell? ⟨w.heap.size + 1 + 1, 5, none⟩ = some (.int .u64 (Ln.pk r 5 : Nat)) ∧ w'.cell? ⟨w.heap.size + 1 + 1, 6, none⟩ = some (.int .u64 (Ln.pk r 6 : Nat)) ∧ w'.cell? ⟨w.heap.size + 1 + 1, 7, none⟩ = some (.int .u64 (Ln.pk r 7 : Nat)))
        (first | (go_keep; done) | ((try dsimp only); (repeat' apply And.intro) <;> with_reducible first | exact P.cell _ (by decide) | exact (P.alloc _).cell _ (by decide) | exact (P.other8 (by omega) _).cell _ (by decide) | exact Q.cell _ (by decide) | exact (Q.alloc _).cell _ (by decide) | exact (Q.other8 (by omega) _).cell _ (by decide) | exact R.cell _ (by decide) | exact (R.alloc _).cell _ (by decide) | exact (R.other8 (by omega) _).cell _ (by decide)))
        (first
          | (go_at_call 9; refine (known03_calls _).mono ?_; rintro e w1 ⟨rfl, hb⟩; (try (with_reducible first | replace P := P.below hb | replace P := P.drew.below hb | replace P := (P.alloc _).below hb | replace P := (P.alloc _).drew.below hb)); (try (with_reducible first | replace Q := Q.below hb | replace Q := Q.drew.below hb | replace Q := (Q.alloc _).below hb | replace Q := (Q.alloc _).drew.below hb)); (try (with_reducible first | replace R := R.below hb | replace R := R.drew.below hb | replace R := (R.alloc _).below hb | replace R := (R.alloc _).drew.below hb)); (try (with_reducible first | replace X := X.below hb | replace X := X.drew.below hb | replace X := (X.alloc _).below hb | replace X := (X.alloc _).drew.below hb)); (with_reducible first | replace HB := HB.trans (hb.mono HB.size) | replace HB := HB.drew.trans (hb.mono HB.drew.size) | replace HB := (HB.alloc HB.size _).trans (hb.mono (HB.alloc HB.size _).size) | replace HB := (HB.alloc HB.size _).drew.trans (hb.mono (HB.alloc HB.size _).drew.size)); clear hb)
          | (go_at_call 14; with_reducible refine (k1.out _).mono ?_; rintro e w1 ⟨rfl, hb⟩; (try (with_reducible first | replace P := P.below hb | replace P := P.drew.below hb | replace P := (P.alloc _).below hb | replace P := (P.alloc _).drew.below hb)); (try (with_reducible first | replace Q := Q.below hb | replace Q := Q.drew.below hb | replace Q := (Q.alloc _).below hb | replace Q := (Q.alloc _).drew.below hb)); (try (with_reducible first | replace R := R.below hb | replace R := R.drew.below hb | replace R := (R.alloc _).below hb | replace R := (R.alloc _).drew.below hb)); (try (with_reducible first | replace X := X.below hb | replace X := X.drew.below hb | replace X := (X.alloc _).below hb | replace X := (X.alloc _).drew.below hb)); (with_reducible first | replace HB := HB.trans (hb.mono HB.size) | replace HB := HB.drew.trans (hb.mono HB.drew.size) | replace HB := (HB.alloc HB.size _).trans (hb.mono (HB.alloc HB.size _).size) | replace HB := (HB.alloc HB.size _).drew.trans (hb.mono (HB.alloc HB.size _).drew.size)); clear hb)
          | (go_at_call 14; with_reducible refine (k2.out _).mono ?_; rintro e w1 ⟨rfl, hb⟩; (try (with_reducible first | replace P := P.below hb | replace P := P.drew.below hb | replace P := (P.alloc _).below hb | replace P := (P.alloc _).drew.below hb)); (try (with_reducible first | replace Q := Q.below hb | replace Q := Q.drew.below hb | replace Q := (Q.alloc _).below hb | replace Q := (Q.alloc _).drew.below hb)); (try (with_reducible first | replace R := R.below hb | replace R := R.drew.below hb | replace R := (R.alloc _).below hb | replace R := (R.alloc _).drew.below hb)); (try (with_reducible first | replace X := X.below hb | replace X := X.drew.below hb | replace X := (X.alloc _).below hb | replace X := (X.alloc _).drew.below hb)); (with_reducible first | replace HB := HB.trans (hb.mono HB.size) | replace HB := HB.drew.trans (hb.mono HB.drew.size) | replace HB := (HB.alloc HB.size _).trans (hb.mono (HB.alloc HB.size _).size) | replace HB := (HB.alloc HB.size _).drew.trans (hb.mono (HB.alloc HB.size _).drew.size)); clear hb)
          | (go_at_call 17; with_reducible refine (k3.out _).mono ?_; rintro e w1 ⟨rfl, hb⟩; (try (with_reducible first | replace P := P.below hb | replace P := P.drew.below hb | replace P := (P.alloc _).below hb | replace P := (P.alloc _).drew.below hb)); (try (with_reducible first | replace Q := Q.below hb | replace Q := Q.drew.below hb | replace Q := (Q.alloc _).below hb | replace Q := (Q.alloc _).drew.below hb)); (try (with_reducible first | replace R := R.below hb | replace R := R.drew.below hb | replace R := (R.alloc _).below hb | replace R := (R.alloc _).drew.below hb)); (try (with_reducible first | replace X := X.below hb | replace X := X.drew.below hb | replace X := (X.alloc _).below hb | replace X := (X.alloc _).drew.below hb)); (with_reducible first | replace HB := HB.trans (hb.mono HB.size) | replace HB := HB.drew.trans (hb.mono HB.drew.size) | replace HB := (HB.alloc HB.size _).trans (hb.mono (HB.alloc HB.size _).size) | replace HB := (HB.alloc HB.size _).drew.trans (hb.mono (HB.alloc HB.size _).drew.size)); clear hb)
          | (go_at_call 14; with_reducible refine (k4.out _).mono ?_; rintro e w1 ⟨rfl, hb⟩; (try (with_reducible first | replace P := P.below hb | replace P := P.drew.below hb | replace P := (P.alloc _).below hb | replace P := (P.alloc _).drew.below hb)); (try (with_reducible first | replace Q := Q.below hb | replace Q := Q.drew.below hb | replace Q := (Q.alloc _).below hb | replace Q := (Q.alloc _).drew.below hb)); (try (with_reducible first | replace R := R.below hb | replace R := R.drew.below hb | replace R := (R.alloc _).below hb | replace R := (R.alloc _).drew.below hb)); (try (with_reducible first | replace X := X.below hb | replace X := X.drew.below hb | replace X := (X.alloc _).below hb | replace X := (X.alloc _).drew.below hb)); (with_reducible first | replace HB := HB.trans (hb.mono HB.size) | replace HB := HB.drew.trans (hb.mono HB.drew.size) | replace HB := (HB.alloc HB.size _).trans (hb.mono (HB.alloc HB.size _).size) | replace HB := (HB.alloc HB.size _).drew.trans (hb.mono (HB.alloc HB.size _).drew.size)); clear hb)
          | (go_at_call 14; with_reducible refine (k5.out _).mono ?_; rintro e w1 ⟨rfl, hb⟩; (try (with_reducible first | replace P := P.below hb | replace P := P.drew.below hb | replace P := (P.alloc _).below hb | replace P := (P.alloc _).drew.below hb)); (try (with_reducible first | replace Q := Q.below hb | replace Q := Q.drew.below hb | replace Q := (Q.alloc _).below hb | replace Q := (Q.alloc _).drew.below hb)); (try (with_reducible first | replace R := R.below hb | replace R := R.drew.below hb | replace R := (R.alloc _).below hb | replace R := (R.alloc _).drew.below hb)); (try (with_reducible first | replace X := X.below hb | replace X := X.drew.below hb | replace X := (X.alloc _).below hb | replace X := (X.alloc _).drew.below hb)); (with_reducible first | replace HB := HB.trans (hb.mono HB.size) | replace HB := HB.drew.trans (hb.mono HB.drew.size) | replace HB := (HB.alloc HB.size _).trans (hb.mono (HB.alloc HB.size _).size) | replace HB := (HB.alloc HB.size _).drew.trans (hb.mono (HB.alloc HB.size _).drew.size)); clear hb)
          | (go_at_call 17; with_reducible refine (k6.out _).mono ?_; rintro e w1 ⟨rfl, hb⟩; (try (with_reducible first | replace P := P.below hb | replace P := P.drew.below hb | replace P := (P.alloc _).below hb | replace P := (P.alloc _).drew.below hb)); (try (with_reducible first | replace Q := Q.below hb | replace Q := Q.drew.below hb | replace Q := (Q.alloc _).below hb | replace Q := (Q.alloc _).drew.below hb)); (try (with_reducible first | replace R := R.below hb | replace R := R.drew.below hb | replace R := (R.alloc _).below hb | replace R := (R.alloc _).drew.below hb)); (try (with_reducible first | replace X := X.below hb | replace X := X.drew.below hb | replace X := (X.alloc _).below hb | replace X := (X.alloc _).drew.below hb)); (with_reducible first | replace HB := HB.trans (hb.mono HB.size) | replace HB := HB.drew.trans (hb.mono HB.drew.size) | replace HB := (HB.alloc HB.size _).trans (hb.mono (HB.alloc HB.size _).size) | replace HB := (HB.alloc HB.size _).drew.trans (hb.mono (HB.alloc HB.size _).drew.size)); clear hb)
          | (go_at_call 14; with_reducible refine (k7.out _).mono ?_; rintro e w1 ⟨rfl, hb⟩; (try (with_reducible first | replace P := P.below hb | replace P := P.drew.below hb | replace P := (P.alloc _).below hb | replace P := (P.alloc _).drew.below hb)); (try (with_reducible first | replace Q := Q.below hb | replace Q := Q.drew.below hb | replace Q := (Q.alloc _).below hb | replace Q := (Q.alloc _).drew.below hb)); (try (with_reducible first | replace R := R.below hb | replace R := R.drew.below hb | replace R := (R.alloc _).below hb | replace R := (R.alloc _).drew.below hb)); (try (with_reducible first | replace X := X.below hb | replace X := X.drew.below hb | replace X := (X.alloc _).below hb | replace X := (X.alloc _).drew.below hb)); (with_reducible first | replace HB := HB.trans (hb.mono HB.size) | replace HB := HB.drew.trans (hb.mono HB.drew.size) | replace HB := (HB.alloc HB.size _).trans (hb.mono (HB.alloc HB.size _).size) | replace HB := (HB.alloc HB.size _).drew.trans (hb.mono (HB.alloc HB.size _).drew.size)); clear hb)
          | (go_at_call 14; with_reducible refine (k8.out _).mono ?_; rintro e w1 ⟨rfl, hb⟩; (try (with_reducible first | replace P := P.below hb | replace P := P.drew.below hb | replace P := (P.alloc _).below hb | replace P := (P.alloc _).drew.below hb)); (try (with_reducible first | replace Q := Q.below hb | replace Q := Q.drew.below hb | replace Q := (Q.alloc _).below hb | replace Q := (Q.alloc _).drew.below hb)); (try (with_reducible first | replace R := R.below hb | replace R := R.drew.below hb | replace R := (R.alloc _).below hb | replace R := (R.alloc _).drew.below hb)); (try (with_reducible first | replace X := X.below hb | replace X := X.drew.below hb | replace X := (X.alloc _).below hb | replace X := (X.alloc _).drew.below hb)); (with_reducible first | replace HB := HB.trans (hb.mono HB.size) | replace HB := HB.drew.trans (hb.mono HB.drew.size) | replace HB := (HB.alloc HB.size _).trans (hb.mono (HB.alloc HB.size _).size) | replace HB := (HB.alloc HB.size _).drew.trans (hb.mono (HB.alloc HB.size _).drew.size)); clear hb)
          | (go_at_call 14; with_reducible refine (k9.out _).mono ?_; rintro e w1 ⟨rfl, hb⟩; (try (with_reducible first | replace P := P.below hb | replace P := P.drew.below hb | replace P := (P.alloc _).below hb | replace P := (P.alloc _).drew.below hb)); (try (with_reducible first | replace Q := Q.below hb | replace Q := Q.drew.below hb | replace Q := (Q.alloc _).below hb | replace Q := (Q.alloc _).drew.below hb)); (try (with_reducible first | replace R := R.below hb | replace R := R.drew.below hb | replace R := (R.alloc _).below hb | replace R := (R.alloc _).drew.below hb)); (try (with_reducible first | replace X := X.below hb | replace X := X.drew.below hb | replace X := (X.alloc _).below hb | replace X := (X.alloc _).drew.below hb)); (with_reducible first | replace HB := HB.trans (hb.mono HB.size) | replace HB := HB.drew.trans (hb.mono HB.drew.size) | replace HB := (HB.alloc HB.size _).trans (hb.mono (HB.alloc HB.size _).size) | replace HB := (HB.alloc HB.size _).drew.trans (hb.mono (HB.alloc HB.size _).drew.size)); clear hb)
          | (go_at_call 18; refine (k10.out _).mono ?_; rintro e w1 ⟨rfl, hb⟩; (try (with_reducible first | replace P := P.below hb | replace P := P.drew.below hb | replace P := (P.alloc _).below hb | replace P := (P.alloc _).drew.below hb)); (try (with_reducible first | replace Q := Q.below hb | replace Q := Q.drew.below hb | replace Q := (Q.alloc _).below hb | replace Q := (Q.alloc _).drew.below hb)); (try (with_reducible first | replace R := R.below hb | replace R := R.drew.below hb | replace R := (R.alloc _).below hb | replace R := (R.alloc _).drew.below hb)); (try (with_reducible first | replace X := X.below hb | replace X := X.drew.below hb | replace X := (X.alloc _).below hb | replace X := (X.alloc _).drew.below hb)); (with_reducible first | replace HB := HB.trans (hb.mono HB.size) | replace HB := HB.drew.trans (hb.mono HB.drew.size) | replace HB := (HB.alloc HB.size _).trans (hb.mono (HB.alloc HB.size _).size) | replace HB := (HB.alloc HB.size _).drew.trans (hb.mono (HB.alloc HB.size _).drew.size)); clear hb)
          | (go_at_call 14; with_reducible refine (k11.out _).mono ?_; rintro e w1 ⟨rfl, hb⟩; (try (with_reducible first | replace P := P.below hb | replace P := P.drew.below hb | replace P := (P.alloc _).below hb | replace P := (P.alloc _).drew.below hb)); (try (with_reducible first | replace Q := Q.below hb | replace Q := Q.drew.below hb | replace Q := (Q.alloc _).below hb | replace Q := (Q.alloc _).drew.below hb)); (try (with_reducible first | replace R := R.below hb | replace R := R.drew.below hb | replace R := (R.alloc _).below hb | replace R := (R.alloc _).drew.below hb)); (try (with_reducible first | replace X := X.below hb | replace X := X.drew.below hb | replace X := (X.alloc _).below hb | replace X := (X.alloc _).drew.below hb)); (with_reducible first | replace HB := HB.trans (hb.mono HB.size) | replace HB := HB.drew.trans (hb.mono HB.drew.size) | replace HB := (HB.alloc HB.size _).trans (hb.mono (HB.alloc HB.size _).size) | replace HB := (HB.alloc HB.size _).drew.trans (hb.mono (HB.alloc HB.size _).drew.size)); clear hb)
          | (go_at_call 19; refine (k12.out _).mono ?_; rintro e w1 ⟨rfl, hb⟩; (try (with_reducible first | replace P := P.below hb | replace P := P.drew.below hb | replace P := (P.alloc _).below hb | replace P := (P.alloc _).drew.below hb)); (try (with_reducible first | replace Q := Q.below hb | replace Q := Q.drew.below hb | replace Q := (Q.alloc _).below hb | replace Q := (Q.alloc _).drew.below hb)); (try (with_reducible first | replace R := R.below hb | replace R := R.drew.below hb | replace R := (R.alloc _).below hb | replace R := (R.alloc _).drew.below hb)); (try (with_reducible first | replace X := X.below hb | replace X := X.drew.below hb | replace X := (X.alloc _).below hb | replace X := (X.alloc _).drew.below hb)); (with_reducible first | replace HB := HB.trans (hb.mono HB.size) | replace HB := HB.drew.trans (hb.mono HB.drew.size) | replace HB := (HB.alloc HB.size _).trans (hb.mono (HB.alloc HB.size _).size) | replace HB := (HB.alloc HB.size _).drew.trans (hb.mono (HB.alloc HB.size _).drew.size)); clear hb)
          | (go_at_call 11; refine (lpack_calls qq 64 cc xs (fun _ => a) kX.out _ X).mono ?_; rintro e w1 ⟨rfl, hb⟩; (try (with_reducible first | replace P := P.below hb | replace P := P.drew.below hb | replace P := (P.alloc _).below hb | replace P := (P.alloc _).drew.below hb)); (try (with_reducible first | replace Q := Q.below hb | replace Q := Q.drew.below hb | replace Q := (Q.alloc _).below hb | replace Q := (Q.alloc _).drew.below hb)); (try (with_reducible first | replace R := R.below hb | replace R := R.drew.below hb | replace R := (R.alloc _).below hb | replace R := (R.alloc _).drew.below hb)); (try (with_reducible first | replace X := X.below hb | replace X := X.drew.below hb | replace X := (X.alloc _).below hb | replace X := (X.alloc _).drew.below hb)); (with_reducible first | replace HB := HB.trans (hb.mono HB.size) | replace HB := HB.drew.trans (hb.mono HB.drew.size) | replace HB := (HB.alloc HB.size _).trans (hb.mono (HB.alloc HB.size _).size) | replace HB := (HB.alloc HB.size _).drew.trans (hb.mono (HB.alloc HB.size _).drew.size)); clear hb)
          | (go_at_call 14; with_reducible refine (k13.out _).mono ?_; rintro e w1 ⟨rfl, hb⟩; (try (with_reducible first | replace P := P.below hb | replace P := P.drew.below hb | replace P := (P.alloc _).below hb | replace P := (P.alloc _).drew.below hb)); (try (with_reducible first | replace Q := Q.below hb | replace Q := Q.drew.below hb | replace Q := (Q.alloc _).below hb | replace Q := (Q.alloc _).drew.below hb)); (try (with_reducible first | replace R := R.below hb | replace R := R.drew.below hb | replace R := (R.alloc _).below hb | replace R := (R.alloc _).drew.below hb)); (try (with_reducible first | replace X := X.below hb | replace X := X.drew.below hb | replace X := (X.alloc _).below hb | replace X := (X.alloc _).drew.below hb)); (with_reducible first | replace HB := HB.trans (hb.mono HB.size) | replace HB := HB.drew.trans (hb.mono HB.drew.size) | replace HB := (HB.alloc HB.size _).trans (hb.mono (HB.alloc HB.size _).size) | replace HB := (HB.alloc HB.size _).drew.trans (hb.mono (HB.alloc HB.size _).drew.size)); clear hb)
          | (go_at_call 17; with_reducible refine (k14.out _).mono ?_; rintro e w1 ⟨rfl, hb⟩; (try (with_reducible first | replace P := P.below hb | replace P := P.drew.below hb | replace P := (P.alloc _).below hb | replace P := (P.alloc _).drew.below hb)); (try (with_reducible first | replace Q := Q.below hb | replace Q := Q.drew.below hb | replace Q := (Q.alloc _).below hb | replace Q := (Q.alloc _).drew.below hb)); (try (with_reducible first | replace R := R.below hb | replace R := R.drew.below hb | replace R := (R.alloc _).below hb | replace R := (R.alloc _).drew.below hb)); (try (with_reducible first | replace X := X.below hb | replace X := X.drew.below hb | replace X := (X.alloc _).below hb | replace X := (X.alloc _).drew.below hb)); (with_reducible first | replace HB := HB.trans (hb.mono HB.size) | replace HB := HB.drew.trans (hb.mono HB.drew.size) | replace HB := (HB.alloc HB.size _).trans (hb.mono (HB.alloc HB.size _).size) | replace HB := (HB.alloc HB.size _).drew.trans (hb.mono (HB.alloc HB.size _).drew.size)); clear hb))
      clear c0 c1 c2 c3 c4 c5 c6 c7
      clear d0 d1 d2 d3 d4 d5 d6 d7
      clear g0 g1 g2 g3 g4 g5 g6 g7
      clear heq hz0
      go_wp2
      go_ret
      exact ⟨rfl, HB⟩

theorem own : ownKnob Try.prog.godebug = none := by kernel_rfl
theorem laidOut : laidOutB Try.prog = true := by kernel_rfl
set_option maxRecDepth 100000 in
theorem lifted (os : Os) (started : os.Started) (H : Type) (enc : TypeId × Value → H) :
    ReturnsInHanded {} Try.checked os 6 .any (Rows.lanesRingSpec.pre6 enc Try.prog Try.f6 Rows.lanesRingRow.domain false) (Rows.lanesRingSpec.post enc Try.prog Try.f6 false true false false) := by
  refine returnsInHanded_of_change (C := Try.checked) own started (by kernel_rfl) Try.func6
    (ChangeSpec.witness6 (enc := enc) (C := Try.checked) false ⟨#[], #[.agg #[.int .u64 0, .int .u64 0, .int .u64 0, .int .u64 0, .int .u64 0, .int .u64 0, .int .u64 0, .int .u64 0], .agg #[.int .u64 0, .int .u64 0, .int .u64 0, .int .u64 0, .int .u64 0, .int .u64 0, .int .u64 0, .int .u64 0], .agg #[.int .u64 0, .int .u64 0, .int .u64 0, .int .u64 0, .int .u64 0, .int .u64 0, .int .u64 0, .int .u64 0], .int .u8 0], []⟩ 8 (by kernel_rfl) (by kernel_rfl) (by kernel_rfl) (by kernel_rfl)) ?_
  intro W base args ds gs before hval0 hW _ _
  have hval : ∀ (j : Nat) t v, Try.f6.params[j]? = some t → args[j]? = some v → Value.okWide Try.prog W .any base t v := hval0
  have hW' := hW
  obtain ⟨p, q, hA0, hV, rfl, _, _⟩ := hW
  have hA : DataW.TrodAll enc Try.prog W 0 (fun _ => true) true Try.f6.params.toList args.toList ds p := hA0
  rw [Try.params6] at hA hval
  obtain ⟨v0, vs0, d0, ds0, p0, q0, hargs, rfl, rfl, h0, r0⟩ := trodAll_cons hA
  obtain ⟨v1, vs1, d1, ds1, p1, q1, rfl, rfl, rfl, h1, r1⟩ := trodAll_cons r0
  obtain ⟨v2, vs2, d2, ds2, p2, q2, rfl, rfl, rfl, h2, r2⟩ := trodAll_cons r1
  obtain ⟨v3, vs3, d3, ds3, p3, q3, rfl, rfl, rfl, h3, r3⟩ := trodAll_cons r2
  obtain ⟨rfl, rfl, rfl⟩ := trodAll_nil r3
  obtain rfl : args = #[v0, v1, v2, v3] := by cases args; simp_all
  obtain ⟨rfl, rfl⟩ := trodVars_none hV
  have k0 := h0
  obtain ⟨l0, b0, rfl⟩ := open_planes Try.underlying24 Try.underlying22 (by kernel_rfl) (by kernel_rfl) (hval 0 24 v0 rfl rfl) h0
  have k1 := h1
  obtain ⟨l1, b1, rfl⟩ := open_planes Try.underlying24 Try.underlying22 (by kernel_rfl) (by kernel_rfl) (hval 1 24 v1 rfl rfl) h1
  have k2 := h2
  obtain ⟨l2, b2, rfl⟩ := open_planes Try.underlying24 Try.underlying22 (by kernel_rfl) (by kernel_rfl) (hval 2 24 v2 rfl rfl) h2
  obtain ⟨a3, rfl, rfl, rfl, w3⟩ := open_int Try.underlying5 (hval 3 5 v3 rfl rfl) h3
  obtain ⟨n3, b3, rfl⟩ := nat_of_u8 w3
  clear hA0 hval0
  simp only [List.append_nil] at hW'
  refine (walk (w := W) l0 l1 l2 n3 b0 b1 b2 b3).mono fun e W' ⟨he, bel⟩ => ?_
  subst he
  exact ⟨_, rfl, _, _, _, [], _, [], hW', trodAll_mk1 (shut_bool Try.underlying4 _), (trodAll_cons_mk (shut_same laidOut (by kernel_rfl) (of_decide_eq_true (by kernel_rfl)) k0 bel) (trodAll_cons_mk (shut_same laidOut (by kernel_rfl) (of_decide_eq_true (by kernel_rfl)) k1 bel) (trodAll_cons_mk (shut_same laidOut (by kernel_rfl) (of_decide_eq_true (by kernel_rfl)) k2 bel) (trodAll_cons_mk (shut_int Try.underlying5 w3) trodAll_mk0)))), rfl, bel.frame _, fun h => by cases h⟩
theorem over : Rows.lanesRingRow.holds Try.pinned (OpenSpec.ofChange Rows.lanesRingSpec) :=
  OpenClaim.holds_of_wide 6 Try.f6 rfl rfl rfl rfl rfl rfl rfl ⟨rfl, rfl, rfl, rfl, rfl⟩ rfl rfl rfl rfl rfl (by kernel_rfl) Try.func6 (by kernel_rfl)
    (of_decide_eq_true (by kernel_rfl)) (by unfold Func.isWrapper; first | (rw [if_pos (by decide +kernel)]; kernel_rfl) | (rw [if_neg (by decide +kernel)]; exact ⟨rfl, rfl⟩))
    (fun os started H enc _ => lifted os started H enc)
theorem proved : Rows.LanesRingSaid := over
#print axioms proved
end Go.Proofs.Ytpldddapokdakaa.lanesRing
