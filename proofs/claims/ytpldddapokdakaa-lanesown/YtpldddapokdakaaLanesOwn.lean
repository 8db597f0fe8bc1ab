/- LanesOwn holds for every input: each lane goes its own way: a byte that is turned in one lane turns products in that lane alone. No conditions. -/
import Derived.Test.YtpldddapokdakaaRows
import Derived.Test.YtpldddapokdakaaNums
import Derived.Test.YtpldddapokdakaaSlices
import Derived.Test.YtpldddapokdakaaPlArg
import Derived.Test.YtpldddapokdakaaPlEq
import Derived.Test.YtpldddapokdakaaKnown03
import Derived.Test.YtpldddapokdakaaRefMul
import Derived.Deep.DeepCutAuto
import Derived.BigQuiet
import Derived.Deep.RegionHeld3
import Derived.Deep.DrawnRows
namespace Go.Proofs.Ytpldddapokdakaa.lanesOwn
open Go.ChangeShapes Go.WideShapes Go.ChangeAt Go.RowKit
attribute [local go_sem ↓] Go.wp_at_zero Go.wp_at_succ

set_option maxRecDepth 100000 in
set_option maxHeartbeats 8000000 in
theorem walk (p q : Nat → Nat) (n b : Nat) (w : World) (hp : ∀ n, p n < 256) (hq : ∀ n, q n < 256) (_hn : n < 256) (hb : b < 256) :
    Calls Try.prog 5 #[V8 p, V8 q, .int .u8 n, .int .u8 b] w fun e w' => e = .returned (.bool true) ∧ Below w.heap.size w w' := by
  obtain ⟨t, ht⟩ : ∃ t, n % 64 = t := ⟨_, rfl⟩
  have ht64 : t < 64 := by omega
  have hrem : (n : Int).tmod 64 = (t : Int) := by rw [← ht]; rfl
  obtain ⟨xs, hxs⟩ : ∃ xs, (ll p).set t b = xs := ⟨_, rfl⟩
  obtain ⟨p2, hp2⟩ : ∃ f : Nat → Nat, ∀ k, xs.getD k 0 = f k := ⟨_, fun _ => rfl⟩
  have hp2b : ∀ k, k < 64 → k ≠ t → p2 k = p k := fun k hk hne => by
    rw [← hp2, ← hxs, List.getD, List.getElem?_set, if_neg (fun e => hne e.symm)]
    have := ll_at p k
    rw [if_pos hk] at this
    exact this
  have hp2t : p2 t = b := by
    rw [← hp2, ← hxs, List.getD, List.getElem?_set, if_pos rfl, if_pos (by rw [ll_length]; exact ht64)]
    rfl
  have lp2 : ∀ k, k < 64 → p2 k < 256 := fun k hk => by
    by_cases e : k = t
    · rw [e, hp2t]; exact hb
    · rw [hp2b k hk e]; exact hp k
  obtain ⟨x, hx⟩ : ∃ f : Nat → Nat, ∀ k, k < 64 → Gf.mul (p k) (q k) = f k := ⟨_, fun _ _ => rfl⟩
  obtain ⟨y, hy⟩ : ∃ f : Nat → Nat, ∀ k, k < 64 → Gf.mul (p2 k) (q k) = f k := ⟨_, fun _ _ => rfl⟩
  have lx : ∀ k, k < 64 → x k < 256 := fun k hk => by rw [← hx k hk]; exact Gf.mul_lt _ _ (hp k)
  have ly : ∀ k, k < 64 → y k < 256 := fun k hk => by rw [← hy k hk]; exact Gf.mul_lt _ _ (lp2 k hk)
  have hxy : ∀ k, k < 64 → k ≠ t → y k = x k := fun k hk hne => by rw [← hx k hk, ← hy k hk, hp2b k hk hne]
  have hyt : Gf.mul b (q t) = y t := by rw [← hy t ht64, hp2t]
  have KU : Hid (∀ n, n < 64 → p n < 256) := fun n _ => hp n
  have kq : ∀ n, n < 64 → q n < 256 := fun n _ => hq n
  have k1 : Hid (∀ w, Calls Try.prog 14 #[V8 p, V8 q] w fun e w' => e = .returned (V8 x) ∧ Below w.heap.size w w') := lmul_calls p q x KU.out kq hx
  have k2 : Hid (∀ w, Calls Try.prog 14 #[V8 p2, V8 q] w fun e w' => e = .returned (V8 y) ∧ Below w.heap.size w w') := lmul_calls p2 q y lp2 kq hy
  have k3 : Hid (∀ w, Calls Try.prog 15 #[V8 y, .int .i64 (t : Int)] w fun e w' => e = .returned (.int .u8 (y t : Nat)) ∧ Below w.heap.size w w') := llane_in y t ht64 (ly t ht64)
  have k4 : Hid (∀ w, Calls Try.prog 15 #[V8 q, .int .i64 (t : Int)] w fun e w' => e = .returned (.int .u8 (q t : Nat)) ∧ Below w.heap.size w w') := llane_in q t ht64 (hq t)
  have k5 : Hid (∀ w, Calls Try.prog 16 #[.int .u8 b, .int .u8 (q t : Nat)] w fun e w' => e = .returned (.int .u8 (y t : Nat)) ∧ w' = w) := RefMul.rmul_e b (q t) (y t) hb hyt
  have K6 : Hid ((∀ k, k < 64 → x k < 256) ∧ (∀ k, k < 64 → y k < 256) ∧ (∀ k, k < 64 → k ≠ t → y k = x k)) := ⟨lx, ly, hxy⟩
  have K7 : Hid (∀ k, k < 64 → xs.getD k 0 = p2 k) := fun k _ => hp2 k
  have K8 : Hid (∀ k, xs.getD k 0 < 256) := fun k => by
    by_cases hk : k < 64
    · rw [hp2]; exact lp2 k hk
    · rw [← hxs]; simp [List.getD, List.getElem?_eq_none (by rw [List.length_set, ll_length]; omega : ((ll p).set t b).length ≤ k)]
  have K9 : Hid ((ll p).set t b = xs ∧ xs.length = 64) := ⟨hxs, by rw [← hxs, List.length_set, ll_length]⟩
  clear hx hy lx ly hxy hyt kq hp2 hp2b hp2t lp2 hxs hp hq ht
  go_enter Try.func5, Try.ntmps5
  go_wp2_with fail
  refine (lunpack_calls p KU.out _).mono ?_
  rintro e w1 ⟨v, rfl, hO, hbb⟩
  have HB : Below w.heap.size w w1 := (((Below.refl _ _).alloc (Nat.le_refl _) _).alloc (by simp) _).trans (hbb.mono (by simp; omega))
  have P : Pl w1 w.heap.size 8 p := ((pl_box w rfl p _).alloc _).below hbb
  have Q : Pl w1 (w.heap.size + 1) 8 q := (pl_box _ (by simp) q _).below hbb
  replace hO : Ow w1 (w.heap.size + 1 + 1) v (ll p) := hO.mono (by simp)
  clear hbb
  rcases hO.shape with ⟨_, h0⟩ | ⟨g, cap, rfl, hg1, hg2, _, _, _, _⟩
  · have := ll_length p
    rw [h0] at this
    exact absurd this (by decide)
  rw [ll_length] at hO
  rw [ll_length]
  obtain ⟨cg, fg⟩ := hO.at (by rw [ll_length]) t ht64
  have HO : Hid (Ow (w1.setCell ⟨g, t, none⟩ (.int .u8 (b : Nat))) (w.heap.size + 1 + 1) (.slice (some ⟨g, 0, none⟩) 64 cap) xs) := by
    have := hO.set (by rw [ll_length]) t b
    rw [K9.out.1] at this
    exact this
  have HP : Hid (Pl (w1.setCell ⟨g, t, none⟩ (.int .u8 (b : Nat))) w.heap.size 8 p ∧ Pl (w1.setCell ⟨g, t, none⟩ (.int .u8 (b : Nat))) (w.heap.size + 1) 8 q ∧ Below w.heap.size w (w1.setCell ⟨g, t, none⟩ (.int .u8 (b : Nat)))) :=
    ⟨P.other (by dsimp only; omega) _, Q.other (by dsimp only; omega) _, HB.setCell (p := ⟨g, t, none⟩) (by dsimp only; omega) _⟩
  clear hO P Q HB
  have cP := HP.out.1
  have cQ := HP.out.2.1
  have c0 := cP.cell 0 (by decide)
  have c1 := cP.cell 1 (by decide)
  have c2 := cP.cell 2 (by decide)
  have c3 := cP.cell 3 (by decide)
  have c4 := cP.cell 4 (by decide)
  have c5 := cP.cell 5 (by decide)
  have c6 := cP.cell 6 (by decide)
  have c7 := cP.cell 7 (by decide)
  have d0 := cQ.cell 0 (by decide)
  have d1 := cQ.cell 1 (by decide)
  have d2 := cQ.cell 2 (by decide)
  have d3 := cQ.cell 3 (by decide)
  have d4 := cQ.cell 4 (by decide)
  have d5 := cQ.cell 5 (by decide)
  have d6 := cQ.cell 6 (by decide)
  have d7 := cQ.cell 7 (by decide)
  clear cP cQ
  go_wp2_with fail
  obtain ⟨W, hW⟩ : ∃ W, w1.setCell ⟨g, t, none⟩ (.int .u8 (b : Nat)) = W := ⟨_, rfl⟩
  clear c0 c1 c2 c3 c4 c5 c6 c7
  clear d0 d1 d2 d3 d4 d5 d6 d7
  rw [hW] at HO HP
  rw [hW]
  clear hW cg fg
  refine (k1.out _).mono ?_
  rintro e w2 ⟨rfl, hbb⟩
  have HB : Below w.heap.size w w2 := HP.out.2.2.trans (hbb.mono HP.out.2.2.size)
  have P := HP.out.1.below hbb
  have Q := HP.out.2.1.below hbb
  have O := HO.out.below hbb
  clear hbb HP HO
  go_upto_region 7 with fail
  obtain ⟨X, hX⟩ : ∃ X, w2.alloc (.cells #[.int .u64 (Ln.pk x 0 : Nat), .int .u64 (Ln.pk x 1 : Nat), .int .u64 (Ln.pk x 2 : Nat), .int .u64 (Ln.pk x 3 : Nat), .int .u64 (Ln.pk x 4 : Nat), .int .u64 (Ln.pk x 5 : Nat), .int .u64 (Ln.pk x 6 : Nat), .int .u64 (Ln.pk x 7 : Nat)] 24) = X := ⟨_, rfl⟩
  replace HB : Below w.heap.size w X := by rw [← hX]; exact HB.alloc HB.size _
  replace P : Pl X w.heap.size 8 p := by rw [← hX]; exact P.alloc _
  replace Q : Pl X (w.heap.size + 1) 8 q := by rw [← hX]; exact Q.alloc _
  have R : Pl X w2.heap.size 8 x := by rw [← hX]; exact pl_box w2 rfl x _
  replace O : Ow X (w.heap.size + 1 + 1) (.slice (some ⟨g, 0, none⟩) 64 cap) xs := by rw [← hX]; exact O.alloc _
  rw [hX]
  clear hX
  obtain ⟨Bx, hBx⟩ : ∃ Bx, w2.heap.size = Bx := ⟨_, rfl⟩
  rw [hBx] at R
  rw [hBx]
  clear hBx
  obtain ⟨qv, cv, hqv, hbs⟩ := O.bs K8.out
  rw [K9.out.2] at hqv hbs
  cases hqv
  clear O
  go_cut [12] (fun s wx => ∃ By, s = .pointer (some ⟨By, 0, none⟩) ∧ Pl wx By 8 y ∧ Pl wx Bx 8 x ∧ Pl wx (w.heap.size + 1) 8 q ∧ Below w.heap.size w wx)
  case first =>
   have d0 := Q.cell 0 (by decide)
   have d1 := Q.cell 1 (by decide)
   have d2 := Q.cell 2 (by decide)
   have d3 := Q.cell 3 (by decide)
   have d4 := Q.cell 4 (by decide)
   have d5 := Q.cell 5 (by decide)
   have d6 := Q.cell 6 (by decide)
   have d7 := Q.cell 7 (by decide)
   go_region_held3 (fun w' => w'.cell? ⟨w.heap.size + 1, 0, none⟩ = some (.int .u64 (Ln.pk q 0 : Nat)) ∧ w'.cell? ⟨w.heap.size + 1, 1, none⟩ = some (.int .u64 (Ln.pk q 1 : Nat)) ∧ w'.cell? ⟨w.heap.size + 1, 2, none⟩ = some (.int .u64 (Ln.pk q 2 : Nat)) ∧ w'.cell? ⟨w.heap.size + 1, 3, none⟩ = some (.int .u64 (Ln.pk q 3 : Nat)) ∧ w'.cell? ⟨w.heap.size + 1, 4, none⟩ = some (.int .u64 (Ln.pk q 4 : Nat)) ∧ w'.cell? ⟨w.heap.size + 1, 5, none⟩ = some (.int .u64 (Ln.pk q 5 : Nat)) ∧ w'.cell? ⟨w.heap.size + 1, 6, none⟩ = some (.int .u64 (Ln.pk q 6 : Nat)) ∧ w'.cell? ⟨w.heap.size + 1, 7, none⟩ = some (.int .u64 (Ln.pk q 7 : Nat)))
     (first | (go_keep; done) | ((try dsimp only); (repeat' apply And.intro) <;> with_reducible first | exact Q.cell _ (by decide) | exact (Q.alloc _).cell _ (by decide) | exact (Q.other8 (by omega) _).cell _ (by decide)))
     (first
       | (go_at_call 11; refine (lpack_calls _ 64 cap xs p2 K7.out _ (by with_reducible first | exact hbs | exact hbs.drew | exact hbs.alloc _ | exact (hbs.alloc _).drew)).mono ?_; rintro e w1 ⟨rfl, hb⟩; (try (with_reducible first | (have Z := (pl_zero8 _ rfl _).below hb; have hZ := Q.lt; have hY := R.lt) | (have Z := (pl_zero8 _ rfl _).drew.below hb; have hZ := Q.lt; have hY := R.lt))); (try (with_reducible first | replace Q := Q.below hb | replace Q := Q.drew.below hb | replace Q := (Q.alloc _).below hb | replace Q := (Q.alloc _).drew.below hb)); (try (with_reducible first | replace R := R.below hb | replace R := R.drew.below hb | replace R := (R.alloc _).below hb | replace R := (R.alloc _).drew.below hb)); (try (with_reducible first | replace hbs := hbs.below hb | replace hbs := hbs.drew.below hb | replace hbs := (hbs.alloc _).below hb | replace hbs := (hbs.alloc _).drew.below hb)); (with_reducible first | replace HB := HB.trans (hb.mono HB.size) | replace HB := HB.drew.trans (hb.mono HB.drew.size) | replace HB := (HB.alloc HB.size _).trans (hb.mono (HB.alloc HB.size _).size) | replace HB := (HB.alloc HB.size _).drew.trans (hb.mono (HB.alloc HB.size _).drew.size)); clear hb)
       | (go_at_call 14; refine (k2.out _).mono ?_; rintro e w1 ⟨rfl, hb⟩; (try (replace Z := Z.below hb)); (try (with_reducible first | (have Z := (pl_zero8 _ rfl _).below hb; have hZ := Q.lt; have hY := R.lt) | (have Z := (pl_zero8 _ rfl _).drew.below hb; have hZ := Q.lt; have hY := R.lt))); (try (have z0 := Z.cell 0 (by decide); have z1 := Z.cell 1 (by decide); have z2 := Z.cell 2 (by decide); have z3 := Z.cell 3 (by decide); have z4 := Z.cell 4 (by decide); have z5 := Z.cell 5 (by decide); have z6 := Z.cell 6 (by decide); have z7 := Z.cell 7 (by decide); have y0 := Z.fz 0; have y1 := Z.fz 1; have y2 := Z.fz 2; have y3 := Z.fz 3; have y4 := Z.fz 4; have y5 := Z.fz 5; have y6 := Z.fz 6; have y7 := Z.fz 7)); (try (with_reducible first | replace Q := Q.below hb | replace Q := Q.drew.below hb | replace Q := (Q.alloc _).below hb | replace Q := (Q.alloc _).drew.below hb)); (try (with_reducible first | replace R := R.below hb | replace R := R.drew.below hb | replace R := (R.alloc _).below hb | replace R := (R.alloc _).drew.below hb)); (try (with_reducible first | replace hbs := hbs.below hb | replace hbs := hbs.drew.below hb | replace hbs := (hbs.alloc _).below hb | replace hbs := (hbs.alloc _).drew.below hb)); (with_reducible first | replace HB := HB.trans (hb.mono HB.size) | replace HB := HB.drew.trans (hb.mono HB.drew.size) | replace HB := (HB.alloc HB.size _).trans (hb.mono (HB.alloc HB.size _).size) | replace HB := (HB.alloc HB.size _).drew.trans (hb.mono (HB.alloc HB.size _).drew.size)); clear hb))
   all_goals (go_wp2_with fail; go_meet)
   · exact ⟨_, rfl, pl_box _ rfl y _, R.alloc _, Q.alloc _, HB.alloc HB.size _⟩
   · exact ⟨_, rfl, Z.set8 y, R.other8 (by omega) y, Q.other8 (by omega) y, below_set8 HB (by omega) y⟩
   · exact ⟨_, rfl, Z.set8 y, R.other8 (by omega) y, Q.other8 (by omega) y, below_set8 HB (by omega) y⟩
  case rest =>
  obtain ⟨By, rfl, Y, R, Q, HB⟩ := hcut
  clear hbs
  have HS : Hid (Pl wc By 8 y ∧ Pl wc Bx 8 x ∧ Pl wc (w.heap.size + 1) 8 q ∧ Below w.heap.size w wc) := ⟨Y, R, Q, HB⟩
  clear Y R Q HB P
  go_wp2
  go_loopw [13] (fun i wr => ∃ k : Nat, k ≤ 64 ∧ i = .int .i64 (k : Int) ∧ Pl wr By 8 y ∧ Pl wr Bx 8 x ∧ Pl wr (w.heap.size + 1) 8 q ∧ Below w.heap.size w wr) (fun i _ => 64 - (intOf i).toNat)
  case atStart => exact ⟨0, by omega, rfl, HS.out⟩
  case round =>
    clear HS
    obtain ⟨k, hk, rfl, Y, R, Q, HB⟩ := hrel
    by_cases hlt : k < 64
    · by_cases hkt : k = t
      · subst hkt
        have HM : Hid (Pl wr By 8 y ∧ Pl wr Bx 8 x ∧ Pl wr (w.heap.size + 1) 8 q ∧ Below w.heap.size w wr) := ⟨Y, R, Q, HB⟩
        clear Y R Q HB
        go_wp2
        go_quiet (fail)
        go_wp2
        go_roundw
        case rel => exact ⟨k + 1, by omega, by go_num, ⟨HM.out.1.lt, HM.out.1.cell, HM.out.1.fz⟩, ⟨HM.out.2.1.lt, HM.out.2.1.cell, HM.out.2.1.fz⟩, ⟨HM.out.2.2.1.lt, HM.out.2.2.1.cell, HM.out.2.2.1.fz⟩, ⟨HM.out.2.2.2.os, HM.out.2.2.2.tape, HM.out.2.2.2.output, HM.out.2.2.2.size, HM.out.2.2.2.block⟩⟩
        case measure => simp [intOf]; omega
      · have hne : ((k : Int) != (t : Int)) = true := by simp; omega
        have hxk := K6.out.1 k hlt
        have kx : Hid (∀ w, Calls Try.prog 15 #[V8 x, .int .i64 (k : Int)] w fun e w' => e = .returned (.int .u8 (x k : Nat)) ∧ Below w.heap.size w w') := llane_in x k hlt hxk
        have ky : Hid (∀ w, Calls Try.prog 15 #[V8 y, .int .i64 (k : Int)] w fun e w' => e = .returned (.int .u8 (x k : Nat)) ∧ Below w.heap.size w w') := llane_e y k (x k) hlt hxk (K6.out.2.2 k hlt hkt)
        have c0 := R.cell 0 (by decide)
        have c1 := R.cell 1 (by decide)
        have c2 := R.cell 2 (by decide)
        have c3 := R.cell 3 (by decide)
        have c4 := R.cell 4 (by decide)
        have c5 := R.cell 5 (by decide)
        have c6 := R.cell 6 (by decide)
        have c7 := R.cell 7 (by decide)
        have d0 := Y.cell 0 (by decide)
        have d1 := Y.cell 1 (by decide)
        have d2 := Y.cell 2 (by decide)
        have d3 := Y.cell 3 (by decide)
        have d4 := Y.cell 4 (by decide)
        have d5 := Y.cell 5 (by decide)
        have d6 := Y.cell 6 (by decide)
        have d7 := Y.cell 7 (by decide)
        go_wp2
        go_region_held3 (fun w' => w'.cell? ⟨Bx, 0, none⟩ = some (.int .u64 (Ln.pk x 0 : Nat)) ∧ w'.cell? ⟨Bx, 1, none⟩ = some (.int .u64 (Ln.pk x 1 : Nat)) ∧ w'.cell? ⟨Bx, 2, none⟩ = some (.int .u64 (Ln.pk x 2 : Nat)) ∧ w'.cell? ⟨Bx, 3, none⟩ = some (.int .u64 (Ln.pk x 3 : Nat)) ∧ w'.cell? ⟨Bx, 4, none⟩ = some (.int .u64 (Ln.pk x 4 : Nat)) ∧ w'.cell? ⟨Bx, 5, none⟩ = some (.int .u64 (Ln.pk x 5 : Nat)) ∧ w'.cell? ⟨Bx, 6, none⟩ = some (.int .u64 (Ln.pk x 6 : Nat)) ∧ w'.cell? ⟨Bx, 7, none⟩ = some (.int .u64 (Ln.pk x 7 : Nat)) ∧ w'.cell? ⟨By, 0, none⟩ = some (.int .u64 (Ln.pk y 0 : Nat)) ∧ w'.cell? ⟨By, 1, none⟩ = some (.int .u64 (Ln.pk y 1 : Nat)) ∧ w'.cell? ⟨By, 2, none⟩ = some (.int .u64 (Ln.pk y 2 : Nat)) ∧ w'.cell? ⟨By, 3, none⟩ = some (.int .u64 (Ln.pk y 3 : Nat)) ∧ w'.cell? ⟨By, 4, none⟩ = some (.int .u64 (Ln.pk y 4 : Nat)) ∧ w'.cell? ⟨By, 5, none⟩ = some (.int .u64 (Ln.pk y 5 : Nat)) ∧ w'.cell? ⟨By, 6, none⟩ = some (.int .u64 (Ln.pk y 6 : Nat)) ∧ w'.cell? ⟨By, 7, none⟩ = some (.int .u64 (Ln.pk y 7 : Nat)))
          (first | (go_keep; done) | ((try dsimp only); (repeat' apply And.intro) <;> with_reducible first | exact R.cell _ (by decide) | exact (R.alloc _).cell _ (by decide) | exact (R.other8 (by omega) _).cell _ (by decide) | exact Y.cell _ (by decide) | exact (Y.alloc _).cell _ (by decide) | exact (Y.other8 (by omega) _).cell _ (by decide)))
          (first
            | (go_at_call 15; with_reducible refine (kx.out _).mono ?_; rintro e w1 ⟨rfl, hb⟩; (try (with_reducible first | replace R := R.below hb | replace R := R.drew.below hb | replace R := (R.alloc _).below hb | replace R := (R.alloc _).drew.below hb)); (try (with_reducible first | replace Y := Y.below hb | replace Y := Y.drew.below hb | replace Y := (Y.alloc _).below hb | replace Y := (Y.alloc _).drew.below hb)); (try (with_reducible first | replace Q := Q.below hb | replace Q := Q.drew.below hb | replace Q := (Q.alloc _).below hb | replace Q := (Q.alloc _).drew.below hb)); (with_reducible first | replace HB := HB.trans (hb.mono HB.size) | replace HB := HB.drew.trans (hb.mono HB.drew.size) | replace HB := (HB.alloc HB.size _).trans (hb.mono (HB.alloc HB.size _).size) | replace HB := (HB.alloc HB.size _).drew.trans (hb.mono (HB.alloc HB.size _).drew.size)); clear hb)
            | (go_at_call 15; with_reducible refine (ky.out _).mono ?_; rintro e w1 ⟨rfl, hb⟩; (try (with_reducible first | replace R := R.below hb | replace R := R.drew.below hb | replace R := (R.alloc _).below hb | replace R := (R.alloc _).drew.below hb)); (try (with_reducible first | replace Y := Y.below hb | replace Y := Y.drew.below hb | replace Y := (Y.alloc _).below hb | replace Y := (Y.alloc _).drew.below hb)); (try (with_reducible first | replace Q := Q.below hb | replace Q := Q.drew.below hb | replace Q := (Q.alloc _).below hb | replace Q := (Q.alloc _).drew.below hb)); (with_reducible first | replace HB := HB.trans (hb.mono HB.size) | replace HB := HB.drew.trans (hb.mono HB.drew.size) | replace HB := (HB.alloc HB.size _).trans (hb.mono (HB.alloc HB.size _).size) | replace HB := (HB.alloc HB.size _).drew.trans (hb.mono (HB.alloc HB.size _).drew.size)); clear hb))
        clear c0 c1 c2 c3 c4 c5 c6 c7
        clear d0 d1 d2 d3 d4 d5 d6 d7
        go_wp2
        go_roundw
        case rel => exact ⟨k + 1, by omega, by go_num, Y, R, Q, HB⟩
        case measure => simp [intOf]; omega
    · have e8 : k = 64 := by omega
      subst e8
      have c0 := Y.cell 0 (by decide)
      have c1 := Y.cell 1 (by decide)
      have c2 := Y.cell 2 (by decide)
      have c3 := Y.cell 3 (by decide)
      have c4 := Y.cell 4 (by decide)
      have c5 := Y.cell 5 (by decide)
      have c6 := Y.cell 6 (by decide)
      have c7 := Y.cell 7 (by decide)
      have d0 := Q.cell 0 (by decide)
      have d1 := Q.cell 1 (by decide)
      have d2 := Q.cell 2 (by decide)
      have d3 := Q.cell 3 (by decide)
      have d4 := Q.cell 4 (by decide)
      have d5 := Q.cell 5 (by decide)
      have d6 := Q.cell 6 (by decide)
      have d7 := Q.cell 7 (by decide)
      go_wp2
      go_region_held3 (fun w' => w'.cell? ⟨By, 0, none⟩ = some (.int .u64 (Ln.pk y 0 : Nat)) ∧ w'.cell? ⟨By, 1, none⟩ = some (.int .u64 (Ln.pk y 1 : Nat)) ∧ w'.cell? ⟨By, 2, none⟩ = some (.int .u64 (Ln.pk y 2 : Nat)) ∧ w'.cell? ⟨By, 3, none⟩ = some (.int .u64 (Ln.pk y 3 : Nat)) ∧ w'.cell? ⟨By, 4, none⟩ = some (.int .u64 (Ln.pk y 4 : Nat)) ∧ w'.cell? ⟨By, 5, none⟩ = some (.int .u64 (Ln.pk y 5 : Nat)) ∧ w'.cell? ⟨By, 6, none⟩ = some (.int .u64 (Ln.pk y 6 : Nat)) ∧ w'.cell? ⟨By, 7, none⟩ = some (.int .u64 (Ln.pk y 7 : Nat)) ∧ w'.cell? ⟨w.heap.size + 1, 0, none⟩ = some (.int .u64 (Ln.pk q 0 : Nat)) ∧ w'.cell? ⟨w.heap.size + 1, 1, none⟩ = some (.int .u64 (Ln.pk q 1 : Nat)) ∧ w'.cell? ⟨w.heap.size + 1, 2, none⟩ = some (.int .u64 (Ln.pk q 2 : Nat)) ∧ w'.cell? ⟨w.heap.size + 1, 3, none⟩ = some (.int .u64 (Ln.pk q 3 : Nat)) ∧ w'.cell? ⟨w.heap.size + 1, 4, none⟩ = some (.int .u64 (Ln.pk q 4 : Nat)) ∧ w'.cell? ⟨w.heap.size + 1, 5, none⟩ = some (.int .u64 (Ln.pk q 5 : Nat)) ∧ w'.cell? ⟨w.heap.size + 1, 6, none⟩ = some (.int .u64 (Ln.pk q 6 : Nat)) ∧ w'.cell? ⟨w.heap.size + 1, 7, none⟩ = some (.int .u64 (Ln.pk q 7 : Nat)))
        (first | (go_keep; done) | ((try dsimp only); (repeat' apply And.intro) <;> with_reducible first | exact Y.cell _ (by decide) | exact (Y.alloc _).cell _ (by decide) | exact (Y.other8 (by omega) _).cell _ (by decide) | exact Q.cell _ (by decide) | exact (Q.alloc _).cell _ (by decide) | exact (Q.other8 (by omega) _).cell _ (by decide)))
        (first
          | (go_at_call 9; refine (known03_calls _).mono ?_; rintro e w1 ⟨rfl, hb⟩; (try (with_reducible first | replace Y := Y.below hb | replace Y := Y.drew.below hb | replace Y := (Y.alloc _).below hb | replace Y := (Y.alloc _).drew.below hb)); (try (with_reducible first | replace Q := Q.below hb | replace Q := Q.drew.below hb | replace Q := (Q.alloc _).below hb | replace Q := (Q.alloc _).drew.below hb)); (with_reducible first | replace HB := HB.trans (hb.mono HB.size) | replace HB := HB.drew.trans (hb.mono HB.drew.size) | replace HB := (HB.alloc HB.size _).trans (hb.mono (HB.alloc HB.size _).size) | replace HB := (HB.alloc HB.size _).drew.trans (hb.mono (HB.alloc HB.size _).drew.size)); clear hb)
          | (go_at_call 15; with_reducible refine (k3.out _).mono ?_; rintro e w1 ⟨rfl, hb⟩; (try (with_reducible first | replace Y := Y.below hb | replace Y := Y.drew.below hb | replace Y := (Y.alloc _).below hb | replace Y := (Y.alloc _).drew.below hb)); (try (with_reducible first | replace Q := Q.below hb | replace Q := Q.drew.below hb | replace Q := (Q.alloc _).below hb | replace Q := (Q.alloc _).drew.below hb)); (with_reducible first | replace HB := HB.trans (hb.mono HB.size) | replace HB := HB.drew.trans (hb.mono HB.drew.size) | replace HB := (HB.alloc HB.size _).trans (hb.mono (HB.alloc HB.size _).size) | replace HB := (HB.alloc HB.size _).drew.trans (hb.mono (HB.alloc HB.size _).drew.size)); clear hb)
          | (go_at_call 15; with_reducible refine (k4.out _).mono ?_; rintro e w1 ⟨rfl, hb⟩; (try (with_reducible first | replace Y := Y.below hb | replace Y := Y.drew.below hb | replace Y := (Y.alloc _).below hb | replace Y := (Y.alloc _).drew.below hb)); (try (with_reducible first | replace Q := Q.below hb | replace Q := Q.drew.below hb | replace Q := (Q.alloc _).below hb | replace Q := (Q.alloc _).drew.below hb)); (with_reducible first | replace HB := HB.trans (hb.mono HB.size) | replace HB := HB.drew.trans (hb.mono HB.drew.size) | replace HB := (HB.alloc HB.size _).trans (hb.mono (HB.alloc HB.size _).size) | replace HB := (HB.alloc HB.size _).drew.trans (hb.mono (HB.alloc HB.size _).drew.size)); clear hb)
          | (go_at_call 16; refine (k5.out _).mono ?_; rintro e w1 ⟨rfl, rfl⟩))
      clear c0 c1 c2 c3 c4 c5 c6 c7
      clear d0 d1 d2 d3 d4 d5 d6 d7
      go_wp2
      go_ret
      exact ⟨rfl, HB⟩

theorem own : ownKnob Try.prog.godebug = none := by kernel_rfl
theorem laidOut : laidOutB Try.prog = true := by kernel_rfl
set_option maxRecDepth 100000 in
theorem lifted (os : Os) (started : os.Started) (H : Type) (enc : TypeId × Value → H) :
    ReturnsInHanded {} Try.checked os 5 .any (Rows.lanesOwnSpec.pre6 enc Try.prog Try.f5 Rows.lanesOwnRow.domain false) (Rows.lanesOwnSpec.post enc Try.prog Try.f5 false true false false) := by
  refine returnsInHanded_of_change (C := Try.checked) own started (by kernel_rfl) Try.func5
    (ChangeSpec.witness6 (enc := enc) (C := Try.checked) false ⟨#[], #[.agg #[.int .u64 0, .int .u64 0, .int .u64 0, .int .u64 0, .int .u64 0, .int .u64 0, .int .u64 0, .int .u64 0], .agg #[.int .u64 0, .int .u64 0, .int .u64 0, .int .u64 0, .int .u64 0, .int .u64 0, .int .u64 0, .int .u64 0], .int .u8 0, .int .u8 0], []⟩ 8 (by kernel_rfl) (by kernel_rfl) (by kernel_rfl) (by kernel_rfl)) ?_
  intro W base args ds gs before hval0 hW _ _
  have hval : ∀ (j : Nat) t v, Try.f5.params[j]? = some t → args[j]? = some v → Value.okWide Try.prog W .any base t v := hval0
  have hW' := hW
  obtain ⟨p, q, hA0, hV, rfl, _, _⟩ := hW
  have hA : DataW.TrodAll enc Try.prog W 0 (fun _ => true) true Try.f5.params.toList args.toList ds p := hA0
  rw [Try.params5] at hA hval
  obtain ⟨v0, vs0, d0, ds0, p0, q0, hargs, rfl, rfl, h0, r0⟩ := trodAll_cons hA
  obtain ⟨v1, vs1, d1, ds1, p1, q1, rfl, rfl, rfl, h1, r1⟩ := trodAll_cons r0
  obtain ⟨v2, vs2, d2, ds2, p2, q2, rfl, rfl, rfl, h2, r2⟩ := trodAll_cons r1
  obtain ⟨v3, vs3, d3, ds3, p3, q3, rfl, rfl, rfl, h3, r3⟩ := trodAll_cons r2
  obtain ⟨rfl, rfl, rfl⟩ := trodAll_nil r3
  obtain rfl : args = #[v0, v1, v2, v3] := by cases args; simp_all
  obtain ⟨rfl, rfl⟩ := trodVars_none hV
  have k0 := h0
  obtain ⟨l0, b0, rfl⟩ := open_planes Try.underlying24 Try.underlying22 (by kernel_rfl) (by kernel_rfl) (hval 0 24 v0 rfl rfl) h0
  have k1 := h1
  obtain ⟨l1, b1, rfl⟩ := open_planes Try.underlying24 Try.underlying22 (by kernel_rfl) (by kernel_rfl) (hval 1 24 v1 rfl rfl) h1
  obtain ⟨a2, rfl, rfl, rfl, w2⟩ := open_int Try.underlying5 (hval 2 5 v2 rfl rfl) h2
  obtain ⟨n2, b2, rfl⟩ := nat_of_u8 w2
  obtain ⟨a3, rfl, rfl, rfl, w3⟩ := open_int Try.underlying5 (hval 3 5 v3 rfl rfl) h3
  obtain ⟨n3, b3, rfl⟩ := nat_of_u8 w3
  clear hA0 hval0
  simp only [List.append_nil] at hW'
  refine (walk (w := W) l0 l1 n2 n3 b0 b1 b2 b3).mono fun e W' ⟨he, bel⟩ => ?_
  subst he
  exact ⟨_, rfl, _, _, _, [], _, [], hW', trodAll_mk1 (shut_bool Try.underlying4 _), (trodAll_cons_mk (shut_same laidOut (by kernel_rfl) (of_decide_eq_true (by kernel_rfl)) k0 bel) (trodAll_cons_mk (shut_same laidOut (by kernel_rfl) (of_decide_eq_true (by kernel_rfl)) k1 bel) (trodAll_cons_mk (shut_int Try.underlying5 w2) (trodAll_cons_mk (shut_int Try.underlying5 w3) trodAll_mk0)))), rfl, bel.frame _, fun h => by cases h⟩
theorem over : Rows.lanesOwnRow.holds Try.pinned (OpenSpec.ofChange Rows.lanesOwnSpec) :=
  OpenClaim.holds_of_wide 5 Try.f5 rfl rfl rfl rfl rfl rfl rfl ⟨rfl, rfl, rfl, rfl, rfl⟩ rfl rfl rfl rfl rfl (by kernel_rfl) Try.func5 (by kernel_rfl)
    (of_decide_eq_true (by kernel_rfl)) (by unfold Func.isWrapper; first | (rw [if_pos (by decide +kernel)]; kernel_rfl) | (rw [if_neg (by decide +kernel)]; exact ⟨rfl, rfl⟩))
    (fun os started H enc _ => lifted os started H enc)
theorem proved : Rows.LanesOwnSaid := over
#print axioms proved
end Go.Proofs.Ytpldddapokdakaa.lanesOwn
