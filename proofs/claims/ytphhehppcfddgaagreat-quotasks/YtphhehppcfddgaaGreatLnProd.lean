/- The walks of lanes.Mul, Scale and Square. Conditions: lanes are bytes. -/
import Derived.Test.YtphhehppcfddgaaGreatLnMul
namespace Go.Proofs
open Go.RowKit Go.ChangeShapes Go.WideShapes

set_option maxRecDepth 100000 in
set_option maxHeartbeats 2000000 in
theorem lmul_calls (a b r : Nat → Nat) (ha : ∀ n, n < 64 → a n < 256) (hb : ∀ n, n < 64 → b n < 256) (hr : ∀ n, n < 64 → Gf.mul (a n) (b n) = r n) (w : World) :
    Calls Tryz.prog 119 #[V8 a, V8 b] w fun e w' => e = .returned (V8 r) ∧ Below w.heap.size w w' := by
  have HA : Hid (∀ n, n < 64 → a n < 256) := ha
  have HBb : Hid (∀ n, n < 64 → b n < 256) := hb
  have HRr : Hid (∀ n, n < 64 → Gf.mul (a n) (b n) = r n) := hr
  clear ha hb hr
  go_enter Tryz.func119, Tryz.ntmps119
  go_wp2
  go_loopg [8] 8 (fun g i wr => ∃ k : Nat, k + g = 8 ∧ i = .int .i64 (k : Int) ∧ Pl wr w.heap.size 8 a ∧ Pl wr (w.heap.size + 1) 8 b ∧ Pl wr (w.heap.size + 1 + 1) 8 (fun _ => 0) ∧ Pl wr (w.heap.size + 1 + 1 + 1) 15 (fun n => Gf.wideK (b n) (a n) k) ∧ Below w.heap.size w wr)
  case atStart =>
    exact ⟨0, by omega, rfl, (((pl_box w rfl a _).alloc _).alloc _).alloc _, ((pl_box _ (by simp) b _).alloc _).alloc _, (pl_zero8 _ (by simp) _).alloc _, pl_zero15 _ (by simp) _, ((((Below.refl _ _).alloc (Nat.le_refl _) _).alloc (by simp) _).alloc (by simp; omega) _).alloc (by simp; omega) _⟩
  case round =>
    obtain ⟨k, hkg, rfl, h0, h1, h2, h3, hB⟩ := hrel
    by_cases hk : k < 8
    · have HP : Hid (Pl wr w.heap.size 8 a ∧ Pl wr (w.heap.size + 1) 8 b ∧ Pl wr (w.heap.size + 1 + 1) 8 (fun _ => 0) ∧ Pl wr (w.heap.size + 1 + 1 + 1) 15 (fun n => Ln.inK (a n) (b n) k (Gf.wideK (b n) (a n) k) 0) ∧ Below w.heap.size w wr) := ⟨h0, h1, h2, h3, hB⟩
      clear h0 h1 h2 h3 hB
      go_wp2
      go_loopw [11] (fun i wx => ∃ j : Nat, j ≤ 8 ∧ i = .int .i64 (j : Int) ∧ Pl wx w.heap.size 8 a ∧ Pl wx (w.heap.size + 1) 8 b ∧ Pl wx (w.heap.size + 1 + 1) 8 (fun _ => 0) ∧ Pl wx (w.heap.size + 1 + 1 + 1) 15 (fun n => Ln.inK (a n) (b n) k (Gf.wideK (b n) (a n) k) j) ∧ Below w.heap.size w wx) (fun i _ => 8 - (intOf i).toNat)
      case atStart => exact ⟨0, by omega, rfl, HP.out⟩
      case round =>
        clear HP
        obtain ⟨j, hj8, rfl, h0, h1, h2, h3, hB⟩ := hrel
        by_cases hj : j < 8
        · have cA := h0.cell k hk
          have cB := h1.cell j hj
          have cW := h3.cell (k + j) (by omega)
          have fW := h3.fz (k + j)
          have HS := h3.set (l' := fun n => Ln.inK (a n) (b n) k (Gf.wideK (b n) (a n) k) (j + 1)) (k + j) _ (by omega) (Ln.mul_step a b (fun n => Gf.wideK (b n) (a n) k) k j) (fun i _ h => Ln.mul_else a b (fun n => Gf.wideK (b n) (a n) k) k j i h)
          have hand := u64_and_nat _ _ (Ln.pk_lt a k) (Ln.pk_lt b j)
          have hlt : Ln.pk a k &&& Ln.pk b j < 18446744073709551616 := Nat.and_lt_two_pow (n := 64) _ (Ln.pk_lt b j)
          have hxor := u64_xor_nat _ _ (Ln.pk_lt (fun n => Ln.inK (a n) (b n) k (Gf.wideK (b n) (a n) k) j) (k + j)) hlt
          obtain ⟨u, hu⟩ : ∃ u, Ln.pk (fun n => Ln.inK (a n) (b n) k (Gf.wideK (b n) (a n) k) j) (k + j) = u := ⟨_, rfl⟩
          obtain ⟨x, hx⟩ : ∃ x, Ln.pk a k = x := ⟨_, rfl⟩
          obtain ⟨y, hy⟩ : ∃ y, Ln.pk b j = y := ⟨_, rfl⟩
          rw [hu] at cW
          rw [hx] at cA
          rw [hy] at cB
          rw [hu, hx, hy] at HS hxor
          rw [hx, hy] at hand
          obtain ⟨z, hz⟩ : ∃ z, x &&& y = z := ⟨_, rfl⟩
          rw [hz] at HS hxor hand
          have HS2 : Hid (Pl (wr.setCell ⟨w.heap.size + 1 + 1 + 1, k + j, none⟩ (.int .u64 ((u ^^^ z : Nat) : Int))) (w.heap.size + 1 + 1 + 1) 15 (fun n => Ln.inK (a n) (b n) k (Gf.wideK (b n) (a n) k) (j + 1))) := HS
          have HM : Hid (Pl wr w.heap.size 8 a ∧ Pl wr (w.heap.size + 1) 8 b ∧ Pl wr (w.heap.size + 1 + 1) 8 (fun _ => 0) ∧ Below w.heap.size w wr) := ⟨h0, h1, h2, hB⟩
          clear HS hu hx hy hz hlt h0 h1 h2 h3 hB
          go_wp2
          go_region
          go_wp2
          go_roundw
          case rel => exact ⟨j + 1, by omega, by go_num, (HM.out.1.other (by dsimp only; omega) _).drew, (HM.out.2.1.other (by dsimp only; omega) _).drew, (HM.out.2.2.1.other (by dsimp only; omega) _).drew, HS2.out.drew, (HM.out.2.2.2.setCell (p := ⟨w.heap.size + 1 + 1 + 1, k + j, none⟩) (by simp; omega) _).drew⟩
          case measure => simp [intOf]; omega
        · have e8 : j = 8 := by omega
          subst e8
          have HM : Hid (Pl wr w.heap.size 8 a ∧ Pl wr (w.heap.size + 1) 8 b ∧ Pl wr (w.heap.size + 1 + 1) 8 (fun _ => 0) ∧ Pl wr (w.heap.size + 1 + 1 + 1) 15 (fun n => Gf.wideK (b n) (a n) (k + 1)) ∧ Below w.heap.size w wr) :=
            ⟨h0, h1, h2, h3.same (fun i _ => Ln.pk_same (fun n hn => (Ln.inK_all (a n) (b n) k (HBb.out n hn)).symm) i), hB⟩
          clear h0 h1 h2 h3 hB
          go_wp2
          go_roundg (gk - 1)
          case rel => exact ⟨k + 1, by omega, by go_num, HM.out⟩
          case measure => omega
    · have e8 : k = 8 := by omega
      subst e8
      obtain ⟨s, hs⟩ : ∃ s : Nat → Nat, (fun n => Gf.wideK (b n) (a n) 8) = s := ⟨_, rfl⟩
      rw [hs] at h3
      have hs1 : ∀ n, n < 64 → s n < 32768 := fun n hn => by rw [← hs]; exact Gf.wide_lt _ _ (HBb.out n hn)
      have hs2 : ∀ n, n < 64 → Gf.red (s n) = r n := fun n hn => by
        rw [← hs, ← HRr.out n hn]
        show Gf.red (Gf.wide (b n) (a n)) = _
        rw [Gf.wide_comm _ _ (HBb.out n hn) (HA.out n hn)]
        rfl
      have HC : Hid ((∀ n, n < 64 → s n < 32768) ∧ (∀ n, n < 64 → Gf.red (s n) = r n)) := ⟨hs1, hs2⟩
      have c0 := h3.cell 0 (by decide)
      have c1 := h3.cell 1 (by decide)
      have c2 := h3.cell 2 (by decide)
      have c3 := h3.cell 3 (by decide)
      have c4 := h3.cell 4 (by decide)
      have c5 := h3.cell 5 (by decide)
      have c6 := h3.cell 6 (by decide)
      have c7 := h3.cell 7 (by decide)
      have c8 := h3.cell 8 (by decide)
      have c9 := h3.cell 9 (by decide)
      have c10 := h3.cell 10 (by decide)
      have c11 := h3.cell 11 (by decide)
      have c12 := h3.cell 12 (by decide)
      have c13 := h3.cell 13 (by decide)
      have c14 := h3.cell 14 (by decide)
      have HM : Hid (Pl wr (w.heap.size + 1 + 1) 8 (fun _ => 0) ∧ Below w.heap.size w wr) := ⟨h2, hB⟩
      clear h0 h1 h2 h3 hB hs hs1 hs2
      go_wp2_with fail
      refine (lreduce_calls s r HC.out.1 HC.out.2 _).mono ?_
      rintro e w1 ⟨rfl, hb⟩
      clear c0 c1 c2 c3 c4 c5 c6 c7 c8 c9 c10 c11 c12 c13 c14
      have hR := HM.out.1.below hb
      have HN : Hid (Pl w1 (w.heap.size + 1 + 1) 8 (fun _ => 0) ∧ Below w.heap.size w w1) := ⟨hR, HM.out.2.trans (hb.mono HM.out.2.size)⟩
      have r0 := hR.cell 0 (by decide)
      have r1 := hR.cell 1 (by decide)
      have r2 := hR.cell 2 (by decide)
      have r3 := hR.cell 3 (by decide)
      have r4 := hR.cell 4 (by decide)
      have r5 := hR.cell 5 (by decide)
      have r6 := hR.cell 6 (by decide)
      have r7 := hR.cell 7 (by decide)
      have f0 := hR.fz 0
      have f1 := hR.fz 1
      have f2 := hR.fz 2
      have f3 := hR.fz 3
      have f4 := hR.fz 4
      have f5 := hR.fz 5
      have f6 := hR.fz 6
      have f7 := hR.fz 7
      clear hR hb HM
      go_wp2
      exact bodyPost_ret (results_cell Tryz.results119 rfl (load8 (HN.out.1.set8 r))) rfl ⟨rfl, below_set8 HN.out.2 (by omega) r⟩

theorem scale_bit (x j : Nat) (hx : x < 256) : (bits .and .u8 ((x : Int) / 2 ^ j) 1 == 0) = !x.testBit j := by
  have h1 : x / 2 ^ j < 256 := Nat.lt_of_le_of_lt (Nat.div_le_self _ _) hx
  rw [cast_div_pow, show (1 : Int) = ((1 : Nat) : Int) from rfl, u8_and_nat _ _ h1 (by decide), Nat.and_one_is_mod, Nat.testBit_eq_decide_div_mod_eq]
  rcases Nat.mod_two_eq_zero_or_one (x / 2 ^ j) with e | e <;> rw [e] <;> rfl
set_option maxRecDepth 100000 in
set_option maxHeartbeats 2000000 in
theorem lscale_calls (a r : Nat → Nat) (x : Nat) (ha : ∀ n, n < 64 → a n < 256) (hx : x < 256) (hr : ∀ n, n < 64 → Gf.mul (a n) x = r n) (w : World) :
    Calls Tryz.prog 116 #[V8 a, .int .u8 (x : Nat)] w fun e w' => e = .returned (V8 r) ∧ Below w.heap.size w w' := by
  have HA : Hid (∀ n, n < 64 → a n < 256) := ha
  have HRr : Hid (∀ n, n < 64 → Gf.mul (a n) x = r n) := hr
  clear ha hr
  go_enter Tryz.func116, Tryz.ntmps116
  go_wp2
  go_loopg [8] 8 (fun g i wr => ∃ k : Nat, k + g = 8 ∧ i = .int .i64 (k : Int) ∧ Pl wr w.heap.size 8 a ∧ Pl wr (w.heap.size + 1) 8 (fun _ => 0) ∧ Pl wr (w.heap.size + 1 + 1) 15 (fun n => Gf.wideK (a n) x k) ∧ Below w.heap.size w wr)
  case atStart =>
    exact ⟨0, by omega, rfl, ((pl_box w rfl a _).alloc _).alloc _, (pl_zero8 _ (by simp) _).alloc _, pl_zero15 _ (by simp) _, (((Below.refl _ _).alloc (Nat.le_refl _) _).alloc (by simp) _).alloc (by simp; omega) _⟩
  case round =>
    obtain ⟨k, hkg, rfl, h0, h2, h3, hB⟩ := hrel
    by_cases hk : k < 8
    · have hbit := scale_bit x k hx
      by_cases ht : x.testBit k = true
      · have HT : Hid (x.testBit k = true) := ht
        rw [ht] at hbit
        clear ht
        have HP : Hid (Pl wr w.heap.size 8 a ∧ Pl wr (w.heap.size + 1) 8 (fun _ => 0) ∧ Pl wr (w.heap.size + 1 + 1) 15 (fun n => Ln.scK (a n) x k (Gf.wideK (a n) x k) 0) ∧ Below w.heap.size w wr) := ⟨h0, h2, h3, hB⟩
        clear h0 h2 h3 hB
        go_wp2
        go_loopw [16] (fun i wx => ∃ j : Nat, j ≤ 8 ∧ i = .int .i64 (j : Int) ∧ Pl wx w.heap.size 8 a ∧ Pl wx (w.heap.size + 1) 8 (fun _ => 0) ∧ Pl wx (w.heap.size + 1 + 1) 15 (fun n => Ln.scK (a n) x k (Gf.wideK (a n) x k) j) ∧ Below w.heap.size w wx) (fun i _ => 8 - (intOf i).toNat)
        case atStart => exact ⟨0, by omega, rfl, HP.out⟩
        case round =>
          clear HP
          obtain ⟨j, hj8, rfl, h0, h2, h3, hB⟩ := hrel
          by_cases hj : j < 8
          · have cA := h0.cell j hj
            have cW := h3.cell (j + k) (by omega)
            have fW := h3.fz (j + k)
            have HS := h3.set (l' := fun n => Ln.scK (a n) x k (Gf.wideK (a n) x k) (j + 1)) (j + k) _ (by omega) (Ln.sc_step a (fun n => Gf.wideK (a n) x k) x j k) (fun i _ h => Ln.sc_else a (fun n => Gf.wideK (a n) x k) x j k i h)
            have hxor := u64_xor_nat _ _ (Ln.pk_lt (fun n => Ln.scK (a n) x k (Gf.wideK (a n) x k) j) (j + k)) (Ln.pk_lt a j)
            obtain ⟨u, hu⟩ : ∃ u, Ln.pk (fun n => Ln.scK (a n) x k (Gf.wideK (a n) x k) j) (j + k) = u := ⟨_, rfl⟩
            obtain ⟨y, hy⟩ : ∃ y, Ln.pk a j = y := ⟨_, rfl⟩
            rw [hu] at cW
            rw [hy] at cA
            rw [hu, hy] at HS hxor
            have HS2 : Hid (Pl (wr.setCell ⟨w.heap.size + 1 + 1, j + k, none⟩ (.int .u64 ((u ^^^ y : Nat) : Int))) (w.heap.size + 1 + 1) 15 (fun n => Ln.scK (a n) x k (Gf.wideK (a n) x k) (j + 1))) := HS
            have HM : Hid (Pl wr w.heap.size 8 a ∧ Pl wr (w.heap.size + 1) 8 (fun _ => 0) ∧ Below w.heap.size w wr) := ⟨h0, h2, hB⟩
            clear HS hu hy h0 h2 h3 hB
            go_wp2
            go_region
            go_wp2
            go_roundw
            case rel => exact ⟨j + 1, by omega, by go_num, (HM.out.1.other (by dsimp only; omega) _).drew, (HM.out.2.1.other (by dsimp only; omega) _).drew, HS2.out.drew, (HM.out.2.2.setCell (p := ⟨w.heap.size + 1 + 1, j + k, none⟩) (by simp; omega) _).drew⟩
            case measure => simp [intOf]; omega
          · have e8 : j = 8 := by omega
            subst e8
            have HM : Hid (Pl wr w.heap.size 8 a ∧ Pl wr (w.heap.size + 1) 8 (fun _ => 0) ∧ Pl wr (w.heap.size + 1 + 1) 15 (fun n => Gf.wideK (a n) x (k + 1)) ∧ Below w.heap.size w wr) :=
              ⟨h0, h2, h3.same (fun i _ => Ln.pk_same (fun n hn => (Ln.scK_all (a n) x k (HA.out n hn) HT.out).symm) i), hB⟩
            clear h0 h2 h3 hB
            go_wp2
            go_roundg (gk - 1)
            case rel => exact ⟨k + 1, by omega, by go_num, HM.out⟩
            case measure => omega
      · rw [Bool.not_eq_true] at ht
        have HM : Hid (Pl wr w.heap.size 8 a ∧ Pl wr (w.heap.size + 1) 8 (fun _ => 0) ∧ Pl wr (w.heap.size + 1 + 1) 15 (fun n => Gf.wideK (a n) x (k + 1)) ∧ Below w.heap.size w wr) :=
          ⟨h0, h2, h3.same (fun i _ => Ln.pk_same (fun n _ => by rw [Gf.wideK, if_neg (by rw [ht]; decide)]) i), hB⟩
        rw [ht] at hbit
        clear h0 h2 h3 hB ht
        go_wp2
        go_roundg (gk - 1)
        case rel => exact ⟨k + 1, by omega, by go_num, HM.out⟩
        case measure => omega
    · have e8 : k = 8 := by omega
      subst e8
      obtain ⟨s, hs⟩ : ∃ s : Nat → Nat, (fun n => Gf.wideK (a n) x 8) = s := ⟨_, rfl⟩
      rw [hs] at h3
      have hs1 : ∀ n, n < 64 → s n < 32768 := fun n hn => by rw [← hs]; exact Gf.wide_lt _ _ (HA.out n hn)
      have hs2 : ∀ n, n < 64 → Gf.red (s n) = r n := fun n hn => by
        rw [← hs, ← HRr.out n hn]
        rfl
      have HC : Hid ((∀ n, n < 64 → s n < 32768) ∧ (∀ n, n < 64 → Gf.red (s n) = r n)) := ⟨hs1, hs2⟩
      have c0 := h3.cell 0 (by decide)
      have c1 := h3.cell 1 (by decide)
      have c2 := h3.cell 2 (by decide)
      have c3 := h3.cell 3 (by decide)
      have c4 := h3.cell 4 (by decide)
      have c5 := h3.cell 5 (by decide)
      have c6 := h3.cell 6 (by decide)
      have c7 := h3.cell 7 (by decide)
      have c8 := h3.cell 8 (by decide)
      have c9 := h3.cell 9 (by decide)
      have c10 := h3.cell 10 (by decide)
      have c11 := h3.cell 11 (by decide)
      have c12 := h3.cell 12 (by decide)
      have c13 := h3.cell 13 (by decide)
      have c14 := h3.cell 14 (by decide)
      have HM : Hid (Pl wr (w.heap.size + 1) 8 (fun _ => 0) ∧ Below w.heap.size w wr) := ⟨h2, hB⟩
      clear h0 h2 h3 hB hs hs1 hs2
      go_wp2_with fail
      refine (lreduce_calls s r HC.out.1 HC.out.2 _).mono ?_
      rintro e w1 ⟨rfl, hb⟩
      clear c0 c1 c2 c3 c4 c5 c6 c7 c8 c9 c10 c11 c12 c13 c14
      have hR := HM.out.1.below hb
      have HN : Hid (Pl w1 (w.heap.size + 1) 8 (fun _ => 0) ∧ Below w.heap.size w w1) := ⟨hR, HM.out.2.trans (hb.mono HM.out.2.size)⟩
      have r0 := hR.cell 0 (by decide)
      have r1 := hR.cell 1 (by decide)
      have r2 := hR.cell 2 (by decide)
      have r3 := hR.cell 3 (by decide)
      have r4 := hR.cell 4 (by decide)
      have r5 := hR.cell 5 (by decide)
      have r6 := hR.cell 6 (by decide)
      have r7 := hR.cell 7 (by decide)
      have f0 := hR.fz 0
      have f1 := hR.fz 1
      have f2 := hR.fz 2
      have f3 := hR.fz 3
      have f4 := hR.fz 4
      have f5 := hR.fz 5
      have f6 := hR.fz 6
      have f7 := hR.fz 7
      clear hR hb HM
      go_wp2
      exact bodyPost_ret (results_cell Tryz.results116 rfl (load8 (HN.out.1.set8 r))) rfl ⟨rfl, below_set8 HN.out.2 (by omega) r⟩

set_option maxRecDepth 100000 in
set_option maxHeartbeats 2000000 in
theorem lsquare_calls (a r : Nat → Nat) (ha : ∀ n, n < 64 → a n < 256) (hr : ∀ n, n < 64 → Gf.mul (a n) (a n) = r n) (w : World) :
    Calls Tryz.prog 120 #[V8 a] w fun e w' => e = .returned (V8 r) ∧ Below w.heap.size w w' := by
  have HA : Hid (∀ n, n < 64 → a n < 256) := ha
  have HRr : Hid (∀ n, n < 64 → Gf.mul (a n) (a n) = r n) := hr
  clear ha hr
  go_enter Tryz.func120, Tryz.ntmps120
  go_wp2
  go_loopw [5] (fun i wr => ∃ k : Nat, k ≤ 8 ∧ i = .int .i64 (k : Int) ∧ Pl wr w.heap.size 8 a ∧ Pl wr (w.heap.size + 1) 8 (fun _ => 0) ∧ Pl wr (w.heap.size + 1 + 1) 15 (fun n => Ln.sqK (a n) k) ∧ Below w.heap.size w wr) (fun i _ => 8 - (intOf i).toNat)
  case atStart =>
    exact ⟨0, by omega, rfl, ((pl_box w rfl a _).alloc _).alloc _, (pl_zero8 _ (by simp) _).alloc _, pl_zero15 _ (by simp) _, (((Below.refl _ _).alloc (Nat.le_refl _) _).alloc (by simp) _).alloc (by simp; omega) _⟩
  case round =>
    obtain ⟨k, hk8, rfl, h0, h2, h3, hB⟩ := hrel
    by_cases hk : k < 8
    · have cA := h0.cell k hk
      have cW := h3.cell (2 * k) (by omega)
      have fW := h3.fz (2 * k)
      have HS := h3.set (l' := fun n => Ln.sqK (a n) (k + 1)) (2 * k) _ (by omega) (Ln.sq_step a k) (fun i _ h => Ln.sq_else a k i h)
      obtain ⟨y, hy⟩ : ∃ y, Ln.pk a k = y := ⟨_, rfl⟩
      rw [hy] at cA HS
      have HS2 : Hid (Pl (wr.setCell ⟨w.heap.size + 1 + 1, 2 * k, none⟩ (.int .u64 (y : Nat))) (w.heap.size + 1 + 1) 15 (fun n => Ln.sqK (a n) (k + 1))) := HS
      have HM : Hid (Pl wr w.heap.size 8 a ∧ Pl wr (w.heap.size + 1) 8 (fun _ => 0) ∧ Below w.heap.size w wr) := ⟨h0, h2, hB⟩
      clear HS hy h0 h2 h3 hB
      go_wp2
      go_roundw
      case rel => exact ⟨k + 1, by omega, by go_num, HM.out.1.other (by dsimp only; omega) _, HM.out.2.1.other (by dsimp only; omega) _, HS2.out, HM.out.2.2.setCell (p := ⟨w.heap.size + 1 + 1, 2 * k, none⟩) (by simp; omega) _⟩
      case measure => simp [intOf]; omega
    · have e8 : k = 8 := by omega
      subst e8
      obtain ⟨s, hs⟩ : ∃ s : Nat → Nat, (fun n => Ln.sqK (a n) 8) = s := ⟨_, rfl⟩
      rw [hs] at h3
      have hs0 : ∀ n, n < 64 → s n = Gf.wide (a n) (a n) := fun n hn => by rw [← hs]; exact Ln.sqK_wide _ (HA.out n hn)
      have hs1 : ∀ n, n < 64 → s n < 32768 := fun n hn => by rw [hs0 n hn]; exact Gf.wide_lt _ _ (HA.out n hn)
      have hs2 : ∀ n, n < 64 → Gf.red (s n) = r n := fun n hn => by
        rw [hs0 n hn, ← HRr.out n hn]
        rfl
      have HC : Hid ((∀ n, n < 64 → s n < 32768) ∧ (∀ n, n < 64 → Gf.red (s n) = r n)) := ⟨hs1, hs2⟩
      have c0 := h3.cell 0 (by decide)
      have c1 := h3.cell 1 (by decide)
      have c2 := h3.cell 2 (by decide)
      have c3 := h3.cell 3 (by decide)
      have c4 := h3.cell 4 (by decide)
      have c5 := h3.cell 5 (by decide)
      have c6 := h3.cell 6 (by decide)
      have c7 := h3.cell 7 (by decide)
      have c8 := h3.cell 8 (by decide)
      have c9 := h3.cell 9 (by decide)
      have c10 := h3.cell 10 (by decide)
      have c11 := h3.cell 11 (by decide)
      have c12 := h3.cell 12 (by decide)
      have c13 := h3.cell 13 (by decide)
      have c14 := h3.cell 14 (by decide)
      have HM : Hid (Pl wr (w.heap.size + 1) 8 (fun _ => 0) ∧ Below w.heap.size w wr) := ⟨h2, hB⟩
      clear h0 h2 h3 hB hs hs0 hs1 hs2
      go_wp2_with fail
      refine (lreduce_calls s r HC.out.1 HC.out.2 _).mono ?_
      rintro e w1 ⟨rfl, hb⟩
      clear c0 c1 c2 c3 c4 c5 c6 c7 c8 c9 c10 c11 c12 c13 c14
      have hR := HM.out.1.below hb
      have HN : Hid (Pl w1 (w.heap.size + 1) 8 (fun _ => 0) ∧ Below w.heap.size w w1) := ⟨hR, HM.out.2.trans (hb.mono HM.out.2.size)⟩
      have r0 := hR.cell 0 (by decide)
      have r1 := hR.cell 1 (by decide)
      have r2 := hR.cell 2 (by decide)
      have r3 := hR.cell 3 (by decide)
      have r4 := hR.cell 4 (by decide)
      have r5 := hR.cell 5 (by decide)
      have r6 := hR.cell 6 (by decide)
      have r7 := hR.cell 7 (by decide)
      have f0 := hR.fz 0
      have f1 := hR.fz 1
      have f2 := hR.fz 2
      have f3 := hR.fz 3
      have f4 := hR.fz 4
      have f5 := hR.fz 5
      have f6 := hR.fz 6
      have f7 := hR.fz 7
      clear hR hb HM
      go_wp2
      exact bodyPost_ret (results_cell Tryz.results120 rfl (load8 (HN.out.1.set8 r))) rfl ⟨rfl, below_set8 HN.out.2 (by omega) r⟩
end Go.Proofs
