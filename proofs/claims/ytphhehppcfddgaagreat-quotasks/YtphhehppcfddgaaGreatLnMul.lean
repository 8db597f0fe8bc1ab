/- The walks of lanes.reduce, Mul, Scale and Square. Conditions: lanes are bytes. -/
import Derived.Test.YtphhehppcfddgaaGreatLnLane
import Derived.Deep.LoopGhost
import Derived.WalkMore
namespace Go.Proofs
open Go.RowKit Go.ChangeShapes Go.WideShapes

/-- The value of fifteen planes with the lanes l. -/
abbrev V15 (l : Nat → Nat) : Value := .agg #[.int .u64 (Ln.pk l 0 : Nat), .int .u64 (Ln.pk l 1 : Nat), .int .u64 (Ln.pk l 2 : Nat), .int .u64 (Ln.pk l 3 : Nat), .int .u64 (Ln.pk l 4 : Nat), .int .u64 (Ln.pk l 5 : Nat), .int .u64 (Ln.pk l 6 : Nat), .int .u64 (Ln.pk l 7 : Nat), .int .u64 (Ln.pk l 8 : Nat), .int .u64 (Ln.pk l 9 : Nat), .int .u64 (Ln.pk l 10 : Nat), .int .u64 (Ln.pk l 11 : Nat), .int .u64 (Ln.pk l 12 : Nat), .int .u64 (Ln.pk l 13 : Nat), .int .u64 (Ln.pk l 14 : Nat)]
theorem fifteen {P : Nat → Prop} (h : ∀ i, i < 8 → P i) (h8 : P 8) (h9 : P 9) (h10 : P 10) (h11 : P 11) (h12 : P 12) (h13 : P 13) (h14 : P 14) : ∀ i, i < 15 → P i := by
  intro i hi
  by_cases e : i < 8
  · exact h i e
  · match i, hi with
    | 8, _ => exact h8
    | 9, _ => exact h9
    | 10, _ => exact h10
    | 11, _ => exact h11
    | 12, _ => exact h12
    | 13, _ => exact h13
    | 14, _ => exact h14
theorem pl_box15 (W : World) {B : Nat} (hB : B = W.heap.size) (l : Nat → Nat) (t : TypeId) : Pl (W.alloc (.cells #[.int .u64 (Ln.pk l 0 : Nat), .int .u64 (Ln.pk l 1 : Nat), .int .u64 (Ln.pk l 2 : Nat), .int .u64 (Ln.pk l 3 : Nat), .int .u64 (Ln.pk l 4 : Nat), .int .u64 (Ln.pk l 5 : Nat), .int .u64 (Ln.pk l 6 : Nat), .int .u64 (Ln.pk l 7 : Nat), .int .u64 (Ln.pk l 8 : Nat), .int .u64 (Ln.pk l 9 : Nat), .int .u64 (Ln.pk l 10 : Nat), .int .u64 (Ln.pk l 11 : Nat), .int .u64 (Ln.pk l 12 : Nat), .int .u64 (Ln.pk l 13 : Nat), .int .u64 (Ln.pk l 14 : Nat)] t)) B 15 l :=
  pl_new W hB 15 l _ t (fifteen (eight rfl rfl rfl rfl rfl rfl rfl rfl) rfl rfl rfl rfl rfl rfl rfl)
theorem pl_zero15 (W : World) {B : Nat} (hB : B = W.heap.size) (t : TypeId) : Pl (W.alloc (.cells #[.int .u64 0, .int .u64 0, .int .u64 0, .int .u64 0, .int .u64 0, .int .u64 0, .int .u64 0, .int .u64 0, .int .u64 0, .int .u64 0, .int .u64 0, .int .u64 0, .int .u64 0, .int .u64 0, .int .u64 0] t)) B 15 (fun _ => 0) :=
  pl_new W hB 15 _ _ t (fun i hi => by rw [pk_zero]; revert i; exact fifteen (eight rfl rfl rfl rfl rfl rfl rfl rfl) rfl rfl rfl rfl rfl rfl rfl)
theorem low_step (l : Nat → Nat) (k : Nat) : Ln.pk (fun n => l n % 2 ^ (k + 1)) k = Ln.pk l k := by
  apply Nat.eq_of_testBit_eq
  intro n
  rw [Ln.pk_bit, Ln.pk_bit, Nat.testBit_mod_two_pow]
  simp
theorem low_else (l : Nat → Nat) (k i : Nat) (h : i ≠ k) : Ln.pk (fun n => l n % 2 ^ (k + 1)) i = Ln.pk (fun n => l n % 2 ^ k) i := by
  apply Nat.eq_of_testBit_eq
  intro n
  rw [Ln.pk_bit, Ln.pk_bit, Nat.testBit_mod_two_pow, Nat.testBit_mod_two_pow]
  have : decide (i < k + 1) = decide (i < k) := decide_eq_decide.2 (by omega)
  rw [this]
theorem low_end (l : Nat → Nat) (i : Nat) (hi : i < 8) : Ln.pk (fun n => l n % 2 ^ 8) i = Ln.pk l i := Ln.pk_low l i hi
theorem low_some : ∀ j : Nat, j < 5 → ((29 : Int) / 2 ^ j == 0) = false := by decide +kernel
theorem low_none : ((29 : Int) / 2 ^ 5 == 0) = true := by decide +kernel
theorem low_bit : ∀ j : Nat, j < 5 → (bits .and .u64 ((29 : Int) / 2 ^ j) 1 == 1) = Nat.testBit 29 j := by decide +kernel

set_option maxRecDepth 100000 in
set_option maxHeartbeats 2000000 in
theorem lreduce_calls (l r : Nat → Nat) (hl : ∀ n, n < 64 → l n < 32768) (hr : ∀ n, n < 64 → Gf.red (l n) = r n) (w : World) :
    Calls Tryz.prog 123 #[V15 l] w fun e w' => e = .returned (V8 r) ∧ Below w.heap.size w w' := by
  have HR : Hid (∀ i, i < 8 → Ln.pk r i = Ln.pk (fun n => Ln.dn (l n) 7) i) := fun i hi => by
    rw [← Ln.pk_low (fun n => Ln.dn (l n) 7) i hi]
    exact Ln.pk_same (fun n hn => by rw [Ln.dn_red _ (hl n hn), hr n hn]) i
  clear hl hr
  go_enter Tryz.func123, Tryz.ntmps123
  go_wp2
  go_step3
  go_wp2
  go_step3
  go_wp2
  go_loopg [3] 7 (fun g i wr => g ≤ 7 ∧ i = .int .i64 ((g : Int) + 7) ∧ Pl wr w.heap.size 15 (fun n => Ln.dn (l n) (7 - g)) ∧ Pl wr (w.heap.size + 1) 8 (fun _ => 0) ∧ Below w.heap.size w wr)
  case atStart => exact ⟨by omega, rfl, (pl_box15 w rfl l _).alloc _, pl_zero8 _ (by simp) _, ((Below.refl _ _).alloc (Nat.le_refl _) _).alloc (by simp) _⟩
  case round =>
    obtain ⟨hg, rfl, hL, hR, hB⟩ := hrel
    cases gk with
    | zero =>
      have HM : Hid (Pl wr w.heap.size 15 (fun n => Ln.dn (l n) 7) ∧ Pl wr (w.heap.size + 1) 8 (fun _ => 0) ∧ Below w.heap.size w wr) := ⟨hL, hR, hB⟩
      clear hL hR hB
      go_wp2
      obtain ⟨W, hW⟩ : ∃ W, wr.alloc (.cells #[.int .u64 0, .int .u64 0, .int .u64 0, .int .u64 0, .int .u64 0, .int .u64 0, .int .u64 0, .int .u64 0] 142) = W := ⟨_, rfl⟩
      have HN : Hid (Pl W w.heap.size 15 (fun n => Ln.dn (l n) 7) ∧ Pl W (w.heap.size + 1) 8 (fun _ => 0) ∧ Pl W wr.heap.size 8 (fun n => Ln.dn (l n) 7 % 2 ^ 0) ∧ Below w.heap.size w W ∧ w.heap.size + 1 < wr.heap.size) := by
        rw [← hW]
        exact ⟨HM.out.1.alloc _, HM.out.2.1.alloc _, (pl_zero8 _ rfl _).same (fun i _ => Ln.pk_same (fun n _ => by simp [Nat.mod_one]) i), HM.out.2.2.alloc HM.out.2.2.size _, HM.out.2.1.lt⟩
      rw [hW]
      clear hW HM
      obtain ⟨B, hBB⟩ : ∃ B, wr.heap.size = B := ⟨_, rfl⟩
      rw [hBB] at HN
      rw [hBB]
      clear hBB
      go_loopw [35] (fun i wr => ∃ k : Nat, k ≤ 8 ∧ i = .int .i64 (k : Int) ∧ Pl wr w.heap.size 15 (fun n => Ln.dn (l n) 7) ∧ Pl wr (w.heap.size + 1) 8 (fun _ => 0) ∧ Pl wr B 8 (fun n => Ln.dn (l n) 7 % 2 ^ k) ∧ Below w.heap.size w wr ∧ w.heap.size + 1 < B) (fun i _ => 8 - (intOf i).toNat)
      case atStart => exact ⟨0, by omega, rfl, HN.out⟩
      case round =>
        clear HN
        obtain ⟨k, hk, rfl, hL, hR, hP, hB, hlt2⟩ := hrel
        by_cases hlt : k < 8
        · have cL := hL.cell k (by omega)
          have cP := hP.cell k hlt
          have fP := hP.fz k
          have HS := hP.set (l' := fun n => Ln.dn (l n) 7 % 2 ^ (k + 1)) k _ hlt (low_step _ k) (fun i _ h => low_else _ k i h)
          obtain ⟨u, hu⟩ : ∃ u, Ln.pk (fun n => Ln.dn (l n) 7) k = u := ⟨_, rfl⟩
          rw [hu] at cL HS
          have HS2 : Hid (Pl (wr.setCell ⟨B, k, none⟩ (.int .u64 (u : Nat))) B 8 (fun n => Ln.dn (l n) 7 % 2 ^ (k + 1))) := HS
          have HM : Hid (Pl wr w.heap.size 15 (fun n => Ln.dn (l n) 7) ∧ Pl wr (w.heap.size + 1) 8 (fun _ => 0) ∧ Below w.heap.size w wr ∧ w.heap.size + 1 < B) := ⟨hL, hR, hB, hlt2⟩
          clear HS hu hL hR hP hB hlt2
          go_wp2
          go_roundw
          case rel =>
            have h2 := HM.out.2.2.2
            exact ⟨k + 1, by omega, by go_num, HM.out.1.other (by simp; omega) _, HM.out.2.1.other (by simp; omega) _, HS2.out, HM.out.2.2.1.setCell (p := ⟨B, k, none⟩) (by simp; omega) _, h2⟩
          case measure => simp [intOf]; omega
        · have e8 : k = 8 := by omega
          subst e8
          have hX : Pl wr B 8 r := hP.same (fun i hi => by rw [HR.out i hi]; exact (low_end _ i hi).symm)
          have c0 := hX.cell 0 (by decide)
          have c1 := hX.cell 1 (by decide)
          have c2 := hX.cell 2 (by decide)
          have c3 := hX.cell 3 (by decide)
          have c4 := hX.cell 4 (by decide)
          have c5 := hX.cell 5 (by decide)
          have c6 := hX.cell 6 (by decide)
          have c7 := hX.cell 7 (by decide)
          have r0 := hR.cell 0 (by decide)
          have r1 := hR.cell 1 (by decide)
          have r2 := hR.cell 2 (by decide)
          have r3 := hR.cell 3 (by decide)
          have r4 := hR.cell 4 (by decide)
          have r5 := hR.cell 5 (by decide)
          have r6 := hR.cell 6 (by decide)
          have r7 := hR.cell 7 (by decide)
          have f0 := hR.fz 0
          have f1 := hR.fz 1
          have f2 := hR.fz 2
          have f3 := hR.fz 3
          have f4 := hR.fz 4
          have f5 := hR.fz 5
          have f6 := hR.fz 6
          have f7 := hR.fz 7
          have HM : Hid (Pl wr (w.heap.size + 1) 8 (fun _ => 0) ∧ Below w.heap.size w wr) := ⟨hR, hB⟩
          clear hL hR hP hB hX hlt2
          go_wp2
          try rw [Exit.noGoto_ret]
          exact bodyPost_ret (results_cell Tryz.results123 rfl (load8 (HM.out.1.set8 r))) rfl ⟨rfl, below_set8 HM.out.2 (by omega) r⟩
    | succ m =>
      have HP : Hid (Pl wr w.heap.size 15 (fun n => Ln.dnI (Ln.dn (l n) (6 - m)) (m + 8) 0) ∧ Pl wr (w.heap.size + 1) 8 (fun _ => 0) ∧ Below w.heap.size w wr) := by
        refine ⟨hL.same (fun i _ => Ln.pk_same (fun n _ => ?_) i), hR, hB⟩
        rw [Ln.dnI_zero, show 7 - (m + 1) = 6 - m by omega]
      clear hL hR hB
      have ei : (((m + 1 : Nat) : Int) + 7) = (m : Int) + 8 := by omega
      rw [ei]
      clear ei
      go_wp2
      go_loopg [11] 5 (fun g i wx => ∃ j : Nat, j + g = 5 ∧ i = .int .i64 (j : Int) ∧ Pl wx w.heap.size 15 (fun n => Ln.dnI (Ln.dn (l n) (6 - m)) (m + 8) j) ∧ Pl wx (w.heap.size + 1) 8 (fun _ => 0) ∧ Below w.heap.size w wx)
      case atStart => exact ⟨0, by omega, rfl, HP.out⟩
      case round =>
        clear HP
        obtain ⟨j, hjg, rfl, hL, hR, hB⟩ := hrel
        by_cases hj : j < 5
        · have hs := low_some j hj
          have hb := low_bit j hj
          by_cases ht : Nat.testBit 29 j = true
          · rw [ht] at hb
            have cA := hL.cell (m + j) (by omega)
            have cH := hL.cell (m + 8) (by omega)
            have fA := hL.fz (m + j)
            have hst := Ln.dn_step (fun n => Ln.dn (l n) (6 - m)) (m + 8) j (by omega) hj ht
            rw [show m + 8 - 8 + j = m + j by omega] at hst
            have HS := hL.set (l' := fun n => Ln.dnI (Ln.dn (l n) (6 - m)) (m + 8) (j + 1)) (m + j) _ (by omega) hst (fun i _ h => Ln.dn_else (fun n => Ln.dn (l n) (6 - m)) (m + 8) j i (.inl (by omega)))
            have hx := u64_xor_nat _ _ (Ln.pk_lt (fun n => Ln.dnI (Ln.dn (l n) (6 - m)) (m + 8) j) (m + j)) (Ln.pk_lt (fun n => Ln.dnI (Ln.dn (l n) (6 - m)) (m + 8) j) (m + 8))
            obtain ⟨u, hu⟩ : ∃ u, Ln.pk (fun n => Ln.dnI (Ln.dn (l n) (6 - m)) (m + 8) j) (m + j) = u := ⟨_, rfl⟩
            obtain ⟨v, hv⟩ : ∃ v, Ln.pk (fun n => Ln.dnI (Ln.dn (l n) (6 - m)) (m + 8) j) (m + 8) = v := ⟨_, rfl⟩
            rw [hu, hv] at HS hx
            rw [hu] at cA
            rw [hv] at cH
            have HS2 : Hid (Pl (wr.setCell ⟨w.heap.size, m + j, none⟩ (.int .u64 ((u ^^^ v : Nat) : Int))) w.heap.size 15 (fun n => Ln.dnI (Ln.dn (l n) (6 - m)) (m + 8) (j + 1))) := HS
            have HM : Hid (Pl wr (w.heap.size + 1) 8 (fun _ => 0) ∧ Below w.heap.size w wr) := ⟨hR, hB⟩
            clear HS hu hv hst hL hR hB ht
            go_wp2
            go_region
            go_wp2
            go_roundg (gk - 1)
            case rel => exact ⟨j + 1, by omega, by go_num, HS2.out.drew, (HM.out.1.other (by simp) _).drew, (HM.out.2.setCell (p := ⟨w.heap.size, m + j, none⟩) (Nat.le_refl _) _).drew⟩
            case measure => omega
          · rw [Bool.not_eq_true] at ht
            rw [ht] at hb
            have HM : Hid (Pl wr w.heap.size 15 (fun n => Ln.dnI (Ln.dn (l n) (6 - m)) (m + 8) (j + 1)) ∧ Pl wr (w.heap.size + 1) 8 (fun _ => 0) ∧ Below w.heap.size w wr) :=
              ⟨hL.same (fun i _ => Ln.dn_else (fun n => Ln.dn (l n) (6 - m)) (m + 8) j i (.inr ht)), hR, hB⟩
            clear hL hR hB ht
            go_wp2
            go_roundg (gk - 1)
            case rel => exact ⟨j + 1, by omega, by go_num, HM.out⟩
            case measure => omega
        · have e5 : j = 5 := by omega
          subst e5
          have hs := low_none
          have HM : Hid (Pl wr w.heap.size 15 (fun n => Ln.dn (l n) (7 - m)) ∧ Pl wr (w.heap.size + 1) 8 (fun _ => 0) ∧ Below w.heap.size w wr) := by
            refine ⟨hL.same (fun i _ => Ln.pk_same (fun n _ => ?_) i), hR, hB⟩
            have := Ln.dnI_five (l n) (6 - m) (by omega)
            rw [show 14 - (6 - m) = m + 8 by omega, show 6 - m + 1 = 7 - m by omega] at this
            exact this.symm
          clear hL hR hB
          go_wp2
          go_roundg m
          case rel => exact ⟨by omega, by go_num, HM.out⟩
          case measure => omega
end Go.Proofs
