/- The walks of the document's answers of layer 3 (erratumref03): Pack, Mul, Add, Scale. Conditions: lanes are bytes. -/
import Derived.Test.YtpldddapokdakaaRef03
import Derived.Deep.RegionHeld3
namespace Go.Proofs
open Go.RowKit Go.ChangeShapes Go.WideShapes

set_option maxRecDepth 100000 in
set_option maxHeartbeats 1000000 in
theorem rpack_calls (q : Option Addr) (n c : Nat) (xs : List Nat) (l : Nat → Nat) (hl : ∀ k, k < 64 → xs.getD k 0 = l k) (w : World) (hs : Bs w q n xs) :
    Calls Try.prog 12 #[.slice q n c] w fun e w' => e = .returned (V8 l) ∧ Below w.heap.size w w' := by
  have hmax := hs.max
  have HS : Hid (Bs w q n xs) := hs
  have HL : Hid (∀ k, k < 64 → xs.getD k 0 = l k) := hl
  have H0 : Hid (∀ k, n ≤ k → xs.getD k 0 = 0) := fun k hk => by
    have := hs.len
    simp [List.getD, List.getElem?_eq_none (by omega : xs.length ≤ k)]
  clear hs hl
  go_enter Try.func12, Try.ntmps12
  go_wp2
  go_loopg [4] 64 (fun g i wr => ∃ k : Nat, k + g = 64 ∧ k ≤ n ∧ i = .int .i64 (k : Int) ∧ Pl wr w.heap.size 8 (fun _ => 0) ∧ Pl wr (w.heap.size + 1) 8 (Ln.packS l k 0) ∧ Below w.heap.size w wr)
  case atStart =>
    refine ⟨0, by omega, by omega, rfl, (pl_zero8 w rfl 24).alloc _, ?_, ((Below.refl _ _).alloc (Nat.le_refl _) _).alloc (by simp) _⟩
    exact (pl_zero8 _ (by simp) 24).same (fun i _ => by rw [Ln.pack_start, pk_zero])
  case round =>
    obtain ⟨k, hkg, hk, rfl, hR, hP, hB⟩ := hrel
    by_cases hlt : k < n ∧ k < 64
    · obtain ⟨hkn, hk64⟩ := hlt
      have a1 : (k : Int) < (n : Int) := by omega
      have a2 : (k : Int) < 64 := by omega
      obtain ⟨ad, rfl, hab, hce⟩ := HS.out.cell k hkn
      have hxk := HL.out k hk64
      have hlb : l k < 256 := by rw [← hxk]; exact HS.out.byte k
      rw [hxk] at hce
      clear hxk
      have HC : Hid (w.cell? (ad.add k) = some (.int .u8 (l k : Nat))) := hce
      have HA : Hid (ad.block < w.heap.size) := hab
      clear hce hab
      have HP : Hid (Pl wr w.heap.size 8 (fun _ => 0) ∧ Pl wr (w.heap.size + 1) 8 (Ln.packS l k 0) ∧ Below w.heap.size w wr) := ⟨hR, hP, hB⟩
      clear hR hP hB
      go_wp2
      go_loopw [5] (fun i wx => ∃ j : Nat, j ≤ 8 ∧ i = .int .i64 (j : Int) ∧ Pl wx w.heap.size 8 (fun _ => 0) ∧ Pl wx (w.heap.size + 1) 8 (Ln.packS l k j) ∧ Below w.heap.size w wx) (fun i _ => 8 - (intOf i).toNat)
      case atStart => exact ⟨0, by omega, rfl, HP.out⟩
      case round =>
        clear HP
        obtain ⟨j, hj8, rfl, hR, hP, hB⟩ := hrel
        by_cases hj : j < 8
        · have cX := (hB.cell (p := ad.add k) (by rw [block_add]; exact HA.out)).trans HC.out
          have cP := hP.cell j hj
          have fP := hP.fz j
          have hbt := rl_bit (l k) j
          have hstep := Ln.pack_step l k j hk64
          have hp63 : 2 ^ k ≤ 2 ^ 63 := Nat.pow_le_pow_right (by decide) (by omega)
          have e2 : ((2 : Int) ^ k) = ((2 ^ k : Nat) : Int) := by simp
          by_cases ht : (l k).testBit j = true
          · rw [show l k / 2 ^ j % 2 = 1 by rw [Nat.testBit_eq_decide_div_mod_eq] at ht; simpa using ht, Nat.one_mul] at hstep
            rw [ht] at hbt
            have HS2 := hP.set (l' := Ln.packS l k (j + 1)) j _ hj hstep (fun i _ h => Ln.pack_else l k j i h)
            have hpl := Ln.pk_lt (Ln.packS l k j) j
            have hor := u64_or_nat _ (2 ^ k) hpl (by omega)
            obtain ⟨u, hu⟩ : ∃ u, Ln.pk (Ln.packS l k j) j = u := ⟨_, rfl⟩
            rw [hu] at cP HS2 hor
            obtain ⟨s, hs⟩ : ∃ s, 2 ^ k = s := ⟨_, rfl⟩
            rw [hs] at hor HS2 e2 hp63
            have hsh : IntKind.u64.wrap ((2 : Int) ^ k) = (s : Int) := by rw [IntKind.wrap_u64, e2]; omega
            have HP2 : Hid (Pl (wr.setCell ⟨w.heap.size + 1, j, none⟩ (.int .u64 ((u ||| s : Nat) : Int))) (w.heap.size + 1) 8 (Ln.packS l k (j + 1))) := HS2
            have HR2 : Hid (Pl wr w.heap.size 8 (fun _ => 0) ∧ Below w.heap.size w wr) := ⟨hR, hB⟩
            clear HS2 hs hu hR hP hB hpl ht e2 hp63 hstep
            go_wp2
            go_roundw
            case rel => exact ⟨j + 1, by omega, by go_num, HR2.out.1.other (by simp) _, HP2.out, HR2.out.2.setCell (p := ⟨w.heap.size + 1, j, none⟩) (by simp) _⟩
            case measure => simp [intOf]; omega
          · rw [Bool.not_eq_true] at ht
            rw [show l k / 2 ^ j % 2 = 0 by rw [Nat.testBit_eq_decide_div_mod_eq] at ht; simpa using ht, Nat.zero_mul, Nat.or_zero] at hstep
            rw [ht] at hbt
            have HQ : Hid (Pl wr w.heap.size 8 (fun _ => 0) ∧ Pl wr (w.heap.size + 1) 8 (Ln.packS l k (j + 1)) ∧ Below w.heap.size w wr) := ⟨hR, hP.same (fun i _ => by
              by_cases e : i = j
              · rw [e]; exact hstep
              · exact Ln.pack_else l k j i e), hB⟩
            clear hR hP hB ht e2 hp63 hstep cP fP
            go_wp2
            go_roundw
            case rel => exact ⟨j + 1, by omega, by go_num, HQ.out⟩
            case measure => simp [intOf]; omega
        · have e8 : j = 8 := by omega
          subst e8
          have HQ : Hid (Pl wr w.heap.size 8 (fun _ => 0) ∧ Pl wr (w.heap.size + 1) 8 (Ln.packS l (k + 1) 0) ∧ Below w.heap.size w wr) := ⟨hR, hP.same (fun i _ => (Ln.pack_next l k i hlb).symm), hB⟩
          clear hR hP hB
          go_wp2
          go_roundg (gk - 1)
          case rel => exact ⟨k + 1, by omega, by omega, by go_num, HQ.out⟩
          case measure => omega
    · have hX : Pl wr (w.heap.size + 1) 8 l := hP.same (fun i _ => (Ln.pack_end l k i (fun m h1 h2 => by
        rw [← HL.out m h2]
        exact H0.out m (by omega))).symm)
      have HM : Hid (Pl wr w.heap.size 8 (fun _ => 0) ∧ Below w.heap.size w wr) := ⟨hR, hB⟩
      have c0 := hX.cell 0 (by decide)
      have c1 := hX.cell 1 (by decide)
      have c2 := hX.cell 2 (by decide)
      have c3 := hX.cell 3 (by decide)
      have c4 := hX.cell 4 (by decide)
      have c5 := hX.cell 5 (by decide)
      have c6 := hX.cell 6 (by decide)
      have c7 := hX.cell 7 (by decide)
      have r0 := hR.cell 0 (by decide)
      have r1 := hR.cell 1 (by decide)
      have r2 := hR.cell 2 (by decide)
      have r3 := hR.cell 3 (by decide)
      have r4 := hR.cell 4 (by decide)
      have r5 := hR.cell 5 (by decide)
      have r6 := hR.cell 6 (by decide)
      have r7 := hR.cell 7 (by decide)
      have f0 := hR.fz 0
      have f1 := hR.fz 1
      have f2 := hR.fz 2
      have f3 := hR.fz 3
      have f4 := hR.fz 4
      have f5 := hR.fz 5
      have f6 := hR.fz 6
      have f7 := hR.fz 7
      clear hP hR hB hX
      by_cases hkn : k < n
      · have a4 : (k : Int) < (n : Int) := by omega
        have a5 : ¬ ((k : Int) < 64) := by omega
        clear hlt
        go_wp2
        exact bodyPost_ret (results_cell Try.results12 rfl (load8 (HM.out.1.set8 l))) rfl ⟨rfl, below_set8 HM.out.2 (by omega) l⟩
      · have a4 : ¬ ((k : Int) < (n : Int)) := by omega
        clear hlt
        go_wp2
        exact bodyPost_ret (results_cell Try.results12 rfl (load8 (HM.out.1.set8 l))) rfl ⟨rfl, below_set8 HM.out.2 (by omega) l⟩
end Go.Proofs
