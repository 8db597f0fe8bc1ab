/- The walks of lanes.Unpack and Pack. Conditions: lanes are bytes. -/
import Derived.Test.YtphhehppcfddgaaGreatLnLane
import Derived.Test.YtphhehppcfddgaaGreatOwn
import Derived.Deep.LoopGhost
namespace Go.Proofs
open Go.RowKit Go.ChangeShapes Go.WideShapes

/-- The lanes as a list. -/
def ll (l : Nat → Nat) : List Nat := (List.range 64).map l
theorem ll_length (l : Nat → Nat) : (ll l).length = 64 := by simp [ll]
theorem ll_at (l : Nat → Nat) (i : Nat) : (ll l).getD i 0 = if i < 64 then l i else 0 := by
  unfold ll
  by_cases h : i < 64
  · simp [List.getD, h]
  · simp [List.getD, h]
theorem ll_byte (l : Nat → Nat) (hl : ∀ n, n < 64 → l n < 256) (i : Nat) : (ll l).getD i 0 < 256 := by
  rw [ll_at]; split
  · rename_i h; exact hl i h
  · decide
/-- The first k lanes, and noughts. -/
def lk (l : Nat → Nat) (k : Nat) : List Nat := (List.range k).map l ++ List.replicate (64 - k) 0
theorem lk_length (l : Nat → Nat) (k : Nat) (hk : k ≤ 64) : (lk l k).length = 64 := by simp [lk]; omega
theorem lk_zero (l : Nat → Nat) : lk l 0 = List.replicate 64 0 := by simp [lk]
theorem lk_all (l : Nat → Nat) : lk l 64 = ll l := by simp [lk, ll]
theorem lk_set (l : Nat → Nat) (k : Nat) (hk : k < 64) : (lk l k).set k (l k) = lk l (k + 1) := by
  apply List.ext_getElem?
  intro i
  by_cases hi : i < 64
  · rw [List.getElem?_set]
    by_cases e : k = i
    · subst e
      rw [if_pos rfl, if_pos (by rw [lk_length l k (by omega)]; exact hk)]
      simp [lk, List.getElem?_append]
    · rw [if_neg e]
      unfold lk
      rw [List.getElem?_append, List.getElem?_append]
      simp only [List.length_map, List.length_range, List.getElem?_map, List.getElem?_replicate]
      by_cases h1 : i < k
      · have h2 : i < k + 1 := by omega
        simp [h1, h2]
      · have h2 : ¬ i < k + 1 := by omega
        have h3 : i - k < 64 - k := by omega
        have h4 : i - (k + 1) < 64 - (k + 1) := by omega
        rw [if_neg h1, if_neg h2, if_pos h3, if_pos h4]
  · rw [List.getElem?_eq_none (by rw [List.length_set, lk_length l k (by omega)]; omega), List.getElem?_eq_none (by rw [lk_length l (k + 1) (by omega)]; omega)]

set_option maxRecDepth 100000 in
set_option maxHeartbeats 1000000 in
theorem lunpack_calls (l : Nat → Nat) (hl : ∀ n, n < 64 → l n < 256) (w : World) :
    Calls Tryz.prog 115 #[V8 l] w fun e w' => ∃ v, e = .returned v ∧ Ow w' w.heap.size v (ll l) ∧ Below w.heap.size w w' := by
  have HL : Hid (∀ n, n < 64 → l n < 256) := hl
  clear hl
  have hmk : ∀ w : World, (Instr.makeSlice 22 (.int .i64 64) (.int .i64 64)).run Tryz.prog w = .ok (.slice (some ⟨w.heap.size, 0, none⟩) 64 64) (w.alloc (.cells (madeCells #[.int .u8 0] 64) 5)) := make_bytes 64 (by decide)
  go_enter Tryz.func115, Tryz.ntmps115
  go_wp2
  clear hmk
  go_loopw [6] (fun i wr => ∃ k : Nat, k ≤ 64 ∧ i = .int .i64 (k : Int) ∧ Pl wr w.heap.size 8 l ∧ Ow wr (w.heap.size + 1) (.slice (some ⟨w.heap.size + 1, 0, none⟩) 64 64) (lk l k) ∧ Below w.heap.size w wr) (fun i _ => 64 - (intOf i).toNat)
  case atStart =>
    refine ⟨0, by omega, rfl, (pl_box w rfl l 142).alloc _, ?_, ((Below.refl _ _).alloc (Nat.le_refl _) _).alloc (by simp) _⟩
    have := ow_made (w.alloc (.cells #[.int .u64 (Ln.pk l 0 : Nat), .int .u64 (Ln.pk l 1 : Nat), .int .u64 (Ln.pk l 2 : Nat), .int .u64 (Ln.pk l 3 : Nat), .int .u64 (Ln.pk l 4 : Nat), .int .u64 (Ln.pk l 5 : Nat), .int .u64 (Ln.pk l 6 : Nat), .int .u64 (Ln.pk l 7 : Nat)] 142)) (base := w.heap.size + 1) (by simp) 64 (by decide)
    rw [lk_zero]
    simpa using this
  case round =>
    obtain ⟨k, hk, rfl, hL, hO, hB⟩ := hrel
    by_cases hlt : k < 64
    · have cc := hL
      have c0 := hL.cell 0 (by decide)
      have c1 := hL.cell 1 (by decide)
      have c2 := hL.cell 2 (by decide)
      have c3 := hL.cell 3 (by decide)
      have c4 := hL.cell 4 (by decide)
      have c5 := hL.cell 5 (by decide)
      have c6 := hL.cell 6 (by decide)
      have c7 := hL.cell 7 (by decide)
      clear cc
      have HM : Hid (Pl wr w.heap.size 8 l ∧ Ow wr (w.heap.size + 1) (.slice (some ⟨w.heap.size + 1, 0, none⟩) 64 64) (lk l k) ∧ Below w.heap.size w wr) := ⟨hL, hO, hB⟩
      clear hL hB hO
      go_wp2_with fail
      refine (llane_in l k hlt (HL.out k hlt) _).mono ?_
      rintro e w1 ⟨rfl, hb⟩
      clear c0 c1 c2 c3 c4 c5 c6 c7
      have HP : Hid (Pl w1 w.heap.size 8 l ∧ Below w.heap.size w w1) := ⟨HM.out.1.below hb, HM.out.2.2.trans (hb.mono HM.out.2.2.size)⟩
      have hO := HM.out.2.1.below hb
      clear hb HM
      have HO : Hid (Ow w1 (w.heap.size + 1) (.slice (some ⟨w.heap.size + 1, 0, none⟩) 64 64) (lk l k)) := hO
      obtain ⟨hc, hf⟩ := hO.at (by rw [lk_length l k hk]) k hlt
      clear hO
      go_wp2
      go_roundw
      case rel =>
        refine ⟨k + 1, by omega, by go_num, HP.out.1.other (by simp) _, ?_, HP.out.2.setCell (p := ⟨w.heap.size + 1, k, none⟩) (by simp) _⟩
        rw [← lk_set l k hlt]
        exact HO.out.set (by rw [lk_length l k hk]) k (l k)
      case measure => simp [intOf]; omega
    · have e8 : k = 64 := by omega
      subst e8
      have HM : Hid (Ow wr w.heap.size (.slice (some ⟨w.heap.size + 1, 0, none⟩) 64 64) (ll l) ∧ Below w.heap.size w wr) := ⟨by rw [← lk_all]; exact hO.mono (by omega), hB⟩
      clear hL hB hO
      go_wp2
      go_ret
      exact ⟨_, rfl, HM.out⟩

theorem byte_bit (x i : Nat) (hx : x < 256) : bits .and .u8 ((x : Int) / 2 ^ i) 1 = ((x / 2 ^ i % 2 : Nat) : Int) := by
  have h1 : x / 2 ^ i < 256 := Nat.lt_of_le_of_lt (Nat.div_le_self _ _) hx
  rw [cast_div_pow, show (1 : Int) = ((1 : Nat) : Int) from rfl, u8_and_nat _ _ h1 (by decide), Nat.and_one_is_mod]
set_option maxRecDepth 100000 in
set_option maxHeartbeats 1000000 in
theorem lpack_calls (q : Option Addr) (n c : Nat) (xs : List Nat) (l : Nat → Nat) (hl : ∀ k, k < 64 → xs.getD k 0 = l k) (w : World) (hs : Bs w q n xs) :
    Calls Tryz.prog 117 #[.slice q n c] w fun e w' => e = .returned (V8 l) ∧ Below w.heap.size w w' := by
  have hmax := hs.max
  have HS : Hid (Bs w q n xs) := hs
  have HL : Hid (∀ k, k < 64 → xs.getD k 0 = l k) := hl
  have H0 : Hid (∀ k, n ≤ k → xs.getD k 0 = 0) := fun k hk => by
    have := hs.len
    simp [List.getD, List.getElem?_eq_none (by omega : xs.length ≤ k)]
  clear hs hl
  rcases (by omega : n ≤ 64 ∨ 64 < n) with hcase | hcase
  all_goals
    go_enter Tryz.func117, Tryz.ntmps117
    go_wp2
    go_loopg [9] 64 (fun g i wr => ∃ k : Nat, k + g = 64 ∧ k ≤ n ∧ i = .int .i64 (k : Int) ∧ Pl wr w.heap.size 8 (fun _ => 0) ∧ Pl wr (w.heap.size + 1) 8 (Ln.packS l k 0) ∧ Below w.heap.size w wr)
    case atStart =>
      refine ⟨0, by omega, by omega, rfl, (pl_zero8 w rfl 142).alloc _, ?_, ((Below.refl _ _).alloc (Nat.le_refl _) _).alloc (by simp) _⟩
      exact (pl_zero8 _ (by simp) 142).same (fun i _ => by rw [Ln.pack_start, pk_zero])
    case round =>
      obtain ⟨k, hkg, hk, rfl, hR, hP, hB⟩ := hrel
      by_cases hlt : k < n ∧ k < 64
      · obtain ⟨hkn, hk64⟩ := hlt
        have a1 : (k : Int) < (n : Int) := by omega
        have a2 : (k : Int) < 64 := by omega
        obtain ⟨ad, rfl, hab, hce⟩ := HS.out.cell k hkn
        have hxk := HL.out k hk64
        have hlb : l k < 256 := by rw [← hxk]; exact HS.out.byte k
        rw [hxk] at hce
        clear hxk
        have HC : Hid (w.cell? (ad.add k) = some (.int .u8 (l k : Nat))) := hce
        have HA : Hid (ad.block < w.heap.size) := hab
        clear hce hab
        have HP : Hid (Pl wr w.heap.size 8 (fun _ => 0) ∧ Pl wr (w.heap.size + 1) 8 (Ln.packS l k 0) ∧ Below w.heap.size w wr) := ⟨hR, hP, hB⟩
        clear hR hP hB
        go_wp2
        go_loopw [12] (fun i wx => ∃ j : Nat, j ≤ 8 ∧ i = .int .i64 (j : Int) ∧ Pl wx w.heap.size 8 (fun _ => 0) ∧ Pl wx (w.heap.size + 1) 8 (Ln.packS l k j) ∧ Below w.heap.size w wx) (fun i _ => 8 - (intOf i).toNat)
        case atStart => exact ⟨0, by omega, rfl, HP.out⟩
        case round =>
          clear HP
          obtain ⟨j, hj8, rfl, hR, hP, hB⟩ := hrel
          by_cases hj : j < 8
          · have cX := (hB.cell (p := ad.add k) (by rw [block_add]; exact HA.out)).trans HC.out
            have cP := hP.cell j hj
            have fP := hP.fz j
            have hb := byte_bit (l k) j hlb
            have HS2 := hP.set (l' := Ln.packS l k (j + 1)) j _ hj (Ln.pack_step l k j hk64) (fun i _ h => Ln.pack_else l k j i h)
            have hpl := Ln.pk_lt (Ln.packS l k j) j
            obtain ⟨b, hbb⟩ : ∃ b, l k / 2 ^ j % 2 = b := ⟨_, rfl⟩
            have hb2 : b < 2 := by rw [← hbb]; exact Nat.mod_lt _ (by decide)
            rw [hbb] at hb HS2
            obtain ⟨u, hu⟩ : ∃ u, Ln.pk (Ln.packS l k j) j = u := ⟨_, rfl⟩
            rw [hu] at cP HS2 hpl
            have hsh : IntKind.u64.wrap ((b : Int) * 2 ^ k) = ((b * 2 ^ k : Nat) : Int) := by
              have hp : 2 ^ k ≤ 2 ^ 63 := Nat.pow_le_pow_right (by decide) (by omega)
              have e2 : ((b : Int) * 2 ^ k) = ((b * 2 ^ k : Nat) : Int) := by simp
              have hm : b * 2 ^ k ≤ 1 * 2 ^ 63 := Nat.mul_le_mul (by omega) hp
              rw [IntKind.wrap_u64, e2]
              omega
            have hor : bits .or .u64 (u : Int) (((b * 2 ^ k : Nat) : Int)) = ((u ||| b * 2 ^ k : Nat) : Int) := u64_or_nat _ _ hpl (by
              have hp : 2 ^ k ≤ 2 ^ 63 := Nat.pow_le_pow_right (by decide) (by omega)
              have hm : b * 2 ^ k ≤ 1 * 2 ^ 63 := Nat.mul_le_mul (by omega) hp
              omega)
            obtain ⟨s, hs⟩ : ∃ s, b * 2 ^ k = s := ⟨_, rfl⟩
            rw [hs] at hsh hor HS2
            have HP2 : Hid (Pl (wr.setCell ⟨w.heap.size + 1, j, none⟩ (.int .u64 ((u ||| s : Nat) : Int))) (w.heap.size + 1) 8 (Ln.packS l k (j + 1))) := HS2
            have HR2 : Hid (Pl wr w.heap.size 8 (fun _ => 0) ∧ Below w.heap.size w wr) := ⟨hR, hB⟩
            clear HS2 hs hu hbb hR hP hB hpl
            go_wp2
            go_region
            go_wp2
            go_roundw
            case rel => exact ⟨j + 1, by omega, by go_num, (HR2.out.1.other (by simp) _).drew, HP2.out.drew, (HR2.out.2.setCell (p := ⟨w.heap.size + 1, j, none⟩) (by simp) _).drew⟩
            case measure => simp [intOf]; omega
          · have e8 : j = 8 := by omega
            subst e8
            have HQ : Hid (Pl wr w.heap.size 8 (fun _ => 0) ∧ Pl wr (w.heap.size + 1) 8 (Ln.packS l (k + 1) 0) ∧ Below w.heap.size w wr) := ⟨hR, hP.same (fun i _ => (Ln.pack_next l k i hlb).symm), hB⟩
            clear hR hP hB
            go_wp2
            go_roundg (gk - 1)
            case rel => exact ⟨k + 1, by omega, by omega, by go_num, HQ.out⟩
            case measure => omega
      · have hX : Pl wr (w.heap.size + 1) 8 l := hP.same (fun i _ => (Ln.pack_end l k i (fun m h1 h2 => by
          rw [← HL.out m h2]
          exact H0.out m (by omega))).symm)
        have a3 : ¬ ((k : Int) < (n : Int) ∧ (k : Int) < 64) := by omega
        have c0 := hX.cell 0 (by decide)
        have c1 := hX.cell 1 (by decide)
        have c2 := hX.cell 2 (by decide)
        have c3 := hX.cell 3 (by decide)
        have c4 := hX.cell 4 (by decide)
        have c5 := hX.cell 5 (by decide)
        have c6 := hX.cell 6 (by decide)
        have c7 := hX.cell 7 (by decide)
        have r0 := hR.cell 0 (by decide)
        have r1 := hR.cell 1 (by decide)
        have r2 := hR.cell 2 (by decide)
        have r3 := hR.cell 3 (by decide)
        have r4 := hR.cell 4 (by decide)
        have r5 := hR.cell 5 (by decide)
        have r6 := hR.cell 6 (by decide)
        have r7 := hR.cell 7 (by decide)
        have f0 := hR.fz 0
        have f1 := hR.fz 1
        have f2 := hR.fz 2
        have f3 := hR.fz 3
        have f4 := hR.fz 4
        have f5 := hR.fz 5
        have f6 := hR.fz 6
        have f7 := hR.fz 7
        have HM : Hid (Pl wr w.heap.size 8 (fun _ => 0) ∧ Below w.heap.size w wr) := ⟨hR, hB⟩
        clear hP hR hB hX
        first
          | (have a4 : ¬ ((k : Int) < (n : Int)) := by omega)
          | (have a4 : ¬ ((k : Int) < 64) := by omega)
        clear a3 hlt
        go_wp2
        exact bodyPost_ret (results_cell Tryz.results117 rfl (load8 (HM.out.1.set8 l))) rfl ⟨rfl, below_set8 HM.out.2 (by omega) l⟩
end Go.Proofs
