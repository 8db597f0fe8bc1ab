/- The walks of the document's answers of layer 3 (erratumref03): Lane, Unpack, Pack. Conditions: lanes are bytes. -/
import Derived.Test.YtpldddapokdakaaLnPack
import Derived.Test.YtpldddapokdakaaRefMul
namespace Go.Proofs
open Go.RowKit Go.ChangeShapes Go.WideShapes

theorem rl_bit (x n : Nat) : (((x : Int) / 2 ^ n).tmod 2 == 1) = x.testBit n := RefMul.bit_rem x n
theorem rl_or (a k : Nat) (hk : k < 8) (hb : a.testBit k = true) : bits .or .u8 ((a : Int) % 2 ^ k) (2 ^ k % 256) = ((a % 2 ^ (k + 1) : Nat) : Int) := by
  have h := byte_or_bit a k hk true
  rw [mod_step, hb]
  simpa using h
abbrev C8 (l : Nat → Nat) : Obj := .cells #[.int .u64 (Ln.pk l 0 : Nat), .int .u64 (Ln.pk l 1 : Nat), .int .u64 (Ln.pk l 2 : Nat), .int .u64 (Ln.pk l 3 : Nat), .int .u64 (Ln.pk l 4 : Nat), .int .u64 (Ln.pk l 5 : Nat), .int .u64 (Ln.pk l 6 : Nat), .int .u64 (Ln.pk l 7 : Nat)] 24
set_option maxRecDepth 100000 in
set_option maxHeartbeats 1000000 in
theorem rlane_at (l : Nat → Nat) (n : Nat) (hn : n < 64) (hl : l n < 256) (w : World) :
    Calls Try.prog 22 #[V8 l, .int .i64 (n : Int)] w fun e w' => e = .returned (.int .u8 (l n : Nat)) ∧ w' = w.alloc (C8 l) := by
  have hL := pl_box w rfl l 24
  go_enter Try.func22, Try.ntmps22
  have HL : Hid (Pl (w.alloc (C8 l)) w.heap.size 8 l) := hL
  clear hL
  go_wp2
  go_loopw [5, 6] (fun b i wr => ∃ k : Nat, k ≤ 8 ∧ i = .int .i64 (k : Int) ∧ b = .int .u8 (l n % 2 ^ k : Nat) ∧ wr = w.alloc (C8 l)) (fun _ i _ => 8 - (intOf i).toNat)
  case atStart => exact ⟨0, by omega, rfl, by simp [Nat.mod_one], rfl⟩
  case round =>
    obtain ⟨k, hk, rfl, rfl, hwr⟩ := hrel
    have hL : Pl wr w.heap.size 8 l := by rw [hwr]; exact HL.out
    have HW : Hid (wr = w.alloc (C8 l)) := hwr
    clear hwr
    by_cases hlt : k < 8
    · have cL := hL.cell k hlt
      clear hL
      have hbt := rl_bit (Ln.pk l k) n
      rw [Ln.pk_bit, show decide (n < 64) = true by simp [hn], Bool.true_and] at hbt
      by_cases ht : (l n).testBit k = true
      · have HR := rl_or (l n) k hlt ht
        rw [ht] at hbt
        clear ht
        go_wp2
        go_roundw
        case rel => exact ⟨k + 1, by omega, by go_num, rfl, HW.out⟩
        case measure => simp [intOf]; omega
      · rw [Bool.not_eq_true] at ht
        have HR : Hid (l n % 2 ^ (k + 1) = l n % 2 ^ k) := by
          show _ = _
          rw [mod_step, ht]; simp
        rw [ht] at hbt
        clear ht
        go_wp2
        go_roundw
        case rel => exact ⟨k + 1, by omega, by go_num, by rw [HR.out]; rfl, HW.out⟩
        case measure => simp [intOf]; omega
    · have e8 : k = 8 := by omega
      subst e8
      have hr : l n % 2 ^ 8 = l n := Nat.mod_eq_of_lt hl
      rw [hr]
      clear hr hL
      go_wp2
      go_ret
      exact ⟨rfl, HW.out⟩
theorem rlane_in (l : Nat → Nat) (n : Nat) (hn : n < 64) (hl : l n < 256) (w : World) :
    Calls Try.prog 22 #[V8 l, .int .i64 (n : Int)] w fun e w' => e = .returned (.int .u8 (l n : Nat)) ∧ Below w.heap.size w w' :=
  (rlane_at l n hn hl w).mono fun e w' ⟨h1, h2⟩ => ⟨h1, by rw [h2]; exact (Below.refl _ _).alloc (Nat.le_refl _) _⟩
theorem rlane_out (l : Nat → Nat) (n : Int) (hn : n < 0 ∨ 64 ≤ n) (w : World) :
    Calls Try.prog 22 #[V8 l, .int .i64 n] w fun e w' => e = .returned (.int .u8 0) ∧ Below w.heap.size w w' := by
  rcases hn with h | h
  · have h0 : ¬ (0 ≤ n) := by omega
    go_enter Try.func22, Try.ntmps22
    go_wp2
    go_loopw [5, 6] (fun b i wr => b = .int .u8 0 ∧ i = .int .i64 0 ∧ Below w.heap.size w wr) (fun _ _ _ => 0)
    case atStart => exact ⟨rfl, rfl, (Below.refl _ _).alloc (Nat.le_refl _) _⟩
    case round =>
      obtain ⟨rfl, rfl, hB⟩ := hrel
      go_wp2
      go_ret
      exact ⟨rfl, hB⟩
  · have h0 : ¬ n < 64 := by omega
    have h1 : 0 ≤ n := by omega
    go_enter Try.func22, Try.ntmps22
    go_wp2
    go_loopw [5, 6] (fun b i wr => b = .int .u8 0 ∧ i = .int .i64 0 ∧ Below w.heap.size w wr) (fun _ _ _ => 0)
    case atStart => exact ⟨rfl, rfl, (Below.refl _ _).alloc (Nat.le_refl _) _⟩
    case round =>
      obtain ⟨rfl, rfl, hB⟩ := hrel
      go_wp2
      go_ret
      exact ⟨rfl, hB⟩

/-- The first k lanes. -/
def lt (l : Nat → Nat) (k : Nat) : List Nat := (List.range k).map l
theorem lt_length (l : Nat → Nat) (k : Nat) : (lt l k).length = k := by simp [lt]
theorem lt_next (l : Nat → Nat) (k : Nat) : lt l (k + 1) = lt l k ++ [l k] := by simp [lt, List.range_succ]
set_option maxRecDepth 100000 in
set_option maxHeartbeats 1000000 in
theorem runpack_calls (l : Nat → Nat) (hl : ∀ n, n < 64 → l n < 256) (w : World) :
    Calls Try.prog 21 #[V8 l] w fun e w' => ∃ v, e = .returned v ∧ Ow w' w.heap.size v (ll l) ∧ Below w.heap.size w w' := by
  have HL : Hid (∀ n, n < 64 → l n < 256) := hl
  clear hl
  go_enter Try.func21, Try.ntmps21
  go_wp2
  go_loopw [3, 4] (fun v i wr => ∃ k : Nat, k ≤ 64 ∧ i = .int .i64 (k : Int) ∧ Pl wr w.heap.size 8 l ∧ Ow wr (w.heap.size + 1) v (lt l k) ∧ Below w.heap.size w wr) (fun _ i _ => 64 - (intOf i).toNat)
  case atStart => exact ⟨0, by omega, rfl, pl_box w rfl l 24, ow_nil _ _, (Below.refl _ _).alloc (Nat.le_refl _) _⟩
  case round =>
    obtain ⟨k, hk, rfl, hL, hO, hB⟩ := hrel
    by_cases hlt : k < 64
    · have cc := hL
      have c0 := hL.cell 0 (by decide)
      have c1 := hL.cell 1 (by decide)
      have c2 := hL.cell 2 (by decide)
      have c3 := hL.cell 3 (by decide)
      have c4 := hL.cell 4 (by decide)
      have c5 := hL.cell 5 (by decide)
      have c6 := hL.cell 6 (by decide)
      have c7 := hL.cell 7 (by decide)
      clear cc
      have HM : Hid (Pl wr w.heap.size 8 l ∧ Ow wr (w.heap.size + 1) u3 (lt l k) ∧ Below w.heap.size w wr) := ⟨hL, hO, hB⟩
      clear hL hB hO
      go_wp2_with fail
      refine (rlane_in l k hlt (HL.out k hlt) _).mono ?_
      rintro e w1 ⟨rfl, hb⟩
      clear c0 c1 c2 c3 c4 c5 c6 c7
      have hO1 := HM.out.2.1.below hb
      have hB1 := HM.out.2.2.trans (hb.mono HM.out.2.2.size)
      have hL1 := HM.out.1.below hb
      have hlen : (lt l k).length ≤ 1000000000 := by rw [lt_length]; omega
      have hsz : w.heap.size + 1 ≤ w1.heap.size := by have := hL1.lt; omega
      have HN : Hid (Pl w1 w.heap.size 8 l ∧ Below w.heap.size w w1) := ⟨hL1, hB1⟩
      have HO : Hid (Ow w1 (w.heap.size + 1) u3 (lt l k)) := hO1
      clear hb HM hO1 hB1 hL1
      go_wp2_with (at_builtin; refine wpList_push _ (by rfl) _ _ (by rfl) (w.heap.size + 1) u3 (lt l k) (l k) (by rfl) (by rfl) HO.out hlen hsz ?_; intro v' w2 ho hbb)
      go_roundw
      case rel =>
        have h2 := hbb (w.heap.size + 1) (Nat.le_refl _)
        refine ⟨k + 1, by omega, by go_num, ?_, by rw [lt_next]; exact ho, HN.out.2.trans (hbb _ (by omega))⟩
        exact ⟨Nat.lt_of_lt_of_le HN.out.1.lt h2.size, fun i hi => (World.cell?_of_block (w := w1) (a := ⟨w.heap.size, i, none⟩) (h2.block _ (by simp))).trans (HN.out.1.cell i hi), fun i => (World.frozen?_of_block (w := w1) (a := ⟨w.heap.size, i, none⟩) (h2.block _ (by simp))).trans (HN.out.1.fz i)⟩
      case measure => simp [intOf]; omega
    · have e8 : k = 64 := by omega
      subst e8
      have HM : Hid (Ow wr w.heap.size u3 (ll l) ∧ Below w.heap.size w wr) := ⟨hO.mono (by omega), hB⟩
      clear hL hB hO
      go_wp2
      go_ret
      exact ⟨_, rfl, HM.out⟩
end Go.Proofs
