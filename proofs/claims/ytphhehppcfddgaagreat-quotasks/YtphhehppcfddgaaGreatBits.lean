/- The walk of shift.bits and of its iterator: each bit of a number, from bit 0 up to the greatest that is 1. Condition: the number is a uint. -/
import Derived.RangeFuncNested
import Derived.RangeFuncBound
import Derived.RangeFuncCalls
import Derived.RangeFuncLeaves
import Derived.Shelf.Abstract
import Derived.Shelf.RegionOpen
import Derived.WalkKit
import Derived.OwnWalkIn
import Derived.TacticsInMore
import Derived.LoopNIn
import Derived.LoopIn
import Derived.Test.YtphhehppcfddgaaGreatProg
import Derived.Test.YtphhehppcfddgaaGreatGf
namespace Go.Proofs
open Go.RowKit Go.Shelf
attribute [local go_sem] Oper.semAt_some

theorem cell_new_l (W : World) (v : Value) (t : TypeId) : (W.alloc (.cells #[v] t)).cell? ⟨W.heap.size, 0, none⟩ = some v ∧ (W.alloc (.cells #[v] t)).frozen? ⟨W.heap.size, 0, none⟩ = false := by simp
theorem cell_alloc_l {W : World} {a : Addr} {v : Value} (o : Obj) (h : W.cell? a = some v) : (W.alloc o).cell? a = some v := cell_kept h (World.grownBy_alloc W o none) (fun r e => by cases e)
theorem frozen_alloc_l {W : World} {a : Addr} {v : Value} (o : Obj) (h : W.cell? a = some v) (hf : W.frozen? a = false) : (W.alloc o).frozen? a = false := (frozen_kept h (World.grownBy_alloc W o none) (fun r e => by cases e)).trans hf

/-- A round keeps what the cell of block B holds. -/
def KeepsCell (B : Nat) (W W' : World) : Prop := ∀ v, W.cell? ⟨B, 0, none⟩ = some v → W'.cell? ⟨B, 0, none⟩ = some v
theorem keepsCell_t {B : Nat} {X Y Z : World} (h : KeepsCell B X Y) (k : KeepsCell B Y Z) : KeepsCell B X Z := fun v e => k v (h v e)
theorem keepsCell_b {B : Nat} (W : World) (l : Nat) (o o' : Obj) (hl : W.heap[l]? = some o) (ho : o.isCells = false) : KeepsCell B W (W.putObj l o') :=
  fun _ h => cell_kept h (grownBy_putObj' W l o') (fun r e => by cases e; exact ⟨o, hl, ho⟩)
theorem KeepsCell.refl (B : Nat) (W : World) : KeepsCell B W W := fun _ h => h
theorem KeepsCell.alloc {B : Nat} {W W' : World} (h : KeepsCell B W W') (o : Obj) : KeepsCell B W (W'.alloc o) := fun v e => cell_alloc_l o (h v e)
theorem KeepsCell.setCell {B b : Nat} {o : Nat} {W W' : World} (h : KeepsCell B W W') (hb : b ≠ B) (v : Value) : KeepsCell B W (W'.setCell ⟨b, o, none⟩ v) :=
  fun u e => (World.cell?_setCell_other _ _ _ _ (by intro c; cases c; exact hb rfl)).trans (h u e)
theorem KeepsCell.drew {B : Nat} {W W' : World} (h : KeepsCell B W W') : KeepsCell B W W'.drew := fun v e => by simpa using h v e
theorem KeepsCell.below {B n : Nat} {W W' W'' : World} (h : KeepsCell B W W') (hb : Below n W' W'') (hn : B < n) : KeepsCell B W W'' :=
  fun v e => (hb.cell (p := ⟨B, 0, none⟩) hn).trans (h v e)

namespace Bits
abbrev Bit := Fin 64 × Bool
abbrev encs (x : Bit) : Array Value := #[.int .i64 ((x.1.val : Nat) : Int), .bool x.2]
/-- The first k bits of n. -/
def upto (n : Nat) : Nat → List Bit
  | 0 => []
  | k + 1 => upto n k ++ [(⟨k % 64, Nat.mod_lt _ (by decide)⟩, n.testBit k)]
theorem upto_length (n k : Nat) : (upto n k).length = k := by
  induction k with
  | zero => rfl
  | succ k ih => simp [upto, ih]
theorem bit_and (n k : Nat) (hn : n < 18446744073709551616) : (bits .and .u64 ((n : Int) / 2 ^ k) 1 == 1) = n.testBit k := by
  have e : ((n : Int) / 2 ^ k) = ((n / 2 ^ k : Nat) : Int) := by simp
  rw [e]
  have h := u64_and_nat (n / 2 ^ k) 1 (Nat.lt_of_le_of_lt (Nat.div_le_self _ _) hn) (by decide)
  rw [show ((1 : Nat) : Int) = 1 from rfl] at h
  rw [h, Nat.and_one_is_mod, Nat.testBit_eq_decide_div_mod_eq, Bool.eq_iff_iff]
  simp
  omega
theorem none_left (n k : Nat) : ((n : Int) / 2 ^ k != 0) = (n / 2 ^ k != 0) := by
  have e : ((n : Int) / 2 ^ k) = ((n / 2 ^ k : Nat) : Int) := by simp
  rw [e, Bool.eq_iff_iff]
  simp only [bne_iff_ne]
  omega
end Bits

set_option maxHeartbeats 1000000 in
theorem bits1_stops (n : Nat) (hn : 1 ≤ n) (Bn x : Nat) (hx : x < 18446744073709551616) (w : World) (hb : Bn < w.heap.size)
    (hc : w.cell? ⟨Bn, 0, none⟩ = some (.int .u64 x)) :
    SeqStopsK Fence.wide n Tryz.prog 80 #[.pointer (some ⟨Bn, 0, none⟩)] Bits.encs (KeepsCell Bn) (fun xs => ∃ k, k ≤ 64 ∧ xs = Bits.upto x k ∧ x / 2 ^ k = 0) (fun _ => True) 64 w :=
  fun l J Jx W hW hJ hJx hY h0 => by
  have hcW : W.cell? ⟨Bn, 0, none⟩ = some (.int .u64 x) := (hW.cell (p := ⟨Bn, 0, none⟩) hb).trans hc
  clear hc hW
  refine callsIn_of_wp Tryz.func80 rfl trivial ?_ rfl
  simp only [Tryz.ntmps80, List.size_toArray, List.length_cons, List.length_nil, Nat.reduceAdd, Nat.reduceSub, Array.replicate_succ, Array.replicate_zero, List.push_toArray, List.append_toArray, List.nil_append, List.cons_append]
  gi_wp2
  gi_loopw [3] (fun i wr => ∃ k : Nat, k ≤ 64 ∧ i = .int .i64 (k : Int) ∧ J (Bits.upto x k) wr ∧ wr.cell? ⟨Bn, 0, none⟩ = some (.int .u64 x))
    (fun i _ => 64 - (intOf i).toNat)
  case atStart =>
    exact ⟨0, by omega, rfl, h0, hcW⟩
  case round =>
    obtain ⟨k, hk, rfl, hJs, hcs⟩ := hrel
    have h1 := Bits.none_left x k
    have h2 := Bits.bit_and x k hx
    by_cases hz : x / 2 ^ k = 0
    · have h3 : ((x : Int) / 2 ^ k != 0) = false := by rw [h1]; simp [hz]
      clear h1 h2
      gi_wp2
      go_end0
      exact ⟨⟨_, rfl⟩, .inl ⟨_, ⟨k, hk, rfl, hz⟩, hJs⟩⟩
    · have h3 : ((x : Int) / 2 ^ k != 0) = true := by rw [h1]; simp [hz]
      have hk64 : k < 64 := by
        rcases Nat.lt_or_ge k 64 with h | h
        · exact h
        · exact absurd (Nat.div_eq_of_lt (Nat.lt_of_lt_of_le hx (Nat.pow_le_pow_right (by decide : 0 < 2) h : 2 ^ 64 ≤ 2 ^ k))) hz
      clear h1
      obtain ⟨fn, tmps, assign, body, hy, hR⟩ := hY (Bits.upto x k) (⟨k, hk64⟩, x.testBit k) wr hJs (by rw [Bits.upto_length]; exact hk64)
      dsimp only [Bits.encs] at hy
      have eu : Bits.upto x (k + 1) = Bits.upto x k ++ [(⟨k, hk64⟩, x.testBit k)] := by
        simp [Bits.upto, Nat.mod_eq_of_lt hk64]
      rw [← eu] at hR
      clear eu hY
      gi_wp2
      refine hR.mono ?_
      rintro e W3 (⟨rfl, hJ3, hk3⟩ | ⟨rfl, hJx3⟩)
      · have hc3 : W3.cell? ⟨Bn, 0, none⟩ = some (.int .u64 x) := hk3 _ hcs
        gi_wp2
        go_roundw
        case rel => exact ⟨k + 1, by omega, by go_num, hJ3, hc3⟩
        case measure => simp [intOf]; omega
      · gi_wp2
        refine bodyPost_ret (results_none rfl _ _ _) rfl ?_
        exact ⟨⟨_, rfl⟩, .inr ⟨_, trivial, hJx3⟩⟩

/-- bits: a closure over a new box that holds the number. -/
theorem bits_calls (n x : Nat) (w : World) :
    CallsIn Fence.wide n Tryz.prog 75 #[.int .u64 x] w fun e w' => e = .returned (.func (.func 80) #[] #[.pointer (some ⟨w.heap.size, 0, none⟩)]) ∧ w.alloc (.cells #[.int .u64 x] 82) = w' := by
  refine callsIn_of_wp Tryz.func75 rfl trivial ?_ rfl
  simp only [Tryz.ntmps75, List.size_toArray, List.length_cons, List.length_nil, Nat.reduceAdd, Nat.reduceSub, Array.replicate_succ, Array.replicate_zero, List.push_toArray, List.append_toArray, List.nil_append, List.cons_append]
  gi_wp2
  go_ret
  exact ⟨rfl, rfl⟩
end Go.Proofs
