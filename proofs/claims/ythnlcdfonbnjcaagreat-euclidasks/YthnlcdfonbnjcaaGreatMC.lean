/- Texts laid together: Bits, Wide, Reduce, Power, Pow, ShE, Ref01. Each says its own conditions. -/
import Derived.RangeFuncNested
import Derived.RangeFuncBound
import Derived.RangeFuncCalls
import Derived.RangeFuncLeaves
import Derived.Shelf.Abstract
import Derived.Shelf.RegionOpen
import Derived.WalkKit
import Derived.OwnWalkIn
import Derived.TacticsInMore
import Derived.LoopNIn
import Derived.LoopIn
import Derived.Test.YthnlcdfonbnjcaaGreatProg
import Derived.Laws.EntriesVeiled
import Derived.Test.YthnlcdfonbnjcaaGreatMA
/- The walk of shift.bits and of its iterator: each bit of a number, from bit 0 up to the greatest that is 1. Condition: the number is a uint. -/
namespace Go.Proofs
open Go.RowKit Go.Shelf
attribute [local go_sem] Oper.semAt_some

theorem cell_new_l (W : World) (v : Value) (t : TypeId) : (W.alloc (.cells #[v] t)).cell? ⟨W.heap.size, 0, none⟩ = some v ∧ (W.alloc (.cells #[v] t)).frozen? ⟨W.heap.size, 0, none⟩ = false := by simp
theorem cell_alloc_l {W : World} {a : Addr} {v : Value} (o : Obj) (h : W.cell? a = some v) : (W.alloc o).cell? a = some v := cell_kept h (World.grownBy_alloc W o none) (fun r e => by cases e)
theorem frozen_alloc_l {W : World} {a : Addr} {v : Value} (o : Obj) (h : W.cell? a = some v) (hf : W.frozen? a = false) : (W.alloc o).frozen? a = false := (frozen_kept h (World.grownBy_alloc W o none) (fun r e => by cases e)).trans hf

/-- A round keeps what the cell of block B holds. -/
def KeepsCell (B : Nat) (W W' : World) : Prop := ∀ v, W.cell? ⟨B, 0, none⟩ = some v → W'.cell? ⟨B, 0, none⟩ = some v
theorem keepsCell_t {B : Nat} {X Y Z : World} (h : KeepsCell B X Y) (k : KeepsCell B Y Z) : KeepsCell B X Z := fun v e => k v (h v e)
theorem keepsCell_b {B : Nat} (W : World) (l : Nat) (o o' : Obj) (hl : W.heap[l]? = some o) (ho : o.isCells = false) : KeepsCell B W (W.putObj l o') :=
  fun _ h => cell_kept h (grownBy_putObj' W l o') (fun r e => by cases e; exact ⟨o, hl, ho⟩)
theorem KeepsCell.refl (B : Nat) (W : World) : KeepsCell B W W := fun _ h => h
theorem KeepsCell.alloc {B : Nat} {W W' : World} (h : KeepsCell B W W') (o : Obj) : KeepsCell B W (W'.alloc o) := fun v e => cell_alloc_l o (h v e)
theorem KeepsCell.setCell {B b : Nat} {o : Nat} {W W' : World} (h : KeepsCell B W W') (hb : b ≠ B) (v : Value) : KeepsCell B W (W'.setCell ⟨b, o, none⟩ v) :=
  fun u e => (World.cell?_setCell_other _ _ _ _ (by intro c; cases c; exact hb rfl)).trans (h u e)
theorem KeepsCell.drew {B : Nat} {W W' : World} (h : KeepsCell B W W') : KeepsCell B W W'.drew := fun v e => by simpa using h v e
theorem KeepsCell.below {B n : Nat} {W W' W'' : World} (h : KeepsCell B W W') (hb : Below n W' W'') (hn : B < n) : KeepsCell B W W'' :=
  fun v e => (hb.cell (p := ⟨B, 0, none⟩) hn).trans (h v e)

namespace Bits
abbrev Bit := Fin 64 × Bool
abbrev encs (x : Bit) : Array Value := #[.int .i64 ((x.1.val : Nat) : Int), .bool x.2]
/-- The first k bits of n. -/
def upto (n : Nat) : Nat → List Bit
  | 0 => []
  | k + 1 => upto n k ++ [(⟨k % 64, Nat.mod_lt _ (by decide)⟩, n.testBit k)]
theorem upto_length (n k : Nat) : (upto n k).length = k := by
  induction k with
  | zero => rfl
  | succ k ih => simp [upto, ih]
theorem bit_and (n k : Nat) (hn : n < 18446744073709551616) : (bits .and .u64 ((n : Int) / 2 ^ k) 1 == 1) = n.testBit k := by
  have e : ((n : Int) / 2 ^ k) = ((n / 2 ^ k : Nat) : Int) := by simp
  rw [e]
  have h := u64_and_nat (n / 2 ^ k) 1 (Nat.lt_of_le_of_lt (Nat.div_le_self _ _) hn) (by decide)
  rw [show ((1 : Nat) : Int) = 1 from rfl] at h
  rw [h, Nat.and_one_is_mod, Nat.testBit_eq_decide_div_mod_eq, Bool.eq_iff_iff]
  simp
  omega
theorem none_left (n k : Nat) : ((n : Int) / 2 ^ k != 0) = (n / 2 ^ k != 0) := by
  have e : ((n : Int) / 2 ^ k) = ((n / 2 ^ k : Nat) : Int) := by simp
  rw [e, Bool.eq_iff_iff]
  simp only [bne_iff_ne]
  omega
end Bits

set_option maxHeartbeats 1000000 in
theorem bits1_stops (n : Nat) (hn : 1 ≤ n) (Bn x : Nat) (hx : x < 18446744073709551616) (w : World) (hb : Bn < w.heap.size)
    (hc : w.cell? ⟨Bn, 0, none⟩ = some (.int .u64 x)) :
    SeqStopsK Fence.wide n Tryz.prog 101 #[.pointer (some ⟨Bn, 0, none⟩)] Bits.encs (KeepsCell Bn) (fun xs => ∃ k, k ≤ 64 ∧ xs = Bits.upto x k ∧ x / 2 ^ k = 0) (fun _ => True) 64 w :=
  fun l J Jx W hW hJ hJx hY h0 => by
  have hcW : W.cell? ⟨Bn, 0, none⟩ = some (.int .u64 x) := (hW.cell (p := ⟨Bn, 0, none⟩) hb).trans hc
  clear hc hW
  refine callsIn_of_wp Tryz.func101 rfl trivial ?_ rfl
  simp only [Tryz.ntmps101, List.size_toArray, List.length_cons, List.length_nil, Nat.reduceAdd, Nat.reduceSub, Array.replicate_succ, Array.replicate_zero, List.push_toArray, List.append_toArray, List.nil_append, List.cons_append]
  gi_wp2
  gi_loopw [3] (fun i wr => ∃ k : Nat, k ≤ 64 ∧ i = .int .i64 (k : Int) ∧ J (Bits.upto x k) wr ∧ wr.cell? ⟨Bn, 0, none⟩ = some (.int .u64 x))
    (fun i _ => 64 - (intOf i).toNat)
  case atStart =>
    exact ⟨0, by omega, rfl, h0, hcW⟩
  case round =>
    obtain ⟨k, hk, rfl, hJs, hcs⟩ := hrel
    have h1 := Bits.none_left x k
    have h2 := Bits.bit_and x k hx
    by_cases hz : x / 2 ^ k = 0
    · have h3 : ((x : Int) / 2 ^ k != 0) = false := by rw [h1]; simp [hz]
      clear h1 h2
      gi_wp2
      go_end0
      exact ⟨⟨_, rfl⟩, .inl ⟨_, ⟨k, hk, rfl, hz⟩, hJs⟩⟩
    · have h3 : ((x : Int) / 2 ^ k != 0) = true := by rw [h1]; simp [hz]
      have hk64 : k < 64 := by
        rcases Nat.lt_or_ge k 64 with h | h
        · exact h
        · exact absurd (Nat.div_eq_of_lt (Nat.lt_of_lt_of_le hx (Nat.pow_le_pow_right (by decide : 0 < 2) h : 2 ^ 64 ≤ 2 ^ k))) hz
      clear h1
      obtain ⟨fn, tmps, assign, body, hy, hR⟩ := hY (Bits.upto x k) (⟨k, hk64⟩, x.testBit k) wr hJs (by rw [Bits.upto_length]; exact hk64)
      dsimp only [Bits.encs] at hy
      have eu : Bits.upto x (k + 1) = Bits.upto x k ++ [(⟨k, hk64⟩, x.testBit k)] := by
        simp [Bits.upto, Nat.mod_eq_of_lt hk64]
      rw [← eu] at hR
      clear eu hY
      gi_wp2
      refine hR.mono ?_
      rintro e W3 (⟨rfl, hJ3, hk3⟩ | ⟨rfl, hJx3⟩)
      · have hc3 : W3.cell? ⟨Bn, 0, none⟩ = some (.int .u64 x) := hk3 _ hcs
        gi_wp2
        go_roundw
        case rel => exact ⟨k + 1, by omega, by go_num, hJ3, hc3⟩
        case measure => simp [intOf]; omega
      · gi_wp2
        refine bodyPost_ret (results_none rfl _ _ _) rfl ?_
        exact ⟨⟨_, rfl⟩, .inr ⟨_, trivial, hJx3⟩⟩

/-- bits: a closure over a new box that holds the number. -/
theorem bits_calls (n x : Nat) (w : World) :
    CallsIn Fence.wide n Tryz.prog 96 #[.int .u64 x] w fun e w' => e = .returned (.func (.func 101) #[] #[.pointer (some ⟨w.heap.size, 0, none⟩)]) ∧ w.alloc (.cells #[.int .u64 x] 112) = w' := by
  refine callsIn_of_wp Tryz.func96 rfl trivial ?_ rfl
  simp only [Tryz.ntmps96, List.size_toArray, List.length_cons, List.length_nil, Nat.reduceAdd, Nat.reduceSub, Array.replicate_succ, Array.replicate_zero, List.push_toArray, List.append_toArray, List.nil_append, List.cons_append]
  gi_wp2
  go_ret
  exact ⟨rfl, rfl⟩
end Go.Proofs
/- The walk of shift.Wide: a product without carries; nothing that lay before the call is changed. Condition: both are bytes. -/
namespace Go.Proofs
open Go.RowKit Go.Shelf
attribute [local go_sem] Oper.semAt_some

namespace Bits
/-- What the rounds of Wide add up. -/
def widF (a : Nat) (l : List Bit) : Nat := l.foldl (fun w x => if x.2 then w ^^^ (a * 2 ^ min x.1.val 16 % 65536) else w) 0
theorem widF_snoc (a : Nat) (l : List Bit) (x : Bit) : widF a (l ++ [x]) = if x.2 then widF a l ^^^ (a * 2 ^ min x.1.val 16 % 65536) else widF a l := by simp [widF]
theorem widF_lt (a : Nat) (l : List Bit) : widF a l < 65536 := by
  suffices h : ∀ (l : List Bit) (s : Nat), s < 65536 → l.foldl (fun w x => if x.2 then w ^^^ (a * 2 ^ min x.1.val 16 % 65536) else w) s < 65536 from h l 0 (by decide)
  intro l
  induction l with
  | nil => exact fun s hs => hs
  | cons x l ih =>
    intro s hs
    refine ih _ ?_
    dsimp only
    split
    · exact Gf.xor_lt16 hs (Nat.mod_lt _ (by decide))
    · exact hs
theorem widF_upto (a b k : Nat) (ha : a < 256) (h8 : k ≤ 8) : widF a (upto b k) = Gf.wideK a b k := by
  induction k with
  | zero => rfl
  | succ k ih =>
    have e1 : k % 64 = k := Nat.mod_eq_of_lt (by omega)
    have e2 : min k 16 = k := by omega
    have e3 : a * 2 ^ k % 65536 = a * 2 ^ k := by
      refine Nat.mod_eq_of_lt ?_
      have : (2 : Nat) ^ k ≤ 2 ^ 8 := Nat.pow_le_pow_right (by decide) (by omega)
      have := Nat.mul_le_mul (Nat.le_of_lt_succ ha) this
      omega
    rw [upto, widF_snoc, ih (by omega)]
    simp only [e1, e2, e3, Gf.wideK]
theorem wideK_more (a b k : Nat) (hk : b / 2 ^ k = 0) (j : Nat) : Gf.wideK a b (k + j) = Gf.wideK a b k := by
  induction j with
  | zero => rfl
  | succ j ih =>
    have hb : b < 2 ^ k := by
      have := Nat.div_add_mod b (2 ^ k)
      rw [hk] at this
      have := Nat.mod_lt b (Nat.two_pow_pos k)
      omega
    have ht : b.testBit (k + j) = false := Nat.testBit_lt_two_pow (Nat.lt_of_lt_of_le hb (Nat.pow_le_pow_right (by decide) (by omega)))
    rw [← Nat.add_assoc, Gf.wideK, ht]
    simpa using ih
theorem widF_zero (a b k : Nat) (j : Nat) (hb : b < 2 ^ k) : widF a (upto b (k + j)) = widF a (upto b k) := by
  induction j with
  | zero => rfl
  | succ j ih =>
    have ht : b.testBit (k + j) = false := Nat.testBit_lt_two_pow (Nat.lt_of_lt_of_le hb (Nat.pow_le_pow_right (by decide) (by omega)))
    rw [← Nat.add_assoc, upto, widF_snoc, ht]
    simpa using ih
theorem widF_all (a b k : Nat) (ha : a < 256) (hb : b < 256) (h : b / 2 ^ k = 0) : widF a (upto b k) = Gf.wide a b := by
  rcases Nat.le_total k 8 with h8 | h8
  · rw [widF_upto a b k ha h8]
    have := wideK_more a b k h (8 - k)
    rw [show k + (8 - k) = 8 by omega] at this
    exact this.symm
  · obtain ⟨j, rfl⟩ := Nat.exists_eq_add_of_le h8
    rw [widF_zero a b 8 j hb, widF_upto a b 8 ha (Nat.le_refl _)]; rfl
theorem wide_step (s a i : Nat) (hs : s < 65536) (ha : a < 256) : bits .xor .u16 (s : Int) (IntKind.u16.wrap (IntKind.u16.wrap (a : Int) * 2 ^ min i 16)) = ((s ^^^ (a * 2 ^ min i 16 % 65536) : Nat) : Int) := by
  have e0 : IntKind.u16.wrap (a : Int) = a := by rw [IntKind.wrap_u16]; omega
  have e : IntKind.u16.wrap (IntKind.u16.wrap (a : Int) * 2 ^ min i 16) = ((a * 2 ^ min i 16 % 65536 : Nat) : Int) := by
    rw [e0, IntKind.wrap_u16]; simp
  rw [e]
  exact u16_xor_nat _ _ hs (Nat.mod_lt _ (by decide))
end Bits

set_option maxRecDepth 100000 in
set_option maxHeartbeats 2000000 in
theorem wide_in (n : Nat) (hn : 3 ≤ n) (a b : Nat) (ha : a < 256) (hb : b < 256) (w : World) :
    CallsIn Fence.wide n Tryz.prog 90 #[.int .u8 a, .int .u8 b] w fun e w' => e = .returned (.int .u16 (Gf.wide a b)) ∧ Below w.heap.size w w' := by
  refine callsIn_of_wp_marks Tryz.func90 rfl trivial ?_ rfl
  simp only [Tryz.ntmps90, List.size_toArray, List.length_cons, List.length_nil, Nat.reduceAdd, Nat.reduceSub, Array.replicate_succ, Array.replicate_zero, List.push_toArray, List.append_toArray, List.nil_append, List.cons_append]
  have hfn : ∀ f, Fence.wide.fn f := fun _ => trivial
  have hn1 : 1 ≤ n := by omega
  gi_wp2_with (gi_at_call 96; refine (bits_calls (n - 1) b _).mono ?_; rintro e w' ⟨rfl, rfl⟩)
  have c0 := cell_new_l w (.int .u8 (a : Int)) 5
  have c1 := cell_new_l (w.alloc (.cells #[.int .u8 (a : Int)] 5)) (.int .u16 0) 83
  have c2 := cell_new_l ((w.alloc (.cells #[.int .u8 (a : Int)] 5)).alloc (.cells #[.int .u16 0] 83)) (.int .u64 (b : Int)) 112
  simp only [World.size_alloc] at c1 c2
  have hB0 : Below w.heap.size w (((w.alloc (.cells #[.int .u8 (a : Int)] 5)).alloc (.cells #[.int .u16 0] 83)).alloc (.cells #[.int .u64 (b : Int)] 112)) := (((Below.refl _ w).alloc (Nat.le_refl _) _).alloc (by simp) _).alloc (by simp; omega) _
  refine wpIn_rangeFunc_ownF rfl hn1 (gf := 101) (lb := #[.pointer (some ⟨w.heap.size + 1 + 1, 0, none⟩)]) rfl trivial (enters_of Tryz.func101 (by kernel_rfl) rfl)
    (bits1_stops (n - 1) (by omega) (w.heap.size + 1 + 1) b (by omega) _ (by simp) c2.1) keepsCell_t (fun W l o o' _ h1 h2 _ => keepsCell_b W l o o' h1 h2) (Below.refl _ _) (fun _ => rfl)
    (fun pre W => (W.cell? ⟨w.heap.size, 0, none⟩ = some (.int .u8 (a : Int)) ∧ W.cell? ⟨w.heap.size + 1, 0, none⟩ = some (.int .u16 (Bits.widF a pre)) ∧ W.frozen? ⟨w.heap.size + 1, 0, none⟩ = false) ∧ Below w.heap.size w W)
    (fun _ _ _ => False)
    (OwnFrom.and (Own.from (fun s A B row hs hg hr => ⟨cell_kept hs.1 hg hr, cell_kept hs.2.1 hg hr, (frozen_kept hs.2.1 hg hr).trans hs.2.2⟩) _) (ownFrom_below (Nat.le_refl _) (by simp; omega)))
    (fun _ _ _ _ _ hs _ _ => hs)
    ⟨⟨cell_alloc_l _ (cell_alloc_l _ c0.1), cell_alloc_l _ c1.1, frozen_alloc_l _ c1.1 c1.2⟩, hB0⟩
    (fun x => { tmps := #[.int .u8 a, .int .u8 b, .pointer (some ⟨w.heap.size, 0, none⟩), undef, .int .u16 0, .pointer (some ⟨w.heap.size + 1, 0, none⟩), .int .i64 x.1.val, .bool x.2, .int .u8 b, .int .u64 b, .func (.func 101) #[] #[.pointer (some ⟨w.heap.size + 1 + 1, 0, none⟩)], .int .i64 x.1.val, .bool x.2, undef, undef, undef, undef, undef, undef, undef, undef], defers := [] }) ?assign ?body ?done ?stop
  case assign =>
    intro l x W K hK
    gi_wp2
    exact hK
  case body =>
    rintro l pre x W ⟨⟨hca, hcw, hfw⟩, hB⟩ _
    clear c0 c1 c2 hB0
    have hl := Bits.widF_lt a pre
    have hst := Bits.wide_step (Bits.widF a pre) a x.1.val hl ha
    have hsn := Bits.widF_snoc a pre x
    obtain ⟨⟨i, hi⟩, one⟩ := x
    have hmx : Tryz.prog.follows .mixedOrders = true := by kernel_rfl
    cases one
    · replace hsn : Bits.widF a (pre ++ [(⟨i, hi⟩, false)]) = Bits.widF a pre := by simpa using hsn
      gi_wp2
      refine ⟨KeepsOthers.refl _, KeepsCell.refl _ _, ⟨hca, ?_, hfw⟩, hB⟩
      rw [hsn]; exact hcw
    · replace hsn : Bits.widF a (pre ++ [(⟨i, hi⟩, true)]) = Bits.widF a pre ^^^ a * 2 ^ min i 16 % 65536 := by simpa using hsn
      have HS : Hid (Bits.widF a (pre ++ [(⟨i, hi⟩, true)]) = Bits.widF a pre ^^^ a * 2 ^ min i 16 % 65536) := hsn
      clear hsn
      gi_wp2
      gi_region_o
      all_goals gi_wp2
      all_goals
        refine ⟨(KeepsOthers.setCell _ _ _).trans (KeepsOthers.drew _), ((KeepsCell.refl _ W).setCell (by omega) _).drew, ⟨?_, ?_, ?_⟩, (hB.setCell (p := ⟨w.heap.size + 1, 0, none⟩) (by simp) _).drew⟩
        · rw [cell_drew_own]; exact (World.cell?_setCell_other _ _ _ _ (by simp)).trans hca
        · rw [cell_drew_own, HS.out]
          exact World.cell?_setCell_same' _ _ _ (by rw [hcw]; rfl)
        · rw [frozen_drew_own, World.frozen?_setCell]; exact hfw
  case done =>
    rintro D ys W hD hS ⟨⟨hca, hcw, hfw⟩, hB⟩ hK
    obtain ⟨k, hk, rfl, hz⟩ := hS
    rw [Bits.widF_all a b k ha hb hz] at hcw
    gi_wp2
    refine ⟨by simp, .inl ⟨_, _, rfl, run_takeDeferred hK, ?_⟩⟩
    exact ⟨_, results_tmp rfl _ _ _, rfl, hB.trans (belowK_b (w := w) (Nat.le_refl _) W D _ _ (by simp at hD; omega) hK rfl rfl)⟩
  case stop =>
    rintro D c pre W _ _ h _
    exact h.elim
end Go.Proofs
/- The walks of shift.Reduce and shift.Mul: what is left modulo 11D, and a product of bytes. Conditions: a uint16; bytes. -/
namespace Go.Proofs
open Go.RowKit Go.Shelf

theorem div_cast (x k : Nat) : ((x : Int) / 2 ^ k) = ((x / 2 ^ k : Nat) : Int) := by simp
theorem test16 (x k : Nat) (hx : x < 65536) : (bits .and .u16 ((x : Int) / 2 ^ k) 1 == 1) = x.testBit k := by
  rw [div_cast]
  have h := u16_and_nat (x / 2 ^ k) 1 (Nat.lt_of_le_of_lt (Nat.div_le_self _ _) hx) (by decide)
  rw [show ((1 : Nat) : Int) = 1 from rfl] at h
  rw [h, Nat.and_one_is_mod, Nat.testBit_eq_decide_div_mod_eq]
  generalize x / 2 ^ k = y
  rcases Nat.mod_two_eq_zero_or_one y with e | e <;> rw [e] <;> rfl
theorem xor285 (x j : Nat) (hx : x < 65536) (hj : j ≤ 7) : bits .xor .u16 (x : Int) (IntKind.u16.wrap (285 * 2 ^ j)) = ((x ^^^ 285 * 2 ^ j : Nat) : Int) := by
  have hp : 2 ^ j ≤ 2 ^ 7 := Nat.pow_le_pow_right (by decide) hj
  have e : IntKind.u16.wrap (285 * 2 ^ j) = ((285 * 2 ^ j : Nat) : Int) := by
    have e2 : (285 * 2 ^ j : Int) = ((285 * 2 ^ j : Nat) : Int) := by simp
    rw [IntKind.wrap_u16, e2]
    omega
  rw [e]
  exact u16_xor_nat _ _ hx (by omega)

set_option maxHeartbeats 1000000 in
theorem reduce_calls (x : Nat) (hx : x < 65536) (w : World) :
    Calls Tryz.prog 89 #[.int .u16 x] w fun e w' => e = .returned (.int .u8 (Gf.red x)) ∧ w' = w := by
  go_enter Tryz.func89, Tryz.ntmps89
  go_wp2
  go_loop [0, 5] (fun s i => ∃ k : Nat, k ≤ 8 ∧ i = .int .i64 (k : Int) ∧ s = .int .u16 (Gf.redK x k)) (fun _ i => 8 - (intOf i).toNat)
  case atStart => exact ⟨0, by omega, rfl, rfl⟩
  case round =>
    obtain ⟨k, hk, rfl, rfl⟩ := hrel
    have hl : Gf.redK x k < 65536 := Nat.lt_of_lt_of_le (Gf.redK_lt x hx k hk) (Nat.pow_le_pow_right (by decide : 0 < 2) (by omega) : 2 ^ (16 - k) ≤ 2 ^ 16)
    by_cases hlt : k < 8
    · have ht := test16 (Gf.redK x k) (8 + (7 - k)) hl
      have hxr := xor285 (Gf.redK x k) (7 - k) hl (by omega)
      have hst : Gf.redK x (k + 1) = if (Gf.redK x k).testBit (15 - k) then Gf.redK x k ^^^ (285 * 2 ^ (7 - k)) else Gf.redK x k := rfl
      rw [show 15 - k = 8 + (7 - k) by omega] at hst
      by_cases hb : (Gf.redK x k).testBit (8 + (7 - k)) = true
      · rw [if_pos hb] at hst
        rw [hb] at ht
        have HS : Hid (Gf.redK x (k + 1) = Gf.redK x k ^^^ (285 * 2 ^ (7 - k))) := hst
        clear hst hb
        go_wp2
        go_round
        case rel => exact ⟨k + 1, by omega, by go_num, by rw [HS.out]⟩
        case measure => simp [intOf]; omega
      · rw [if_neg hb] at hst
        rw [Bool.not_eq_true] at hb
        rw [hb] at ht
        have HS : Hid (Gf.redK x (k + 1) = Gf.redK x k) := hst
        clear hst hb hxr
        go_wp2
        go_round
        case rel => exact ⟨k + 1, by omega, by go_num, by rw [HS.out]⟩
        case measure => simp [intOf]; omega
    · have e8 : k = 8 := by omega
      subst e8
      have hr : ((Gf.redK x 8 : Nat) : Int) % 256 = (Gf.red x : Nat) := by
        have := Gf.red_lt x hx
        show ((Gf.red x : Nat) : Int) % 256 = _
        omega
      go_wp2
      go_ret
      exact ⟨rfl, rfl⟩

theorem wide_calls (a b : Nat) (ha : a < 256) (hb : b < 256) (w : World) :
    Calls Tryz.prog 90 #[.int .u8 a, .int .u8 b] w fun e w' => e = .returned (.int .u16 (Gf.wide a b)) ∧ Below w.heap.size w w' :=
  (callsIn_wide (n := 3)).1 (wide_in 3 (by omega) a b ha hb w)

set_option maxHeartbeats 400000 in
theorem mul_calls (a b : Nat) (ha : a < 256) (hb : b < 256) (w : World) :
    Calls Tryz.prog 85 #[.int .u8 a, .int .u8 b] w fun e w' => e = .returned (.int .u8 (Gf.mul a b)) ∧ Below w.heap.size w w' := by
  have hw := Gf.wide_lt a b ha
  go_enter Tryz.func85, Tryz.ntmps85
  go_wp2_with (first | (go_at_call 90; refine (wide_calls a b ha hb _).mono ?_; rintro e w1 ⟨rfl, hb1⟩) | (go_at_call 89; refine (reduce_calls (Gf.wide a b) (by omega) _).mono ?_; rintro e w2 ⟨rfl, rfl⟩))
  go_ret
  exact ⟨rfl, hb1⟩
end Go.Proofs
/- The walks of shift.squares, its closure, shift.power, shift.Inv and shift.Pow. Conditions: bytes; an int. -/
namespace Go.Proofs
open Go.RowKit Go.Shelf
attribute [local go_sem] Oper.semAt_some

theorem keepsOthers_below {W W' : World} (h : Below W.heap.size W W') : KeepsOthers W W' :=
  ⟨h.size, fun k _ hk _ => (h.block k (Array.getElem?_eq_some_iff.1 hk).1).trans hk⟩

namespace Bits
/-- The square that is next, and the product so far. -/
def st (a : Nat) (l : List Bit) : Nat × Nat := l.foldl (fun s x => (Gf.mul s.1 s.1, if x.2 then Gf.mul s.2 s.1 else s.2)) (a, 1)
theorem st_snoc (a : Nat) (l : List Bit) (x : Bit) : st a (l ++ [x]) = (Gf.mul (st a l).1 (st a l).1, if x.2 then Gf.mul (st a l).2 (st a l).1 else (st a l).2) := by simp [st]
theorem st_lt (a : Nat) (l : List Bit) (ha : a < 256) : (st a l).1 < 256 ∧ (st a l).2 < 256 := by
  suffices h : ∀ (l : List Bit) (s : Nat × Nat), s.1 < 256 → s.2 < 256 → (l.foldl (fun s x => (Gf.mul s.1 s.1, if x.2 then Gf.mul s.2 s.1 else s.2)) s).1 < 256 ∧ (l.foldl (fun s (x : Bit) => (Gf.mul s.1 s.1, if x.2 then Gf.mul s.2 s.1 else s.2)) s).2 < 256 from h l (a, 1) ha (by decide : 1 < 256)
  intro l
  induction l with
  | nil => exact fun s h1 h2 => ⟨h1, h2⟩
  | cons x l ih =>
    intro s h1 h2
    refine ih _ (Gf.mul_lt _ _ h1) ?_
    dsimp only
    split
    · exact Gf.mul_lt _ _ h2
    · exact h2
theorem st_upto (a n k : Nat) (ha : a < 256) : (st a (upto n k)).1 = Gf.pow a (2 ^ k) ∧ (st a (upto n k)).2 = Gf.pow a (n % 2 ^ k) := by
  induction k with
  | zero => exact ⟨(Gf.pow_one a ha).symm, by rw [Nat.pow_zero, Nat.mod_one]; rfl⟩
  | succ k ih =>
    rw [upto, st_snoc]
    refine ⟨?_, ?_⟩
    · show Gf.mul (st a (upto n k)).1 (st a (upto n k)).1 = _
      rw [ih.1, ← Gf.pow_add a _ _ ha, ← Nat.two_mul, Nat.pow_succ, Nat.mul_comm]
    · show (if n.testBit k then Gf.mul (st a (upto n k)).2 (st a (upto n k)).1 else (st a (upto n k)).2) = _
      rw [ih.1, ih.2, Nat.mod_pow_succ, Nat.testBit_eq_decide_div_mod_eq]
      rcases Nat.mod_two_eq_zero_or_one (n / 2 ^ k) with e | e
      · simp [e]
      · simp only [e, decide_true, if_true, Nat.mul_one]
        exact (Gf.pow_add a _ _ ha).symm
theorem st_all (a n k : Nat) (ha : a < 256) (h : n / 2 ^ k = 0) : (st a (upto n k)).2 = Gf.pow a n := by
  rw [(st_upto a n k ha).2]
  have : n % 2 ^ k = n := by
    have := Nat.div_add_mod n (2 ^ k)
    rw [h] at this
    omega
  rw [this]
end Bits

theorem squares_calls (a : Nat) (w : World) :
    Calls Tryz.prog 126 #[.int .u8 a] w fun e w' => e = .returned (.func (.func 127) #[] #[.pointer (some ⟨w.heap.size, 0, none⟩)]) ∧ w.alloc (.cells #[.int .u8 a] 5) = w' := by
  go_enter Tryz.func126, Tryz.ntmps126
  go_wp2
  go_ret
  exact ⟨rfl, rfl⟩

set_option maxHeartbeats 400000 in
theorem squares1_calls (B s : Nat) (hs : s < 256) (w : World) (hB : B < w.heap.size) (hc : w.cell? ⟨B, 0, none⟩ = some (.int .u8 s)) (hf : w.frozen? ⟨B, 0, none⟩ = false) :
    Calls Tryz.prog 127 #[.pointer (some ⟨B, 0, none⟩)] w fun e w' => e = .returned (.int .u8 s) ∧ ∃ w1, Below w.heap.size w w1 ∧ w' = w1.setCell ⟨B, 0, none⟩ (.int .u8 (Gf.mul s s)) := by
  go_enter Tryz.func127, Tryz.ntmps127
  go_wp2_with (go_at_call 85; refine (mul_calls s s hs hs _).mono ?_; rintro e w1 ⟨rfl, hb1⟩; have hc1 := (hb1.cell (p := ⟨B, 0, none⟩) hB).trans hc; have hf1 := (hb1.frozen (p := ⟨B, 0, none⟩) hB).trans hf)
  go_ret
  exact ⟨rfl, w1, hb1, rfl⟩

theorem KeepsCell.of_below {B : Nat} {W W' : World} (h : Below W.heap.size W W') : KeepsCell B W W' :=
  fun _ e => (h.cell (p := ⟨B, 0, none⟩) (World.block_lt_of_cell? _ _ e)).trans e
/-- What power's three boxes hold. -/
def PowI (s : Nat) (cl : Value) (x p : Nat) (W : World) : Prop :=
  W.cell? ⟨s, 0, none⟩ = some (.int .u8 x) ∧ W.frozen? ⟨s, 0, none⟩ = false ∧ W.cell? ⟨s + 1, 0, none⟩ = some cl ∧ W.cell? ⟨s + 1 + 1, 0, none⟩ = some (.int .u8 p) ∧ W.frozen? ⟨s + 1 + 1, 0, none⟩ = false
theorem PowI.below {s : Nat} {cl : Value} {x p : Nat} {W W' : World} (h : PowI s cl x p W) (hb : Below W.heap.size W W') : PowI s cl x p W' := by
  obtain ⟨h1, h2, h3, h4, h5⟩ := h
  have b1 := World.block_lt_of_cell? _ _ h1
  have b3 := World.block_lt_of_cell? _ _ h3
  have b4 := World.block_lt_of_cell? _ _ h4
  exact ⟨(hb.cell (p := ⟨s, 0, none⟩) b1).trans h1, (hb.frozen (p := ⟨s, 0, none⟩) b1).trans h2, (hb.cell (p := ⟨s + 1, 0, none⟩) b3).trans h3, (hb.cell (p := ⟨s + 1 + 1, 0, none⟩) b4).trans h4, (hb.frozen (p := ⟨s + 1 + 1, 0, none⟩) b4).trans h5⟩
theorem PowI.set0 {s : Nat} {cl : Value} {x p : Nat} {W : World} (h : PowI s cl x p W) (y : Nat) : PowI s cl y p (W.setCell ⟨s, 0, none⟩ (.int .u8 y)) := by
  obtain ⟨h1, h2, h3, h4, h5⟩ := h
  exact ⟨World.cell?_setCell_same' _ _ _ (by rw [h1]; rfl), by rw [World.frozen?_setCell]; exact h2, (World.cell?_setCell_other _ _ _ _ (by simp)).trans h3, (World.cell?_setCell_other _ _ _ _ (by simp)).trans h4, by rw [World.frozen?_setCell]; exact h5⟩
theorem PowI.set2 {s : Nat} {cl : Value} {x p : Nat} {W : World} (h : PowI s cl x p W) (y : Nat) : PowI s cl x y (W.setCell ⟨s + 1 + 1, 0, none⟩ (.int .u8 y)) := by
  obtain ⟨h1, h2, h3, h4, h5⟩ := h
  exact ⟨(World.cell?_setCell_other _ _ _ _ (by simp)).trans h1, by rw [World.frozen?_setCell]; exact h2, (World.cell?_setCell_other _ _ _ _ (by simp)).trans h3, World.cell?_setCell_same' _ _ _ (by rw [h4]; rfl), by rw [World.frozen?_setCell]; exact h5⟩
theorem powI_own (s : Nat) (cl : Value) (f : List Bits.Bit → Nat × Nat) : Own (fun pre W => PowI s cl (f pre).1 (f pre).2 W) :=
  fun _ _ _ _ hs hg hr => ⟨cell_kept hs.1 hg hr, (frozen_kept hs.1 hg hr).trans hs.2.1, cell_kept hs.2.2.1 hg hr, cell_kept hs.2.2.2.1 hg hr, (frozen_kept hs.2.2.2.1 hg hr).trans hs.2.2.2.2⟩

set_option maxRecDepth 100000 in
set_option maxHeartbeats 2000000 in
theorem power_in (n : Nat) (hn : 3 ≤ n) (a m : Nat) (ha : a < 256) (hm : m < 18446744073709551616) (w : World) :
    CallsIn Fence.wide n Tryz.prog 125 #[.int .u8 a, .int .u64 m] w fun e w' => e = .returned (.int .u8 (Gf.pow a m)) ∧ Below w.heap.size w w' := by
  refine callsIn_of_wp_marks Tryz.func125 rfl trivial ?_ rfl
  simp only [Tryz.ntmps125, List.size_toArray, List.length_cons, List.length_nil, Nat.reduceAdd, Nat.reduceSub, Array.replicate_succ, Array.replicate_zero, List.push_toArray, List.append_toArray, List.nil_append, List.cons_append]
  have hfn : ∀ f, Fence.wide.fn f := fun _ => trivial
  have hn1 : 1 ≤ n := by omega
  gi_wp2_with (first | (gi_at_call 96; refine (bits_calls (n - 1) m _).mono ?_; rintro e w' ⟨rfl, rfl⟩) | (gi_at_call 126; refine (callsIn_wide.2 (squares_calls a _)).mono ?_; rintro e w' ⟨rfl, rfl⟩))
  obtain ⟨W0, hW0⟩ : ∃ W0, ((((w.alloc (.cells #[.int .u8 (a : Int)] 5)).alloc (.cells #[.func (.func 127) #[] #[.pointer (some ⟨w.heap.size, 0, none⟩)]] 161)).alloc (.cells #[.int .u8 1] 5)).alloc (.cells #[.int .u64 (m : Int)] 112)) = W0 := ⟨_, rfl⟩
  have hI0 : PowI w.heap.size (.func (.func 127) #[] #[.pointer (some ⟨w.heap.size, 0, none⟩)]) a 1 W0 := by
    rw [← hW0]; exact ⟨by simp [go_sem], by simp [go_sem], by simp [go_sem], by simp [go_sem], by simp [go_sem]⟩
  have hc3 : W0.cell? ⟨w.heap.size + 1 + 1 + 1, 0, none⟩ = some (.int .u64 (m : Int)) := by rw [← hW0]; simp [go_sem]
  have hsz : W0.heap.size = w.heap.size + 1 + 1 + 1 + 1 := by rw [← hW0]; simp
  have hB0 : Below w.heap.size w W0 := by
    rw [← hW0]; exact ((((Below.refl _ w).alloc (Nat.le_refl _) _).alloc (by simp) _).alloc (by simp; omega) _).alloc (by simp; omega) _
  rw [hW0]
  clear hW0
  refine wpIn_rangeFunc_ownF rfl hn1 (gf := 101) (lb := #[.pointer (some ⟨w.heap.size + 1 + 1 + 1, 0, none⟩)]) rfl trivial (enters_of Tryz.func101 (by kernel_rfl) rfl)
    (bits1_stops (n - 1) (by omega) (w.heap.size + 1 + 1 + 1) m hm _ (by omega) hc3) keepsCell_t (fun W l o o' _ h1 h2 _ => keepsCell_b W l o o' h1 h2) (Below.refl _ _) (fun _ => rfl)
    (fun pre W => PowI w.heap.size (.func (.func 127) #[] #[.pointer (some ⟨w.heap.size, 0, none⟩)]) (Bits.st a pre).1 (Bits.st a pre).2 W ∧ Below w.heap.size w W)
    (fun _ _ _ => False)
    (OwnFrom.and (Own.from (powI_own _ _ _) _) (ownFrom_below (Nat.le_refl _) (by omega)))
    (fun _ _ _ _ _ hs _ _ => hs)
    ⟨hI0, hB0⟩
    (fun x => { tmps := #[.int .u8 a, .int .u64 m, undef, undef, .int .u8 0, .pointer (some ⟨w.heap.size + 1, 0, none⟩), .pointer (some ⟨w.heap.size + 1 + 1, 0, none⟩), undef, .bool x.2, undef, .int .u8 a, .func (.func 127) #[] #[.pointer (some ⟨w.heap.size, 0, none⟩)], .int .u64 m, .func (.func 101) #[] #[.pointer (some ⟨w.heap.size + 1 + 1 + 1, 0, none⟩)], .int .i64 x.1.val, .bool x.2, undef, undef, undef, undef, undef, undef, undef], defers := [] }) ?assign ?body ?done ?stop
  case assign =>
    intro l x W K hK
    gi_wp2
    exact hK
  case body =>
    rintro l pre x W ⟨hI, hB⟩ _
    clear hI0 hB0 hc3
    have hst := Bits.st_lt a pre ha
    have hsn := Bits.st_snoc a pre x
    obtain ⟨i, one⟩ := x
    have HS : Hid (Bits.st a (pre ++ [(i, one)]) = (Gf.mul (Bits.st a pre).1 (Bits.st a pre).1, if one = true then Gf.mul (Bits.st a pre).2 (Bits.st a pre).1 else (Bits.st a pre).2)) := hsn
    clear hsn
    obtain ⟨q, hq⟩ : ∃ q, (Bits.st a pre).1 = q := ⟨_, rfl⟩
    obtain ⟨p, hp⟩ : ∃ p, (Bits.st a pre).2 = p := ⟨_, rfl⟩
    rw [hq, hp] at HS hst hI
    clear hq hp
    obtain ⟨hq8, hp8⟩ := hst
    have HI : Hid (PowI w.heap.size (.func (.func 127) #[] #[.pointer (some ⟨w.heap.size, 0, none⟩)]) q p W) := hI
    obtain ⟨h1, h2, h3, h4, h5⟩ := hI
    have hlt := World.block_lt_of_cell? _ _ h1
    have hd : 1 ≤ n - 1 - 1 := by omega
    cases one
    · gi_wp2_with (gi_at_call 127; refine (CallsIn.inRound l (callsIn_wide.2 (squares1_calls w.heap.size q hq8 W hlt h1 h2))).mono ?_; rintro e w2 ⟨rfl, w1, hb1, rfl⟩)
      refine ⟨(keepsOthers_below hb1).trans (KeepsOthers.setCell _ _ _), (KeepsCell.of_below hb1).setCell (by omega) _, ?_, (hB.trans (hb1.mono hB.size)).setCell (p := ⟨w.heap.size, 0, none⟩) (Nat.le_refl _) _⟩
      rw [HS.out]
      exact (HI.out.below hb1).set0 _
    · gi_wp2_with (first | (gi_at_call 127; refine (CallsIn.inRound l (callsIn_wide.2 (squares1_calls w.heap.size q hq8 W hlt h1 h2))).mono ?_; rintro e w2 ⟨rfl, w1, hb1, rfl⟩; have HJ : Hid (PowI w.heap.size (.func (.func 127) #[] #[.pointer (some ⟨w.heap.size, 0, none⟩)]) q p w1) := HI.out.below hb1; obtain ⟨k1, k2, k3, k4, k5⟩ := HJ.out; clear h1 h2 h3 h4 h5) | (gi_at_call 85; refine (CallsIn.inRound l (callsIn_wide.2 (mul_calls p q hp8 hq8 _))).mono ?_; rintro e w3 ⟨rfl, hb3⟩; have HJ3 : Hid (PowI w.heap.size (.func (.func 127) #[] #[.pointer (some ⟨w.heap.size, 0, none⟩)]) (Gf.mul q q) p w3) := (HJ.out.set0 (Gf.mul q q)).below hb3; obtain ⟨m1, m2, m3, m4, m5⟩ := HJ3.out; clear k1 k2 k3 k4 k5))
      refine ⟨(((keepsOthers_below hb1).trans (KeepsOthers.setCell _ _ _)).trans (keepsOthers_below hb3)).trans (KeepsOthers.setCell _ _ _), ((keepsCell_t ((KeepsCell.of_below hb1).setCell (by omega) _) (KeepsCell.of_below hb3)).setCell (by omega) _), ?_, ?_⟩
      · rw [HS.out]
        exact HJ3.out.set2 _
      · have hB1 := (hB.trans (hb1.mono hB.size)).setCell (p := ⟨w.heap.size, 0, none⟩) (Nat.le_refl _) (.int .u8 (Gf.mul q q))
        exact (hB1.trans (hb3.mono hB1.size)).setCell (p := ⟨w.heap.size + 1 + 1, 0, none⟩) (by simp; omega) _
  case done =>
    rintro D ys W hD hS ⟨hI, hB⟩ hK
    obtain ⟨k, hk, rfl, hz⟩ := hS
    rw [Bits.st_all a m k ha hz] at hI
    obtain ⟨h1, h2, h3, h4, h5⟩ := hI
    gi_wp2
    refine ⟨by simp, .inl ⟨_, _, rfl, run_takeDeferred hK, ?_⟩⟩
    exact ⟨_, results_tmp rfl _ _ _, rfl, hB.trans (belowK_b (w := w) (Nat.le_refl _) W D _ _ (by omega) hK rfl rfl)⟩
  case stop =>
    rintro D c pre W _ _ h _
    exact h.elim

theorem power_calls (a m : Nat) (ha : a < 256) (hm : m < 18446744073709551616) (w : World) :
    Calls Tryz.prog 125 #[.int .u8 a, .int .u64 m] w fun e w' => e = .returned (.int .u8 (Gf.pow a m)) ∧ Below w.heap.size w w' :=
  (callsIn_wide (n := 3)).1 (power_in 3 (by omega) a m ha hm w)

set_option maxHeartbeats 400000 in
theorem inv_calls (a : Nat) (ha : a < 256) (w : World) :
    Calls Tryz.prog 124 #[.int .u8 a] w fun e w' => e = .returned (.tuple #[.int .u8 (Gf.inv a), .bool (a != 0)]) ∧ Below w.heap.size w w' := by
  by_cases h0 : a = 0
  · subst h0
    have e0 := Gf.inv_zero
    go_enter Tryz.func124, Tryz.ntmps124
    go_wp2
    go_ret2
    exact ⟨by rw [e0]; rfl, Below.refl _ _⟩
  · have h1 : ((a : Int) == 0) = false := by simp; omega
    have h2 : (a != 0) = true := by simp [h0]
    rw [h2]
    go_enter Tryz.func124, Tryz.ntmps124
    go_wp2_with (go_at_call 125; refine (power_calls a 254 ha (by decide) _).mono ?_; rintro e w1 ⟨rfl, hb1⟩)
    go_ret2
    exact ⟨rfl, hb1⟩
end Go.Proofs
/- The walk of shift.Pow. Conditions: a byte; an int. -/
namespace Go.Proofs
open Go.RowKit Go.Shelf

end Go.Proofs
/- The contracts of layer 1 by equation. Conditions: bytes, an int. -/
namespace Go.Proofs
open Go.RowKit Go.Shelf
theorem mul_e (a b r : Nat) (ha : a < 256) (hb : b < 256) (hr : Gf.mul a b = r) (w : World) :
    Calls Tryz.prog 85 #[.int .u8 a, .int .u8 b] w fun e w' => e = .returned (.int .u8 r) ∧ Below w.heap.size w w' := by
  subst hr; exact mul_calls a b ha hb w
theorem inv_e (a r : Nat) (b : Bool) (ha : a < 256) (hr : Gf.inv a = r) (hb : (a != 0) = b) (w : World) :
    Calls Tryz.prog 124 #[.int .u8 a] w fun e w' => e = .returned (.tuple #[.int .u8 r, .bool b]) ∧ Below w.heap.size w w' := by
  subst hr hb; exact inv_calls a ha w

end Go.Proofs
/- The walks of the document's answers of layer 1 (erratumref01). Conditions: bytes, a uint16, an int. -/
namespace Go.Proofs
open Go.RowKit Go.Shelf

theorem bit_rem (x k : Nat) : (((x : Int) / 2 ^ k).tmod 2 == 1) = x.testBit k := by
  rw [div_cast, Nat.testBit_eq_decide_div_mod_eq]
  generalize x / 2 ^ k = y
  have e : (y : Int).tmod 2 = ((y % 2 : Nat) : Int) := rfl
  rw [e]
  rcases Nat.mod_two_eq_zero_or_one y with e | e <;> rw [e] <;> rfl
theorem xor_shl (s a k : Nat) (hs : s < 65536) (ha : a < 256) (hk : k < 8) : bits .xor .u16 (s : Int) (IntKind.u16.wrap ((a : Int) * 2 ^ k)) = ((s ^^^ a * 2 ^ k : Nat) : Int) := by
  have hp : 2 ^ k ≤ 2 ^ 7 := Nat.pow_le_pow_right (by decide) (by omega)
  have hm : a * 2 ^ k ≤ 255 * 128 := Nat.mul_le_mul (by omega) hp
  have e : IntKind.u16.wrap ((a : Int) * 2 ^ k) = ((a * 2 ^ k : Nat) : Int) := by
    have e2 : ((a : Int) * 2 ^ k) = ((a * 2 ^ k : Nat) : Int) := by simp
    rw [IntKind.wrap_u16, e2]
    omega
  rw [e]
  exact u16_xor_nat _ _ hs (by omega)

set_option maxHeartbeats 1000000 in
theorem rwide_calls (a b : Nat) (ha : a < 256) (w : World) :
    Calls Tryz.prog 43 #[.int .u8 a, .int .u8 b] w fun e w' => e = .returned (.int .u16 (Gf.wide a b)) ∧ w' = w := by
  go_enter Tryz.func43, Tryz.ntmps43
  go_wp2
  go_loop [5, 6] (fun s i => ∃ k : Nat, k ≤ 8 ∧ i = .int .i64 (k : Int) ∧ s = .int .u16 (Gf.wideK a b k)) (fun _ i => 8 - (intOf i).toNat)
  case atStart => exact ⟨0, by omega, rfl, rfl⟩
  case round =>
    obtain ⟨k, hk, rfl, rfl⟩ := hrel
    have hl : Gf.wideK a b k < 65536 := Nat.lt_of_lt_of_le (Gf.wideK_lt a b ha k hk) (Nat.pow_le_pow_right (by decide : 0 < 2) (by omega) : 2 ^ (k + 7) ≤ 2 ^ 16)
    by_cases hlt : k < 8
    · have ht := bit_rem b k
      have hxr := xor_shl (Gf.wideK a b k) a k hl ha hlt
      have hst : Gf.wideK a b (k + 1) = if b.testBit k then Gf.wideK a b k ^^^ (a * 2 ^ k) else Gf.wideK a b k := rfl
      by_cases hbt : b.testBit k = true
      · rw [if_pos hbt] at hst
        rw [hbt] at ht
        have HS : Hid (Gf.wideK a b (k + 1) = Gf.wideK a b k ^^^ (a * 2 ^ k)) := hst
        clear hst hbt
        go_wp2
        go_round
        case rel => exact ⟨k + 1, by omega, by go_num, by rw [HS.out]⟩
        case measure => simp [intOf]; omega
      · rw [if_neg hbt] at hst
        rw [Bool.not_eq_true] at hbt
        rw [hbt] at ht
        have HS : Hid (Gf.wideK a b (k + 1) = Gf.wideK a b k) := hst
        clear hst hbt hxr
        go_wp2
        go_round
        case rel => exact ⟨k + 1, by omega, by go_num, by rw [HS.out]⟩
        case measure => simp [intOf]; omega
    · have e8 : k = 8 := by omega
      subst e8
      go_wp2
      go_ret
      exact ⟨rfl, rfl⟩

set_option maxHeartbeats 1000000 in
theorem rreduce_calls (x : Nat) (hx : x < 65536) (w : World) :
    Calls Tryz.prog 42 #[.int .u16 x] w fun e w' => e = .returned (.int .u8 (Gf.red x)) ∧ w' = w := by
  go_enter Tryz.func42, Tryz.ntmps42
  go_wp2
  go_loop [0, 3] (fun s i => ∃ k : Nat, k ≤ 8 ∧ i = .int .i64 (15 - (k : Int)) ∧ s = .int .u16 (Gf.redK x k)) (fun _ i => (intOf i).toNat)
  case atStart => exact ⟨0, by omega, rfl, rfl⟩
  case round =>
    obtain ⟨k, hk, rfl, rfl⟩ := hrel
    have hl : Gf.redK x k < 65536 := Nat.lt_of_lt_of_le (Gf.redK_lt x hx k hk) (Nat.pow_le_pow_right (by decide : 0 < 2) (by omega) : 2 ^ (16 - k) ≤ 2 ^ 16)
    by_cases hlt : k < 8
    · have ht := bit_rem (Gf.redK x k) (15 - k)
      have hxr := xor285 (Gf.redK x k) (15 - k - 8) hl (by omega)
      have hst : Gf.redK x (k + 1) = if (Gf.redK x k).testBit (15 - k) then Gf.redK x k ^^^ (285 * 2 ^ (7 - k)) else Gf.redK x k := rfl
      rw [show 7 - k = 15 - k - 8 by omega] at hst
      by_cases hb : (Gf.redK x k).testBit (15 - k) = true
      · rw [if_pos hb] at hst
        rw [hb] at ht
        have HS : Hid (Gf.redK x (k + 1) = Gf.redK x k ^^^ (285 * 2 ^ (15 - k - 8))) := hst
        clear hst hb
        go_wp2
        go_round
        case rel => exact ⟨k + 1, by omega, by go_num, by rw [HS.out]⟩
        case measure => simp [intOf]; omega
      · rw [if_neg hb] at hst
        rw [Bool.not_eq_true] at hb
        rw [hb] at ht
        have HS : Hid (Gf.redK x (k + 1) = Gf.redK x k) := hst
        clear hst hb hxr
        go_wp2
        go_round
        case rel => exact ⟨k + 1, by omega, by go_num, by rw [HS.out]⟩
        case measure => simp [intOf]; omega
    · have e8 : k = 8 := by omega
      subst e8
      have hr : ((Gf.redK x 8 : Nat) : Int) % 256 = (Gf.red x : Nat) := by
        have := Gf.red_lt x hx
        show ((Gf.red x : Nat) : Int) % 256 = _
        omega
      go_wp2
      go_ret
      exact ⟨rfl, rfl⟩

set_option maxHeartbeats 400000 in
theorem rmul_calls (a b : Nat) (ha : a < 256) (w : World) :
    Calls Tryz.prog 24 #[.int .u8 a, .int .u8 b] w fun e w' => e = .returned (.int .u8 (Gf.mul a b)) ∧ w' = w := by
  have hw := Gf.wide_lt a b ha
  go_enter Tryz.func24, Tryz.ntmps24
  go_wp2_with (first | (go_at_call 43; refine (rwide_calls a b ha _).mono ?_; rintro e w1 ⟨rfl, rfl⟩) | (go_at_call 42; refine (rreduce_calls (Gf.wide a b) (by omega) _).mono ?_; rintro e w2 ⟨rfl, rfl⟩))
  go_ret
  exact ⟨rfl, rfl⟩

theorem inv_find (a k : Nat) (ha : a < 256) (hk : k < 256) (h : Gf.mul a k = 1) : Gf.inv a = k ∧ (a != 0) = true := by
  refine ⟨(Gf.inv_unique a k ha hk h).symm, ?_⟩
  have : a ≠ 0 := by intro e; subst e; rw [Gf.zero_mul] at h; exact absurd h (by decide)
  simp [this]
set_option maxRecDepth 100000 in
set_option maxHeartbeats 1000000 in
theorem rinv_calls (a : Nat) (ha : a < 256) (w : World) :
    Calls Tryz.prog 49 #[.int .u8 a] w fun e w' => e = .returned (.tuple #[.int .u8 (Gf.inv a), .bool (a != 0)]) ∧ w' = w := by
  obtain ⟨iv, hiv⟩ : ∃ iv, Gf.inv a = iv := ⟨_, rfl⟩
  obtain ⟨bz, hbz⟩ : ∃ bz, (a != 0) = bz := ⟨_, rfl⟩
  rw [hiv, hbz]
  have HIV : Hid (Gf.inv a = iv) := hiv
  have HBZ : Hid ((a != 0) = bz) := hbz
  clear hiv hbz
  go_enter Tryz.func49, Tryz.ntmps49
  go_wp2
  go_loopw [4] (fun i wr => ∃ k : Nat, k ≤ 256 ∧ i = .int .i64 (k : Int) ∧ (∀ j, j < k → Gf.mul a j ≠ 1) ∧ wr = w) (fun i _ => 256 - (intOf i).toNat)
  case atStart => exact ⟨0, by omega, rfl, fun j hj => absurd hj (Nat.not_lt_zero j), rfl⟩
  case round =>
    obtain ⟨k, hk, rfl, hn, rfl⟩ := hrel
    by_cases hlt : k < 256
    · by_cases hm : Gf.mul a k = 1
      · obtain ⟨e1, e2⟩ := inv_find a k ha hlt hm
        have ev : iv = k := HIV.out.symm.trans e1
        have eb : bz = true := HBZ.out.symm.trans e2
        subst ev eb
        clear hn e1 e2
        have ht : (((Gf.mul a iv : Nat) : Int) == 1) = true := by simp [hm]
        clear hm
        go_wp2_with (go_at_call 24; refine (rmul_calls a iv ha _).mono ?_; rintro e w1 ⟨rfl, rfl⟩)
        go_ret2
        exact ⟨rfl, rfl⟩
      · have ht : (((Gf.mul a k : Nat) : Int) == 1) = false := by simp; omega
        have hn' : ∀ j, j < k + 1 → Gf.mul a j ≠ 1 := by
          intro j hj
          rcases Nat.lt_succ_iff_lt_or_eq.1 hj with h | h
          · exact hn j h
          · rw [h]; exact hm
        have HN : Hid (∀ j, j < k + 1 → Gf.mul a j ≠ 1) := hn'
        clear hn hn' hm
        go_wp2_with (go_at_call 24; refine (rmul_calls a k ha _).mono ?_; rintro e w1 ⟨rfl, rfl⟩)
        go_roundw
        case rel => exact ⟨k + 1, by omega, by go_num, HN.out, by trivial⟩
        case measure => simp [intOf]; omega
    · have hz : a = 0 := by
        rcases Nat.eq_zero_or_pos a with h | h
        · exact h
        · exact absurd (Gf.mul_inv a ha (by omega)) (hn _ (by have := Gf.inv_lt a ha; omega))
      have ev : iv = 0 := by rw [← HIV.out, hz]; exact Gf.inv_zero
      have eb : bz = false := by rw [← HBZ.out, hz]; rfl
      subst ev eb
      clear hn hz
      go_wp2
      go_ret2
      exact ⟨rfl, rfl⟩

end Go.Proofs
