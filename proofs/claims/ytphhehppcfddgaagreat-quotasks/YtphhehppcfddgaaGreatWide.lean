/- The walk of shift.Wide: a product without carries; nothing that lay before the call is changed. Condition: both are bytes. -/
import Derived.Test.YtphhehppcfddgaaGreatBits
namespace Go.Proofs
open Go.RowKit Go.Shelf
attribute [local go_sem] Oper.semAt_some

namespace Bits
/-- What the rounds of Wide add up. -/
def widF (a : Nat) (l : List Bit) : Nat := l.foldl (fun w x => if x.2 then w ^^^ (a * 2 ^ min x.1.val 16 % 65536) else w) 0
theorem widF_snoc (a : Nat) (l : List Bit) (x : Bit) : widF a (l ++ [x]) = if x.2 then widF a l ^^^ (a * 2 ^ min x.1.val 16 % 65536) else widF a l := by simp [widF]
theorem widF_lt (a : Nat) (l : List Bit) : widF a l < 65536 := by
  suffices h : ∀ (l : List Bit) (s : Nat), s < 65536 → l.foldl (fun w x => if x.2 then w ^^^ (a * 2 ^ min x.1.val 16 % 65536) else w) s < 65536 from h l 0 (by decide)
  intro l
  induction l with
  | nil => exact fun s hs => hs
  | cons x l ih =>
    intro s hs
    refine ih _ ?_
    dsimp only
    split
    · exact Gf.xor_lt16 hs (Nat.mod_lt _ (by decide))
    · exact hs
theorem widF_upto (a b k : Nat) (ha : a < 256) (h8 : k ≤ 8) : widF a (upto b k) = Gf.wideK a b k := by
  induction k with
  | zero => rfl
  | succ k ih =>
    have e1 : k % 64 = k := Nat.mod_eq_of_lt (by omega)
    have e2 : min k 16 = k := by omega
    have e3 : a * 2 ^ k % 65536 = a * 2 ^ k := by
      refine Nat.mod_eq_of_lt ?_
      have : (2 : Nat) ^ k ≤ 2 ^ 8 := Nat.pow_le_pow_right (by decide) (by omega)
      have := Nat.mul_le_mul (Nat.le_of_lt_succ ha) this
      omega
    rw [upto, widF_snoc, ih (by omega)]
    simp only [e1, e2, e3, Gf.wideK]
theorem wideK_more (a b k : Nat) (hk : b / 2 ^ k = 0) (j : Nat) : Gf.wideK a b (k + j) = Gf.wideK a b k := by
  induction j with
  | zero => rfl
  | succ j ih =>
    have hb : b < 2 ^ k := by
      have := Nat.div_add_mod b (2 ^ k)
      rw [hk] at this
      have := Nat.mod_lt b (Nat.two_pow_pos k)
      omega
    have ht : b.testBit (k + j) = false := Nat.testBit_lt_two_pow (Nat.lt_of_lt_of_le hb (Nat.pow_le_pow_right (by decide) (by omega)))
    rw [← Nat.add_assoc, Gf.wideK, ht]
    simpa using ih
theorem widF_zero (a b k : Nat) (j : Nat) (hb : b < 2 ^ k) : widF a (upto b (k + j)) = widF a (upto b k) := by
  induction j with
  | zero => rfl
  | succ j ih =>
    have ht : b.testBit (k + j) = false := Nat.testBit_lt_two_pow (Nat.lt_of_lt_of_le hb (Nat.pow_le_pow_right (by decide) (by omega)))
    rw [← Nat.add_assoc, upto, widF_snoc, ht]
    simpa using ih
theorem widF_all (a b k : Nat) (ha : a < 256) (hb : b < 256) (h : b / 2 ^ k = 0) : widF a (upto b k) = Gf.wide a b := by
  rcases Nat.le_total k 8 with h8 | h8
  · rw [widF_upto a b k ha h8]
    have := wideK_more a b k h (8 - k)
    rw [show k + (8 - k) = 8 by omega] at this
    exact this.symm
  · obtain ⟨j, rfl⟩ := Nat.exists_eq_add_of_le h8
    rw [widF_zero a b 8 j hb, widF_upto a b 8 ha (Nat.le_refl _)]; rfl
theorem wide_step (s a i : Nat) (hs : s < 65536) (ha : a < 256) : bits .xor .u16 (s : Int) (IntKind.u16.wrap (IntKind.u16.wrap (a : Int) * 2 ^ min i 16)) = ((s ^^^ (a * 2 ^ min i 16 % 65536) : Nat) : Int) := by
  have e0 : IntKind.u16.wrap (a : Int) = a := by rw [IntKind.wrap_u16]; omega
  have e : IntKind.u16.wrap (IntKind.u16.wrap (a : Int) * 2 ^ min i 16) = ((a * 2 ^ min i 16 % 65536 : Nat) : Int) := by
    rw [e0, IntKind.wrap_u16]; simp
  rw [e]
  exact u16_xor_nat _ _ hs (Nat.mod_lt _ (by decide))
end Bits

set_option maxRecDepth 100000 in
set_option maxHeartbeats 2000000 in
theorem wide_in (n : Nat) (hn : 3 ≤ n) (a b : Nat) (ha : a < 256) (hb : b < 256) (w : World) :
    CallsIn Fence.wide n Tryz.prog 69 #[.int .u8 a, .int .u8 b] w fun e w' => e = .returned (.int .u16 (Gf.wide a b)) ∧ Below w.heap.size w w' := by
  refine callsIn_of_wp_marks Tryz.func69 rfl trivial ?_ rfl
  simp only [Tryz.ntmps69, List.size_toArray, List.length_cons, List.length_nil, Nat.reduceAdd, Nat.reduceSub, Array.replicate_succ, Array.replicate_zero, List.push_toArray, List.append_toArray, List.nil_append, List.cons_append]
  have hfn : ∀ f, Fence.wide.fn f := fun _ => trivial
  have hn1 : 1 ≤ n := by omega
  gi_wp2_with (gi_at_call 75; refine (bits_calls (n - 1) b _).mono ?_; rintro e w' ⟨rfl, rfl⟩)
  have c0 := cell_new_l w (.int .u8 (a : Int)) 5
  have c1 := cell_new_l (w.alloc (.cells #[.int .u8 (a : Int)] 5)) (.int .u16 0) 62
  have c2 := cell_new_l ((w.alloc (.cells #[.int .u8 (a : Int)] 5)).alloc (.cells #[.int .u16 0] 62)) (.int .u64 (b : Int)) 82
  simp only [World.size_alloc] at c1 c2
  have hB0 : Below w.heap.size w (((w.alloc (.cells #[.int .u8 (a : Int)] 5)).alloc (.cells #[.int .u16 0] 62)).alloc (.cells #[.int .u64 (b : Int)] 82)) := (((Below.refl _ w).alloc (Nat.le_refl _) _).alloc (by simp) _).alloc (by simp; omega) _
  refine wpIn_rangeFunc_ownF rfl hn1 (gf := 80) (lb := #[.pointer (some ⟨w.heap.size + 1 + 1, 0, none⟩)]) rfl trivial (enters_of Tryz.func80 (by kernel_rfl) rfl)
    (bits1_stops (n - 1) (by omega) (w.heap.size + 1 + 1) b (by omega) _ (by simp) c2.1) keepsCell_t (fun W l o o' _ h1 h2 _ => keepsCell_b W l o o' h1 h2) (Below.refl _ _) (fun _ => rfl)
    (fun pre W => (W.cell? ⟨w.heap.size, 0, none⟩ = some (.int .u8 (a : Int)) ∧ W.cell? ⟨w.heap.size + 1, 0, none⟩ = some (.int .u16 (Bits.widF a pre)) ∧ W.frozen? ⟨w.heap.size + 1, 0, none⟩ = false) ∧ Below w.heap.size w W)
    (fun _ _ _ => False)
    (OwnFrom.and (Own.from (fun s A B row hs hg hr => ⟨cell_kept hs.1 hg hr, cell_kept hs.2.1 hg hr, (frozen_kept hs.2.1 hg hr).trans hs.2.2⟩) _) (ownFrom_below (Nat.le_refl _) (by simp; omega)))
    (fun _ _ _ _ _ hs _ _ => hs)
    ⟨⟨cell_alloc_l _ (cell_alloc_l _ c0.1), cell_alloc_l _ c1.1, frozen_alloc_l _ c1.1 c1.2⟩, hB0⟩
    (fun x => { tmps := #[.int .u8 a, .int .u8 b, .pointer (some ⟨w.heap.size, 0, none⟩), undef, .int .u16 0, .pointer (some ⟨w.heap.size + 1, 0, none⟩), .int .i64 x.1.val, .bool x.2, .int .u8 b, .int .u64 b, .func (.func 80) #[] #[.pointer (some ⟨w.heap.size + 1 + 1, 0, none⟩)], .int .i64 x.1.val, .bool x.2, undef, undef, undef, undef, undef, undef, undef, undef], defers := [] }) ?assign ?body ?done ?stop
  case assign =>
    intro l x W K hK
    gi_wp2
    exact hK
  case body =>
    rintro l pre x W ⟨⟨hca, hcw, hfw⟩, hB⟩ _
    clear c0 c1 c2 hB0
    have hl := Bits.widF_lt a pre
    have hst := Bits.wide_step (Bits.widF a pre) a x.1.val hl ha
    have hsn := Bits.widF_snoc a pre x
    obtain ⟨⟨i, hi⟩, one⟩ := x
    have hmx : Tryz.prog.follows .mixedOrders = true := by kernel_rfl
    cases one
    · replace hsn : Bits.widF a (pre ++ [(⟨i, hi⟩, false)]) = Bits.widF a pre := by simpa using hsn
      gi_wp2
      refine ⟨KeepsOthers.refl _, KeepsCell.refl _ _, ⟨hca, ?_, hfw⟩, hB⟩
      rw [hsn]; exact hcw
    · replace hsn : Bits.widF a (pre ++ [(⟨i, hi⟩, true)]) = Bits.widF a pre ^^^ a * 2 ^ min i 16 % 65536 := by simpa using hsn
      have HS : Hid (Bits.widF a (pre ++ [(⟨i, hi⟩, true)]) = Bits.widF a pre ^^^ a * 2 ^ min i 16 % 65536) := hsn
      clear hsn
      gi_wp2
      gi_region_o
      all_goals gi_wp2
      all_goals
        refine ⟨(KeepsOthers.setCell _ _ _).trans (KeepsOthers.drew _), ((KeepsCell.refl _ W).setCell (by omega) _).drew, ⟨?_, ?_, ?_⟩, (hB.setCell (p := ⟨w.heap.size + 1, 0, none⟩) (by simp) _).drew⟩
        · rw [cell_drew_own]; exact (World.cell?_setCell_other _ _ _ _ (by simp)).trans hca
        · rw [cell_drew_own, HS.out]
          exact World.cell?_setCell_same' _ _ _ (by rw [hcw]; rfl)
        · rw [frozen_drew_own, World.frozen?_setCell]; exact hfw
  case done =>
    rintro D ys W hD hS ⟨⟨hca, hcw, hfw⟩, hB⟩ hK
    obtain ⟨k, hk, rfl, hz⟩ := hS
    rw [Bits.widF_all a b k ha hb hz] at hcw
    gi_wp2
    refine ⟨by simp, .inl ⟨_, _, rfl, run_takeDeferred hK, ?_⟩⟩
    exact ⟨_, results_tmp rfl _ _ _, rfl, hB.trans (belowK_b (w := w) (Nat.le_refl _) W D _ _ (by simp at hD; omega) hK rfl rfl)⟩
  case stop =>
    rintro D c pre W _ _ h _
    exact h.elim
end Go.Proofs
