/- Texts laid together: Power, Pow, ShE. Each says its own conditions. -/
import Derived.Laws.EntriesVeiled
import Derived.Test.YtjnkkokhkooegaaGreatMC
import Derived.Test.YtjnkkokhkooegaaGreatMA
/- The walks of shift.squares, its closure, shift.power, shift.Inv and shift.Pow. Conditions: bytes; an int. -/
namespace Go.Proofs
open Go.RowKit Go.Shelf
attribute [local go_sem] Oper.semAt_some

theorem keepsOthers_below {W W' : World} (h : Below W.heap.size W W') : KeepsOthers W W' :=
  ⟨h.size, fun k _ hk _ => (h.block k (Array.getElem?_eq_some_iff.1 hk).1).trans hk⟩

namespace Bits
/-- The square that is next, and the product so far. -/
def st (a : Nat) (l : List Bit) : Nat × Nat := l.foldl (fun s x => (Gf.mul s.1 s.1, if x.2 then Gf.mul s.2 s.1 else s.2)) (a, 1)
theorem st_snoc (a : Nat) (l : List Bit) (x : Bit) : st a (l ++ [x]) = (Gf.mul (st a l).1 (st a l).1, if x.2 then Gf.mul (st a l).2 (st a l).1 else (st a l).2) := by simp [st]
theorem st_lt (a : Nat) (l : List Bit) (ha : a < 256) : (st a l).1 < 256 ∧ (st a l).2 < 256 := by
  suffices h : ∀ (l : List Bit) (s : Nat × Nat), s.1 < 256 → s.2 < 256 → (l.foldl (fun s x => (Gf.mul s.1 s.1, if x.2 then Gf.mul s.2 s.1 else s.2)) s).1 < 256 ∧ (l.foldl (fun s (x : Bit) => (Gf.mul s.1 s.1, if x.2 then Gf.mul s.2 s.1 else s.2)) s).2 < 256 from h l (a, 1) ha (by decide : 1 < 256)
  intro l
  induction l with
  | nil => exact fun s h1 h2 => ⟨h1, h2⟩
  | cons x l ih =>
    intro s h1 h2
    refine ih _ (Gf.mul_lt _ _ h1) ?_
    dsimp only
    split
    · exact Gf.mul_lt _ _ h2
    · exact h2
theorem st_upto (a n k : Nat) (ha : a < 256) : (st a (upto n k)).1 = Gf.pow a (2 ^ k) ∧ (st a (upto n k)).2 = Gf.pow a (n % 2 ^ k) := by
  induction k with
  | zero => exact ⟨(Gf.pow_one a ha).symm, by rw [Nat.pow_zero, Nat.mod_one]; rfl⟩
  | succ k ih =>
    rw [upto, st_snoc]
    refine ⟨?_, ?_⟩
    · show Gf.mul (st a (upto n k)).1 (st a (upto n k)).1 = _
      rw [ih.1, ← Gf.pow_add a _ _ ha, ← Nat.two_mul, Nat.pow_succ, Nat.mul_comm]
    · show (if n.testBit k then Gf.mul (st a (upto n k)).2 (st a (upto n k)).1 else (st a (upto n k)).2) = _
      rw [ih.1, ih.2, Nat.mod_pow_succ, Nat.testBit_eq_decide_div_mod_eq]
      rcases Nat.mod_two_eq_zero_or_one (n / 2 ^ k) with e | e
      · simp [e]
      · simp only [e, decide_true, if_true, Nat.mul_one]
        exact (Gf.pow_add a _ _ ha).symm
theorem st_all (a n k : Nat) (ha : a < 256) (h : n / 2 ^ k = 0) : (st a (upto n k)).2 = Gf.pow a n := by
  rw [(st_upto a n k ha).2]
  have : n % 2 ^ k = n := by
    have := Nat.div_add_mod n (2 ^ k)
    rw [h] at this
    omega
  rw [this]
end Bits

theorem squares_calls (a : Nat) (w : World) :
    Calls Tryz.prog 171 #[.int .u8 a] w fun e w' => e = .returned (.func (.func 172) #[] #[.pointer (some ⟨w.heap.size, 0, none⟩)]) ∧ w.alloc (.cells #[.int .u8 a] 5) = w' := by
  go_enter Tryz.func171, Tryz.ntmps171
  go_wp2
  go_ret
  exact ⟨rfl, rfl⟩

set_option maxHeartbeats 400000 in
theorem squares1_calls (B s : Nat) (hs : s < 256) (w : World) (hB : B < w.heap.size) (hc : w.cell? ⟨B, 0, none⟩ = some (.int .u8 s)) (hf : w.frozen? ⟨B, 0, none⟩ = false) :
    Calls Tryz.prog 172 #[.pointer (some ⟨B, 0, none⟩)] w fun e w' => e = .returned (.int .u8 s) ∧ ∃ w1, Below w.heap.size w w1 ∧ w' = w1.setCell ⟨B, 0, none⟩ (.int .u8 (Gf.mul s s)) := by
  go_enter Tryz.func172, Tryz.ntmps172
  go_wp2_with (go_at_call 131; refine (mul_calls s s hs hs _).mono ?_; rintro e w1 ⟨rfl, hb1⟩; have hc1 := (hb1.cell (p := ⟨B, 0, none⟩) hB).trans hc; have hf1 := (hb1.frozen (p := ⟨B, 0, none⟩) hB).trans hf)
  go_ret
  exact ⟨rfl, w1, hb1, rfl⟩

theorem KeepsCell.of_below {B : Nat} {W W' : World} (h : Below W.heap.size W W') : KeepsCell B W W' :=
  fun _ e => (h.cell (p := ⟨B, 0, none⟩) (World.block_lt_of_cell? _ _ e)).trans e
/-- What power's three boxes hold. -/
def PowI (s : Nat) (cl : Value) (x p : Nat) (W : World) : Prop :=
  W.cell? ⟨s, 0, none⟩ = some (.int .u8 x) ∧ W.frozen? ⟨s, 0, none⟩ = false ∧ W.cell? ⟨s + 1, 0, none⟩ = some cl ∧ W.cell? ⟨s + 1 + 1, 0, none⟩ = some (.int .u8 p) ∧ W.frozen? ⟨s + 1 + 1, 0, none⟩ = false
theorem PowI.below {s : Nat} {cl : Value} {x p : Nat} {W W' : World} (h : PowI s cl x p W) (hb : Below W.heap.size W W') : PowI s cl x p W' := by
  obtain ⟨h1, h2, h3, h4, h5⟩ := h
  have b1 := World.block_lt_of_cell? _ _ h1
  have b3 := World.block_lt_of_cell? _ _ h3
  have b4 := World.block_lt_of_cell? _ _ h4
  exact ⟨(hb.cell (p := ⟨s, 0, none⟩) b1).trans h1, (hb.frozen (p := ⟨s, 0, none⟩) b1).trans h2, (hb.cell (p := ⟨s + 1, 0, none⟩) b3).trans h3, (hb.cell (p := ⟨s + 1 + 1, 0, none⟩) b4).trans h4, (hb.frozen (p := ⟨s + 1 + 1, 0, none⟩) b4).trans h5⟩
theorem PowI.set0 {s : Nat} {cl : Value} {x p : Nat} {W : World} (h : PowI s cl x p W) (y : Nat) : PowI s cl y p (W.setCell ⟨s, 0, none⟩ (.int .u8 y)) := by
  obtain ⟨h1, h2, h3, h4, h5⟩ := h
  exact ⟨World.cell?_setCell_same' _ _ _ (by rw [h1]; rfl), by rw [World.frozen?_setCell]; exact h2, (World.cell?_setCell_other _ _ _ _ (by simp)).trans h3, (World.cell?_setCell_other _ _ _ _ (by simp)).trans h4, by rw [World.frozen?_setCell]; exact h5⟩
theorem PowI.set2 {s : Nat} {cl : Value} {x p : Nat} {W : World} (h : PowI s cl x p W) (y : Nat) : PowI s cl x y (W.setCell ⟨s + 1 + 1, 0, none⟩ (.int .u8 y)) := by
  obtain ⟨h1, h2, h3, h4, h5⟩ := h
  exact ⟨(World.cell?_setCell_other _ _ _ _ (by simp)).trans h1, by rw [World.frozen?_setCell]; exact h2, (World.cell?_setCell_other _ _ _ _ (by simp)).trans h3, World.cell?_setCell_same' _ _ _ (by rw [h4]; rfl), by rw [World.frozen?_setCell]; exact h5⟩
theorem powI_own (s : Nat) (cl : Value) (f : List Bits.Bit → Nat × Nat) : Own (fun pre W => PowI s cl (f pre).1 (f pre).2 W) :=
  fun _ _ _ _ hs hg hr => ⟨cell_kept hs.1 hg hr, (frozen_kept hs.1 hg hr).trans hs.2.1, cell_kept hs.2.2.1 hg hr, cell_kept hs.2.2.2.1 hg hr, (frozen_kept hs.2.2.2.1 hg hr).trans hs.2.2.2.2⟩

set_option maxRecDepth 100000 in
set_option maxHeartbeats 2000000 in
theorem power_in (n : Nat) (hn : 3 ≤ n) (a m : Nat) (ha : a < 256) (hm : m < 18446744073709551616) (w : World) :
    CallsIn Fence.wide n Tryz.prog 170 #[.int .u8 a, .int .u64 m] w fun e w' => e = .returned (.int .u8 (Gf.pow a m)) ∧ Below w.heap.size w w' := by
  refine callsIn_of_wp_marks Tryz.func170 rfl trivial ?_ rfl
  simp only [Tryz.ntmps170, List.size_toArray, List.length_cons, List.length_nil, Nat.reduceAdd, Nat.reduceSub, Array.replicate_succ, Array.replicate_zero, List.push_toArray, List.append_toArray, List.nil_append, List.cons_append]
  have hfn : ∀ f, Fence.wide.fn f := fun _ => trivial
  have hn1 : 1 ≤ n := by omega
  gi_wp2_with (first | (gi_at_call 142; refine (bits_calls (n - 1) m _).mono ?_; rintro e w' ⟨rfl, rfl⟩) | (gi_at_call 171; refine (callsIn_wide.2 (squares_calls a _)).mono ?_; rintro e w' ⟨rfl, rfl⟩))
  obtain ⟨W0, hW0⟩ : ∃ W0, ((((w.alloc (.cells #[.int .u8 (a : Int)] 5)).alloc (.cells #[.func (.func 172) #[] #[.pointer (some ⟨w.heap.size, 0, none⟩)]] 206)).alloc (.cells #[.int .u8 1] 5)).alloc (.cells #[.int .u64 (m : Int)] 111)) = W0 := ⟨_, rfl⟩
  have hI0 : PowI w.heap.size (.func (.func 172) #[] #[.pointer (some ⟨w.heap.size, 0, none⟩)]) a 1 W0 := by
    rw [← hW0]; exact ⟨by simp [go_sem], by simp [go_sem], by simp [go_sem], by simp [go_sem], by simp [go_sem]⟩
  have hc3 : W0.cell? ⟨w.heap.size + 1 + 1 + 1, 0, none⟩ = some (.int .u64 (m : Int)) := by rw [← hW0]; simp [go_sem]
  have hsz : W0.heap.size = w.heap.size + 1 + 1 + 1 + 1 := by rw [← hW0]; simp
  have hB0 : Below w.heap.size w W0 := by
    rw [← hW0]; exact ((((Below.refl _ w).alloc (Nat.le_refl _) _).alloc (by simp) _).alloc (by simp; omega) _).alloc (by simp; omega) _
  rw [hW0]
  clear hW0
  refine wpIn_rangeFunc_ownF rfl hn1 (gf := 147) (lb := #[.pointer (some ⟨w.heap.size + 1 + 1 + 1, 0, none⟩)]) rfl trivial (enters_of Tryz.func147 (by kernel_rfl) rfl)
    (bits1_stops (n - 1) (by omega) (w.heap.size + 1 + 1 + 1) m hm _ (by omega) hc3) keepsCell_t (fun W l o o' _ h1 h2 _ => keepsCell_b W l o o' h1 h2) (Below.refl _ _) (fun _ => rfl)
    (fun pre W => PowI w.heap.size (.func (.func 172) #[] #[.pointer (some ⟨w.heap.size, 0, none⟩)]) (Bits.st a pre).1 (Bits.st a pre).2 W ∧ Below w.heap.size w W)
    (fun _ _ _ => False)
    (OwnFrom.and (Own.from (powI_own _ _ _) _) (ownFrom_below (Nat.le_refl _) (by omega)))
    (fun _ _ _ _ _ hs _ _ => hs)
    ⟨hI0, hB0⟩
    (fun x => { tmps := #[.int .u8 a, .int .u64 m, undef, undef, .int .u8 0, .pointer (some ⟨w.heap.size + 1, 0, none⟩), .pointer (some ⟨w.heap.size + 1 + 1, 0, none⟩), undef, .bool x.2, undef, .int .u8 a, .func (.func 172) #[] #[.pointer (some ⟨w.heap.size, 0, none⟩)], .int .u64 m, .func (.func 147) #[] #[.pointer (some ⟨w.heap.size + 1 + 1 + 1, 0, none⟩)], .int .i64 x.1.val, .bool x.2, undef, undef, undef, undef, undef, undef, undef], defers := [] }) ?assign ?body ?done ?stop
  case assign =>
    intro l x W K hK
    gi_wp2
    exact hK
  case body =>
    rintro l pre x W ⟨hI, hB⟩ _
    clear hI0 hB0 hc3
    have hst := Bits.st_lt a pre ha
    have hsn := Bits.st_snoc a pre x
    obtain ⟨i, one⟩ := x
    have HS : Hid (Bits.st a (pre ++ [(i, one)]) = (Gf.mul (Bits.st a pre).1 (Bits.st a pre).1, if one = true then Gf.mul (Bits.st a pre).2 (Bits.st a pre).1 else (Bits.st a pre).2)) := hsn
    clear hsn
    obtain ⟨q, hq⟩ : ∃ q, (Bits.st a pre).1 = q := ⟨_, rfl⟩
    obtain ⟨p, hp⟩ : ∃ p, (Bits.st a pre).2 = p := ⟨_, rfl⟩
    rw [hq, hp] at HS hst hI
    clear hq hp
    obtain ⟨hq8, hp8⟩ := hst
    have HI : Hid (PowI w.heap.size (.func (.func 172) #[] #[.pointer (some ⟨w.heap.size, 0, none⟩)]) q p W) := hI
    obtain ⟨h1, h2, h3, h4, h5⟩ := hI
    have hlt := World.block_lt_of_cell? _ _ h1
    have hd : 1 ≤ n - 1 - 1 := by omega
    cases one
    · gi_wp2_with (gi_at_call 172; refine (CallsIn.inRound l (callsIn_wide.2 (squares1_calls w.heap.size q hq8 W hlt h1 h2))).mono ?_; rintro e w2 ⟨rfl, w1, hb1, rfl⟩)
      refine ⟨(keepsOthers_below hb1).trans (KeepsOthers.setCell _ _ _), (KeepsCell.of_below hb1).setCell (by omega) _, ?_, (hB.trans (hb1.mono hB.size)).setCell (p := ⟨w.heap.size, 0, none⟩) (Nat.le_refl _) _⟩
      rw [HS.out]
      exact (HI.out.below hb1).set0 _
    · gi_wp2_with (first | (gi_at_call 172; refine (CallsIn.inRound l (callsIn_wide.2 (squares1_calls w.heap.size q hq8 W hlt h1 h2))).mono ?_; rintro e w2 ⟨rfl, w1, hb1, rfl⟩; have HJ : Hid (PowI w.heap.size (.func (.func 172) #[] #[.pointer (some ⟨w.heap.size, 0, none⟩)]) q p w1) := HI.out.below hb1; obtain ⟨k1, k2, k3, k4, k5⟩ := HJ.out; clear h1 h2 h3 h4 h5) | (gi_at_call 131; refine (CallsIn.inRound l (callsIn_wide.2 (mul_calls p q hp8 hq8 _))).mono ?_; rintro e w3 ⟨rfl, hb3⟩; have HJ3 : Hid (PowI w.heap.size (.func (.func 172) #[] #[.pointer (some ⟨w.heap.size, 0, none⟩)]) (Gf.mul q q) p w3) := (HJ.out.set0 (Gf.mul q q)).below hb3; obtain ⟨m1, m2, m3, m4, m5⟩ := HJ3.out; clear k1 k2 k3 k4 k5))
      refine ⟨(((keepsOthers_below hb1).trans (KeepsOthers.setCell _ _ _)).trans (keepsOthers_below hb3)).trans (KeepsOthers.setCell _ _ _), ((keepsCell_t ((KeepsCell.of_below hb1).setCell (by omega) _) (KeepsCell.of_below hb3)).setCell (by omega) _), ?_, ?_⟩
      · rw [HS.out]
        exact HJ3.out.set2 _
      · have hB1 := (hB.trans (hb1.mono hB.size)).setCell (p := ⟨w.heap.size, 0, none⟩) (Nat.le_refl _) (.int .u8 (Gf.mul q q))
        exact (hB1.trans (hb3.mono hB1.size)).setCell (p := ⟨w.heap.size + 1 + 1, 0, none⟩) (by simp; omega) _
  case done =>
    rintro D ys W hD hS ⟨hI, hB⟩ hK
    obtain ⟨k, hk, rfl, hz⟩ := hS
    rw [Bits.st_all a m k ha hz] at hI
    obtain ⟨h1, h2, h3, h4, h5⟩ := hI
    gi_wp2
    refine ⟨by simp, .inl ⟨_, _, rfl, run_takeDeferred hK, ?_⟩⟩
    exact ⟨_, results_tmp rfl _ _ _, rfl, hB.trans (belowK_b (w := w) (Nat.le_refl _) W D _ _ (by omega) hK rfl rfl)⟩
  case stop =>
    rintro D c pre W _ _ h _
    exact h.elim

theorem power_calls (a m : Nat) (ha : a < 256) (hm : m < 18446744073709551616) (w : World) :
    Calls Tryz.prog 170 #[.int .u8 a, .int .u64 m] w fun e w' => e = .returned (.int .u8 (Gf.pow a m)) ∧ Below w.heap.size w w' :=
  (callsIn_wide (n := 3)).1 (power_in 3 (by omega) a m ha hm w)

set_option maxHeartbeats 400000 in
theorem inv_calls (a : Nat) (ha : a < 256) (w : World) :
    Calls Tryz.prog 169 #[.int .u8 a] w fun e w' => e = .returned (.tuple #[.int .u8 (Gf.inv a), .bool (a != 0)]) ∧ Below w.heap.size w w' := by
  by_cases h0 : a = 0
  · subst h0
    have e0 := Gf.inv_zero
    go_enter Tryz.func169, Tryz.ntmps169
    go_wp2
    go_ret2
    exact ⟨by rw [e0]; rfl, Below.refl _ _⟩
  · have h1 : ((a : Int) == 0) = false := by simp; omega
    have h2 : (a != 0) = true := by simp [h0]
    rw [h2]
    go_enter Tryz.func169, Tryz.ntmps169
    go_wp2_with (go_at_call 170; refine (power_calls a 254 ha (by decide) _).mono ?_; rintro e w1 ⟨rfl, hb1⟩)
    go_ret2
    exact ⟨rfl, hb1⟩
end Go.Proofs
/- The walk of shift.Pow. Conditions: a byte; an int. -/
namespace Go.Proofs
open Go.RowKit Go.Shelf

theorem neg_neg_wrap (m : Nat) (hm : m < 9223372036854775808) : IntKind.u64.wrap (-IntKind.u64.wrap (-(m : Int) - 1)) = ((m + 1 : Nat) : Int) := by
  simp only [IntKind.wrap_u64]
  omega

set_option maxHeartbeats 400000 in
theorem pow_pos_calls (a m : Nat) (ha : a < 256) (hm : m < 9223372036854775808) (w : World) :
    Calls Tryz.prog 168 #[.int .u8 a, .int .i64 (m : Int)] w fun e w' => e = .returned (.int .u8 (Gf.pow a m)) ∧ Below w.heap.size w w' := by
  go_enter Tryz.func168, Tryz.ntmps168
  go_wp2_with (go_at_call 170; refine (power_calls a m ha (by omega) _).mono ?_; rintro e w1 ⟨rfl, hb1⟩)
  go_ret
  exact ⟨rfl, hb1⟩
set_option maxHeartbeats 400000 in
theorem pow_neg_calls (a m : Nat) (ha : a < 256) (hm : m < 9223372036854775808) (w : World) :
    Calls Tryz.prog 168 #[.int .u8 a, .int .i64 (-(m : Int) - 1)] w fun e w' => e = .returned (.int .u8 (Gf.pow (Gf.inv a) (m + 1))) ∧ Below w.heap.size w w' := by
  have hw := neg_neg_wrap m hm
  have HW : Hid (IntKind.u64.wrap (-IntKind.u64.wrap (-(m : Int) - 1)) = ((m + 1 : Nat) : Int)) := hw
  clear hw
  go_enter Tryz.func168, Tryz.ntmps168
  go_wp2_with (go_at_call 169; refine (inv_calls a ha _).mono ?_; rintro e w1 ⟨rfl, hb1⟩)
  simp only [HW.out]
  refine (power_calls (Gf.inv a) (m + 1) (Gf.inv_lt a ha) (by omega) _).mono ?_
  rintro e w2 ⟨rfl, hb2⟩
  go_wp2
  go_ret
  exact ⟨rfl, hb1.trans (hb2.mono hb1.size)⟩
theorem pow_calls (a : Nat) (n : Int) (ha : a < 256) (h1 : -9223372036854775808 ≤ n) (h2 : n < 9223372036854775808) (w : World) :
    Calls Tryz.prog 168 #[.int .u8 a, .int .i64 n] w fun e w' => e = .returned (.int .u8 (Gf.powZ a n)) ∧ Below w.heap.size w w' := by
  unfold Gf.powZ
  split
  · rename_i h
    have e : n = -(((-n - 1).toNat : Nat) : Int) - 1 := by omega
    have := pow_neg_calls a (-n - 1).toNat ha (by omega) w
    rw [← e, show (-n - 1).toNat + 1 = (-n).toNat by omega] at this
    exact this
  · rename_i h
    have := pow_pos_calls a n.toNat ha (by omega) w
    rw [Int.toNat_of_nonneg (by omega)] at this
    exact this
end Go.Proofs
/- The contracts of layer 1 by equation. Conditions: bytes, an int. -/
namespace Go.Proofs
open Go.RowKit Go.Shelf
theorem mul_e (a b r : Nat) (ha : a < 256) (hb : b < 256) (hr : Gf.mul a b = r) (w : World) :
    Calls Tryz.prog 131 #[.int .u8 a, .int .u8 b] w fun e w' => e = .returned (.int .u8 r) ∧ Below w.heap.size w w' := by
  subst hr; exact mul_calls a b ha hb w
theorem pow_e (a : Nat) (n : Int) (r : Nat) (ha : a < 256) (h1 : -9223372036854775808 ≤ n) (h2 : n < 9223372036854775808) (hr : Gf.powZ a n = r) (w : World) :
    Calls Tryz.prog 168 #[.int .u8 a, .int .i64 n] w fun e w' => e = .returned (.int .u8 r) ∧ Below w.heap.size w w' := by
  subst hr; exact pow_calls a n ha h1 h2 w

end Go.Proofs
