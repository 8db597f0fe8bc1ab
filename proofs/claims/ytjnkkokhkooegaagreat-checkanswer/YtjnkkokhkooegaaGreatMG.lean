/- Texts laid together: Chunk, FdLnL, FdLnP, FdL, App2, Told. Each says its own conditions. -/
import Derived.RangeFuncBox
import Derived.Deep.RegionHeld3
import Derived.Test.YtjnkkokhkooegaaGreatMC
import Derived.Test.YtjnkkokhkooegaaGreatMP
import Derived.Test.YtjnkkokhkooegaaGreatMO
import Derived.Test.YtjnkkokhkooegaaGreatMF
/- The walk of slices.Chunk at sixty-four, and of its iterator: parts of sixty-four bytes, the last one shorter. Conditions: a list of at most a thousand million, its capacity no less than its length. -/
namespace Go.Proofs
open Go.RowKit Go.Shelf
attribute [local go_sem] Oper.semAt_some

end Go.Proofs
/- The walks of field's backend of lanes, for lists: each, pairs. Conditions: lists of at most a thousand million bytes, no longer than their capacities. -/
namespace Go.Proofs
open Go.RowKit Go.Shelf Go.ChangeShapes Go.WideShapes
attribute [local go_sem] Oper.semAt_some
attribute [local go_sem ↓ high] builtin_ap
attribute [local go_sem] ap_sem

/-- make([]byte, 0, n). -/
theorem make_bytes0 (n : Nat) (hn : n ≤ 281474976710656) (w : World) :
    (Instr.makeSlice 22 (.int .i64 0) (.int .i64 (n : Int))).run Tryz.prog w = .ok (.slice (some ⟨w.heap.size, 0, none⟩) 0 n) (w.alloc (.cells (madeCells #[.int .u8 0] n) 5)) := by
  obtain ⟨i, hi, hz, hs, hb⟩ := info_parts info_u8
  have hr := run_make (P := Tryz.prog) w 22 5 i (.int .u8 0) Tryz.underlying22 hi hz .i64 .i64 0 n (by omega) (by omega) (by rw [hb]; omega) (by omega)
  simp only [Int.toNat_natCast, hs, Nat.mul_one] at hr
  exact hr
theorem ow_made0 (W : World) {base : Nat} (hb : base ≤ W.heap.size) (n : Nat) (hn : n ≤ 281474976710656) : Ow (W.alloc (.cells (madeCells #[.int .u8 0] n) 5)) base (.slice (some ⟨W.heap.size, 0, none⟩) 0 n) [] :=
  ⟨rfl, .inr ⟨W.heap.size, n, madeCells #[.int .u8 0] n, rfl, hb, World.alloc_heap_new W _, Nat.zero_le _, by unfold maxLen; omega, by rw [size_madeCells]; simp, rfl⟩⟩
/-- 'out = append(out, told...)': behind the append and the store into the variable's box. -/
theorem appended0 {W w1 : World} {n₀ B : Nat} {v v' : Value} {xs ys : List Nat} (hv : Boxed W B 22 v) (hrow : Ow W n₀ v xs) (hn₀ : n₀ ≤ W.heap.size) (hB : n₀ ≤ B) (hown' : Ow w1 n₀ v' ys) (hgrow : W.grownBy w1 v.ownBlock) :
    Boxed w1 B 22 v ∧ Boxed (w1.setCell ⟨B, 0, none⟩ v') B 22 v' ∧ Ow (w1.setCell ⟨B, 0, none⟩ v') n₀ v' ys ∧ KeepsOthers W (w1.setCell ⟨B, 0, none⟩ v') ∧ Below n₀ W (w1.setCell ⟨B, 0, none⟩ v') := by
  have hv1 : Boxed w1 B 22 v := hv.kept hgrow (hv.not_row (by decide) hrow)
  refine ⟨hv1, hv1.set v', World.ownsRow.kept hown' (grownBy_setCell' w1 B v') (.inr (hv1.not_row (by decide) hown').symm), ?_, ?_⟩
  · refine (KeepsOthers.of_grownBy hgrow fun j o ej hj => ?_).trans (KeepsOthers.setCell _ _ _)
    rcases hrow.2 with ⟨rfl, _⟩ | ⟨g, cap, cur, rfl, _, hgb, _⟩
    · simp [Value.ownBlock] at ej
    · obtain rfl : g = j := by simpa [Value.ownBlock] using ej
      rw [hgb] at hj; cases hj; rfl
  · refine ((Below.refl n₀ W).grown hgrow hn₀ fun j ej => ?_).setCell (p := ⟨B, 0, none⟩) hB v'
    exact (hrow.lt j ej).1
theorem other0 {W w1 : World} {n₀ B C : Nat} {t : TypeId} {v v' u : Value} {xs : List Nat} (hu : Boxed W C t u) (ht : t ≠ 5) (hne : C ≠ B) (hrow : Ow W n₀ v xs) (hgrow : W.grownBy w1 v.ownBlock) : Boxed (w1.setCell ⟨B, 0, none⟩ v') C t u :=
  (hu.kept hgrow (hu.not_row ht hrow)).other hne v'
theorem boxed_below {W W' : World} {B : Nat} {t : TypeId} {v : Value} (h : Boxed W B t v) (hb : Below W.heap.size W W') : Boxed W' B t v := (hb.block B h.lt).trans h
theorem bs_part {W : World} {q : Option Addr} {n : Nat} {xs : List Nat} (h : Bs W q n xs) (ad : Addr) (hq : q = some ad) (k m : Nat) (hk : k + m ≤ n) : Bs W (some (ad.add k)) m ((List.range m).map fun i => xs.getD (k + i) 0) := by
  refine ⟨by simp, Nat.le_trans (by omega) h.max, fun i hi => ?_, fun i => ?_⟩
  · obtain ⟨a, e, hl, hc⟩ := h.cell (k + i) (by omega)
    obtain rfl : a = ad := Option.some.inj (e.symm.trans hq)
    refine ⟨_, rfl, by rw [block_add]; exact hl, ?_⟩
    rw [Addr.add_add, hc]
    simp [List.getD, hi]
  · by_cases hi : i < m
    · have := h.byte (k + i)
      simpa [List.getD, hi] using this
    · simp [List.getD, hi]

end Go.Proofs
/- The walk of field's backend of lanes, for pairs of lists. Conditions: lists of one length, of at most a thousand million bytes, no longer than their capacities. -/
namespace Go.Proofs
open Go.RowKit Go.Shelf Go.ChangeShapes Go.WideShapes
attribute [local go_sem] Oper.semAt_some
attribute [local go_sem ↓ high] builtin_ap
attribute [local go_sem] ap_sem

end Go.Proofs
/- The walks of a field's calls on lists: Each, Pairs, Dot. Conditions: lists of at most a thousand million bytes, no longer than their capacities; a field that Of has made, and lists that do not lie in its table. -/
namespace Go.Proofs
open Go.RowKit Go.ChangeShapes Go.WideShapes

theorem But.box {S : Nat → Prop} {w w1 : World} (o : Obj) (h : But S (w.alloc o) w1) : But S w w1 := ((But.refl S w).alloc o).trans h
theorem bs_take {W : World} {q : Option Addr} {n : Nat} {xs : List Nat} (h : Bs W q n xs) (k : Nat) (hk : k ≤ n) : Bs W q k (xs.take k) := by
  refine ⟨by rw [List.length_take, h.len]; omega, Nat.le_trans hk h.max, fun i hi => ?_, fun i => ?_⟩
  · obtain ⟨a, e, hl, hc⟩ := h.cell i (by omega)
    refine ⟨a, e, hl, ?_⟩
    rw [hc]
    simp [List.getD, hi]
  · by_cases hi : i < k
    · have := h.byte i
      simpa [List.getD, hi] using this
    · simp [List.getD, List.getElem?_take, hi]
theorem take_snoc (l : List Nat) (k : Nat) (hk : k < l.length) : l.take (k + 1) = l.take k ++ [l.getD k 0] := by
  rw [List.take_add_one, List.getElem?_eq_getElem hk]
  simp [List.getD, hk]
theorem map_byte (a : Nat) (xs : List Nat) (ha : a < 256) (i : Nat) : (xs.map (Gf.mul a)).getD i 0 < 256 := by
  simp only [List.getD, List.getElem?_map]
  cases xs[i]? with
  | none => simp
  | some b => exact Gf.mul_lt a b ha
end Go.Proofs
/- append of a list that is read, whether it is nil or not; parts of lists that are read. Conditions: bounds on lengths. -/
namespace Go.Proofs
open Go.RowKit Go.ChangeShapes Go.WideShapes
/-- A part of a list that is read, however it came. -/
theorem bs_sub {W : World} {q : Option Addr} {n : Nat} {xs : List Nat} (h : Bs W q n xs) (c K N : Nat) (hK : K ≤ N) (hN : N ≤ n) (hc : n ≤ c) : Bs W (if c = K then q else q.map (fun x => x.add K)) (N - K) ((List.range (N - K)).map fun i => xs.getD (K + i) 0) := by
  by_cases h0 : N - K = 0
  · rw [h0]
    exact ⟨rfl, by omega, fun i hi => absurd hi (Nat.not_lt_zero i), fun i => by simp⟩
  · rw [if_neg (by omega)]
    obtain ⟨a, rfl, _⟩ := h.cell 0 (by omega)
    exact bs_part h a rfl K (N - K) (by omega)
theorem run_append_none (W : World) (base : Nat) (v : Value) (xs : List Nat) (c : Nat) (hown : Ow W base v xs) :
    (Builtin.append_ #[22, 22] 22 #[v, .slice none 0 c]).run Tryz.prog W = .ok v W := by
  obtain ⟨i, hi, hz, hsz, hby⟩ := info_parts info_u8
  have ht := Tryz.underlying22
  rcases hown.2 with ⟨rfl, _⟩ | ⟨g, cap, cur, rfl, _, hgb, hle, _⟩
  · simp [Builtin.append_, run_underlying ht, sizeOf, typeInfo, hi, Builtin.lenOf, Builtin.firstCells]
  · simp [Builtin.append_, run_underlying ht, sizeOf, typeInfo, hi, Builtin.lenOf, Builtin.firstCells, hle, storeCells]
theorem run_append_list (W : World) (base : Nat) (v : Value) (xs : List Nat) (q : Option Addr) (n c : Nat) (ys : List Nat) (hown : Ow W base v xs) (hs : Bs W q n ys) (hn : xs.length + n ≤ 10000000000) (hb : base ≤ W.heap.size) :
    ∃ v' W', (Builtin.append_ #[22, 22] 22 #[v, .slice q n c]).run Tryz.prog W = .ok v' W' ∧ Ow W' base v' (xs ++ ys) ∧ W.grownBy W' v.ownBlock := by
  have hl := hs.len
  cases q with
  | none =>
    have h0 : n = 0 := by
      rcases Nat.eq_zero_or_pos n with h | h
      · exact h
      · obtain ⟨_, e, _⟩ := hs.cell 0 h; cases e
    subst h0
    obtain rfl : ys = [] := List.length_eq_zero_iff.1 hl
    exact ⟨v, W, run_append_none W base v xs c hown, by rw [List.append_nil]; exact hown, ⟨rfl, rfl, rfl, Nat.le_refl _, fun _ _ _ => rfl⟩⟩
  | some ad =>
    subst hl
    exact run_append_bytes W base v xs ad c ys hown (fun j hj => by
      obtain ⟨a, e, _, hc⟩ := hs.cell j hj
      cases e
      exact hc) hn hb

end Go.Proofs
/- Lists of bytes that a call has told, of a length that is named. -/
namespace Go.Proofs
open Go.RowKit
theorem Ow.tell {W : World} {base : Nat} {v : Value} {xs : List Nat} {n : Nat} (h : Ow W base v xs) (hx : ∀ i, xs.getD i 0 < 256) (hl : xs.length = n) : ∃ q c, v = .slice q n c ∧ Bs W q n xs ∧ n ≤ c ∧ ∀ T, T < base → Off T n q := by
  subst hl; exact h.told hx
end Go.Proofs
