/- Texts laid together: Chunk, FdLnL, FdLnP, FdL, RfH, PTerms, PDeg, App2, BEq, PNorm, PAddTo, Told, PAdd, PMulR, RoundH, PMul, PolyX, Lits, Frl, RDeg, Mk. Each says its own conditions. -/
import Derived.RangeFuncBox
import Derived.Deep.RegionHeld3
import Derived.Laws.BytesArg
import Derived.Laws.Strings
import Derived.RegionCalls
import Derived.Deep.RegionWith
import Derived.Deep.RegionHeldLaw
import Derived.Deep.DeepCutAuto
import Derived.RangeFuncCalls
import Derived.OrdersIn
import Derived.TacticsInMore
import Derived.Test.YtjnkkokhkooegaaGreatMC
import Derived.Test.YtjnkkokhkooegaaGreatMO
import Derived.Test.YtjnkkokhkooegaaGreatMF
import Derived.Test.YtjnkkokhkooegaaGreatMA
/- The walk of slices.Chunk at sixty-four, and of its iterator: parts of sixty-four bytes, the last one shorter. Conditions: a list of at most a thousand million, its capacity no less than its length. -/
namespace Go.Proofs
open Go.RowKit Go.Shelf
attribute [local go_sem] Oper.semAt_some

end Go.Proofs
/- The walks of field's backend of lanes, for lists: each, pairs. Conditions: lists of at most a thousand million bytes, no longer than their capacities. -/
namespace Go.Proofs
open Go.RowKit Go.Shelf Go.ChangeShapes Go.WideShapes
attribute [local go_sem] Oper.semAt_some
attribute [local go_sem ↓ high] builtin_ap
attribute [local go_sem] ap_sem

/-- make([]byte, 0, n). -/
theorem make_bytes0 (n : Nat) (hn : n ≤ 281474976710656) (w : World) :
    (Instr.makeSlice 22 (.int .i64 0) (.int .i64 (n : Int))).run Tryz.prog w = .ok (.slice (some ⟨w.heap.size, 0, none⟩) 0 n) (w.alloc (.cells (madeCells #[.int .u8 0] n) 5)) := by
  obtain ⟨i, hi, hz, hs, hb⟩ := info_parts info_u8
  have hr := run_make (P := Tryz.prog) w 22 5 i (.int .u8 0) Tryz.underlying22 hi hz .i64 .i64 0 n (by omega) (by omega) (by rw [hb]; omega) (by omega)
  simp only [Int.toNat_natCast, hs, Nat.mul_one] at hr
  exact hr
theorem ow_made0 (W : World) {base : Nat} (hb : base ≤ W.heap.size) (n : Nat) (hn : n ≤ 281474976710656) : Ow (W.alloc (.cells (madeCells #[.int .u8 0] n) 5)) base (.slice (some ⟨W.heap.size, 0, none⟩) 0 n) [] :=
  ⟨rfl, .inr ⟨W.heap.size, n, madeCells #[.int .u8 0] n, rfl, hb, World.alloc_heap_new W _, Nat.zero_le _, by unfold maxLen; omega, by rw [size_madeCells]; simp, rfl⟩⟩
/-- 'out = append(out, told...)': behind the append and the store into the variable's box. -/
theorem appended0 {W w1 : World} {n₀ B : Nat} {v v' : Value} {xs ys : List Nat} (hv : Boxed W B 22 v) (hrow : Ow W n₀ v xs) (hn₀ : n₀ ≤ W.heap.size) (hB : n₀ ≤ B) (hown' : Ow w1 n₀ v' ys) (hgrow : W.grownBy w1 v.ownBlock) :
    Boxed w1 B 22 v ∧ Boxed (w1.setCell ⟨B, 0, none⟩ v') B 22 v' ∧ Ow (w1.setCell ⟨B, 0, none⟩ v') n₀ v' ys ∧ KeepsOthers W (w1.setCell ⟨B, 0, none⟩ v') ∧ Below n₀ W (w1.setCell ⟨B, 0, none⟩ v') := by
  have hv1 : Boxed w1 B 22 v := hv.kept hgrow (hv.not_row (by decide) hrow)
  refine ⟨hv1, hv1.set v', World.ownsRow.kept hown' (grownBy_setCell' w1 B v') (.inr (hv1.not_row (by decide) hown').symm), ?_, ?_⟩
  · refine (KeepsOthers.of_grownBy hgrow fun j o ej hj => ?_).trans (KeepsOthers.setCell _ _ _)
    rcases hrow.2 with ⟨rfl, _⟩ | ⟨g, cap, cur, rfl, _, hgb, _⟩
    · simp [Value.ownBlock] at ej
    · obtain rfl : g = j := by simpa [Value.ownBlock] using ej
      rw [hgb] at hj; cases hj; rfl
  · refine ((Below.refl n₀ W).grown hgrow hn₀ fun j ej => ?_).setCell (p := ⟨B, 0, none⟩) hB v'
    exact (hrow.lt j ej).1
theorem other0 {W w1 : World} {n₀ B C : Nat} {t : TypeId} {v v' u : Value} {xs : List Nat} (hu : Boxed W C t u) (ht : t ≠ 5) (hne : C ≠ B) (hrow : Ow W n₀ v xs) (hgrow : W.grownBy w1 v.ownBlock) : Boxed (w1.setCell ⟨B, 0, none⟩ v') C t u :=
  (hu.kept hgrow (hu.not_row ht hrow)).other hne v'
theorem boxed_below {W W' : World} {B : Nat} {t : TypeId} {v : Value} (h : Boxed W B t v) (hb : Below W.heap.size W W') : Boxed W' B t v := (hb.block B h.lt).trans h
theorem bs_part {W : World} {q : Option Addr} {n : Nat} {xs : List Nat} (h : Bs W q n xs) (ad : Addr) (hq : q = some ad) (k m : Nat) (hk : k + m ≤ n) : Bs W (some (ad.add k)) m ((List.range m).map fun i => xs.getD (k + i) 0) := by
  refine ⟨by simp, Nat.le_trans (by omega) h.max, fun i hi => ?_, fun i => ?_⟩
  · obtain ⟨a, e, hl, hc⟩ := h.cell (k + i) (by omega)
    obtain rfl : a = ad := Option.some.inj (e.symm.trans hq)
    refine ⟨_, rfl, by rw [block_add]; exact hl, ?_⟩
    rw [Addr.add_add, hc]
    simp [List.getD, hi]
  · by_cases hi : i < m
    · have := h.byte (k + i)
      simpa [List.getD, hi] using this
    · simp [List.getD, hi]

end Go.Proofs
/- The walk of field's backend of lanes, for pairs of lists. Conditions: lists of one length, of at most a thousand million bytes, no longer than their capacities. -/
namespace Go.Proofs
open Go.RowKit Go.Shelf Go.ChangeShapes Go.WideShapes
attribute [local go_sem] Oper.semAt_some
attribute [local go_sem ↓ high] builtin_ap
attribute [local go_sem] ap_sem

end Go.Proofs
/- The walks of a field's calls on lists: Each, Pairs, Dot. Conditions: lists of at most a thousand million bytes, no longer than their capacities; a field that Of has made, and lists that do not lie in its table. -/
namespace Go.Proofs
open Go.RowKit Go.ChangeShapes Go.WideShapes

theorem But.box {S : Nat → Prop} {w w1 : World} (o : Obj) (h : But S (w.alloc o) w1) : But S w w1 := ((But.refl S w).alloc o).trans h
theorem bs_take {W : World} {q : Option Addr} {n : Nat} {xs : List Nat} (h : Bs W q n xs) (k : Nat) (hk : k ≤ n) : Bs W q k (xs.take k) := by
  refine ⟨by rw [List.length_take, h.len]; omega, Nat.le_trans hk h.max, fun i hi => ?_, fun i => ?_⟩
  · obtain ⟨a, e, hl, hc⟩ := h.cell i (by omega)
    refine ⟨a, e, hl, ?_⟩
    rw [hc]
    simp [List.getD, hi]
  · by_cases hi : i < k
    · have := h.byte i
      simpa [List.getD, hi] using this
    · simp [List.getD, List.getElem?_take, hi]
theorem take_snoc (l : List Nat) (k : Nat) (hk : k < l.length) : l.take (k + 1) = l.take k ++ [l.getD k 0] := by
  rw [List.take_add_one, List.getElem?_eq_getElem hk]
  simp [List.getD, hk]
theorem map_byte (a : Nat) (xs : List Nat) (ha : a < 256) (i : Nat) : (xs.map (Gf.mul a)).getD i 0 < 256 := by
  simp only [List.getD, List.getElem?_map]
  cases xs[i]? with
  | none => simp
  | some b => exact Gf.mul_lt a b ha
end Go.Proofs
/- What rounds of a range over a function keep: boxes, fields, lists that are owned. Nothing of the program. -/
namespace Go.Proofs
open Go.RowKit Go.Shelf Go.ChangeShapes Go.WideShapes
theorem But.past {S T : Nat → Prop} {a b c : World} (h : But S a b) (k : But T b c) (hT : ∀ i, T i → a.heap.size ≤ i) : But S a c :=
  ⟨k.os.trans h.os, k.tape.trans h.tape, k.output.trans h.output, Nat.le_trans h.size k.size, fun i hi hs => (k.block i (Nat.lt_of_lt_of_le hi h.size) (fun t => by have := hT i t; omega)).trans (h.block i hi hs)⟩
theorem ownFrom_but {β : Type} {S : Nat → Prop} {B : Nat} {w : World} (hB : w.heap.size ≤ B) : OwnFrom B (fun (_ : β) W => But S w W) := fun _ X Y row hs hg hr =>
  ⟨hg.os.trans hs.os, hg.tape.trans hs.tape, hg.output.trans hs.output, Nat.le_trans hs.size hg.size, fun k hk hS => (hg.block k (Nat.lt_of_lt_of_le hk hs.size) (fun e => by have := (hr k e.symm).1; omega)).trans (hs.block k hk hS)⟩
theorem keepsFrom_but {S : Nat → Prop} {B : Nat} {W W' : World} (h : But S W W') (hS : ∀ k, S k → k < B) : KeepsFrom B W W' :=
  ⟨h.size, fun k o hk h0 _ => (h.block k (Array.getElem?_eq_some_iff.1 h0).1 (fun s => by have := hS k s; omega)).trans h0⟩
theorem ownFrom_fd {β : Type} {k B T C : Nat} (hB : B < C) (hT : T < C) : OwnFrom C (fun (_ : β) W => Fd k B T W) := fun _ X Y row hs hg hr =>
  Fd.but hs (S := fun i => some i = row) ⟨hg.os, hg.tape, hg.output, hg.size, fun i hi hn => hg.block i hi hn⟩ (fun e => by have := (hr B e.symm).1; omega) (fun e => by have := (hr T e.symm).1; omega)
theorem boxed_but {S : Nat → Prop} {W W' : World} {B : Nat} {t : TypeId} {v : Value} (h : Boxed W B t v) (hb : But S W W') (hs : ¬ S B) : Boxed W' B t v := (hb.block B h.lt hs).trans h
end Go.Proofs
/- The walk of poly.terms and of its iterator: the powers of x whose coefficient is not 0, each with it, from the greatest on. Conditions: a list of bytes, its capacity no less than its length. -/
namespace Go.Proofs
open Go.RowKit Go.Shelf
attribute [local go_sem] Oper.semAt_some

/-- A place of a list. -/
abbrev Tm (n : Nat) := { i : Nat // i < n }
abbrev tmv (xs : List Nat) (n : Nat) (x : Tm n) : Array Value := #[.int .i64 ((x.1 : Nat) : Int), .int .u8 ((xs.getD x.1 0 : Nat) : Int)]
/-- A round keeps what the captured box holds, and the list itself. -/
def KeepsP (B : Nat) (q : Option Addr) (n : Nat) (W W' : World) : Prop := KeepsCell B W W' ∧ ∀ a, q = some a → ∀ i, i < n → ∀ v, W.cell? (a.add i) = some v → W'.cell? (a.add i) = some v
theorem keepsP_t {B n : Nat} {q : Option Addr} {X Y Z : World} (h : KeepsP B q n X Y) (k : KeepsP B q n Y Z) : KeepsP B q n X Z := ⟨keepsCell_t h.1 k.1, fun a e i hi v hv => k.2 a e i hi v (h.2 a e i hi v hv)⟩
theorem keepsP_b {B n : Nat} {q : Option Addr} (W : World) (l : Nat) (o o' : Obj) (hl : W.heap[l]? = some o) (ho : o.isCells = false) : KeepsP B q n W (W.putObj l o') :=
  ⟨keepsCell_b W l o o' hl ho, fun _ _ _ _ _ h => cell_kept h (grownBy_putObj' W l o') (fun r e => by cases e; exact ⟨o, hl, ho⟩)⟩
theorem KeepsP.refl (B : Nat) (q : Option Addr) (n : Nat) (W : World) : KeepsP B q n W W := ⟨KeepsCell.refl _ _, fun _ _ _ _ _ h => h⟩
theorem KeepsP.drew {B n : Nat} {q : Option Addr} {W W' : World} (h : KeepsP B q n W W') : KeepsP B q n W W'.drew := ⟨h.1.drew, fun a e i hi v hv => by simpa using h.2 a e i hi v hv⟩
theorem Bs.keeps {B n : Nat} {q : Option Addr} {xs : List Nat} {W W' : World} (h : Bs W q n xs) (k : KeepsP B q n W W') (hs : W.heap.size ≤ W'.heap.size) : Bs W' q n xs :=
  ⟨h.len, h.max, fun i hi => by obtain ⟨a, e, hl, hc⟩ := h.cell i hi; exact ⟨a, e, Nat.lt_of_lt_of_le hl hs, k.2 a e i hi _ hc⟩, h.byte⟩

end Go.Proofs
/- The walks of poly.Deg and poly.normal. Conditions: a list of bytes, its capacity no less than its length; d less 1 is its degree. -/
namespace Go.Proofs
open Go.RowKit Go.Shelf
attribute [local go_sem] Oper.semAt_some

end Go.Proofs
/- append of a list that is read, whether it is nil or not; parts of lists that are read. Conditions: bounds on lengths. -/
namespace Go.Proofs
open Go.RowKit Go.ChangeShapes Go.WideShapes
/-- A part of a list that is read, however it came. -/
theorem bs_sub {W : World} {q : Option Addr} {n : Nat} {xs : List Nat} (h : Bs W q n xs) (c K N : Nat) (hK : K ≤ N) (hN : N ≤ n) (hc : n ≤ c) : Bs W (if c = K then q else q.map (fun x => x.add K)) (N - K) ((List.range (N - K)).map fun i => xs.getD (K + i) 0) := by
  by_cases h0 : N - K = 0
  · rw [h0]
    exact ⟨rfl, by omega, fun i hi => absurd hi (Nat.not_lt_zero i), fun i => by simp⟩
  · rw [if_neg (by omega)]
    obtain ⟨a, rfl, _⟩ := h.cell 0 (by omega)
    exact bs_part h a rfl K (N - K) (by omega)
theorem run_append_none (W : World) (base : Nat) (v : Value) (xs : List Nat) (c : Nat) (hown : Ow W base v xs) :
    (Builtin.append_ #[22, 22] 22 #[v, .slice none 0 c]).run Tryz.prog W = .ok v W := by
  obtain ⟨i, hi, hz, hsz, hby⟩ := info_parts info_u8
  have ht := Tryz.underlying22
  rcases hown.2 with ⟨rfl, _⟩ | ⟨g, cap, cur, rfl, _, hgb, hle, _⟩
  · simp [Builtin.append_, run_underlying ht, sizeOf, typeInfo, hi, Builtin.lenOf, Builtin.firstCells]
  · simp [Builtin.append_, run_underlying ht, sizeOf, typeInfo, hi, Builtin.lenOf, Builtin.firstCells, hle, storeCells]
theorem run_append_list (W : World) (base : Nat) (v : Value) (xs : List Nat) (q : Option Addr) (n c : Nat) (ys : List Nat) (hown : Ow W base v xs) (hs : Bs W q n ys) (hn : xs.length + n ≤ 10000000000) (hb : base ≤ W.heap.size) :
    ∃ v' W', (Builtin.append_ #[22, 22] 22 #[v, .slice q n c]).run Tryz.prog W = .ok v' W' ∧ Ow W' base v' (xs ++ ys) ∧ W.grownBy W' v.ownBlock := by
  have hl := hs.len
  cases q with
  | none =>
    have h0 : n = 0 := by
      rcases Nat.eq_zero_or_pos n with h | h
      · exact h
      · obtain ⟨_, e, _⟩ := hs.cell 0 h; cases e
    subst h0
    obtain rfl : ys = [] := List.length_eq_zero_iff.1 hl
    exact ⟨v, W, run_append_none W base v xs c hown, by rw [List.append_nil]; exact hown, ⟨rfl, rfl, rfl, Nat.le_refl _, fun _ _ _ => rfl⟩⟩
  | some ad =>
    subst hl
    exact run_append_bytes W base v xs ad c ys hown (fun j hj => by
      obtain ⟨a, e, _, hc⟩ := hs.cell j hj
      cases e
      exact hc) hn hb

end Go.Proofs
/- The walk of bytes.Equal. Conditions: lists of bytes. -/
namespace Go.Proofs
open Go.RowKit Go.ChangeShapes Go.WideShapes
open Pol (ofL Byt)
end Go.Proofs
/- The walks of poly.Norm, Coef, Cut, Same and Scale. Conditions: lists of at most a thousand million bytes, no longer than their capacities. -/
namespace Go.Proofs
open Go.RowKit Go.ChangeShapes Go.WideShapes
attribute [local go_sem ↓ high] builtin_ap
attribute [local go_sem] ap_sem
open Pol (IsN Dg ofL Byt)

theorem Bs.byt {W : World} {q : Option Addr} {n : Nat} {xs : List Nat} (h : Bs W q n xs) : Byt xs := h.byte
/-- A coefficient. -/
def cof (xs : List Nat) (i : Int) : Nat := if 0 ≤ i then xs.getD i.toNat 0 else 0
end Go.Proofs
/- The walk of poly.addTo: polynomials are added to a part of a list of the caller's own. Conditions: each is no longer than the part, and lies in another block. -/
namespace Go.Proofs
open Go.RowKit Go.Shelf Go.ChangeShapes Go.WideShapes
attribute [local go_sem] Oper.semAt_some
open Pol (IsN Dg ofL Byt)

/-! What the rounds add up. -/
theorem getD_set (s : List Nat) (i v k : Nat) : (s.set i v).getD k 0 = if i = k ∧ k < s.length then v else s.getD k 0 := by
  simp only [List.getD, List.getElem?_set]
  by_cases h : i = k
  · subst h
    by_cases h2 : i < s.length
    · rw [if_pos rfl, if_pos h2, if_pos ⟨rfl, h2⟩]; rfl
    · rw [if_pos rfl, if_neg h2, if_neg (fun c => h2 c.2), List.getElem?_eq_none (by omega)]
  · rw [if_neg h, if_neg (fun c => h c.1)]
/-! The marks that ranges over functions leave for the function's return. -/
def Marks (n : Nat) (W : World) : Nat → List Deferred → Prop
  | _, [] => True
  | b, d :: ds => ∃ D, d = { target := .collected D, args := #[] } ∧ n ≤ D ∧ D < b ∧ W.heap[D]? = some (.deferred (some [])) ∧ Marks n W D ds
theorem Marks.mono {n : Nat} {W : World} : ∀ {ds : List Deferred} {b b' : Nat}, Marks n W b ds → b ≤ b' → Marks n W b' ds
  | [], _, _, _, _ => trivial
  | _ :: _, _, _, ⟨D, e, h1, h2, h3⟩, hb => ⟨D, e, h1, by omega, h3⟩
theorem Marks.kept {n : Nat} {W W' : World} : ∀ {ds : List Deferred} {b : Nat}, Marks n W b ds → (∀ D, n ≤ D → D < b → W.heap[D]? = some (.deferred (some [])) → W'.heap[D]? = some (.deferred (some []))) → Marks n W' b ds
  | [], _, _, _ => trivial
  | _ :: _, _, ⟨D, e, h1, h2, h3, h4⟩, h => ⟨D, e, h1, h2, h D h1 h2 h3, h4.kept (fun D' a b c => h D' a (by omega) c)⟩
theorem KeepsP.setCell {B n g o : Nat} {q : Option Addr} {W W' : World} (h : KeepsP B q n W W') (hB : g ≠ B) (hq : Off g n q) (v : Value) : KeepsP B q n W (W'.setCell ⟨g, o, none⟩ v) :=
  ⟨h.1.setCell hB v, fun a e i hi u hu => (World.cell?_setCell_other _ _ _ _ (fun c => hq (by omega) a e (by rw [← block_add a i, ← c]))).trans (h.2 a e i hi u hu)⟩

end Go.Proofs
/- Lists of bytes that a call has told, of a length that is named. -/
namespace Go.Proofs
open Go.RowKit
theorem Ow.tell {W : World} {base : Nat} {v : Value} {xs : List Nat} {n : Nat} (h : Ow W base v xs) (hx : ∀ i, xs.getD i 0 < 256) (hl : xs.length = n) : ∃ q c, v = .slice q n c ∧ Bs W q n xs ∧ n ≤ c ∧ ∀ T, T < base → Off T n q := by
  subst hl; exact h.told hx
end Go.Proofs
/- The walks of poly.Add and poly.Shift. Conditions: lists of at most a thousand million bytes, no longer than their capacities. -/
namespace Go.Proofs
open Go.RowKit Go.ChangeShapes Go.WideShapes
attribute [local go_sem ↓ high] builtin_ap
attribute [local go_sem] ap_sem
open Pol (IsN Dg ofL Byt)

end Go.Proofs
/- What the rounds of poly.Mul add up, and the two calls of a round. Conditions: bytes; a field that Of has made. -/
namespace Go.Proofs
open Go.RowKit Go.Shelf Go.ChangeShapes Go.WideShapes
attribute [local go_sem] Oper.semAt_some
open Pol (IsN Dg ofL Byt)

/-! What the rounds add up. -/
theorem keepsP_but {S : Nat → Prop} {B n : Nat} {q : Option Addr} {W W' : World} (h : But S W W') (hB : ¬ S B) (hq : 0 < n → ∀ a, q = some a → ¬ S a.block) : KeepsP B q n W W' :=
  ⟨fun v e => (h.cell (p := ⟨B, 0, none⟩) (World.block_lt_of_cell? _ _ e) hB).trans e, fun a e i hi v hv => (h.cell (World.block_lt_of_cell? _ _ hv) (by rw [block_add]; exact hq (by omega) a e)).trans hv⟩

end Go.Proofs
/- A region that draws its order, in a round of a range over a function: it may be walked as anywhere else. Nothing of the program. -/
namespace Go.Proofs
open Go.RowKit

section
variable {P : Program} {ops : Array Oper} {Q : Exit → Act → World → Prop} {md : Region.Mode} {S : World → Prop} {l n : Nat}
end
end Go.Proofs
/- The walk of poly.Mul. Conditions: lists of at most a hundred million bytes, no longer than their capacities; a field that Of has made, and lists that do not lie in its table. -/
namespace Go.Proofs
open Go.RowKit Go.Shelf Go.ChangeShapes Go.WideShapes
attribute [local go_sem] Oper.semAt_some
open Pol (IsN Dg ofL Byt)

end Go.Proofs
/- Normal lists of sums, products and multiples; lists of literals. -/
namespace Go.Proofs
open Go.RowKit
namespace Pol
theorem isN_add (xs ys : List Nat) : ∃ zs, IsN zs (add (ofL xs) (ofL ys)) ∧ zs.length ≤ xs.length + ys.length := isN_of_bd (((ofL_bd xs).mono_le (by omega)).add ((ofL_bd ys).mono_le (by omega)))
theorem isN_norm (xs : List Nat) : ∃ zs, IsN zs (ofL xs) ∧ zs.length ≤ xs.length := isN_of_bd (ofL_bd xs)
theorem isN_smul (a : GF) (xs : List Nat) : ∃ zs, IsN zs (smul a (ofL xs)) ∧ zs.length ≤ xs.length := isN_of_bd ((ofL_bd xs).smul a)
end Pol
/-- A list of literals. -/
theorem bs_lit (W : World) (xs : List Nat) (hx : Pol.Byt xs) (hl : xs.length ≤ 1000) : Bs (W.alloc (.cells ⟨ob xs⟩ 5)) (some ⟨W.heap.size, 0, none⟩) xs.length xs :=
  ⟨rfl, by omega, fun i hi => ⟨_, rfl, by simp, by
    have e1 : (⟨W.heap.size, 0, none⟩ : Addr).add i = ⟨W.heap.size, i, none⟩ := by unfold Addr.add; split <;> simp_all
    rw [e1, World.cell?_alloc_at _ _ _ _ rfl]
    show (⟨ob xs⟩ : Array Value)[i]? = _
    rw [List.getElem?_toArray]
    exact ob_at xs i hi⟩, hx⟩
/-- The same, its cells and its block as a walk spells them. -/
theorem bs_lits (W : World) (A : Array Value) (xs : List Nat) (h n : Nat) (hA : A = ⟨ob xs⟩) (hh : h = W.heap.size) (hn : n = xs.length) (hx : xs.all (· < 256) = true) (hl : xs.length ≤ 1000) : Bs (W.alloc (.cells A 5)) (some ⟨h, 0, none⟩) n xs := by
  subst hA hh hn
  exact bs_lit W xs (fun i => by
    simp only [List.getD]
    cases hx' : xs[i]? with
    | none => decide
    | some x => simpa using List.all_eq_true.1 hx x (List.mem_of_getElem? hx')) hl
theorem off_new {W : World} {T n : Nat} (hT : T < W.heap.size) : Off T n (some ⟨W.heap.size, 0, none⟩) := fun _ a e => by cases e; show ¬ W.heap.size = T; omega
end Go.Proofs
/- Polynomials of literals. Nothing of the program. -/
namespace Go.Proofs
open Go.RowKit
open Pol (IsN Dg ofL Byt)
end Go.Proofs
/- A product of two zeros, written out. Nothing of the program. -/
namespace Go.Proofs
open Pol (IsN Dg ofL Byt vl frL)
end Go.Proofs
/- The walk of the document's Deg (erratumref05). Condition: a list of at most a thousand million bytes. -/
namespace Go.Proofs
open Go.RowKit Go.ChangeShapes Go.WideShapes
open Pol (IsN Dg ofL Byt)

set_option maxRecDepth 100000 in
set_option maxHeartbeats 1000000 in
theorem rdeg_calls (q : Option Addr) (n c : Nat) (xs : List Nat) (d : Nat) (hd : Dg d (ofL xs)) (hn : n ≤ 1000000000) (w : World) (hs : Bs w q n xs) :
    Calls Tryz.prog 64 #[.slice q n c] w fun e w' => e = .returned (.int .i64 ((d : Int) - 1)) ∧ w' = w := by
  have HS : Hid (Bs w q n xs) := hs
  have HD : Hid (Dg d (ofL xs)) := hd
  have h0 : Hid (Pol.Bd n (ofL xs)) := by have := Pol.ofL_bd xs; rwa [hs.len] at this
  clear hs hd
  go_enter Tryz.func64, Tryz.ntmps64
  go_wp2
  go_loopw [3] (fun i wr => ∃ j : Nat, j ≤ n ∧ i = .int .i64 ((j : Int) - 1) ∧ Pol.Bd j (ofL xs) ∧ wr = w) (fun i _ => (intOf i + 1).toNat)
  case atStart => exact ⟨n, Nat.le_refl _, rfl, h0.out, rfl⟩
  case round =>
    obtain ⟨j, hj, rfl, hbd, rfl⟩ := hrel
    cases j with
    | zero =>
      have e0 : d = 0 := HD.out.unique ⟨hbd, fun e => absurd rfl e⟩
      subst e0
      have e1 : ((0 : Nat) : Int) - 1 = -1 := by omega
      rw [e1]
      clear HS HD h0 hbd
      go_wp2
      go_ret
      exact ⟨rfl, rfl⟩
    | succ k =>
      have e1 : ((k + 1 : Nat) : Int) - 1 = (k : Int) := by omega
      rw [e1]
      have hlt : k < n := by omega
      have hki : (k : Int) < (n : Int) := by omega
      obtain ⟨a, rfl, la, ca⟩ := HS.out.cell k hlt
      have hbx := HS.out.byte k
      have HZ : Hid (xs.getD k 0 = 0 → Pol.Bd k (ofL xs)) := fun e i hi => by
        by_cases h : i = k
        · subst h; show GF.of _ = 0; rw [e]; rfl
        · exact hbd i (by omega)
      have HE : Hid (xs.getD k 0 ≠ 0 → d = k + 1) := fun e => HD.out.unique ⟨hbd, fun _ e' => e ((GF.of_eq_zero _ hbx).1 e')⟩
      obtain ⟨x, hx⟩ : ∃ x, xs.getD k 0 = x := ⟨_, rfl⟩
      rw [hx] at ca HZ HE
      clear hx la hbd hbx
      by_cases h : x = 0
      · subst h
        have HB : Hid (Pol.Bd k (ofL xs)) := HZ.out rfl
        clear HZ HE
        go_wp2
        go_roundw
        case rel => exact ⟨k, by omega, rfl, HB.out, by trivial⟩
        case measure => simp [intOf]
      · have hne : ((x : Int) != 0) = true := by simp; omega
        have e2 := HE.out h
        subst e2
        clear HZ HE HS HD h0
        go_wp2
        go_ret
        exact ⟨congrArg (fun z => Ending.returned (.int .i64 z)) e1.symm, rfl⟩
end Go.Proofs
/- make([]byte, n), read. Condition: a bound on n. -/
namespace Go.Proofs
open Go.RowKit
end Go.Proofs
