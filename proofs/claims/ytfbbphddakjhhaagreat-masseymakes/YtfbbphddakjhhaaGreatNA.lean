/- Texts laid together: GRow, GBas, MxR, OwnV, OwnL, GLead, GBes, GRed. Each says its own conditions. -/
import Derived.BigQuiet
import Derived.Laws.CopyOwn
import Derived.Deep.RegionHeld3
import Derived.Deep.RegionWith
import Derived.Deep.RegionHeldLaw
import Derived.Deep.LoopGhost
import Derived.Test.YtfbbphddakjhhaaGreatMG
import Derived.Test.YtfbbphddakjhhaaGreatMN
import Derived.Test.YtfbbphddakjhhaaGreatME
import Derived.Test.YtfbbphddakjhhaaGreatMO
import Derived.Test.YtfbbphddakjhhaaGreatMA
/- A matrix in memory of its own whose cells are turned, and the walks of gauss's work: row, blank, addTo. Conditions: no more than 300 rows and 600 columns. -/
namespace Go.Proofs
open Go.RowKit Go.ChangeShapes Go.WideShapes
open Mx (Mat cells upd prt lay)
open Pol (Byt ofL)

/-- Block G holds the cells of M, R rows of C, n in all; it lies from base on. -/
def Wk (W : World) (base G n R C : Nat) (M : Mat) : Prop := n = R * C ∧ Ow W base (.slice (some ⟨G, 0, none⟩) n n) (cells R C M)
section
variable {W W' : World} {base G n R C : Nat} {M N : Mat}
theorem Wk.len (h : Wk W base G n R C M) : n = (cells R C M).length := by rw [Mx.cells_length]; exact h.1
theorem Wk.lt (h : Wk W base G n R C M) : base ≤ G ∧ G < W.heap.size := h.2.lt G rfl
theorem Wk.congr (h : Wk W base G n R C M) (e : Mx.Eq R C M N) : Wk W base G n R C N := ⟨h.1, by rw [← Mx.cells_congr e]; exact h.2⟩
theorem Wk.alloc (h : Wk W base G n R C M) (o : Obj) : Wk (W.alloc o) base G n R C M := ⟨h.1, h.2.alloc o⟩
theorem Wk.drew (h : Wk W base G n R C M) : Wk W.drew base G n R C M := ⟨h.1, h.2.drew⟩
theorem Wk.below (h : Wk W base G n R C M) (hb : Below W.heap.size W W') : Wk W' base G n R C M := ⟨h.1, h.2.below hb⟩
theorem Wk.mono (h : Wk W base G n R C M) {b : Nat} (hb : b ≤ base) : Wk W b G n R C M := ⟨h.1, h.2.mono hb⟩
theorem Wk.but {S : Nat → Prop} (h : Wk W base G n R C M) (hb : But S W W') (hs : ¬ S G) : Wk W' base G n R C M := ⟨h.1, h.2.block fun k hk => by cases hk; exact hb.block G h.lt.2 hs⟩
theorem Wk.cell (h : Wk W base G n R C M) {i j o : Nat} (hi : i < R) (hj : j < C) (ho : o = i * C) : W.cell? ⟨G, o + j, none⟩ = some (.int .u8 ((M i j).val : Nat)) ∧ W.frozen? ⟨G, o + j, none⟩ = false := by
  subst ho
  have := h.2.at h.len (i * C + j) (by rw [h.1]; exact Mx.cell_lt hi hj)
  rw [Mx.cells_at M hi hj] at this
  exact this
theorem Wk.set (h : Wk W base G n R C M) {i j o x : Nat} (hi : i < R) (hj : j < C) (ho : o = i * C) (hx : x < 256) : Wk (W.setCell ⟨G, o + j, none⟩ (.int .u8 (x : Nat))) base G n R C (upd M i j (GF.of x)) := by
  subst ho
  refine ⟨h.1, ?_⟩
  rw [← Mx.cells_set M hi hj x hx]
  exact h.2.set h.len _ _
theorem Wk.bs (h : Wk W base G n R C M) {i c k o : Nat} (hi : i < R) (hc : c + k ≤ C) (ho : o = i * C) (hk : k ≤ 1000000) : Bs W (some ⟨G, o + c, none⟩) k (prt M i c k) := by
  refine ⟨Mx.prt_length _ _ _ _, by omega, fun t ht => ⟨_, rfl, h.lt.2, ?_⟩, Mx.prt_byt _ _ _ _⟩
  have hadd : (⟨G, o + c, none⟩ : Addr).add t = ⟨G, o + c + t, none⟩ := by unfold Addr.add; split <;> simp_all
  rw [hadd, Nat.add_assoc, Mx.prt_at M i c k t ht]
  exact (h.cell hi (by omega) ho).1
end
theorem Below.drewN {n : Nat} {w w' : World} (h : Below n w w') (k : Nat) : Below n w (w'.drewN k) := h.trans ⟨rfl, rfl, rfl, Nat.le_refl _, fun _ _ => rfl⟩
end Go.Proofs
/- The walks of gauss.blank, addTo and of the work's swap. Conditions: no more than 300 rows and 600 columns. -/
namespace Go.Proofs
open Go.RowKit Go.ChangeShapes Go.WideShapes
open Mx (Mat cells upd prt lay)
open Pol (Byt ofL)

/-- Three cells as a matrix, four as a work. -/
theorem load3 {W : World} {B : Nat} {v0 v1 v2 : Value} (h0 : W.cell? ⟨B, 0, none⟩ = some v0) (h1 : W.cell? ⟨B, 1, none⟩ = some v1) (h2 : W.cell? ⟨B, 2, none⟩ = some v2) : (loadVar 95 ⟨B, 0, none⟩).run Tryz.prog W = .ok (.agg #[v0, v1, v2]) W := by
  have hl := run_loadCells_list (P := Tryz.prog) W ⟨B, 0, none⟩ [v0, v1, v2] (fun j v hj => by
    have hadd : (⟨B, 0, none⟩ : Addr).add j = ⟨B, j, none⟩ := by unfold Addr.add; split <;> simp_all
    rw [hadd]
    match j, hj with
    | 0, hj => rw [h0]; exact hj
    | 1, hj => rw [h1]; exact hj
    | 2, hj => rw [h2]; exact hj)
  have ha : (isAgg 95).run Tryz.prog W = .ok true W := Tryz.isAgg95 W
  have hl' : (loadCells ⟨B, 0, none⟩ 3).run Tryz.prog W = .ok #[v0, v1, v2] W := hl
  simp [loadVar, Sem.run_bind, ha, hl']
/-- A work's box. -/
structure Wb (W : World) (B R C G n : Nat) (pv : Value) : Prop where
  c0 : W.cell? ⟨B, 0, none⟩ = some (.int .i64 (R : Nat))
  c1 : W.cell? ⟨B, 1, none⟩ = some (.int .i64 (C : Nat))
  c2 : W.cell? ⟨B, 2, none⟩ = some (.slice (some ⟨G, 0, none⟩) n n)
  c3 : W.cell? ⟨B, 3, none⟩ = some pv
theorem Wb.blt {W : World} {B R C G n : Nat} {pv : Value} (h : Wb W B R C G n pv) : B < W.heap.size := World.block_lt_of_cell? _ _ h.c0
theorem Wb.but {S : Nat → Prop} {W W' : World} {B R C G n : Nat} {pv : Value} (h : Wb W B R C G n pv) (hb : But S W W') (hs : ¬ S B) : Wb W' B R C G n pv :=
  ⟨(hb.cell (p := ⟨B, 0, none⟩) h.blt hs).trans h.c0, (hb.cell (p := ⟨B, 1, none⟩) h.blt hs).trans h.c1, (hb.cell (p := ⟨B, 2, none⟩) h.blt hs).trans h.c2, (hb.cell (p := ⟨B, 3, none⟩) h.blt hs).trans h.c3⟩
theorem Wb.below {W W' : World} {B R C G n : Nat} {pv : Value} (h : Wb W B R C G n pv) (hb : Below W.heap.size W W') : Wb W' B R C G n pv := h.but (But.of_below (S := fun _ => False) hb) id
/-- Nothing that lay in w is turned. -/
def Sm (w W : World) : Prop := Below w.heap.size w W
theorem Sm.refl (w : World) : Sm w w := Below.refl _ _
theorem Sm.trans {a b c : World} (h : Sm a b) (k : Below b.heap.size b c) : Sm a c := Below.trans h (k.mono h.size)

end Go.Proofs
/- The walks of matrix.inside, Right, piece and Row. Conditions: ints; a matrix whose cells are bytes. -/
namespace Go.Proofs
open Go.RowKit Go.ChangeShapes Go.WideShapes
open Mx (Mat cells upd prt lay)
open Pol (Byt ofL)
attribute [local go_sem ↓ high] builtin_ap
attribute [local go_sem] ap_sem

theorem wrap_nat (n : Nat) (h : n ≤ 1000000000) : IntKind.i64.wrap (n : Int) = (n : Int) := by
  rw [IntKind.wrap_i64]; omega
/-- A side that may be. -/
def side (z : Int) : Bool := decide (0 ≤ z) && decide (z ≤ 300)
theorem side_true {z : Int} : side z = true ↔ 0 ≤ z ∧ z ≤ 300 := by simp [side]

/-- Is it right? -/
def rightB (R C : Int) (n : Nat) : Bool := side R && side C && decide ((n : Int) = R * C)
theorem right_nat {R C n : Nat} (hR : R ≤ 300) (hC : C ≤ 300) (hn : n = R * C) : rightB (R : Int) (C : Int) n = true := by
  unfold rightB
  rw [side_true.2 ⟨by omega, by omega⟩, side_true.2 ⟨by omega, by omega⟩, Bool.true_and, Bool.true_and, decide_eq_true]
  rw [hn]; exact Int.natCast_mul R C
/-- A matrix' box. -/
structure Mb (W : World) (B : Nat) (v0 v1 v2 : Value) : Prop where
  c0 : W.cell? ⟨B, 0, none⟩ = some v0
  c1 : W.cell? ⟨B, 1, none⟩ = some v1
  c2 : W.cell? ⟨B, 2, none⟩ = some v2
theorem Mb.blt {W : World} {B : Nat} {v0 v1 v2 : Value} (h : Mb W B v0 v1 v2) : B < W.heap.size := World.block_lt_of_cell? _ _ h.c0
theorem Mb.but {S : Nat → Prop} {W W' : World} {B : Nat} {v0 v1 v2 : Value} (h : Mb W B v0 v1 v2) (hb : But S W W') (hs : ¬ S B) : Mb W' B v0 v1 v2 :=
  ⟨(hb.cell (p := ⟨B, 0, none⟩) h.blt hs).trans h.c0, (hb.cell (p := ⟨B, 1, none⟩) h.blt hs).trans h.c1, (hb.cell (p := ⟨B, 2, none⟩) h.blt hs).trans h.c2⟩
theorem Mb.below {W W' : World} {B : Nat} {v0 v1 v2 : Value} (h : Mb W B v0 v1 v2) (hb : Below W.heap.size W W') : Mb W' B v0 v1 v2 := h.but (But.of_below (S := fun _ => False) hb) id
theorem mb_new (w : World) (v0 v1 v2 : Value) : Mb (w.alloc (.cells #[v0, v1, v2] 95)) w.heap.size v0 v1 v2 := ⟨by simp [go_sem], by simp [go_sem], by simp [go_sem]⟩

end Go.Proofs
/- Slices of one-cell values that a call has made itself (numbers, slices): owned, grown by append, read. Conditions: bounds on lengths. -/
namespace Go.Proofs
open Go.RowKit Go.ChangeShapes Go.WideShapes

/-- The slice v owns the values vs of type e, in a block from base on. -/
def OwV (e : TypeId) (W : World) (base : Nat) (v : Value) (vs : List Value) : Prop := W.ownsRow base e 1 v vs.length vs
section
variable {e : TypeId} {W W' : World} {base : Nat} {v : Value} {vs : List Value}
theorem owV_nil (e : TypeId) (W : World) (base : Nat) : OwV e W base (.slice none 0 0) [] := World.ownsRow_nil _ _ _ _
theorem OwV.alloc (h : OwV e W base v vs) (o : Obj) : OwV e (W.alloc o) base v vs := World.ownsRow.alloc h o
theorem OwV.drew (h : OwV e W base v vs) : OwV e W.drew base v vs := World.ownsRow.drew h
theorem OwV.mono (h : OwV e W base v vs) {b : Nat} (hb : b ≤ base) : OwV e W b v vs := by
  refine ⟨h.1, h.2.imp id ?_⟩
  rintro ⟨g, cap, cur, h1, h2, h3⟩
  exact ⟨g, cap, cur, h1, Nat.le_trans hb h2, h3⟩
theorem OwV.lt (h : OwV e W base v vs) : ∀ k, v.ownBlock = some k → base ≤ k ∧ k < W.heap.size := World.ownsRow.lt h
theorem OwV.block (h : OwV e W base v vs) (hb : ∀ k, v.ownBlock = some k → W'.heap[k]? = W.heap[k]?) : OwV e W' base v vs := by
  refine ⟨h.1, h.2.imp id ?_⟩
  rintro ⟨g, cap, cur, rfl, h2, h3, h4⟩
  exact ⟨g, cap, cur, rfl, h2, (hb g rfl).trans h3, h4⟩
theorem OwV.below (h : OwV e W base v vs) (hb : Below W.heap.size W W') : OwV e W' base v vs := h.block fun k hk => hb.block k (h.lt k hk).2
theorem OwV.but {S : Nat → Prop} (h : OwV e W base v vs) (hb : But S W W') (hs : ∀ k, base ≤ k → ¬ S k) : OwV e W' base v vs := h.block fun k hk => hb.block k (h.lt k hk).2 (hs k (h.lt k hk).1)
theorem OwV.shape (h : OwV e W base v vs) : (v = .slice none 0 0 ∧ vs = []) ∨ ∃ g cap, v = .slice (some ⟨g, 0, none⟩) vs.length cap ∧ base ≤ g ∧ g < W.heap.size ∧ vs.length ≤ cap ∧ cap ≤ maxLen ∧
    (∀ i, i < vs.length → W.cell? ⟨g, i, none⟩ = vs[i]?) ∧ ∀ i, W.frozen? ⟨g, i, none⟩ = false := by
  have h0 := h
  rcases h.2 with ⟨h1, h2⟩ | ⟨g, cap, cur, h1, h2, h3, h4, h5, _⟩
  · exact .inl ⟨h1, List.length_eq_zero_iff.1 h2⟩
  · subst h1
    exact .inr ⟨g, cap, rfl, h2, (h0.lt g rfl).2, h4, h5, fun i hi => World.ownsRow.cellAt h0 i (by omega), fun i => World.ownsRow.frozenAt h0 i⟩
/-- 'append(xs, u)' of a slice that is owned, u in a new block of its own. -/
theorem run_append_oneV (t e : TypeId) (z : Value) (b : Nat) (ht : Tryz.prog.underlying t = some (.slice e)) (hinf : (Tryz.prog.info? e).map (fun i => (i.zero, i.size, i.bytes)) = some (some z, 1, b)) (hzs : z.cells.size = 1) (hb24 : b ≤ 24) (W : World) (base : Nat) (v : Value) (vs : List Value) (u : Value) (hu : u.oneCell' = true)
    (hown : OwV e W base v vs) (hn : vs.length ≤ 1000000000) (hb : base ≤ W.heap.size) :
    ∃ g c W', (Builtin.append_ #[t, t] t #[v, .slice (some ⟨W.heap.size, 0, none⟩) 1 1]).run Tryz.prog (W.alloc (.cells #[u] e)) = .ok (.slice (some ⟨g, 0, none⟩) (vs ++ [u]).length c) W' ∧ OwV e W' base (.slice (some ⟨g, 0, none⟩) (vs ++ [u]).length c) (vs ++ [u]) ∧ ∀ n, n ≤ base → Below n W W' := by
  obtain ⟨i, hi, hz, hsz, hby⟩ := info_parts hinf
  obtain ⟨v', W', h1, h2, h3, _⟩ := run_append_own (P := Tryz.prog) (W.alloc (.cells #[u] e)) base t t e i z 1 b ht hi hz hsz hby hzs (by decide) v vs.length vs (hown.alloc _) ⟨W.heap.size, 0, none⟩ 1 1 [u] rfl (fun j x hj => by
      match j, hj with
      | 0, hj =>
        show (W.alloc _).cell? ⟨W.heap.size, 0, none⟩ = _
        rw [World.cell?_alloc_at _ _ _ _ rfl]; exact hj) (fun x hx => by simp at hx; subst hx; exact hu) (by unfold maxLen; omega) (by
      have : (vs.length + 1) * b ≤ 1000000001 * 24 := Nat.mul_le_mul (by omega) hb24
      omega) (by simp; omega)
  have h2' : OwV e W' base v' (vs ++ [u]) := by unfold OwV; rw [List.length_append]; exact h2
  rcases h2'.shape with ⟨_, h0⟩ | ⟨g, c, rfl, _⟩
  · exact absurd (congrArg List.length h0) (by simp)
  · exact ⟨g, c, W', h1, h2', fun n hn' => ((Below.refl n W).alloc (by omega) _).grown h3 (by simp; omega) (fun k hk => Nat.le_trans hn' (hown.lt k hk).1)⟩
end
/-- Numbers as values. -/
def oi (L : List Nat) : List Value := L.map fun x => .int .i64 (x : Nat)
theorem oi_length (L : List Nat) : (oi L).length = L.length := by simp [oi]
theorem oi_at (L : List Nat) (i : Nat) (hi : i < L.length) : (oi L)[i]? = some (.int .i64 (L.getD i 0 : Nat)) := by simp [oi, List.getD, hi]
theorem oi_snoc (L : List Nat) (x : Nat) : oi (L ++ [x]) = oi L ++ [.int .i64 (x : Nat)] := by simp [oi]
/-- The slice v owns the numbers L. -/
abbrev OwI (W : World) (base : Nat) (v : Value) (L : List Nat) : Prop := OwV 3 W base v (oi L)
theorem info_int : (Tryz.prog.info? 3).map (fun i => (i.zero, i.size, i.bytes)) = some (some (.int .i64 0), 1, 8) := by kernel_rfl
/-- A list of numbers that is read. -/
structure Is (W : World) (q : Option Addr) (n : Nat) (L : List Nat) : Prop where
  len : L.length = n
  cell : ∀ i, i < n → ∃ a, q = some a ∧ a.block < W.heap.size ∧ W.cell? (a.add i) = some (.int .i64 (L.getD i 0 : Nat))
theorem Is.below {W W' : World} {q : Option Addr} {n : Nat} {L : List Nat} (h : Is W q n L) (hb : Below W.heap.size W W') : Is W' q n L :=
  ⟨h.len, fun i hi => by
    obtain ⟨a, e, hl, hc⟩ := h.cell i hi
    exact ⟨a, e, Nat.lt_of_lt_of_le hl hb.size, (hb.cell (p := a.add i) (by rw [block_add]; exact hl)).trans hc⟩⟩
theorem Is.but {S : Nat → Prop} {W W' : World} {q : Option Addr} {n : Nat} {L : List Nat} (h : Is W q n L) (hb : But S W W') (hs : 0 < n → ∀ a, q = some a → ¬ S a.block) : Is W' q n L :=
  ⟨h.len, fun i hi => by
    obtain ⟨a, e, hl, hc⟩ := h.cell i hi
    exact ⟨a, e, Nat.lt_of_lt_of_le hl hb.size, (hb.cell (p := a.add i) (by rw [block_add]; exact hl) (by rw [block_add]; exact hs (by omega) a e)).trans hc⟩⟩
theorem OwI.tell {W : World} {base : Nat} {v : Value} {L : List Nat} {n : Nat} (h : OwI W base v L) (hl : L.length = n) : ∃ q c, v = .slice q n c ∧ Is W q n L ∧ n ≤ c ∧ ∀ a, q = some a → base ≤ a.block := by
  subst hl
  rcases h.shape with ⟨rfl, h0⟩ | ⟨g, cap, rfl, h2, h3, h4, h5, h6, _⟩
  · obtain rfl : L = [] := by simpa [oi] using h0
    exact ⟨none, 0, rfl, ⟨rfl, fun i hi => absurd hi (Nat.not_lt_zero i)⟩, Nat.le_refl _, fun a e => by cases e⟩
  · rw [oi_length] at h4 h6 ⊢
    refine ⟨some ⟨g, 0, none⟩, cap, rfl, ⟨rfl, fun i hi => ⟨_, rfl, h3, ?_⟩⟩, h4, fun a e => by cases e; exact h2⟩
    have hadd : (⟨g, 0, none⟩ : Addr).add i = ⟨g, i, none⟩ := by unfold Addr.add; split <;> simp_all
    rw [hadd, h6 i hi, oi_at L i hi]
end Go.Proofs
/- Lists of lists of bytes that a call has made itself: grown by append, read. Conditions: bounds on lengths. -/
namespace Go.Proofs
open Go.RowKit Go.ChangeShapes Go.WideShapes

theorem info_sl : (Tryz.prog.info? 22).map (fun i => (i.zero, i.size, i.bytes)) = some (some (.slice none 0 0), 1, 24) := by kernel_rfl
/-- The slice v owns the lists xss: each is owned too, in a block of its own kind. -/
def OwL (W : World) (base : Nat) (v : Value) (xss : List (List Nat)) : Prop := ∃ vs : List Value, OwV 22 W base v vs ∧ vs.length = xss.length ∧ ∀ i, i < vs.length → ∃ u, vs[i]? = some u ∧ Ow W base u (xss.getD i [])
section
variable {W W' : World} {base : Nat} {v : Value} {xss : List (List Nat)}
theorem OwL.block (h : OwL W base v xss) (hb : ∀ k, base ≤ k → k < W.heap.size → W'.heap[k]? = W.heap[k]?) : OwL W' base v xss := by
  obtain ⟨vs, h1, h2, h3⟩ := h
  refine ⟨vs, h1.block fun k hk => hb k (h1.lt k hk).1 (h1.lt k hk).2, h2, fun i hi => ?_⟩
  obtain ⟨u, e, ho⟩ := h3 i hi
  exact ⟨u, e, ho.block fun k hk => hb k (ho.lt k hk).1 (ho.lt k hk).2⟩
theorem OwL.below (h : OwL W base v xss) (hb : Below W.heap.size W W') : OwL W' base v xss := h.block fun k _ hk => hb.block k hk
theorem OwL.alloc (h : OwL W base v xss) (o : Obj) : OwL (W.alloc o) base v xss := h.below ((Below.refl _ _).alloc (Nat.le_refl _) o)
theorem OwL.but {S : Nat → Prop} (h : OwL W base v xss) (hb : But S W W') (hs : ∀ k, base ≤ k → ¬ S k) : OwL W' base v xss := h.block fun k h1 h2 => hb.block k h2 (hs k h1)
theorem OwL.mono (h : OwL W base v xss) {b : Nat} (hb : b ≤ base) : OwL W b v xss := by
  obtain ⟨vs, h1, h2, h3⟩ := h
  exact ⟨vs, h1.mono hb, h2, fun i hi => by obtain ⟨u, e, ho⟩ := h3 i hi; exact ⟨u, e, ho.mono hb⟩⟩
theorem OwL.tell {n : Nat} (h : OwL W base v xss) (hx : ∀ i, i < xss.length → Pol.Byt (xss.getD i [])) (hl : xss.length = n) : ∃ q c, v = .slice q n c ∧ n ≤ c ∧ ∀ i, i < n → ∃ a qi m ci, q = some a ∧ a.block < W.heap.size ∧ base ≤ a.block ∧ W.cell? (a.add i) = some (.slice qi m ci) ∧ Bs W qi m (xss.getD i []) ∧ m ≤ ci ∧ ∀ T, T < base → Off T m qi := by
  obtain ⟨vs, h1, h2, h3⟩ := h
  subst hl
  rw [← h2]
  rcases h1.shape with ⟨rfl, rfl⟩ | ⟨g, cap, rfl, b2, b3, b4, b5, b6, _⟩
  · exact ⟨none, 0, rfl, Nat.le_refl _, fun i hi => absurd hi (Nat.not_lt_zero i)⟩
  · refine ⟨some ⟨g, 0, none⟩, cap, rfl, b4, fun i hi => ?_⟩
    obtain ⟨u, e, ho⟩ := h3 i hi
    obtain ⟨qi, ci, rfl, hs, hc, hq⟩ := ho.told (hx i (by omega))
    have hadd : (⟨g, 0, none⟩ : Addr).add i = ⟨g, i, none⟩ := by unfold Addr.add; split <;> simp_all
    exact ⟨_, qi, _, ci, rfl, b3, b2, by rw [hadd, b6 i hi]; exact e, hs, hc, hq⟩
end
end Go.Proofs
/- The walk of the work's lead. Conditions: no more than 300 rows and 600 columns; a field that Of has made; the row leads, and has noughts ahead. -/
namespace Go.Proofs
open Go.RowKit Go.ChangeShapes Go.WideShapes
open Mx (Mat cells upd prt lay)
open Pol (Byt ofL)

namespace Mx
theorem ofL_map (x : Nat) (hx : x < 256) (ys : List Nat) (hy : Byt ys) (t : Nat) (ht : t < ys.length) : ofL (ys.map (Gf.mul x)) t = GF.of x * ofL ys t := by
  unfold Pol.ofL
  have e : (ys.map (Gf.mul x)).getD t 0 = Gf.mul x (ys.getD t 0) := by simp [List.getD, ht]
  rw [e, GF.of_mul x _ hx (hy t)]
end Mx

end Go.Proofs
/- The walk of gauss.beside. Conditions: right matrices of as many rows. -/
namespace Go.Proofs
open Go.RowKit Go.ChangeShapes Go.WideShapes
open Mx (Mat cells upd prt lay mx rowL bes)
open Pol (Byt ofL)

namespace Mx
end Mx

/-- A work that is not laid yet. -/
structure Z4 (W : World) (B : Nat) : Prop where
  c0 : W.cell? ⟨B, 0, none⟩ = some (.int .i64 0)
  c1 : W.cell? ⟨B, 1, none⟩ = some (.int .i64 0)
  c2 : W.cell? ⟨B, 2, none⟩ = some (.slice none 0 0)
  c3 : W.cell? ⟨B, 3, none⟩ = some (.pointer none)
  f0 : W.frozen? ⟨B, 0, none⟩ = false
  f1 : W.frozen? ⟨B, 1, none⟩ = false
  f2 : W.frozen? ⟨B, 2, none⟩ = false
  f3 : W.frozen? ⟨B, 3, none⟩ = false
theorem Z4.blt {W : World} {B : Nat} (h : Z4 W B) : B < W.heap.size := World.block_lt_of_cell? _ _ h.c0
theorem Z4.but {S : Nat → Prop} {W W' : World} {B : Nat} (h : Z4 W B) (hb : But S W W') (hs : ¬ S B) : Z4 W' B :=
  ⟨(hb.cell (p := ⟨B, 0, none⟩) h.blt hs).trans h.c0, (hb.cell (p := ⟨B, 1, none⟩) h.blt hs).trans h.c1, (hb.cell (p := ⟨B, 2, none⟩) h.blt hs).trans h.c2, (hb.cell (p := ⟨B, 3, none⟩) h.blt hs).trans h.c3,
   (hb.frozen (p := ⟨B, 0, none⟩) h.blt hs).trans h.f0, (hb.frozen (p := ⟨B, 1, none⟩) h.blt hs).trans h.f1, (hb.frozen (p := ⟨B, 2, none⟩) h.blt hs).trans h.f2, (hb.frozen (p := ⟨B, 3, none⟩) h.blt hs).trans h.f3⟩
/-- A matrix that is not laid yet. -/
structure Z3 (W : World) (B : Nat) : Prop where
  c0 : W.cell? ⟨B, 0, none⟩ = some (.int .i64 0)
  c1 : W.cell? ⟨B, 1, none⟩ = some (.int .i64 0)
  c2 : W.cell? ⟨B, 2, none⟩ = some (.slice none 0 0)
  f0 : W.frozen? ⟨B, 0, none⟩ = false
  f1 : W.frozen? ⟨B, 1, none⟩ = false
  f2 : W.frozen? ⟨B, 2, none⟩ = false
theorem Z3.blt {W : World} {B : Nat} (h : Z3 W B) : B < W.heap.size := World.block_lt_of_cell? _ _ h.c0
theorem Z3.but {S : Nat → Prop} {W W' : World} {B : Nat} (h : Z3 W B) (hb : But S W W') (hs : ¬ S B) : Z3 W' B :=
  ⟨(hb.cell (p := ⟨B, 0, none⟩) h.blt hs).trans h.c0, (hb.cell (p := ⟨B, 1, none⟩) h.blt hs).trans h.c1, (hb.cell (p := ⟨B, 2, none⟩) h.blt hs).trans h.c2,
   (hb.frozen (p := ⟨B, 0, none⟩) h.blt hs).trans h.f0, (hb.frozen (p := ⟨B, 1, none⟩) h.blt hs).trans h.f1, (hb.frozen (p := ⟨B, 2, none⟩) h.blt hs).trans h.f2⟩
theorem Z3.below {W W' : World} {B : Nat} (h : Z3 W B) (hb : Below W.heap.size W W') : Z3 W' B := h.but (But.of_below (S := fun _ => False) hb) id
theorem z3_new (w : World) : Z3 (w.alloc (.cells #[.int .i64 0, .int .i64 0, .slice none 0 0] 95)) w.heap.size := ⟨by simp [go_sem], by simp [go_sem], by simp [go_sem], by simp [go_sem], by simp [go_sem], by simp [go_sem]⟩
theorem load_set3 {W : World} {B : Nat} (h : Z3 W B) (v0 v1 v2 : Value) :
    (loadVar 95 ⟨B, 0, none⟩).run Tryz.prog (((W.setCell ⟨B, 0, none⟩ v0).setCell ⟨B, 1, none⟩ v1).setCell ⟨B, 2, none⟩ v2) = .ok (.agg #[v0, v1, v2]) (((W.setCell ⟨B, 0, none⟩ v0).setCell ⟨B, 1, none⟩ v1).setCell ⟨B, 2, none⟩ v2) := by
  have h0 := h.c0
  have h1 := h.c1
  have h2 := h.c2
  exact load3 (by simp [go_sem, h0]) (by simp [go_sem, h1]) (by simp [go_sem, h2])
theorem but_set3 (W : World) (B : Nat) (v0 v1 v2 : Value) : But (· = B) W (((W.setCell ⟨B, 0, none⟩ v0).setCell ⟨B, 1, none⟩ v1).setCell ⟨B, 2, none⟩ v2) :=
  (((But.refl (· = B) W).setCell (p := ⟨B, 0, none⟩) (.inl rfl) v0).setCell (p := ⟨B, 1, none⟩) (.inl rfl) v1).setCell (p := ⟨B, 2, none⟩) (.inl rfl) v2

end Go.Proofs
/- The walk of the work's reduce. Conditions: no more than 300 rows and 600 columns; a field that Of has made. -/
namespace Go.Proofs
open Go.RowKit Go.ChangeShapes Go.WideShapes
open Mx (Mat cells upd prt lay)
open Pol (Byt ofL)
attribute [local go_sem ↓ high] builtin_ap
attribute [local go_sem] ap_sem

namespace Mx
end Mx

/-- Between the columns. -/
structure GI (k B T A base G n R C c : Nat) (M : Mat) (w0 : World) (v : Value) (L : List Nat) (E : Mat) (W : World) : Prop where
  wk : Wk W base G n R C E
  ow : OwI W (A + 1) v L
  red : Mx.Red R c E L.length fun k => L.getD k 0
  eqv : Mx.Eqv R C M E
  fd : Fd k B T W
  but : But (fun x => x = T ∨ x = G) w0 W
theorem GI.below {k B T A base G n R C c : Nat} {M : Mat} {w0 W W' : World} {v : Value} {L : List Nat} {E : Mat} (h : GI k B T A base G n R C c M w0 v L E W) (hb : Below W.heap.size W W') : GI k B T A base G n R C c M w0 v L E W' :=
  ⟨h.wk.below hb, h.ow.below hb, h.red, h.eqv, h.fd.below hb, h.but.trans (But.of_below hb)⟩

end Go.Proofs
