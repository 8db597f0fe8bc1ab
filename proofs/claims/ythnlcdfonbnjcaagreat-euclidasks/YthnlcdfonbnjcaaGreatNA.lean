/- Texts laid together: GRow, GBas, MxR. Each says its own conditions. -/
import Derived.BigQuiet
import Derived.Laws.CopyOwn
import Derived.Deep.RegionHeld3
import Derived.Test.YthnlcdfonbnjcaaGreatMG
import Derived.Test.YthnlcdfonbnjcaaGreatMN
import Derived.Test.YthnlcdfonbnjcaaGreatME
/- A matrix in memory of its own whose cells are turned, and the walks of gauss's work: row, blank, addTo. Conditions: no more than 300 rows and 600 columns. -/
namespace Go.Proofs
open Go.RowKit Go.ChangeShapes Go.WideShapes
open Mx (Mat cells upd prt lay)
open Pol (Byt ofL)

/-- Block G holds the cells of M, R rows of C, n in all; it lies from base on. -/
def Wk (W : World) (base G n R C : Nat) (M : Mat) : Prop := n = R * C ∧ Ow W base (.slice (some ⟨G, 0, none⟩) n n) (cells R C M)
section
variable {W W' : World} {base G n R C : Nat} {M N : Mat}
theorem Wk.len (h : Wk W base G n R C M) : n = (cells R C M).length := by rw [Mx.cells_length]; exact h.1
theorem Wk.lt (h : Wk W base G n R C M) : base ≤ G ∧ G < W.heap.size := h.2.lt G rfl
theorem Wk.congr (h : Wk W base G n R C M) (e : Mx.Eq R C M N) : Wk W base G n R C N := ⟨h.1, by rw [← Mx.cells_congr e]; exact h.2⟩
theorem Wk.alloc (h : Wk W base G n R C M) (o : Obj) : Wk (W.alloc o) base G n R C M := ⟨h.1, h.2.alloc o⟩
theorem Wk.drew (h : Wk W base G n R C M) : Wk W.drew base G n R C M := ⟨h.1, h.2.drew⟩
theorem Wk.below (h : Wk W base G n R C M) (hb : Below W.heap.size W W') : Wk W' base G n R C M := ⟨h.1, h.2.below hb⟩
theorem Wk.mono (h : Wk W base G n R C M) {b : Nat} (hb : b ≤ base) : Wk W b G n R C M := ⟨h.1, h.2.mono hb⟩
theorem Wk.but {S : Nat → Prop} (h : Wk W base G n R C M) (hb : But S W W') (hs : ¬ S G) : Wk W' base G n R C M := ⟨h.1, h.2.block fun k hk => by cases hk; exact hb.block G h.lt.2 hs⟩
theorem Wk.cell (h : Wk W base G n R C M) {i j o : Nat} (hi : i < R) (hj : j < C) (ho : o = i * C) : W.cell? ⟨G, o + j, none⟩ = some (.int .u8 ((M i j).val : Nat)) ∧ W.frozen? ⟨G, o + j, none⟩ = false := by
  subst ho
  have := h.2.at h.len (i * C + j) (by rw [h.1]; exact Mx.cell_lt hi hj)
  rw [Mx.cells_at M hi hj] at this
  exact this
theorem Wk.set (h : Wk W base G n R C M) {i j o x : Nat} (hi : i < R) (hj : j < C) (ho : o = i * C) (hx : x < 256) : Wk (W.setCell ⟨G, o + j, none⟩ (.int .u8 (x : Nat))) base G n R C (upd M i j (GF.of x)) := by
  subst ho
  refine ⟨h.1, ?_⟩
  rw [← Mx.cells_set M hi hj x hx]
  exact h.2.set h.len _ _
theorem Wk.bs (h : Wk W base G n R C M) {i c k o : Nat} (hi : i < R) (hc : c + k ≤ C) (ho : o = i * C) (hk : k ≤ 1000000) : Bs W (some ⟨G, o + c, none⟩) k (prt M i c k) := by
  refine ⟨Mx.prt_length _ _ _ _, by omega, fun t ht => ⟨_, rfl, h.lt.2, ?_⟩, Mx.prt_byt _ _ _ _⟩
  have hadd : (⟨G, o + c, none⟩ : Addr).add t = ⟨G, o + c + t, none⟩ := by unfold Addr.add; split <;> simp_all
  rw [hadd, Nat.add_assoc, Mx.prt_at M i c k t ht]
  exact (h.cell hi (by omega) ho).1
end
theorem Below.drewN {n : Nat} {w w' : World} (h : Below n w w') (k : Nat) : Below n w (w'.drewN k) := h.trans ⟨rfl, rfl, rfl, Nat.le_refl _, fun _ _ => rfl⟩
end Go.Proofs
/- The walks of gauss.blank, addTo and of the work's swap. Conditions: no more than 300 rows and 600 columns. -/
namespace Go.Proofs
open Go.RowKit Go.ChangeShapes Go.WideShapes
open Mx (Mat cells upd prt lay)
open Pol (Byt ofL)

/-- A work's box. -/
structure Wb (W : World) (B R C G n : Nat) (pv : Value) : Prop where
  c0 : W.cell? ⟨B, 0, none⟩ = some (.int .i64 (R : Nat))
  c1 : W.cell? ⟨B, 1, none⟩ = some (.int .i64 (C : Nat))
  c2 : W.cell? ⟨B, 2, none⟩ = some (.slice (some ⟨G, 0, none⟩) n n)
  c3 : W.cell? ⟨B, 3, none⟩ = some pv
theorem Wb.blt {W : World} {B R C G n : Nat} {pv : Value} (h : Wb W B R C G n pv) : B < W.heap.size := World.block_lt_of_cell? _ _ h.c0
theorem Wb.but {S : Nat → Prop} {W W' : World} {B R C G n : Nat} {pv : Value} (h : Wb W B R C G n pv) (hb : But S W W') (hs : ¬ S B) : Wb W' B R C G n pv :=
  ⟨(hb.cell (p := ⟨B, 0, none⟩) h.blt hs).trans h.c0, (hb.cell (p := ⟨B, 1, none⟩) h.blt hs).trans h.c1, (hb.cell (p := ⟨B, 2, none⟩) h.blt hs).trans h.c2, (hb.cell (p := ⟨B, 3, none⟩) h.blt hs).trans h.c3⟩
theorem Wb.below {W W' : World} {B R C G n : Nat} {pv : Value} (h : Wb W B R C G n pv) (hb : Below W.heap.size W W') : Wb W' B R C G n pv := h.but (But.of_below (S := fun _ => False) hb) id
/-- Nothing that lay in w is turned. -/
def Sm (w W : World) : Prop := Below w.heap.size w W
theorem Sm.refl (w : World) : Sm w w := Below.refl _ _
theorem Sm.trans {a b c : World} (h : Sm a b) (k : Below b.heap.size b c) : Sm a c := Below.trans h (k.mono h.size)

end Go.Proofs
/- The walks of matrix.inside, Right, piece and Row. Conditions: ints; a matrix whose cells are bytes. -/
namespace Go.Proofs
open Go.RowKit Go.ChangeShapes Go.WideShapes
open Mx (Mat cells upd prt lay)
open Pol (Byt ofL)
attribute [local go_sem ↓ high] builtin_ap
attribute [local go_sem] ap_sem

theorem wrap_nat (n : Nat) (h : n ≤ 1000000000) : IntKind.i64.wrap (n : Int) = (n : Int) := by
  rw [IntKind.wrap_i64]; omega
/-- A matrix' box. -/
structure Mb (W : World) (B : Nat) (v0 v1 v2 : Value) : Prop where
  c0 : W.cell? ⟨B, 0, none⟩ = some v0
  c1 : W.cell? ⟨B, 1, none⟩ = some v1
  c2 : W.cell? ⟨B, 2, none⟩ = some v2
theorem Mb.blt {W : World} {B : Nat} {v0 v1 v2 : Value} (h : Mb W B v0 v1 v2) : B < W.heap.size := World.block_lt_of_cell? _ _ h.c0
theorem Mb.but {S : Nat → Prop} {W W' : World} {B : Nat} {v0 v1 v2 : Value} (h : Mb W B v0 v1 v2) (hb : But S W W') (hs : ¬ S B) : Mb W' B v0 v1 v2 :=
  ⟨(hb.cell (p := ⟨B, 0, none⟩) h.blt hs).trans h.c0, (hb.cell (p := ⟨B, 1, none⟩) h.blt hs).trans h.c1, (hb.cell (p := ⟨B, 2, none⟩) h.blt hs).trans h.c2⟩
theorem Mb.below {W W' : World} {B : Nat} {v0 v1 v2 : Value} (h : Mb W B v0 v1 v2) (hb : Below W.heap.size W W') : Mb W' B v0 v1 v2 := h.but (But.of_below (S := fun _ => False) hb) id
end Go.Proofs
