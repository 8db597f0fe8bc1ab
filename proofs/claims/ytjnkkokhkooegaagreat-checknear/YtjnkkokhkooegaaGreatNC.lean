/- Texts laid together: MxR, GBes. Each says its own conditions. -/
import Derived.Deep.RegionHeldLaw
import Derived.Test.YtjnkkokhkooegaaGreatNA
import Derived.Test.YtjnkkokhkooegaaGreatMG
import Derived.Test.YtjnkkokhkooegaaGreatNB
/- The walks of matrix.inside, Right, piece and Row. Conditions: ints; a matrix whose cells are bytes. -/
namespace Go.Proofs
open Go.RowKit Go.ChangeShapes Go.WideShapes
open Mx (Mat cells upd prt lay)
open Pol (Byt ofL)
attribute [local go_sem ↓ high] builtin_ap
attribute [local go_sem] ap_sem

theorem wrap_nat (n : Nat) (h : n ≤ 1000000000) : IntKind.i64.wrap (n : Int) = (n : Int) := by
  rw [IntKind.wrap_i64]; omega
theorem ns_one (w : World) (x : Int) (hx : (Lit.int .i64 x).wf = true) : Ns .i64 (w.alloc (.cells #[.int .i64 x] 3)) (some ⟨w.heap.size, 0, none⟩) 1 [x] := by
  refine ⟨rfl, by decide, fun i hi => ⟨_, rfl, by simp, ?_⟩, fun z hz => ?_⟩
  · match i, hi with
    | 0, _ => show (w.alloc _).cell? ⟨w.heap.size, 0, none⟩ = _; rw [World.cell?_alloc_at _ _ _ _ rfl]; rfl
  · simp at hz; rcases hz with rfl; assumption
theorem wf_i64 {z : Int} (h1 : -9223372036854775808 ≤ z) (h2 : z < 9223372036854775808) : (Lit.int .i64 z).wf = true := by
  simp [Lit.wf]; exact ⟨h1, by omega⟩

/-- A matrix' box. -/
structure Mb (W : World) (B : Nat) (v0 v1 v2 : Value) : Prop where
  c0 : W.cell? ⟨B, 0, none⟩ = some v0
  c1 : W.cell? ⟨B, 1, none⟩ = some v1
  c2 : W.cell? ⟨B, 2, none⟩ = some v2
theorem Mb.blt {W : World} {B : Nat} {v0 v1 v2 : Value} (h : Mb W B v0 v1 v2) : B < W.heap.size := World.block_lt_of_cell? _ _ h.c0
theorem Mb.but {S : Nat → Prop} {W W' : World} {B : Nat} {v0 v1 v2 : Value} (h : Mb W B v0 v1 v2) (hb : But S W W') (hs : ¬ S B) : Mb W' B v0 v1 v2 :=
  ⟨(hb.cell (p := ⟨B, 0, none⟩) h.blt hs).trans h.c0, (hb.cell (p := ⟨B, 1, none⟩) h.blt hs).trans h.c1, (hb.cell (p := ⟨B, 2, none⟩) h.blt hs).trans h.c2⟩
theorem Mb.below {W W' : World} {B : Nat} {v0 v1 v2 : Value} (h : Mb W B v0 v1 v2) (hb : Below W.heap.size W W') : Mb W' B v0 v1 v2 := h.but (But.of_below (S := fun _ => False) hb) id
end Go.Proofs
/- The walk of gauss.beside. Conditions: right matrices of as many rows. -/
namespace Go.Proofs
open Go.RowKit Go.ChangeShapes Go.WideShapes
open Mx (Mat cells upd prt lay mx rowL bes)
open Pol (Byt ofL)

namespace Mx
end Mx

/-- A work that is not laid yet. -/
structure Z4 (W : World) (B : Nat) : Prop where
  c0 : W.cell? ⟨B, 0, none⟩ = some (.int .i64 0)
  c1 : W.cell? ⟨B, 1, none⟩ = some (.int .i64 0)
  c2 : W.cell? ⟨B, 2, none⟩ = some (.slice none 0 0)
  c3 : W.cell? ⟨B, 3, none⟩ = some (.pointer none)
  f0 : W.frozen? ⟨B, 0, none⟩ = false
  f1 : W.frozen? ⟨B, 1, none⟩ = false
  f2 : W.frozen? ⟨B, 2, none⟩ = false
  f3 : W.frozen? ⟨B, 3, none⟩ = false
theorem Z4.blt {W : World} {B : Nat} (h : Z4 W B) : B < W.heap.size := World.block_lt_of_cell? _ _ h.c0
theorem Z4.but {S : Nat → Prop} {W W' : World} {B : Nat} (h : Z4 W B) (hb : But S W W') (hs : ¬ S B) : Z4 W' B :=
  ⟨(hb.cell (p := ⟨B, 0, none⟩) h.blt hs).trans h.c0, (hb.cell (p := ⟨B, 1, none⟩) h.blt hs).trans h.c1, (hb.cell (p := ⟨B, 2, none⟩) h.blt hs).trans h.c2, (hb.cell (p := ⟨B, 3, none⟩) h.blt hs).trans h.c3,
   (hb.frozen (p := ⟨B, 0, none⟩) h.blt hs).trans h.f0, (hb.frozen (p := ⟨B, 1, none⟩) h.blt hs).trans h.f1, (hb.frozen (p := ⟨B, 2, none⟩) h.blt hs).trans h.f2, (hb.frozen (p := ⟨B, 3, none⟩) h.blt hs).trans h.f3⟩
/-- A matrix that is not laid yet. -/
structure Z3 (W : World) (B : Nat) : Prop where
  c0 : W.cell? ⟨B, 0, none⟩ = some (.int .i64 0)
  c1 : W.cell? ⟨B, 1, none⟩ = some (.int .i64 0)
  c2 : W.cell? ⟨B, 2, none⟩ = some (.slice none 0 0)
  f0 : W.frozen? ⟨B, 0, none⟩ = false
  f1 : W.frozen? ⟨B, 1, none⟩ = false
  f2 : W.frozen? ⟨B, 2, none⟩ = false
theorem Z3.blt {W : World} {B : Nat} (h : Z3 W B) : B < W.heap.size := World.block_lt_of_cell? _ _ h.c0
theorem Z3.but {S : Nat → Prop} {W W' : World} {B : Nat} (h : Z3 W B) (hb : But S W W') (hs : ¬ S B) : Z3 W' B :=
  ⟨(hb.cell (p := ⟨B, 0, none⟩) h.blt hs).trans h.c0, (hb.cell (p := ⟨B, 1, none⟩) h.blt hs).trans h.c1, (hb.cell (p := ⟨B, 2, none⟩) h.blt hs).trans h.c2,
   (hb.frozen (p := ⟨B, 0, none⟩) h.blt hs).trans h.f0, (hb.frozen (p := ⟨B, 1, none⟩) h.blt hs).trans h.f1, (hb.frozen (p := ⟨B, 2, none⟩) h.blt hs).trans h.f2⟩
theorem Z3.below {W W' : World} {B : Nat} (h : Z3 W B) (hb : Below W.heap.size W W') : Z3 W' B := h.but (But.of_below (S := fun _ => False) hb) id
end Go.Proofs
