/- The walks of table.New and Made. No conditions. -/
import Derived.Test.YtphhehppcfddgaaGreatOnce
import Derived.Test.YtphhehppcfddgaaGreatGf2
namespace Go.Proofs
open Go.RowKit

/-- The cells of a table that is not made. -/
def tz : Array Value := ⟨.int .u32 0 :: .int .i32 0 :: .int .u32 0 :: .int .i64 0 :: List.replicate 766 (.int .u8 0)⟩
theorem tz_zero (w : World) : (zeroValue 81).run Tryz.prog w = .ok (.agg tz) w := by kernel_rfl
theorem tz_size : tz.size = 770 := by kernel_rfl
theorem tz_ne : tz ≠ #[] := fun h => by have := tz_size; rw [h] at this; exact absurd this (by decide)
theorem tz_0 : tz[0]? = some (.int .u32 0) := by kernel_rfl
theorem tz_1 : tz[1]? = some (.int .i32 0) := by kernel_rfl
theorem tz_3 : tz[3]? = some (.int .i64 0) := by kernel_rfl

set_option maxHeartbeats 1000000 in
theorem tnew_calls (w : World) : Calls Tryz.prog 20 #[] w fun e w' => e = .returned (.pointer (some ⟨w.heap.size, 0, none⟩)) ∧ w' = w.alloc (.cells tz 81) := by
  have hz := tz_zero
  have hn := tz_ne
  go_enter Tryz.func20, Tryz.ntmps20
  go_wp2
  go_ret
  exact ⟨rfl, rfl⟩

/-- A block of a table's cells. -/
structure Tb (B : Nat) (W : World) : Prop where
  has : ∀ o, o < 770 → ∃ v, W.cell? ⟨B, o, none⟩ = some v
  fz : ∀ o, W.frozen? ⟨B, o, none⟩ = false
theorem Tb.lt {B : Nat} {W : World} (h : Tb B W) : B < W.heap.size := by
  obtain ⟨v, hv⟩ := h.has 0 (by decide)
  exact World.block_lt_of_cell? _ _ hv
theorem Tb.set {B : Nat} {W : World} (h : Tb B W) (p : Addr) (v : Value) : Tb B (W.setCell p v) := by
  refine ⟨fun o ho => ?_, fun o => by rw [World.frozen?_setCell]; exact h.fz o⟩
  obtain ⟨u, hu⟩ := h.has o ho
  by_cases e : p = ⟨B, o, none⟩
  · subst e; exact ⟨v, World.cell?_setCell_same' _ _ _ (by rw [hu]; rfl)⟩
  · exact ⟨u, (World.cell?_setCell_other _ _ _ _ e).trans hu⟩
theorem Tb.drew {B : Nat} {W : World} (h : Tb B W) : Tb B W.drew := ⟨fun o ho => by rw [World.cell?_drew]; exact h.has o ho, fun o => by rw [World.frozen?_drew]; exact h.fz o⟩
theorem Tb.but {B : Nat} {S : Nat → Prop} {W W' : World} (h : Tb B W) (hb : But S W W') (hs : ¬ S B) : Tb B W' :=
  ⟨fun o ho => by obtain ⟨u, hu⟩ := h.has o ho; exact ⟨u, (hb.cell (p := ⟨B, o, none⟩) h.lt hs).trans hu⟩, fun o => (hb.frozen (p := ⟨B, o, none⟩) h.lt hs).trans (h.fz o)⟩
theorem Tb.set_same {B : Nat} {W : World} (h : Tb B W) (o : Nat) (ho : o < 770) (v : Value) : (W.setCell ⟨B, o, none⟩ v).cell? ⟨B, o, none⟩ = some v := by
  obtain ⟨u, hu⟩ := h.has o ho
  exact World.cell?_setCell_same' _ _ _ (by rw [hu]; rfl)

/-- A table that is not made. -/
structure Fresh (B : Nat) (W : World) : Prop where
  tb : Tb B W
  once : W.cell? ⟨B, 0, none⟩ = some (.int .u32 0)
  lock : W.cell? ⟨B, 1, none⟩ = some (.int .i32 0)
  made : W.cell? ⟨B, 3, none⟩ = some (.int .i64 0)
/-- A table that is made. -/
structure Made (B : Nat) (W : World) : Prop where
  tb : Tb B W
  once : W.cell? ⟨B, 0, none⟩ = some (.int .u32 1)
  made : W.cell? ⟨B, 3, none⟩ = some (.int .i64 1)
  powers : ∀ i, i < 510 → W.cell? ⟨B, 4 + i, none⟩ = some (.int .u8 (Gf.pow 2 i : Nat))
  logs : ∀ j, j < 255 → W.cell? ⟨B, 514 + Gf.pow 2 j, none⟩ = some (.int .u8 (j : Nat))
theorem Fresh.but {B : Nat} {S : Nat → Prop} {W W' : World} (h : Fresh B W) (hb : But S W W') (hs : ¬ S B) : Fresh B W' :=
  ⟨h.tb.but hb hs, (hb.cell (p := ⟨B, 0, none⟩) h.tb.lt hs).trans h.once, (hb.cell (p := ⟨B, 1, none⟩) h.tb.lt hs).trans h.lock, (hb.cell (p := ⟨B, 3, none⟩) h.tb.lt hs).trans h.made⟩
theorem Made.but {B : Nat} {S : Nat → Prop} {W W' : World} (h : Made B W) (hb : But S W W') (hs : ¬ S B) : Made B W' :=
  ⟨h.tb.but hb hs, (hb.cell (p := ⟨B, 0, none⟩) h.tb.lt hs).trans h.once, (hb.cell (p := ⟨B, 3, none⟩) h.tb.lt hs).trans h.made,
   fun i hi => (hb.cell (p := ⟨B, 4 + i, none⟩) h.tb.lt hs).trans (h.powers i hi), fun j hj => (hb.cell (p := ⟨B, 514 + Gf.pow 2 j, none⟩) h.tb.lt hs).trans (h.logs j hj)⟩
theorem fresh_new (w : World) : Fresh w.heap.size (w.alloc (.cells tz 81)) := by
  refine ⟨⟨fun o ho => ?_, fun o => by rw [World.frozen?_alloc_at _ _ _ _ rfl]⟩, ?_, ?_, ?_⟩
  · refine ⟨tz[o]'(by rw [tz_size]; exact ho), ?_⟩
    rw [World.cell?_alloc_at _ _ _ _ rfl]
    exact Array.getElem?_eq_getElem _
  · rw [World.cell?_alloc_at _ _ _ _ rfl]; exact tz_0
  · rw [World.cell?_alloc_at _ _ _ _ rfl]; exact tz_1
  · rw [World.cell?_alloc_at _ _ _ _ rfl]; exact tz_3

theorem tnew_any (w : World) : Calls Tryz.prog 20 #[] w fun e w' => ∃ B, e = .returned (.pointer (some ⟨B, 0, none⟩)) ∧ Fresh B w' ∧ Below w.heap.size w w' ∧ B = w.heap.size :=
  (tnew_calls w).mono fun _ _ ⟨h1, h2⟩ => ⟨w.heap.size, h1, by rw [h2]; exact fresh_new w, by rw [h2]; exact (Below.refl _ w).alloc (Nat.le_refl _) _, rfl⟩
end Go.Proofs
