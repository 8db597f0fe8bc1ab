/- A field in memory, whichever its backend, and the walks of field.Of, Backend, Mul, Inv, Div and Pow. Conditions: bytes; an int; a field that Of has made. -/
import Derived.Test.YtphhehppcfddgaaGreatFdLn
import Derived.Test.YtphhehppcfddgaaGreatFdSh
import Derived.Test.YtphhehppcfddgaaGreatTabCalls
namespace Go.Proofs
open Go.RowKit

/-- What stands behind the interface: k tells the backend; T is the table's block, where there is one. -/
def wayV (k T : Nat) : Value := if k = 1 then .iface 43 (.agg #[.pointer (some ⟨T, 0, none⟩)]) else if k = 2 then .iface 49 (.agg #[]) else .iface 50 (.agg #[])
/-- The block B is a field by the backend k; all that its calls write is block T. -/
structure Fd (k B T : Nat) (W : World) : Prop where
  k1 : 1 ≤ k
  k3 : k ≤ 3
  num : W.cell? ⟨B, 0, none⟩ = some (.int .i64 (k : Int))
  way : W.cell? ⟨B, 1, none⟩ = some (wayV k T)
  tab : k = 1 → Any T W ∧ T ≠ B
  lt : T < W.heap.size
theorem Fd.blt {k B T : Nat} {W : World} (h : Fd k B T W) : B < W.heap.size := World.block_lt_of_cell? _ _ h.num
theorem Fd.but {k B T : Nat} {S : Nat → Prop} {W W' : World} (h : Fd k B T W) (hb : But S W W') (hB : ¬ S B) (hT : ¬ S T) : Fd k B T W' :=
  ⟨h.k1, h.k3, (hb.cell (p := ⟨B, 0, none⟩) h.blt hB).trans h.num, (hb.cell (p := ⟨B, 1, none⟩) h.blt hB).trans h.way, fun e => ⟨(h.tab e).1.but hb hT, (h.tab e).2⟩, Nat.lt_of_lt_of_le h.lt hb.size⟩
theorem Fd.below {k B T : Nat} {W W' : World} (h : Fd k B T W) (hb : Below W.heap.size W W') : Fd k B T W' := h.but (But.of_below (S := fun _ => False) hb) id id
theorem Fd.alloc {k B T : Nat} {W : World} (h : Fd k B T W) (o : Obj) : Fd k B T (W.alloc o) := h.below ((Below.refl _ _).alloc (Nat.le_refl _) o)
theorem Fd.drew {k B T : Nat} {W : World} (h : Fd k B T W) : Fd k B T W.drew := h.below (Below.refl _ W).drew
/-- Behind a call of its own table. -/
theorem Fd.tabled {B T : Nat} {W W' : World} (h : Fd 1 B T W) (hm : Made T W') (hb : But (· = T) W W') : Fd 1 B T W' :=
  have hB : ¬ B = T := fun e => (h.tab rfl).2 e.symm
  ⟨h.k1, h.k3, (hb.cell (p := ⟨B, 0, none⟩) h.blt hB).trans h.num, (hb.cell (p := ⟨B, 1, none⟩) h.blt hB).trans h.way, fun e => ⟨.inr hm, (h.tab e).2⟩, Nat.lt_of_lt_of_le h.lt hb.size⟩

set_option maxRecDepth 100000 in
set_option maxHeartbeats 1000000 in
theorem fof_calls (k : Nat) (h1 : 1 ≤ k) (h3 : k ≤ 3) (w : World) :
    Calls Tryz.prog 7 #[.int .i64 (k : Int)] w fun e w' => ∃ B T, e = .returned (.pointer (some ⟨B, 0, none⟩)) ∧ Fd k B T w' ∧ Below w.heap.size w w' ∧ w.heap.size ≤ B ∧ w.heap.size ≤ T := by
  match k, h1, h3 with
  | 1, _, _ =>
    go_enter Tryz.func7, Tryz.ntmps7
    go_wp2_with (go_at_call 20; refine (tnew_any _).mono ?_; rintro e w1 ⟨T, rfl, HF, hb, hT⟩; have HT : Hid (T = w.heap.size) := hT; clear hT)
    go_ret
    have hT := HT.out
    have hlt := HF.tb.lt
    refine ⟨w1.heap.size, T, rfl, ⟨by omega, by omega, ?_, ?_, fun _ => ⟨.inl (HF.but (But.of_below (S := fun _ => False) ((Below.refl _ _).alloc (Nat.le_refl _) _)) id), by omega⟩, by simp; omega⟩, hb.alloc hb.size _, hb.size, by omega⟩
    · rw [World.cell?_alloc_at _ _ _ _ rfl]; rfl
    · rw [World.cell?_alloc_at _ _ _ _ rfl]; rfl
  | 2, _, _ =>
    go_enter Tryz.func7, Tryz.ntmps7
    go_wp2
    go_ret
    refine ⟨w.heap.size, w.heap.size, rfl, ⟨by omega, by omega, ?_, ?_, fun e => absurd e (by decide), by simp⟩, (Below.refl _ _).alloc (Nat.le_refl _) _, Nat.le_refl _, Nat.le_refl _⟩
    · rw [World.cell?_alloc_at _ _ _ _ rfl]; rfl
    · rw [World.cell?_alloc_at _ _ _ _ rfl]; rfl
  | 3, _, _ =>
    go_enter Tryz.func7, Tryz.ntmps7
    go_wp2
    go_ret
    refine ⟨w.heap.size, w.heap.size, rfl, ⟨by omega, by omega, ?_, ?_, fun e => absurd e (by decide), by simp⟩, (Below.refl _ _).alloc (Nat.le_refl _) _, Nat.le_refl _, Nat.le_refl _⟩
    · rw [World.cell?_alloc_at _ _ _ _ rfl]; rfl
    · rw [World.cell?_alloc_at _ _ _ _ rfl]; rfl
  | k + 4, _, h => omega
set_option maxRecDepth 100000 in
set_option maxHeartbeats 1000000 in
theorem fof_none (k : Int) (h : k < 1 ∨ 3 < k) (w : World) :
    Calls Tryz.prog 7 #[.int .i64 k] w fun e w' => e = .returned (.pointer none) ∧ w' = w := by
  have h1 : (k == 1) = false := by simp; omega
  have h2 : (k == 2) = false := by simp; omega
  have h3 : (k == 3) = false := by simp; omega
  go_enter Tryz.func7, Tryz.ntmps7
  go_wp2
  go_ret
  exact ⟨rfl, rfl⟩

theorem way_lt {k : Nat} (h1 : 1 ≤ k) (h3 : k ≤ 3) : k = 1 ∨ k = 2 ∨ k = 3 := by omega
theorem minv1 (T : Nat) (w : World) : (method 253 43 (.agg #[.pointer (some ⟨T, 0, none⟩)]) "Inv").run Tryz.prog w = .ok (59, .pointer (some ⟨T, 0, none⟩)) w := by kernel_rfl
theorem minv2 (w : World) : (method 253 49 (.agg #[]) "Inv").run Tryz.prog w = .ok (99, .agg #[]) w := by kernel_rfl
theorem minv3 (w : World) : (method 253 50 (.agg #[]) "Inv").run Tryz.prog w = .ok (108, .agg #[]) w := by kernel_rfl
set_option maxRecDepth 100000 in
set_option maxHeartbeats 1000000 in
theorem finv_calls (k B T a : Nat) (ha : a < 256) (w : World) (h : Fd k B T w) :
    Calls Tryz.prog 36 #[.pointer (some ⟨B, 0, none⟩), .int .u8 a] w fun e w' => e = .returned (.tuple #[.int .u8 (Gf.inv a : Nat), .bool (a != 0)]) ∧ Fd k B T w' ∧ But (· = T) w w' := by
  rcases way_lt h.k1 h.k3 with rfl | rfl | rfl
  · have hw : w.cell? ⟨B, 1, none⟩ = some (.iface 43 (.agg #[.pointer (some ⟨T, 0, none⟩)])) := h.way
    have hm := minv1 T
    go_enter Tryz.func36, Tryz.ntmps36
    go_wp2_with (go_at_call 59; refine (tinv_e T a _ _ ha rfl rfl _ (h.tab rfl).1).mono ?_; rintro e w1 ⟨rfl, hM, hB⟩)
    go_ret2
    exact ⟨rfl, h.tabled hM hB, hB⟩
  · have hw : w.cell? ⟨B, 1, none⟩ = some (.iface 49 (.agg #[])) := h.way
    have hm := minv2
    go_enter Tryz.func36, Tryz.ntmps36
    go_wp2_with (go_at_call 99; refine (bsinv_calls a ha _).mono ?_; rintro e w1 ⟨rfl, hB⟩)
    go_ret2
    exact ⟨rfl, h.below hB, But.of_below hB⟩
  · have hw : w.cell? ⟨B, 1, none⟩ = some (.iface 50 (.agg #[])) := h.way
    have hm := minv3
    go_enter Tryz.func36, Tryz.ntmps36
    go_wp2_with (go_at_call 108; refine (blinv_calls a ha _).mono ?_; rintro e w1 ⟨rfl, hB⟩)
    go_ret2
    exact ⟨rfl, h.below hB, But.of_below hB⟩
theorem finv_e (k B T a r : Nat) (b : Bool) (ha : a < 256) (hr : Gf.inv a = r) (hb : (a != 0) = b) (w : World) (h : Fd k B T w) :
    Calls Tryz.prog 36 #[.pointer (some ⟨B, 0, none⟩), .int .u8 a] w fun e w' => e = .returned (.tuple #[.int .u8 (r : Nat), .bool b]) ∧ Fd k B T w' ∧ But (· = T) w w' := by
  subst hr hb; exact finv_calls k B T a ha w h
/-- A quotient; of what is divided by 0: 0. -/
def Gf.div (a b : Nat) : Nat := Gf.mul a (Gf.inv b)
theorem Gf.div_zero (a : Nat) : Gf.div a 0 = 0 := by unfold Gf.div; rw [Gf.inv_zero, Gf.mul_zero]
end Go.Proofs
