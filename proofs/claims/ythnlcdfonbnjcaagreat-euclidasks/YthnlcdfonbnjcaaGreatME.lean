/- Texts laid together: Once, TabNew, TabFill, TabDo. Each says its own conditions. -/
import Derived.Test.YthnlcdfonbnjcaaGreatProg
import Derived.WalkKit
import Derived.Defers
import Derived.Laws.Pointers
import Derived.Laws.LoneSync
import Derived.Laws.NewBlocks
import Derived.RegionTactic
import Derived.RegionCalls
import Derived.Below
import Derived.Test.YthnlcdfonbnjcaaGreatMA
import Derived.Test.YthnlcdfonbnjcaaGreatMC
/- The parts of sync.Once's slow road, each a contract of its own, and what lies unchanged beside one block. Conditions: the lock is free, as it is in a new Once. -/
namespace Go.Proofs
open Go.RowKit

/-- Whatever lay in w lies so in w', but for the blocks of S. -/
structure But (S : Nat → Prop) (w w' : World) : Prop where
  os : w'.os = w.os
  tape : w'.tape = w.tape
  output : w'.output = w.output
  size : w.heap.size ≤ w'.heap.size
  block : ∀ k, k < w.heap.size → ¬ S k → w'.heap[k]? = w.heap[k]?
theorem But.refl (S : Nat → Prop) (w : World) : But S w w := ⟨rfl, rfl, rfl, Nat.le_refl _, fun _ _ _ => rfl⟩
theorem But.trans {S : Nat → Prop} {a b c : World} (h : But S a b) (k : But S b c) : But S a c :=
  ⟨k.os.trans h.os, k.tape.trans h.tape, k.output.trans h.output, Nat.le_trans h.size k.size, fun i hi hs => (k.block i (Nat.lt_of_lt_of_le hi h.size) hs).trans (h.block i hi hs)⟩
theorem But.mono {S T : Nat → Prop} {a b : World} (h : But S a b) (hs : ∀ k, S k → T k) : But T a b := ⟨h.os, h.tape, h.output, h.size, fun i hi ht => h.block i hi (fun s => ht (hs i s))⟩
theorem But.drew {S : Nat → Prop} {a b : World} (h : But S a b) : But S a b.drew := ⟨h.os, h.tape, h.output, h.size, h.block⟩
theorem But.alloc {S : Nat → Prop} {a b : World} (h : But S a b) (o : Obj) : But S a (b.alloc o) :=
  h.trans ⟨rfl, rfl, rfl, by simp, fun k hk _ => Below.heap_alloc _ _ _ hk⟩
theorem But.setCell {S : Nat → Prop} {a b : World} (h : But S a b) {p : Addr} (hp : S p.block ∨ a.heap.size ≤ p.block) (u : Value) : But S a (b.setCell p u) :=
  ⟨h.os, h.tape, h.output, by simpa [World.setCell] using h.size, fun k hk hs => (Below.heap_setCell _ _ _ _ (by rintro rfl; rcases hp with hp | hp; exact hs hp; omega)).trans (h.block k hk hs)⟩
theorem But.of_below {S : Nat → Prop} {a b : World} (h : Below a.heap.size a b) : But S a b := ⟨h.os, h.tape, h.output, h.size, fun k hk _ => h.block k hk⟩
theorem But.below {S : Nat → Prop} {n : Nat} {a b : World} (h : But S a b) (hn : n ≤ a.heap.size) (hs : ∀ k, S k → n ≤ k) : Below n a b :=
  ⟨h.os, h.tape, h.output, h.size, fun k hk => h.block k (by omega) (fun s => by have := hs k s; omega)⟩
theorem But.cell {S : Nat → Prop} {a b : World} (h : But S a b) {p : Addr} (hp : p.block < a.heap.size) (hs : ¬ S p.block) : b.cell? p = a.cell? p := World.cell?_of_block (w := a) (h.block p.block hp hs)
theorem But.frozen {S : Nat → Prop} {a b : World} (h : But S a b) {p : Addr} (hp : p.block < a.heap.size) (hs : ¬ S p.block) : b.frozen? p = a.frozen? p := World.frozen?_of_block (w := a) (h.block p.block hp hs)

theorem disable (w : World) : (callFunc 102 #[]).run Tryz.prog w = .ok (.value (.tuple #[])) w := run_call_mark0 Tryz.func102 (by kernel_rfl) (by kernel_rfl) (by kernel_rfl) .disable (by kernel_rfl) w
theorem enable (w : World) : (callFunc 104 #[]).run Tryz.prog w = .ok (.value (.tuple #[])) w := run_call_mark0 Tryz.func104 (by kernel_rfl) (by kernel_rfl) (by kernel_rfl) .enable (by kernel_rfl) w
theorem acquire (a : Addr) (w : World) : (callFunc 105 #[.pointer (some a)]).run Tryz.prog w = .ok (.value (.tuple #[])) w := run_call_marked Tryz.func105 (by kernel_rfl) (by kernel_rfl) (by kernel_rfl) .acquire (by kernel_rfl) a w
theorem releaseMerge (a : Addr) (w : World) : (callFunc 107 #[.pointer (some a)]).run Tryz.prog w = .ok (.value (.tuple #[])) w := run_call_marked Tryz.func107 (by kernel_rfl) (by kernel_rfl) (by kernel_rfl) .releaseMerge (by kernel_rfl) a w

set_option maxRecDepth 100000 in
/-- '(*sync/atomic.Bool).Store(true)', entered as a deferred call: the cell holds 1. -/
theorem store_deferred (a : Addr) (x : Value) (u : FrameMode) (w : World) (hc : w.cell? a = some x) (hz : w.frozen? a = false) :
    CallsD Tryz.prog 95 #[.pointer (some a), .bool true] u w fun e u' w' => u' = u ∧ (e = .returned (.tuple #[]) ∧ w' = w.drew.setCell a (.int .u32 1)) := by
  have hc' : w.drew.cell? a = some x := by go_simp
  have hz' : w.drew.frozen? a = false := by go_simp
  have hst := run_call_store (P := Tryz.prog) Tryz.func99 (by kernel_rfl) (by kernel_rfl) (by kernel_rfl) (by kernel_rfl) (k := .u32) (y := 1) hc' hz'
  go_enter_d Tryz.func95, Tryz.ntmps95
  go_wp2
  go_region_calls
  all_goals (go_end0; exact ⟨rfl, rfl⟩)

set_option maxRecDepth 100000 in
/-- '(*sync.Mutex).Unlock', entered as a deferred call, the lock held and nobody waiting (state 1): state 0. -/
theorem unlock_deferred (a : Addr) (u : FrameMode) (w : World) (hc : w.cell? a = some (.int .i32 1)) (hz : w.frozen? a = false) :
    CallsD Tryz.prog 94 #[.pointer (some a)] u w fun e u' w' => u' = u ∧ (e = .returned (.tuple #[]) ∧ w' = w.setCell a (.int .i32 0)) := by
  have hd := disable
  have he := enable
  have hr := releaseMerge
  have hadd := run_call_add (P := Tryz.prog) Tryz.func108 (by kernel_rfl) (by kernel_rfl) (by kernel_rfl) .i32 (by kernel_rfl) (y := -1) (s := 0) hc hz (by simp [go_sem]; rfl)
  have hcv := run_convert_to_unsafe (P := Tryz.prog) (src := 147) (dst := 151) Tryz.underlying147 Tryz.underlying151 (by kernel_rfl) hc
  go_enter_d Tryz.func94, Tryz.ntmps94
  go_wp2
  go_end0
  go_wp2
  go_end0
  exact ⟨rfl, rfl⟩

set_option maxRecDepth 100000 in
/-- '(*sync.Mutex).Lock', the lock free (state 0): state 1. -/
theorem lock_free (a : Addr) (w : World) (hc : w.cell? a = some (.int .i32 0)) (hz : w.frozen? a = false) :
    Calls Tryz.prog 93 #[.pointer (some a)] w fun e w' => e = .returned (.tuple #[]) ∧ w' = w.setCell a (.int .i32 1) := by
  have hd := disable
  have he := enable
  have ha := acquire
  have hcas := run_call_cas_hit (P := Tryz.prog) Tryz.func103 (by kernel_rfl) (by kernel_rfl) (by kernel_rfl) .i32 (by kernel_rfl) (y := 1) hc hz
  have hc' : (w.setCell a (.int .i32 1)).cell? a = some (.int .i32 1) := World.cell?_setCell_same w a _ hc
  have hcv := run_convert_to_unsafe (P := Tryz.prog) (src := 147) (dst := 151) Tryz.underlying147 Tryz.underlying151 (by kernel_rfl) hc'
  go_enter Tryz.func93, Tryz.ntmps93
  go_wp2
  first | go_end0 | (simp only [Exit.inBlock, Exit.then]; refine bodyPost_ret (results_none rfl _ _ _) rfl ?_) | refine bodyPost_ret (results_none rfl _ _ _) rfl ?_
  go_wp2
  go_end0
  exact ⟨rfl, rfl⟩

/-- '(*sync/atomic.Int64).Add(1)' of a number that has room. -/
theorem add64_calls (a : Addr) (x : Int) (hx : -9223372036854775808 ≤ x) (hx2 : x + 1 < 9223372036854775808) (w : World) (hc : w.cell? a = some (.int .i64 x)) (hz : w.frozen? a = false) :
    Calls Tryz.prog 86 #[.pointer (some a), .int .i64 1] w fun e w' => e = .returned (.int .i64 (x + 1)) ∧ w' = w.setCell a (.int .i64 (x + 1)) := by
  have e : IntKind.i64.wrap (x + 1) = x + 1 := by simp only [IntKind.wrap_i64]; omega
  have hs : (Op.intArith .add .i64 x 1).run Tryz.prog w = .ok (.int .i64 (x + 1)) w := by simp [go_sem, e]
  have hadd := run_call_add (P := Tryz.prog) Tryz.func91 (by kernel_rfl) (by kernel_rfl) (by kernel_rfl) .i64 (by kernel_rfl) hc hz hs
  clear hs e
  go_enter Tryz.func86, Tryz.ntmps86
  go_wp2
  go_ret
  exact ⟨rfl, rfl⟩
end Go.Proofs
/- The walks of table.New and Made. No conditions. -/
namespace Go.Proofs
open Go.RowKit

/-- The cells of a table that is not made. -/
def tz : Array Value := ⟨.int .u32 0 :: .int .i32 0 :: .int .u32 0 :: .int .i64 0 :: List.replicate 766 (.int .u8 0)⟩
theorem tz_zero (w : World) : (zeroValue 104).run Tryz.prog w = .ok (.agg tz) w := by kernel_rfl
theorem tz_size : tz.size = 770 := by kernel_rfl
theorem tz_ne : tz ≠ #[] := fun h => by have := tz_size; rw [h] at this; exact absurd this (by decide)
theorem tz_0 : tz[0]? = some (.int .u32 0) := by kernel_rfl
theorem tz_1 : tz[1]? = some (.int .i32 0) := by kernel_rfl
theorem tz_3 : tz[3]? = some (.int .i64 0) := by kernel_rfl

set_option maxHeartbeats 1000000 in
theorem tnew_calls (w : World) : Calls Tryz.prog 27 #[] w fun e w' => e = .returned (.pointer (some ⟨w.heap.size, 0, none⟩)) ∧ w' = w.alloc (.cells tz 104) := by
  have hz := tz_zero
  have hn := tz_ne
  go_enter Tryz.func27, Tryz.ntmps27
  go_wp2
  go_ret
  exact ⟨rfl, rfl⟩

/-- A block of a table's cells. -/
structure Tb (B : Nat) (W : World) : Prop where
  has : ∀ o, o < 770 → ∃ v, W.cell? ⟨B, o, none⟩ = some v
  fz : ∀ o, W.frozen? ⟨B, o, none⟩ = false
theorem Tb.lt {B : Nat} {W : World} (h : Tb B W) : B < W.heap.size := by
  obtain ⟨v, hv⟩ := h.has 0 (by decide)
  exact World.block_lt_of_cell? _ _ hv
theorem Tb.set {B : Nat} {W : World} (h : Tb B W) (p : Addr) (v : Value) : Tb B (W.setCell p v) := by
  refine ⟨fun o ho => ?_, fun o => by rw [World.frozen?_setCell]; exact h.fz o⟩
  obtain ⟨u, hu⟩ := h.has o ho
  by_cases e : p = ⟨B, o, none⟩
  · subst e; exact ⟨v, World.cell?_setCell_same' _ _ _ (by rw [hu]; rfl)⟩
  · exact ⟨u, (World.cell?_setCell_other _ _ _ _ e).trans hu⟩
theorem Tb.drew {B : Nat} {W : World} (h : Tb B W) : Tb B W.drew := ⟨fun o ho => by rw [World.cell?_drew]; exact h.has o ho, fun o => by rw [World.frozen?_drew]; exact h.fz o⟩
theorem Tb.but {B : Nat} {S : Nat → Prop} {W W' : World} (h : Tb B W) (hb : But S W W') (hs : ¬ S B) : Tb B W' :=
  ⟨fun o ho => by obtain ⟨u, hu⟩ := h.has o ho; exact ⟨u, (hb.cell (p := ⟨B, o, none⟩) h.lt hs).trans hu⟩, fun o => (hb.frozen (p := ⟨B, o, none⟩) h.lt hs).trans (h.fz o)⟩
theorem Tb.set_same {B : Nat} {W : World} (h : Tb B W) (o : Nat) (ho : o < 770) (v : Value) : (W.setCell ⟨B, o, none⟩ v).cell? ⟨B, o, none⟩ = some v := by
  obtain ⟨u, hu⟩ := h.has o ho
  exact World.cell?_setCell_same' _ _ _ (by rw [hu]; rfl)

/-- A table that is not made. -/
structure Fresh (B : Nat) (W : World) : Prop where
  tb : Tb B W
  once : W.cell? ⟨B, 0, none⟩ = some (.int .u32 0)
  lock : W.cell? ⟨B, 1, none⟩ = some (.int .i32 0)
  made : W.cell? ⟨B, 3, none⟩ = some (.int .i64 0)
/-- A table that is made. -/
structure Made (B : Nat) (W : World) : Prop where
  tb : Tb B W
  once : W.cell? ⟨B, 0, none⟩ = some (.int .u32 1)
  made : W.cell? ⟨B, 3, none⟩ = some (.int .i64 1)
  powers : ∀ i, i < 510 → W.cell? ⟨B, 4 + i, none⟩ = some (.int .u8 (Gf.pow 2 i : Nat))
  logs : ∀ j, j < 255 → W.cell? ⟨B, 514 + Gf.pow 2 j, none⟩ = some (.int .u8 (j : Nat))
theorem Fresh.but {B : Nat} {S : Nat → Prop} {W W' : World} (h : Fresh B W) (hb : But S W W') (hs : ¬ S B) : Fresh B W' :=
  ⟨h.tb.but hb hs, (hb.cell (p := ⟨B, 0, none⟩) h.tb.lt hs).trans h.once, (hb.cell (p := ⟨B, 1, none⟩) h.tb.lt hs).trans h.lock, (hb.cell (p := ⟨B, 3, none⟩) h.tb.lt hs).trans h.made⟩
theorem Made.but {B : Nat} {S : Nat → Prop} {W W' : World} (h : Made B W) (hb : But S W W') (hs : ¬ S B) : Made B W' :=
  ⟨h.tb.but hb hs, (hb.cell (p := ⟨B, 0, none⟩) h.tb.lt hs).trans h.once, (hb.cell (p := ⟨B, 3, none⟩) h.tb.lt hs).trans h.made,
   fun i hi => (hb.cell (p := ⟨B, 4 + i, none⟩) h.tb.lt hs).trans (h.powers i hi), fun j hj => (hb.cell (p := ⟨B, 514 + Gf.pow 2 j, none⟩) h.tb.lt hs).trans (h.logs j hj)⟩
theorem fresh_new (w : World) : Fresh w.heap.size (w.alloc (.cells tz 104)) := by
  refine ⟨⟨fun o ho => ?_, fun o => by rw [World.frozen?_alloc_at _ _ _ _ rfl]⟩, ?_, ?_, ?_⟩
  · refine ⟨tz[o]'(by rw [tz_size]; exact ho), ?_⟩
    rw [World.cell?_alloc_at _ _ _ _ rfl]
    exact Array.getElem?_eq_getElem _
  · rw [World.cell?_alloc_at _ _ _ _ rfl]; exact tz_0
  · rw [World.cell?_alloc_at _ _ _ _ rfl]; exact tz_1
  · rw [World.cell?_alloc_at _ _ _ _ rfl]; exact tz_3

theorem tnew_any (w : World) : Calls Tryz.prog 27 #[] w fun e w' => ∃ B, e = .returned (.pointer (some ⟨B, 0, none⟩)) ∧ Fresh B w' ∧ Below w.heap.size w w' ∧ B = w.heap.size :=
  (tnew_calls w).mono fun _ _ ⟨h1, h2⟩ => ⟨w.heap.size, h1, by rw [h2]; exact fresh_new w, by rw [h2]; exact (Below.refl _ w).alloc (Nat.le_refl _) _, rfl⟩
end Go.Proofs
/- The walk of a table's fill. Condition: the block holds a table's cells. -/
namespace Go.Proofs
open Go.RowKit

theorem off_ne {B o p : Nat} (h : o ≠ p) : (⟨B, o, none⟩ : Addr) ≠ ⟨B, p, none⟩ := fun e => h (congrArg Addr.off e)

/-- The first k powers are laid; the Once, its lock and the count are as they were. -/
structure Filled (B : Nat) (d s : Int) (k : Nat) (W : World) : Prop where
  tb : Tb B W
  once : W.cell? ⟨B, 0, none⟩ = some (.int .u32 d)
  lock : W.cell? ⟨B, 1, none⟩ = some (.int .i32 s)
  made : W.cell? ⟨B, 3, none⟩ = some (.int .i64 0)
  powers : ∀ i, i < k → W.cell? ⟨B, 4 + i, none⟩ = some (.int .u8 (Gf.pow 2 i : Nat)) ∧ W.cell? ⟨B, 4 + (i + 255), none⟩ = some (.int .u8 (Gf.pow 2 i : Nat))
  logs : ∀ j, j < k → W.cell? ⟨B, 514 + Gf.pow 2 j, none⟩ = some (.int .u8 (j : Nat))

/-- What a round lays. -/
theorem Filled.step {B : Nat} {d s : Int} {k : Nat} {W : World} (h : Filled B d s k W) (hk : k < 255) :
    Filled B d s (k + 1) ((((W.setCell ⟨B, 4 + k, none⟩ (.int .u8 (Gf.pow 2 k : Nat))).setCell ⟨B, 4 + (k + 255), none⟩ (.int .u8 (Gf.pow 2 k : Nat))).drew.setCell ⟨B, 514 + Gf.pow 2 k, none⟩ (.int .u8 (k : Nat)))) := by
  have hp := Gf.pow_lt 2 k (by decide)
  have other : ∀ o, o ≠ 4 + k → o ≠ 4 + (k + 255) → o ≠ 514 + Gf.pow 2 k → (((W.setCell ⟨B, 4 + k, none⟩ (.int .u8 (Gf.pow 2 k : Nat))).setCell ⟨B, 4 + (k + 255), none⟩ (.int .u8 (Gf.pow 2 k : Nat))).drew.setCell ⟨B, 514 + Gf.pow 2 k, none⟩ (.int .u8 (k : Nat))).cell? ⟨B, o, none⟩ = W.cell? ⟨B, o, none⟩ := by
    intro o h1 h2 h3
    rw [World.cell?_setCell_other _ _ _ _ (off_ne (by omega)), World.cell?_drew, World.cell?_setCell_other _ _ _ _ (off_ne (by omega)), World.cell?_setCell_other _ _ _ _ (off_ne (by omega))]
  have t1 := h.tb.set ⟨B, 4 + k, none⟩ (.int .u8 (Gf.pow 2 k : Nat))
  have t2 := t1.set ⟨B, 4 + (k + 255), none⟩ (.int .u8 (Gf.pow 2 k : Nat))
  refine ⟨(t2.drew).set _ _, (other 0 (by omega) (by omega) (by omega)).trans h.once, (other 1 (by omega) (by omega) (by omega)).trans h.lock, (other 3 (by omega) (by omega) (by omega)).trans h.made, ?_, ?_⟩
  · intro i hi
    by_cases e : i = k
    · subst e
      refine ⟨?_, ?_⟩
      · rw [World.cell?_setCell_other _ _ _ _ (off_ne (by omega)), World.cell?_drew, World.cell?_setCell_other _ _ _ _ (off_ne (by omega))]
        exact h.tb.set_same _ (by omega) _
      · rw [World.cell?_setCell_other _ _ _ _ (off_ne (by omega)), World.cell?_drew]
        exact t1.set_same _ (by omega) _
    · have := h.powers i (by omega)
      exact ⟨(other _ (by omega) (by omega) (by omega)).trans this.1, (other _ (by omega) (by omega) (by omega)).trans this.2⟩
  · intro j hj
    by_cases e : j = k
    · subst e
      exact t2.drew.set_same _ (by omega) _
    · have hne : Gf.pow 2 j ≠ Gf.pow 2 k := fun hh => e ((Gf.pow_two_inj j k (by omega) hk).1 hh)
      exact (other _ (by omega) (by omega) (by omega)).trans (h.logs j (by omega))
theorem Filled.but {B : Nat} {d s : Int} {k : Nat} {S : Nat → Prop} {W W' : World} (h : Filled B d s k W) (hb : But S W W') (hs : ¬ S B) : Filled B d s k W' :=
  ⟨h.tb.but hb hs, (hb.cell (p := ⟨B, 0, none⟩) h.tb.lt hs).trans h.once, (hb.cell (p := ⟨B, 1, none⟩) h.tb.lt hs).trans h.lock, (hb.cell (p := ⟨B, 3, none⟩) h.tb.lt hs).trans h.made,
   fun i hi => ⟨(hb.cell (p := ⟨B, 4 + i, none⟩) h.tb.lt hs).trans (h.powers i hi).1, (hb.cell (p := ⟨B, 4 + (i + 255), none⟩) h.tb.lt hs).trans (h.powers i hi).2⟩,
   fun j hj => (hb.cell (p := ⟨B, 514 + Gf.pow 2 j, none⟩) h.tb.lt hs).trans (h.logs j hj)⟩

set_option maxRecDepth 100000 in
set_option maxHeartbeats 2000000 in
theorem tfill_calls (B : Nat) (d s : Int) (w : World) (h : Filled B d s 0 w) :
    Calls Tryz.prog 81 #[.pointer (some ⟨B, 0, none⟩)] w fun e w' => e = .returned (.tuple #[]) ∧ But (· = B) w w' ∧ ∃ W, Filled B d s 255 W ∧ w' = W.setCell ⟨B, 3, none⟩ (.int .i64 1) := by
  have h2 : (2 : Nat) < 256 := by decide
  go_enter Tryz.func81, Tryz.ntmps81
  go_wp2
  go_loopw [2, 4] (fun p i wr => ∃ k : Nat, k ≤ 255 ∧ i = .int .i64 (k : Int) ∧ p = .int .u8 (Gf.pow 2 k : Nat) ∧ Filled B d s k wr ∧ But (· = B) w wr) (fun _ i _ => 255 - (intOf i).toNat)
  case atStart => exact ⟨0, by omega, rfl, rfl, h, But.refl _ _⟩
  case round =>
    obtain ⟨k, hk, rfl, rfl, hF, hB⟩ := hrel
    by_cases hlt : k < 255
    · have hp := Gf.pow_lt 2 k (by decide)
      have HS : Hid (Filled B d s (k + 1) ((((wr.setCell ⟨B, 4 + k, none⟩ (.int .u8 (Gf.pow 2 k : Nat))).setCell ⟨B, 4 + (k + 255), none⟩ (.int .u8 (Gf.pow 2 k : Nat))).drew.setCell ⟨B, 514 + Gf.pow 2 k, none⟩ (.int .u8 (k : Nat))))) := hF.step hlt
      have HP : Hid (Gf.mul (Gf.pow 2 k) 2 = Gf.pow 2 (k + 1)) := (rfl : Gf.mul (Gf.pow 2 k) 2 = Gf.pow 2 (k + 1))
      obtain ⟨q, hq⟩ : ∃ q, Gf.pow 2 k = q := ⟨_, rfl⟩
      rw [hq] at hp HS HP
      rw [hq]
      clear hq
      obtain ⟨v1, c1⟩ := hF.tb.has (4 + k) (by omega)
      obtain ⟨v2, c2⟩ := hF.tb.has (4 + (k + 255)) (by omega)
      obtain ⟨v3, c3⟩ := hF.tb.has (514 + q) (by omega)
      have f1 := hF.tb.fz (4 + k)
      have f2 := hF.tb.fz (4 + (k + 255))
      have f3 := hF.tb.fz (514 + q)
      have ek : (k : Int) % 256 = k := by omega
      go_wp2
      go_region
      obtain ⟨W1, hW1⟩ : ∃ W1, ((wr.setCell ⟨B, 4 + k, none⟩ (.int .u8 (q : Nat))).setCell ⟨B, 4 + (k + 255), none⟩ (.int .u8 (q : Nat))).drew = W1 := ⟨_, rfl⟩
      have d3 : W1.cell? ⟨B, 514 + q, none⟩ = some v3 := by
        rw [← hW1, World.cell?_drew, World.cell?_setCell_other _ _ _ _ (off_ne (by omega)), World.cell?_setCell_other _ _ _ _ (off_ne (by omega))]; exact c3
      have e3 : W1.frozen? ⟨B, 514 + q, none⟩ = false := by
        rw [← hW1, World.frozen?_drew, World.frozen?_setCell, World.frozen?_setCell]; exact f3
      have HB1 : But (· = B) w W1 := by
        rw [← hW1]; exact ((hB.setCell (p := ⟨B, 4 + k, none⟩) (.inl rfl) _).setCell (p := ⟨B, 4 + (k + 255), none⟩) (.inl rfl) _).drew
      rw [hW1] at HS
      rw [hW1]
      clear hW1 c1 c2 c3 f1 f2 f3 hB hF
      have HBh : Hid (But (· = B) w W1) := HB1
      clear HB1
      go_wp2_with (go_at_call 85; refine (mul_calls q 2 hp h2 _).mono ?_; rintro e w1 ⟨rfl, hb1⟩)
      have hb1' : But (fun _ => False) _ w1 := But.of_below hb1
      go_roundw
      case rel => exact ⟨k + 1, by omega, by go_num, by rw [HP.out], HS.out.but hb1' (fun f => f), (HBh.out.setCell (p := ⟨B, 514 + q, none⟩) (.inl rfl) _).trans (But.of_below hb1)⟩
      case measure => simp [intOf]; omega
    · have e8 : k = 255 := by omega
      subst e8
      have c3 := hF.made
      have f3 := hF.tb.fz 3
      have HFh : Hid (Filled B d s 255 wr) := hF
      have HBh : Hid (But (· = B) w wr) := hB
      clear hF hB
      go_wp2_with (go_at_call 86; refine (add64_calls ⟨B, 3, none⟩ 0 (by decide) (by decide) _ c3 f3).mono ?_; rintro e w' ⟨rfl, rfl⟩)
      go_end0
      exact ⟨rfl, HBh.out.setCell (p := ⟨B, 3, none⟩) (.inl rfl) _, _, HFh.out, rfl⟩
end Go.Proofs
/- The walks of sync.Once's Do at a table, of ready, turn and log. Conditions: a table that is new, or made. -/
namespace Go.Proofs
open Go.RowKit

theorem pow_two_wrap (i : Nat) (hi : i < 255) : Gf.pow 2 (i + 255) = Gf.pow 2 i := by
  rw [Gf.pow_mod 2 (i + 255) (by decide) (by decide), Nat.add_mod_right, Nat.mod_eq_of_lt hi]

/-- Behind fill, 'done' and the lock stored: the table is made. -/
theorem made_of_filled {B : Nat} {W : World} (h : Filled B 0 1 255 W) :
    Made B ((((W.setCell ⟨B, 3, none⟩ (.int .i64 1)).drew.setCell ⟨B, 0, none⟩ (.int .u32 1)).setCell ⟨B, 1, none⟩ (.int .i32 0))) := by
  have t1 := h.tb.set ⟨B, 3, none⟩ (.int .i64 1)
  have other : ∀ o, o ≠ 3 → o ≠ 0 → o ≠ 1 → (((W.setCell ⟨B, 3, none⟩ (.int .i64 1)).drew.setCell ⟨B, 0, none⟩ (.int .u32 1)).setCell ⟨B, 1, none⟩ (.int .i32 0)).cell? ⟨B, o, none⟩ = W.cell? ⟨B, o, none⟩ := by
    intro o h1 h2 h3
    rw [World.cell?_setCell_other _ _ _ _ (off_ne (by omega)), World.cell?_setCell_other _ _ _ _ (off_ne (by omega)), World.cell?_drew, World.cell?_setCell_other _ _ _ _ (off_ne (by omega))]
  refine ⟨(t1.drew.set _ _).set _ _, ?_, ?_, ?_, ?_⟩
  · rw [World.cell?_setCell_other _ _ _ _ (off_ne (by omega))]
    exact t1.drew.set_same 0 (by omega) _
  · rw [World.cell?_setCell_other _ _ _ _ (off_ne (by omega)), World.cell?_setCell_other _ _ _ _ (off_ne (by omega)), World.cell?_drew]
    exact h.tb.set_same 3 (by omega) _
  · intro i hi
    rw [other _ (by omega) (by omega) (by omega)]
    rcases Nat.lt_or_ge i 255 with hl | hl
    · exact (h.powers i hl).1
    · obtain ⟨j, rfl⟩ := Nat.exists_eq_add_of_le hl
      have := (h.powers j (by omega)).2
      rw [Nat.add_comm 255 j, pow_two_wrap j (by omega)]
      exact this
  · intro j hj
    rw [other _ (by omega) (by omega) (by omega)]
    exact h.logs j hj

theorem Fresh.filled {B : Nat} {W : World} (h : Fresh B W) : Filled B 0 1 0 (W.setCell ⟨B, 1, none⟩ (.int .i32 1)) :=
  ⟨h.tb.set _ _, (World.cell?_setCell_other _ _ _ _ (off_ne (by omega))).trans h.once, h.tb.set_same 1 (by omega) _, (World.cell?_setCell_other _ _ _ _ (off_ne (by omega))).trans h.made,
   fun i hi => absurd hi (Nat.not_lt_zero i), fun j hj => absurd hj (Nat.not_lt_zero j)⟩

set_option maxRecDepth 100000 in
set_option maxHeartbeats 2000000 in
theorem tslow_calls (B : Nat) (w : World) (h : Fresh B w) :
    Calls Tryz.prog 88 #[.pointer (some ⟨B, 0, none⟩), .func (.func 81) #[.pointer (some ⟨B, 0, none⟩)] #[]] w fun e w' => e = .returned (.tuple #[]) ∧ Made B w' ∧ But (· = B) w w' := by
  have hfl := h.filled
  have hl := run_call_load (P := Tryz.prog) Tryz.func92 (by kernel_rfl) (by kernel_rfl) (by kernel_rfl) .u32 (by kernel_rfl) (w := w.setCell ⟨B, 1, none⟩ (.int .i32 1)) (a := ⟨B, 0, none⟩) (x := 0) hfl.once
  have hnot : ∀ (x : Bool) (w : World), (Op.unary .not (.bool x)).run Tryz.prog w = .ok (.bool (!x)) w := fun _ _ => rfl
  have c1 := h.lock
  have f1 := h.tb.fz 1
  have HF : Hid (Filled B 0 1 0 (w.setCell ⟨B, 1, none⟩ (.int .i32 1))) := hfl
  clear hfl h
  go_enter_defers Tryz.func88, Tryz.ntmps88
  go_wp2_with (first | (go_at_call 93; refine (lock_free ⟨B, 1, none⟩ _ c1 f1).mono ?_; rintro e w' ⟨rfl, rfl⟩) | (go_at_call 87; go_in) | (go_at_call 81; refine (tfill_calls B 0 1 _ HF.out).mono ?_; rintro e w' ⟨rfl, hb1, W, hFW, rfl⟩))
  have c0 : (W.setCell ⟨B, 3, none⟩ (.int .i64 1)).cell? ⟨B, 0, none⟩ = some (.int .u32 0) := (World.cell?_setCell_other _ _ _ _ (off_ne (by omega))).trans hFW.once
  have f0 : (W.setCell ⟨B, 3, none⟩ (.int .i64 1)).frozen? ⟨B, 0, none⟩ = false := by rw [World.frozen?_setCell]; exact hFW.tb.fz 0
  refine leaves_cons (f := 95) (args := #[.pointer (some ⟨B, 0, none⟩), .bool true]) (by simp) (by simp [go_sem]) ?_
  refine (store_deferred ⟨B, 0, none⟩ (.int .u32 0) .returning _ c0 f0).mono ?_
  rintro e u' w'' ⟨rfl, rfl, rfl⟩
  have c2 : ((W.setCell ⟨B, 3, none⟩ (.int .i64 1)).drew.setCell ⟨B, 0, none⟩ (.int .u32 1)).cell? ⟨B, 1, none⟩ = some (.int .i32 1) := by
    rw [World.cell?_setCell_other _ _ _ _ (off_ne (by omega)), World.cell?_drew, World.cell?_setCell_other _ _ _ _ (off_ne (by omega))]; exact hFW.lock
  have f2 : ((W.setCell ⟨B, 3, none⟩ (.int .i64 1)).drew.setCell ⟨B, 0, none⟩ (.int .u32 1)).frozen? ⟨B, 1, none⟩ = false := by
    rw [World.frozen?_setCell, World.frozen?_drew, World.frozen?_setCell]; exact hFW.tb.fz 1
  refine leaves_cons (f := 94) (args := #[.pointer (some ⟨B, 1, none⟩)]) (by simp [settle]) (by simp [go_sem]) ?_
  refine (unlock_deferred ⟨B, 1, none⟩ _ _ c2 f2).mono ?_
  rintro e u' w'' ⟨rfl, rfl, rfl⟩
  have hm := made_of_filled hFW
  have hbb : But (· = B) w (((W.setCell ⟨B, 3, none⟩ (.int .i64 1)).drew.setCell ⟨B, 0, none⟩ (.int .u32 1)).setCell ⟨B, 1, none⟩ (.int .i32 0)) :=
    ((((((But.refl (· = B) w).setCell (p := ⟨B, 1, none⟩) (.inl rfl) _).trans hb1).drew).setCell (p := ⟨B, 0, none⟩) (.inl rfl) _).setCell (p := ⟨B, 1, none⟩) (.inl rfl) _)
  simp [Leaves, settle, results, Tryz.results88, hm, hbb]

/-- '(*sync.Once).Do' at a new table: it is made. -/
theorem tdo_first (B : Nat) (w : World) (h : Fresh B w) :
    Calls Tryz.prog 84 #[.pointer (some ⟨B, 0, none⟩), .func (.func 81) #[.pointer (some ⟨B, 0, none⟩)] #[]] w fun e w' => e = .returned (.tuple #[]) ∧ Made B w' ∧ But (· = B) w w' := by
  have hl := run_call_load (P := Tryz.prog) Tryz.func92 (by kernel_rfl) (by kernel_rfl) (by kernel_rfl) .u32 (by kernel_rfl) h.once
  have hnot : ∀ (x : Bool) (w : World), (Op.unary .not (.bool x)).run Tryz.prog w = .ok (.bool (!x)) w := fun _ _ => rfl
  go_enter Tryz.func84, Tryz.ntmps84
  go_wp2_with (first | (go_at_call 88; refine (tslow_calls B _ h).mono ?_; rintro e w' ⟨rfl, hm, hb⟩) | (go_at_call 87; go_in))
  go_end0
  exact ⟨rfl, hm, hb⟩
/-- '(*sync.Once).Do', done already: the function is not called. -/
theorem do_done (a : Addr) (fv : Value) (w : World) (h0 : w.cell? a = some (.int .u32 1)) :
    Calls Tryz.prog 84 #[.pointer (some a), fv] w fun e w' => e = .returned (.tuple #[]) ∧ w' = w := by
  have hl := run_call_load (P := Tryz.prog) Tryz.func92 (by kernel_rfl) (by kernel_rfl) (by kernel_rfl) .u32 (by kernel_rfl) h0
  have hnot : ∀ (x : Bool) (w : World), (Op.unary .not (.bool x)).run Tryz.prog w = .ok (.bool (!x)) w := fun _ _ => rfl
  go_enter Tryz.func84, Tryz.ntmps84
  go_wp2
  go_end0
  exact ⟨rfl, rfl⟩

/-- A table, made or not. -/
def Any (B : Nat) (W : World) : Prop := Fresh B W ∨ Made B W
theorem Any.but {B : Nat} {S : Nat → Prop} {W W' : World} (h : Any B W) (hb : But S W W') (hs : ¬ S B) : Any B W' := h.imp (·.but hb hs) (·.but hb hs)
theorem tready_calls (B : Nat) (w : World) (h : Any B w) :
    Calls Tryz.prog 82 #[.pointer (some ⟨B, 0, none⟩)] w fun e w' => e = .returned (.bool true) ∧ Made B w' ∧ But (· = B) w w' := by
  have hmf : ∀ (fn : Fn) (first cap : Array Value) (w : World), (Instr.makeFunc fn first cap).run Tryz.prog w = .ok (.func fn first cap) w := fun _ _ _ _ => rfl
  rcases h with h | h
  · go_enter Tryz.func82, Tryz.ntmps82
    go_wp2_with (go_at_call 84; refine (tdo_first B _ h).mono ?_; rintro e w' ⟨rfl, hm, hb⟩)
    go_ret
    exact ⟨rfl, hm, hb⟩
  · have h0 := h.once
    go_enter Tryz.func82, Tryz.ntmps82
    go_wp2_with (go_at_call 84; refine (do_done ⟨B, 0, none⟩ _ _ h0).mono ?_; rintro e w' ⟨rfl, rfl⟩)
    go_ret
    exact ⟨rfl, h, But.refl _ _⟩
theorem tlog_calls (B j : Nat) (hj : j < 255) (w : World) (h : Made B w) : Calls Tryz.prog 83 #[.pointer (some ⟨B, 0, none⟩), .int .u8 (Gf.pow 2 j : Nat)] w fun e w' => e = .returned (.int .i64 j) ∧ w' = w := by
  have hp := Gf.pow_lt 2 j (by decide)
  have hc := h.logs j hj
  obtain ⟨q, hq⟩ : ∃ q, Gf.pow 2 j = q := ⟨_, rfl⟩
  rw [hq] at hp hc ⊢
  clear hq
  go_enter Tryz.func83, Tryz.ntmps83
  go_wp2
  go_ret
  exact ⟨rfl, rfl⟩
end Go.Proofs
