/- Arrays of planes in memory, and the walks of lanes.Lane and lanes.Add. Conditions: none but that lanes are bytes. -/
import Derived.Test.YtphhehppcfddgaaGreatProg
import Derived.Test.YtphhehppcfddgaaGreatLanes
import Derived.WalkKit
import Derived.Laws.Pointers
import Derived.Laws.NewBlocks
import Derived.RegionTactic
import Derived.Below
namespace Go.Proofs
open Go.RowKit

/-- The value of planes with the lanes l. -/
abbrev V8 (l : Nat → Nat) : Value := .agg #[.int .u64 (Ln.pk l 0 : Nat), .int .u64 (Ln.pk l 1 : Nat), .int .u64 (Ln.pk l 2 : Nat), .int .u64 (Ln.pk l 3 : Nat), .int .u64 (Ln.pk l 4 : Nat), .int .u64 (Ln.pk l 5 : Nat), .int .u64 (Ln.pk l 6 : Nat), .int .u64 (Ln.pk l 7 : Nat)]

/-- The block B is an array of n planes with the lanes l. -/
structure Pl (W : World) (B n : Nat) (l : Nat → Nat) : Prop where
  lt : B < W.heap.size
  cell : ∀ i, i < n → W.cell? ⟨B, i, none⟩ = some (.int .u64 (Ln.pk l i : Nat))
  fz : ∀ i, W.frozen? ⟨B, i, none⟩ = false
theorem Pl.drew {W : World} {B n : Nat} {l : Nat → Nat} (h : Pl W B n l) : Pl W.drew B n l :=
  ⟨h.lt, fun i hi => by rw [World.cell?_drew]; exact h.cell i hi, fun i => by rw [World.frozen?_drew]; exact h.fz i⟩
theorem Pl.alloc {W : World} {B n : Nat} {l : Nat → Nat} (h : Pl W B n l) (o : Obj) : Pl (W.alloc o) B n l := by
  have hb : (W.alloc o).heap[B]? = W.heap[B]? := Below.heap_alloc _ _ _ h.lt
  exact ⟨by have := h.lt; simp; omega, fun i hi => (World.cell?_of_block (w := W) (a := ⟨B, i, none⟩) hb).trans (h.cell i hi), fun i => (World.frozen?_of_block (w := W) (a := ⟨B, i, none⟩) hb).trans (h.fz i)⟩
theorem Pl.other {W : World} {B n : Nat} {l : Nat → Nat} (h : Pl W B n l) {p : Addr} (hp : p.block ≠ B) (v : Value) : Pl (W.setCell p v) B n l := by
  have hb : (W.setCell p v).heap[B]? = W.heap[B]? := Below.heap_setCell _ _ _ _ (fun e => hp e.symm)
  exact ⟨by simpa [World.setCell] using h.lt, fun i hi => (World.cell?_of_block (w := W) (a := ⟨B, i, none⟩) hb).trans (h.cell i hi), fun i => (World.frozen?_of_block (w := W) (a := ⟨B, i, none⟩) hb).trans (h.fz i)⟩
theorem Pl.below {W W' : World} {B n : Nat} {l : Nat → Nat} (h : Pl W B n l) (hb : Below W.heap.size W W') : Pl W' B n l :=
  ⟨Nat.lt_of_lt_of_le h.lt hb.size, fun i hi => (World.cell?_of_block (w := W) (a := ⟨B, i, none⟩) (hb.block B h.lt)).trans (h.cell i hi), fun i => (World.frozen?_of_block (w := W) (a := ⟨B, i, none⟩) (hb.block B h.lt)).trans (h.fz i)⟩
theorem Pl.belowN {W W' : World} {B n m : Nat} {l : Nat → Nat} (h : Pl W B n l) (hb : Below m W W') (hm : B < m) : Pl W' B n l :=
  ⟨Nat.lt_of_lt_of_le h.lt hb.size, fun i hi => (World.cell?_of_block (w := W) (a := ⟨B, i, none⟩) (hb.block B hm)).trans (h.cell i hi), fun i => (World.frozen?_of_block (w := W) (a := ⟨B, i, none⟩) (hb.block B hm)).trans (h.fz i)⟩
theorem ln_off_ne {B o p : Nat} (h : o ≠ p) : (⟨B, o, none⟩ : Addr) ≠ ⟨B, p, none⟩ := fun e => h (congrArg Addr.off e)
/-- A cell is laid anew. -/
theorem Pl.set {W : World} {B n : Nat} {l l' : Nat → Nat} (h : Pl W B n l) (k x : Nat) (hk : k < n) (hx : Ln.pk l' k = x) (he : ∀ i, i < n → i ≠ k → Ln.pk l' i = Ln.pk l i) : Pl (W.setCell ⟨B, k, none⟩ (.int .u64 (x : Nat))) B n l' := by
  refine ⟨by simpa [World.setCell] using h.lt, fun i hi => ?_, fun i => by rw [World.frozen?_setCell]; exact h.fz i⟩
  by_cases e : i = k
  · subst e
    rw [hx]
    exact World.cell?_setCell_same' _ _ _ (by rw [h.cell i hi]; rfl)
  · rw [World.cell?_setCell_other _ _ _ _ (ln_off_ne (fun q => e q.symm)), he i hi e]
    exact h.cell i hi
theorem Pl.same {W : World} {B n : Nat} {l l' : Nat → Nat} (h : Pl W B n l) (he : ∀ i, i < n → Ln.pk l' i = Ln.pk l i) : Pl W B n l' :=
  ⟨h.lt, fun i hi => by rw [he i hi]; exact h.cell i hi, h.fz⟩
theorem pl_new (W : World) {B : Nat} (hB : B = W.heap.size) (n : Nat) (l : Nat → Nat) (c : Array Value) (t : TypeId) (hc : ∀ i, i < n → c[i]? = some (.int .u64 (Ln.pk l i : Nat))) : Pl (W.alloc (.cells c t)) B n l := by
  subst hB
  exact ⟨by simp, fun i hi => by rw [World.cell?_alloc_at _ _ _ _ rfl]; exact hc i hi, fun i => by rw [World.frozen?_alloc_at _ _ _ _ rfl]⟩
theorem pk_zero (i : Nat) : Ln.pk (fun _ => 0) i = 0 := by
  apply Nat.eq_of_testBit_eq
  intro n
  rw [Ln.pk_bit]; simp
theorem eight {P : Nat → Prop} (h0 : P 0) (h1 : P 1) (h2 : P 2) (h3 : P 3) (h4 : P 4) (h5 : P 5) (h6 : P 6) (h7 : P 7) : ∀ i, i < 8 → P i := by
  intro i hi
  match i, hi with
  | 0, _ => exact h0
  | 1, _ => exact h1
  | 2, _ => exact h2
  | 3, _ => exact h3
  | 4, _ => exact h4
  | 5, _ => exact h5
  | 6, _ => exact h6
  | 7, _ => exact h7
theorem pl_box (W : World) {B : Nat} (hB : B = W.heap.size) (l : Nat → Nat) (t : TypeId) : Pl (W.alloc (.cells #[.int .u64 (Ln.pk l 0 : Nat), .int .u64 (Ln.pk l 1 : Nat), .int .u64 (Ln.pk l 2 : Nat), .int .u64 (Ln.pk l 3 : Nat), .int .u64 (Ln.pk l 4 : Nat), .int .u64 (Ln.pk l 5 : Nat), .int .u64 (Ln.pk l 6 : Nat), .int .u64 (Ln.pk l 7 : Nat)] t)) B 8 l :=
  pl_new W hB 8 l _ t (eight rfl rfl rfl rfl rfl rfl rfl rfl)
theorem pl_zero8 (W : World) {B : Nat} (hB : B = W.heap.size) (t : TypeId) : Pl (W.alloc (.cells #[.int .u64 0, .int .u64 0, .int .u64 0, .int .u64 0, .int .u64 0, .int .u64 0, .int .u64 0, .int .u64 0] t)) B 8 (fun _ => 0) :=
  pl_new W hB 8 _ _ t (fun i hi => by rw [pk_zero]; revert i; exact eight rfl rfl rfl rfl rfl rfl rfl rfl)
theorem add_step (l m : Nat → Nat) (k : Nat) : Ln.pk (fun n => l n ^^^ m n % 2 ^ (k + 1)) k = Ln.pk (fun n => l n ^^^ m n % 2 ^ k) k ^^^ Ln.pk m k := by
  apply Nat.eq_of_testBit_eq
  intro n
  rw [Nat.testBit_xor, Ln.pk_bit, Ln.pk_bit, Ln.pk_bit, Nat.testBit_xor, Nat.testBit_xor, Nat.testBit_mod_two_pow, Nat.testBit_mod_two_pow]
  cases decide (n < 64) <;> simp
theorem add_else (l m : Nat → Nat) (k i : Nat) (h : i ≠ k) : Ln.pk (fun n => l n ^^^ m n % 2 ^ (k + 1)) i = Ln.pk (fun n => l n ^^^ m n % 2 ^ k) i := by
  apply Nat.eq_of_testBit_eq
  intro n
  rw [Ln.pk_bit, Ln.pk_bit, Nat.testBit_xor, Nat.testBit_xor, Nat.testBit_mod_two_pow, Nat.testBit_mod_two_pow]
  have : decide (i < k + 1) = decide (i < k) := decide_eq_decide.2 (by omega)
  rw [this]
theorem add_end (l m : Nat → Nat) (i : Nat) (hi : i < 8) : Ln.pk (fun n => l n ^^^ m n) i = Ln.pk (fun n => l n ^^^ m n % 2 ^ 8) i := by
  apply Nat.eq_of_testBit_eq
  intro n
  rw [Ln.pk_bit, Ln.pk_bit, Nat.testBit_xor, Nat.testBit_xor, Nat.testBit_mod_two_pow]
  simp [hi]
/-- Eight cells into a block. -/
abbrev set8 (W : World) (B : Nat) (l : Nat → Nat) : World := ((((((((W.setCell ⟨B, 0, none⟩ (.int .u64 (Ln.pk l 0 : Nat))).setCell ⟨B, 1, none⟩ (.int .u64 (Ln.pk l 1 : Nat))).setCell ⟨B, 2, none⟩ (.int .u64 (Ln.pk l 2 : Nat))).setCell ⟨B, 3, none⟩ (.int .u64 (Ln.pk l 3 : Nat))).setCell ⟨B, 4, none⟩ (.int .u64 (Ln.pk l 4 : Nat))).setCell ⟨B, 5, none⟩ (.int .u64 (Ln.pk l 5 : Nat))).setCell ⟨B, 6, none⟩ (.int .u64 (Ln.pk l 6 : Nat))).setCell ⟨B, 7, none⟩ (.int .u64 (Ln.pk l 7 : Nat)))
theorem Pl.set8 {W : World} {B : Nat} {l0 : Nat → Nat} (h : Pl W B 8 l0) (l : Nat → Nat) : Pl (set8 W B l) B 8 l := by
  refine ⟨by simpa [Proofs.set8, World.setCell] using h.lt, ?_, fun i => by simp only [Proofs.set8, World.frozen?_setCell]; exact h.fz i⟩
  have s : ∀ i, i < 8 → ∀ (W' : World) v, (W'.cell? ⟨B, i, none⟩).isSome = true → (W'.setCell ⟨B, i, none⟩ v).cell? ⟨B, i, none⟩ = some v := fun i _ W' v hv => World.cell?_setCell_same' _ _ _ hv
  have o : ∀ (W' : World) i j v, i ≠ j → (W'.setCell ⟨B, j, none⟩ v).cell? ⟨B, i, none⟩ = W'.cell? ⟨B, i, none⟩ := fun W' i j v hne => World.cell?_setCell_other _ _ _ _ (ln_off_ne (fun e => hne e.symm))
  have z : ∀ i, i < 8 → (W.cell? ⟨B, i, none⟩).isSome = true := fun i hi => by rw [h.cell i hi]; rfl
  unfold Proofs.set8
  refine eight ?_ ?_ ?_ ?_ ?_ ?_ ?_ ?_
  · rw [o _ 0 7 _ (by decide), o _ 0 6 _ (by decide), o _ 0 5 _ (by decide), o _ 0 4 _ (by decide), o _ 0 3 _ (by decide), o _ 0 2 _ (by decide), o _ 0 1 _ (by decide)]
    exact s 0 (by decide) _ _ (z 0 (by decide))
  · rw [o _ 1 7 _ (by decide), o _ 1 6 _ (by decide), o _ 1 5 _ (by decide), o _ 1 4 _ (by decide), o _ 1 3 _ (by decide), o _ 1 2 _ (by decide)]
    exact s 1 (by decide) _ _ (by rw [o _ 1 0 _ (by decide)]; exact z 1 (by decide))
  · rw [o _ 2 7 _ (by decide), o _ 2 6 _ (by decide), o _ 2 5 _ (by decide), o _ 2 4 _ (by decide), o _ 2 3 _ (by decide)]
    exact s 2 (by decide) _ _ (by rw [o _ 2 1 _ (by decide), o _ 2 0 _ (by decide)]; exact z 2 (by decide))
  · rw [o _ 3 7 _ (by decide), o _ 3 6 _ (by decide), o _ 3 5 _ (by decide), o _ 3 4 _ (by decide)]
    exact s 3 (by decide) _ _ (by rw [o _ 3 2 _ (by decide), o _ 3 1 _ (by decide), o _ 3 0 _ (by decide)]; exact z 3 (by decide))
  · rw [o _ 4 7 _ (by decide), o _ 4 6 _ (by decide), o _ 4 5 _ (by decide)]
    exact s 4 (by decide) _ _ (by rw [o _ 4 3 _ (by decide), o _ 4 2 _ (by decide), o _ 4 1 _ (by decide), o _ 4 0 _ (by decide)]; exact z 4 (by decide))
  · rw [o _ 5 7 _ (by decide), o _ 5 6 _ (by decide)]
    exact s 5 (by decide) _ _ (by rw [o _ 5 4 _ (by decide), o _ 5 3 _ (by decide), o _ 5 2 _ (by decide), o _ 5 1 _ (by decide), o _ 5 0 _ (by decide)]; exact z 5 (by decide))
  · rw [o _ 6 7 _ (by decide)]
    exact s 6 (by decide) _ _ (by rw [o _ 6 5 _ (by decide), o _ 6 4 _ (by decide), o _ 6 3 _ (by decide), o _ 6 2 _ (by decide), o _ 6 1 _ (by decide), o _ 6 0 _ (by decide)]; exact z 6 (by decide))
  · exact s 7 (by decide) _ _ (by rw [o _ 7 6 _ (by decide), o _ 7 5 _ (by decide), o _ 7 4 _ (by decide), o _ 7 3 _ (by decide), o _ 7 2 _ (by decide), o _ 7 1 _ (by decide), o _ 7 0 _ (by decide)]; exact z 7 (by decide))
theorem below_set8 {n : Nat} {W W' : World} {B : Nat} (h : Below n W W') (hB : n ≤ B) (l : Nat → Nat) : Below n W (set8 W' B l) := by
  unfold set8
  exact (((((((h.setCell hB _).setCell hB _).setCell hB _).setCell hB _).setCell hB _).setCell hB _).setCell hB _).setCell hB _
theorem Pl.other8 {W : World} {B C n : Nat} {l : Nat → Nat} (h : Pl W B n l) (hne : C ≠ B) (m : Nat → Nat) : Pl (Proofs.set8 W C m) B n l :=
  (((((((h.other hne _).other hne _).other hne _).other hne _).other hne _).other hne _).other hne _).other hne _
theorem heap_set8 (W : World) (B : Nat) (l : Nat → Nat) : (set8 W B l).heap.size = W.heap.size := by simp [set8, World.setCell]
/-- Planes out of their block. -/
theorem load8 {W : World} {B : Nat} {l : Nat → Nat} (h : Pl W B 8 l) : (loadVar 142 ⟨B, 0, none⟩).run Tryz.prog W = .ok (V8 l) W := by
  have hl := run_loadCells_list (P := Tryz.prog) W ⟨B, 0, none⟩ [.int .u64 (Ln.pk l 0 : Nat), .int .u64 (Ln.pk l 1 : Nat), .int .u64 (Ln.pk l 2 : Nat), .int .u64 (Ln.pk l 3 : Nat), .int .u64 (Ln.pk l 4 : Nat), .int .u64 (Ln.pk l 5 : Nat), .int .u64 (Ln.pk l 6 : Nat), .int .u64 (Ln.pk l 7 : Nat)] (fun j v hv => by
    have hadd : (⟨B, 0, none⟩ : Addr).add j = ⟨B, j, none⟩ := by unfold Addr.add; split <;> simp_all
    have hj : j < 8 := (List.getElem?_eq_some_iff.1 hv).1
    rw [hadd, h.cell j hj]
    revert v
    exact eight (P := fun j => ∀ v, [Value.int .u64 (Ln.pk l 0 : Nat), .int .u64 (Ln.pk l 1 : Nat), .int .u64 (Ln.pk l 2 : Nat), .int .u64 (Ln.pk l 3 : Nat), .int .u64 (Ln.pk l 4 : Nat), .int .u64 (Ln.pk l 5 : Nat), .int .u64 (Ln.pk l 6 : Nat), .int .u64 (Ln.pk l 7 : Nat)][j]? = some v → some (Value.int .u64 (Ln.pk l j : Nat)) = some v) (fun _ h => h) (fun _ h => h) (fun _ h => h) (fun _ h => h) (fun _ h => h) (fun _ h => h) (fun _ h => h) (fun _ h => h) j hj)
  have ha : (isAgg 142).run Tryz.prog W = .ok true W := Tryz.isAgg142 W
  have hl' : (loadCells ⟨B, 0, none⟩ 8).run Tryz.prog W = .ok #[.int .u64 (Ln.pk l 0 : Nat), .int .u64 (Ln.pk l 1 : Nat), .int .u64 (Ln.pk l 2 : Nat), .int .u64 (Ln.pk l 3 : Nat), .int .u64 (Ln.pk l 4 : Nat), .int .u64 (Ln.pk l 5 : Nat), .int .u64 (Ln.pk l 6 : Nat), .int .u64 (Ln.pk l 7 : Nat)] W := hl
  simp [loadVar, Sem.run_bind, ha, hl']
theorem results_cell {fn : Func} {p : Tmp} {ty : TypeId} (h : fn.results = #[.cell p ty]) {tmps : Array Value} {P : Program} {w : World} {a : Addr} {v : Value} (hp : tmps.getD p undef = .pointer (some a)) (hl : (loadVar ty a).run P w = .ok v w) :
    (results fn tmps).run P w = .ok v w := by
  simp only [results, h]
  simp only [Array.getD_eq_getD_getElem?] at hp
  simp [hp, asAddr, hl]

end Go.Proofs
