/- Texts laid together: LnWalk, LnLane, LnPack, LnMul, LnProd. Each says its own conditions. -/
import Derived.Test.YthnlcdfonbnjcaaGreatProg
import Derived.WalkKit
import Derived.Laws.Pointers
import Derived.Laws.NewBlocks
import Derived.RegionTactic
import Derived.Below
import Derived.Deep.LoopGhost
import Derived.WalkMore
import Derived.Test.YthnlcdfonbnjcaaGreatMA
import Derived.Test.YthnlcdfonbnjcaaGreatMB
import Derived.Test.YthnlcdfonbnjcaaGreatMO
/- Arrays of planes in memory, and the walks of lanes.Lane and lanes.Add. Conditions: none but that lanes are bytes. -/
namespace Go.Proofs
open Go.RowKit

/-- The value of planes with the lanes l. -/
abbrev V8 (l : Nat → Nat) : Value := .agg #[.int .u64 (Ln.pk l 0 : Nat), .int .u64 (Ln.pk l 1 : Nat), .int .u64 (Ln.pk l 2 : Nat), .int .u64 (Ln.pk l 3 : Nat), .int .u64 (Ln.pk l 4 : Nat), .int .u64 (Ln.pk l 5 : Nat), .int .u64 (Ln.pk l 6 : Nat), .int .u64 (Ln.pk l 7 : Nat)]

/-- The block B is an array of n planes with the lanes l. -/
structure Pl (W : World) (B n : Nat) (l : Nat → Nat) : Prop where
  lt : B < W.heap.size
  cell : ∀ i, i < n → W.cell? ⟨B, i, none⟩ = some (.int .u64 (Ln.pk l i : Nat))
  fz : ∀ i, W.frozen? ⟨B, i, none⟩ = false
theorem Pl.drew {W : World} {B n : Nat} {l : Nat → Nat} (h : Pl W B n l) : Pl W.drew B n l :=
  ⟨h.lt, fun i hi => by rw [World.cell?_drew]; exact h.cell i hi, fun i => by rw [World.frozen?_drew]; exact h.fz i⟩
theorem Pl.alloc {W : World} {B n : Nat} {l : Nat → Nat} (h : Pl W B n l) (o : Obj) : Pl (W.alloc o) B n l := by
  have hb : (W.alloc o).heap[B]? = W.heap[B]? := Below.heap_alloc _ _ _ h.lt
  exact ⟨by have := h.lt; simp; omega, fun i hi => (World.cell?_of_block (w := W) (a := ⟨B, i, none⟩) hb).trans (h.cell i hi), fun i => (World.frozen?_of_block (w := W) (a := ⟨B, i, none⟩) hb).trans (h.fz i)⟩
theorem Pl.other {W : World} {B n : Nat} {l : Nat → Nat} (h : Pl W B n l) {p : Addr} (hp : p.block ≠ B) (v : Value) : Pl (W.setCell p v) B n l := by
  have hb : (W.setCell p v).heap[B]? = W.heap[B]? := Below.heap_setCell _ _ _ _ (fun e => hp e.symm)
  exact ⟨by simpa [World.setCell] using h.lt, fun i hi => (World.cell?_of_block (w := W) (a := ⟨B, i, none⟩) hb).trans (h.cell i hi), fun i => (World.frozen?_of_block (w := W) (a := ⟨B, i, none⟩) hb).trans (h.fz i)⟩
theorem Pl.below {W W' : World} {B n : Nat} {l : Nat → Nat} (h : Pl W B n l) (hb : Below W.heap.size W W') : Pl W' B n l :=
  ⟨Nat.lt_of_lt_of_le h.lt hb.size, fun i hi => (World.cell?_of_block (w := W) (a := ⟨B, i, none⟩) (hb.block B h.lt)).trans (h.cell i hi), fun i => (World.frozen?_of_block (w := W) (a := ⟨B, i, none⟩) (hb.block B h.lt)).trans (h.fz i)⟩
theorem ln_off_ne {B o p : Nat} (h : o ≠ p) : (⟨B, o, none⟩ : Addr) ≠ ⟨B, p, none⟩ := fun e => h (congrArg Addr.off e)
/-- A cell is laid anew. -/
theorem Pl.set {W : World} {B n : Nat} {l l' : Nat → Nat} (h : Pl W B n l) (k x : Nat) (hk : k < n) (hx : Ln.pk l' k = x) (he : ∀ i, i < n → i ≠ k → Ln.pk l' i = Ln.pk l i) : Pl (W.setCell ⟨B, k, none⟩ (.int .u64 (x : Nat))) B n l' := by
  refine ⟨by simpa [World.setCell] using h.lt, fun i hi => ?_, fun i => by rw [World.frozen?_setCell]; exact h.fz i⟩
  by_cases e : i = k
  · subst e
    rw [hx]
    exact World.cell?_setCell_same' _ _ _ (by rw [h.cell i hi]; rfl)
  · rw [World.cell?_setCell_other _ _ _ _ (ln_off_ne (fun q => e q.symm)), he i hi e]
    exact h.cell i hi
theorem Pl.same {W : World} {B n : Nat} {l l' : Nat → Nat} (h : Pl W B n l) (he : ∀ i, i < n → Ln.pk l' i = Ln.pk l i) : Pl W B n l' :=
  ⟨h.lt, fun i hi => by rw [he i hi]; exact h.cell i hi, h.fz⟩
theorem pl_new (W : World) {B : Nat} (hB : B = W.heap.size) (n : Nat) (l : Nat → Nat) (c : Array Value) (t : TypeId) (hc : ∀ i, i < n → c[i]? = some (.int .u64 (Ln.pk l i : Nat))) : Pl (W.alloc (.cells c t)) B n l := by
  subst hB
  exact ⟨by simp, fun i hi => by rw [World.cell?_alloc_at _ _ _ _ rfl]; exact hc i hi, fun i => by rw [World.frozen?_alloc_at _ _ _ _ rfl]⟩
theorem pk_zero (i : Nat) : Ln.pk (fun _ => 0) i = 0 := by
  apply Nat.eq_of_testBit_eq
  intro n
  rw [Ln.pk_bit]; simp
theorem eight {P : Nat → Prop} (h0 : P 0) (h1 : P 1) (h2 : P 2) (h3 : P 3) (h4 : P 4) (h5 : P 5) (h6 : P 6) (h7 : P 7) : ∀ i, i < 8 → P i := by
  intro i hi
  match i, hi with
  | 0, _ => exact h0
  | 1, _ => exact h1
  | 2, _ => exact h2
  | 3, _ => exact h3
  | 4, _ => exact h4
  | 5, _ => exact h5
  | 6, _ => exact h6
  | 7, _ => exact h7
theorem pl_box (W : World) {B : Nat} (hB : B = W.heap.size) (l : Nat → Nat) (t : TypeId) : Pl (W.alloc (.cells #[.int .u64 (Ln.pk l 0 : Nat), .int .u64 (Ln.pk l 1 : Nat), .int .u64 (Ln.pk l 2 : Nat), .int .u64 (Ln.pk l 3 : Nat), .int .u64 (Ln.pk l 4 : Nat), .int .u64 (Ln.pk l 5 : Nat), .int .u64 (Ln.pk l 6 : Nat), .int .u64 (Ln.pk l 7 : Nat)] t)) B 8 l :=
  pl_new W hB 8 l _ t (eight rfl rfl rfl rfl rfl rfl rfl rfl)
theorem pl_zero8 (W : World) {B : Nat} (hB : B = W.heap.size) (t : TypeId) : Pl (W.alloc (.cells #[.int .u64 0, .int .u64 0, .int .u64 0, .int .u64 0, .int .u64 0, .int .u64 0, .int .u64 0, .int .u64 0] t)) B 8 (fun _ => 0) :=
  pl_new W hB 8 _ _ t (fun i hi => by rw [pk_zero]; revert i; exact eight rfl rfl rfl rfl rfl rfl rfl rfl)
/-- Eight cells into a block. -/
abbrev set8 (W : World) (B : Nat) (l : Nat → Nat) : World := ((((((((W.setCell ⟨B, 0, none⟩ (.int .u64 (Ln.pk l 0 : Nat))).setCell ⟨B, 1, none⟩ (.int .u64 (Ln.pk l 1 : Nat))).setCell ⟨B, 2, none⟩ (.int .u64 (Ln.pk l 2 : Nat))).setCell ⟨B, 3, none⟩ (.int .u64 (Ln.pk l 3 : Nat))).setCell ⟨B, 4, none⟩ (.int .u64 (Ln.pk l 4 : Nat))).setCell ⟨B, 5, none⟩ (.int .u64 (Ln.pk l 5 : Nat))).setCell ⟨B, 6, none⟩ (.int .u64 (Ln.pk l 6 : Nat))).setCell ⟨B, 7, none⟩ (.int .u64 (Ln.pk l 7 : Nat)))
theorem Pl.set8 {W : World} {B : Nat} {l0 : Nat → Nat} (h : Pl W B 8 l0) (l : Nat → Nat) : Pl (set8 W B l) B 8 l := by
  refine ⟨by simpa [Proofs.set8, World.setCell] using h.lt, ?_, fun i => by simp only [Proofs.set8, World.frozen?_setCell]; exact h.fz i⟩
  have s : ∀ i, i < 8 → ∀ (W' : World) v, (W'.cell? ⟨B, i, none⟩).isSome = true → (W'.setCell ⟨B, i, none⟩ v).cell? ⟨B, i, none⟩ = some v := fun i _ W' v hv => World.cell?_setCell_same' _ _ _ hv
  have o : ∀ (W' : World) i j v, i ≠ j → (W'.setCell ⟨B, j, none⟩ v).cell? ⟨B, i, none⟩ = W'.cell? ⟨B, i, none⟩ := fun W' i j v hne => World.cell?_setCell_other _ _ _ _ (ln_off_ne (fun e => hne e.symm))
  have z : ∀ i, i < 8 → (W.cell? ⟨B, i, none⟩).isSome = true := fun i hi => by rw [h.cell i hi]; rfl
  unfold Proofs.set8
  refine eight ?_ ?_ ?_ ?_ ?_ ?_ ?_ ?_
  · rw [o _ 0 7 _ (by decide), o _ 0 6 _ (by decide), o _ 0 5 _ (by decide), o _ 0 4 _ (by decide), o _ 0 3 _ (by decide), o _ 0 2 _ (by decide), o _ 0 1 _ (by decide)]
    exact s 0 (by decide) _ _ (z 0 (by decide))
  · rw [o _ 1 7 _ (by decide), o _ 1 6 _ (by decide), o _ 1 5 _ (by decide), o _ 1 4 _ (by decide), o _ 1 3 _ (by decide), o _ 1 2 _ (by decide)]
    exact s 1 (by decide) _ _ (by rw [o _ 1 0 _ (by decide)]; exact z 1 (by decide))
  · rw [o _ 2 7 _ (by decide), o _ 2 6 _ (by decide), o _ 2 5 _ (by decide), o _ 2 4 _ (by decide), o _ 2 3 _ (by decide)]
    exact s 2 (by decide) _ _ (by rw [o _ 2 1 _ (by decide), o _ 2 0 _ (by decide)]; exact z 2 (by decide))
  · rw [o _ 3 7 _ (by decide), o _ 3 6 _ (by decide), o _ 3 5 _ (by decide), o _ 3 4 _ (by decide)]
    exact s 3 (by decide) _ _ (by rw [o _ 3 2 _ (by decide), o _ 3 1 _ (by decide), o _ 3 0 _ (by decide)]; exact z 3 (by decide))
  · rw [o _ 4 7 _ (by decide), o _ 4 6 _ (by decide), o _ 4 5 _ (by decide)]
    exact s 4 (by decide) _ _ (by rw [o _ 4 3 _ (by decide), o _ 4 2 _ (by decide), o _ 4 1 _ (by decide), o _ 4 0 _ (by decide)]; exact z 4 (by decide))
  · rw [o _ 5 7 _ (by decide), o _ 5 6 _ (by decide)]
    exact s 5 (by decide) _ _ (by rw [o _ 5 4 _ (by decide), o _ 5 3 _ (by decide), o _ 5 2 _ (by decide), o _ 5 1 _ (by decide), o _ 5 0 _ (by decide)]; exact z 5 (by decide))
  · rw [o _ 6 7 _ (by decide)]
    exact s 6 (by decide) _ _ (by rw [o _ 6 5 _ (by decide), o _ 6 4 _ (by decide), o _ 6 3 _ (by decide), o _ 6 2 _ (by decide), o _ 6 1 _ (by decide), o _ 6 0 _ (by decide)]; exact z 6 (by decide))
  · exact s 7 (by decide) _ _ (by rw [o _ 7 6 _ (by decide), o _ 7 5 _ (by decide), o _ 7 4 _ (by decide), o _ 7 3 _ (by decide), o _ 7 2 _ (by decide), o _ 7 1 _ (by decide), o _ 7 0 _ (by decide)]; exact z 7 (by decide))
theorem below_set8 {n : Nat} {W W' : World} {B : Nat} (h : Below n W W') (hB : n ≤ B) (l : Nat → Nat) : Below n W (set8 W' B l) := by
  unfold set8
  exact (((((((h.setCell hB _).setCell hB _).setCell hB _).setCell hB _).setCell hB _).setCell hB _).setCell hB _).setCell hB _
theorem Pl.other8 {W : World} {B C n : Nat} {l : Nat → Nat} (h : Pl W B n l) (hne : C ≠ B) (m : Nat → Nat) : Pl (Proofs.set8 W C m) B n l :=
  (((((((h.other hne _).other hne _).other hne _).other hne _).other hne _).other hne _).other hne _).other hne _
/-- Planes out of their block. -/
theorem load8 {W : World} {B : Nat} {l : Nat → Nat} (h : Pl W B 8 l) : (loadVar 166 ⟨B, 0, none⟩).run Tryz.prog W = .ok (V8 l) W := by
  have hl := run_loadCells_list (P := Tryz.prog) W ⟨B, 0, none⟩ [.int .u64 (Ln.pk l 0 : Nat), .int .u64 (Ln.pk l 1 : Nat), .int .u64 (Ln.pk l 2 : Nat), .int .u64 (Ln.pk l 3 : Nat), .int .u64 (Ln.pk l 4 : Nat), .int .u64 (Ln.pk l 5 : Nat), .int .u64 (Ln.pk l 6 : Nat), .int .u64 (Ln.pk l 7 : Nat)] (fun j v hv => by
    have hadd : (⟨B, 0, none⟩ : Addr).add j = ⟨B, j, none⟩ := by unfold Addr.add; split <;> simp_all
    have hj : j < 8 := (List.getElem?_eq_some_iff.1 hv).1
    rw [hadd, h.cell j hj]
    revert v
    exact eight (P := fun j => ∀ v, [Value.int .u64 (Ln.pk l 0 : Nat), .int .u64 (Ln.pk l 1 : Nat), .int .u64 (Ln.pk l 2 : Nat), .int .u64 (Ln.pk l 3 : Nat), .int .u64 (Ln.pk l 4 : Nat), .int .u64 (Ln.pk l 5 : Nat), .int .u64 (Ln.pk l 6 : Nat), .int .u64 (Ln.pk l 7 : Nat)][j]? = some v → some (Value.int .u64 (Ln.pk l j : Nat)) = some v) (fun _ h => h) (fun _ h => h) (fun _ h => h) (fun _ h => h) (fun _ h => h) (fun _ h => h) (fun _ h => h) (fun _ h => h) j hj)
  have ha : (isAgg 166).run Tryz.prog W = .ok true W := Tryz.isAgg166 W
  have hl' : (loadCells ⟨B, 0, none⟩ 8).run Tryz.prog W = .ok #[.int .u64 (Ln.pk l 0 : Nat), .int .u64 (Ln.pk l 1 : Nat), .int .u64 (Ln.pk l 2 : Nat), .int .u64 (Ln.pk l 3 : Nat), .int .u64 (Ln.pk l 4 : Nat), .int .u64 (Ln.pk l 5 : Nat), .int .u64 (Ln.pk l 6 : Nat), .int .u64 (Ln.pk l 7 : Nat)] W := hl
  simp [loadVar, Sem.run_bind, ha, hl']
theorem results_cell {fn : Func} {p : Tmp} {ty : TypeId} (h : fn.results = #[.cell p ty]) {tmps : Array Value} {P : Program} {w : World} {a : Addr} {v : Value} (hp : tmps.getD p undef = .pointer (some a)) (hl : (loadVar ty a).run P w = .ok v w) :
    (results fn tmps).run P w = .ok v w := by
  simp only [results, h]
  simp only [Array.getD_eq_getD_getElem?] at hp
  simp [hp, asAddr, hl]

end Go.Proofs
/- The walks of lanes.Lane, Unpack and Pack. Conditions: lanes are bytes. -/
namespace Go.Proofs
open Go.RowKit

theorem cast_div_pow (x n : Nat) : ((x : Int) / 2 ^ n) = ((x / 2 ^ n : Nat) : Int) := by simp
/-- The bit n of a plane. -/
theorem plane_bit (x n : Nat) (hx : x < 18446744073709551616) : bits .and .u64 ((x : Int) / 2 ^ n) 1 = (if x.testBit n then 1 else 0 : Nat) := by
  have h1 : x / 2 ^ n < 18446744073709551616 := Nat.lt_of_le_of_lt (Nat.div_le_self _ _) hx
  rw [cast_div_pow, show (1 : Int) = ((1 : Nat) : Int) from rfl, u64_and_nat _ _ h1 (by decide), Nat.and_one_is_mod, Nat.testBit_eq_decide_div_mod_eq]
  rcases Nat.mod_two_eq_zero_or_one (x / 2 ^ n) with e | e <;> rw [e] <;> rfl
theorem byte_or_bit (a k : Nat) (hk : k < 8) (b : Bool) : bits .or .u8 ((a : Int) % 2 ^ k) (((if b then 1 else 0 : Nat) : Int) % 256 * 2 ^ k % 256) = ((a % 2 ^ k ^^^ (if b then 2 ^ k else 0) : Nat) : Int) := by
  have hp : 2 ^ k ≤ 2 ^ 7 := Nat.pow_le_pow_right (by decide) (by omega)
  have hm := Nat.mod_lt a (Nat.two_pow_pos k)
  have e1 : ((a : Int) % 2 ^ k) = ((a % 2 ^ k : Nat) : Int) := by simp
  have e2 : (((if b then 1 else 0 : Nat) : Int) % 256 * 2 ^ k % 256) = ((if b then 2 ^ k else 0 : Nat) : Int) := by
    cases b
    · simp
    · have : ((2 : Int) ^ k) = ((2 ^ k : Nat) : Int) := by simp
      simp only [if_true]
      rw [this]
      omega
  rw [e1, e2, u8_or_nat _ _ (by omega) (by split <;> omega)]
  congr 1
  apply Nat.eq_of_testBit_eq
  intro i
  rw [Nat.testBit_or, Nat.testBit_xor, Nat.testBit_mod_two_pow, Ln.bit_pow]
  by_cases e : i = k
  · subst e; simp
  · simp [e]
theorem mod_step (a k : Nat) : a % 2 ^ (k + 1) = a % 2 ^ k ^^^ (if a.testBit k then 2 ^ k else 0) := by
  have h := Gf.bit_off (a % 2 ^ (k + 1)) k (Nat.mod_lt _ (Nat.two_pow_pos _))
  rw [Nat.mod_mod_of_dvd _ (Nat.pow_dvd_pow 2 (Nat.le_succ k)), Nat.testBit_mod_two_pow] at h
  simpa using h
theorem lane_round (l : Nat → Nat) (n k : Nat) (hn : n < 64) (hk : k < 8) :
    bits .or .u8 ((l n : Int) % 2 ^ k) (bits .and .u64 ((Ln.pk l k : Int) / 2 ^ n) 1 % 256 * 2 ^ k % 256) = ((l n % 2 ^ (k + 1) : Nat) : Int) := by
  rw [plane_bit _ _ (Ln.pk_lt l k), byte_or_bit _ _ hk, mod_step, Ln.pk_bit]
  simp [hn]

set_option maxHeartbeats 1000000 in
theorem llane_in (l : Nat → Nat) (n : Nat) (hn : n < 64) (hl : l n < 256) (w : World) :
    Calls Tryz.prog 134 #[V8 l, .int .i64 (n : Int)] w fun e w' => e = .returned (.int .u8 (l n : Nat)) ∧ Below w.heap.size w w' := by
  go_enter Tryz.func134, Tryz.ntmps134
  go_wp2
  go_loopw [5, 13] (fun b i wr => ∃ k : Nat, k ≤ 8 ∧ i = .int .i64 (k : Int) ∧ b = .int .u8 (l n % 2 ^ k : Nat) ∧ Pl wr w.heap.size 8 l ∧ Below w.heap.size w wr) (fun _ i _ => 8 - (intOf i).toNat)
  case atStart =>
    exact ⟨0, by omega, rfl, by simp [Nat.mod_one], pl_box w rfl l 166, (Below.refl _ _).alloc (Nat.le_refl _) _⟩
  case round =>
    obtain ⟨k, hk, rfl, rfl, hL, hB⟩ := hrel
    by_cases hlt : k < 8
    · have cL := hL.cell k hlt
      have HM : Hid (Pl wr w.heap.size 8 l ∧ Below w.heap.size w wr) := ⟨hL, hB⟩
      clear hL hB
      have HR := lane_round l n k hn hlt
      go_wp2
      go_roundw
      case rel => exact ⟨k + 1, by omega, by go_num, rfl, HM.out⟩
      case measure => simp [intOf]; omega
    · have e8 : k = 8 := by omega
      subst e8
      have hr : l n % 2 ^ 8 = l n := Nat.mod_eq_of_lt hl
      rw [hr]
      clear hr
      have HB : Hid (Below w.heap.size w wr) := hB
      clear hB hL
      go_wp2
      go_ret
      exact ⟨rfl, HB.out⟩
end Go.Proofs
/- The walks of lanes.Unpack and Pack. Conditions: lanes are bytes. -/
namespace Go.Proofs
open Go.RowKit Go.ChangeShapes Go.WideShapes

/-- The lanes as a list. -/
def ll (l : Nat → Nat) : List Nat := (List.range 64).map l
theorem ll_length (l : Nat → Nat) : (ll l).length = 64 := by simp [ll]
theorem ll_at (l : Nat → Nat) (i : Nat) : (ll l).getD i 0 = if i < 64 then l i else 0 := by
  unfold ll
  by_cases h : i < 64
  · simp [List.getD, h]
  · simp [List.getD, h]
/-- The first k lanes, and noughts. -/
def lk (l : Nat → Nat) (k : Nat) : List Nat := (List.range k).map l ++ List.replicate (64 - k) 0
theorem lk_length (l : Nat → Nat) (k : Nat) (hk : k ≤ 64) : (lk l k).length = 64 := by simp [lk]; omega
theorem lk_zero (l : Nat → Nat) : lk l 0 = List.replicate 64 0 := by simp [lk]
theorem lk_all (l : Nat → Nat) : lk l 64 = ll l := by simp [lk, ll]
theorem lk_set (l : Nat → Nat) (k : Nat) (hk : k < 64) : (lk l k).set k (l k) = lk l (k + 1) := by
  apply List.ext_getElem?
  intro i
  by_cases hi : i < 64
  · rw [List.getElem?_set]
    by_cases e : k = i
    · subst e
      rw [if_pos rfl, if_pos (by rw [lk_length l k (by omega)]; exact hk)]
      simp [lk, List.getElem?_append]
    · rw [if_neg e]
      unfold lk
      rw [List.getElem?_append, List.getElem?_append]
      simp only [List.length_map, List.length_range, List.getElem?_map, List.getElem?_replicate]
      by_cases h1 : i < k
      · have h2 : i < k + 1 := by omega
        simp [h1, h2]
      · have h2 : ¬ i < k + 1 := by omega
        have h3 : i - k < 64 - k := by omega
        have h4 : i - (k + 1) < 64 - (k + 1) := by omega
        rw [if_neg h1, if_neg h2, if_pos h3, if_pos h4]
  · rw [List.getElem?_eq_none (by rw [List.length_set, lk_length l k (by omega)]; omega), List.getElem?_eq_none (by rw [lk_length l (k + 1) (by omega)]; omega)]

set_option maxRecDepth 100000 in
set_option maxHeartbeats 1000000 in
theorem lunpack_calls (l : Nat → Nat) (hl : ∀ n, n < 64 → l n < 256) (w : World) :
    Calls Tryz.prog 138 #[V8 l] w fun e w' => ∃ v, e = .returned v ∧ Ow w' w.heap.size v (ll l) ∧ Below w.heap.size w w' := by
  have HL : Hid (∀ n, n < 64 → l n < 256) := hl
  clear hl
  have hmk : ∀ w : World, (Instr.makeSlice 22 (.int .i64 64) (.int .i64 64)).run Tryz.prog w = .ok (.slice (some ⟨w.heap.size, 0, none⟩) 64 64) (w.alloc (.cells (madeCells #[.int .u8 0] 64) 5)) := make_bytes 64 (by decide)
  go_enter Tryz.func138, Tryz.ntmps138
  go_wp2
  clear hmk
  go_loopw [6] (fun i wr => ∃ k : Nat, k ≤ 64 ∧ i = .int .i64 (k : Int) ∧ Pl wr w.heap.size 8 l ∧ Ow wr (w.heap.size + 1) (.slice (some ⟨w.heap.size + 1, 0, none⟩) 64 64) (lk l k) ∧ Below w.heap.size w wr) (fun i _ => 64 - (intOf i).toNat)
  case atStart =>
    refine ⟨0, by omega, rfl, (pl_box w rfl l 166).alloc _, ?_, ((Below.refl _ _).alloc (Nat.le_refl _) _).alloc (by simp) _⟩
    have := ow_made (w.alloc (.cells #[.int .u64 (Ln.pk l 0 : Nat), .int .u64 (Ln.pk l 1 : Nat), .int .u64 (Ln.pk l 2 : Nat), .int .u64 (Ln.pk l 3 : Nat), .int .u64 (Ln.pk l 4 : Nat), .int .u64 (Ln.pk l 5 : Nat), .int .u64 (Ln.pk l 6 : Nat), .int .u64 (Ln.pk l 7 : Nat)] 166)) (base := w.heap.size + 1) (by simp) 64 (by decide)
    rw [lk_zero]
    simpa using this
  case round =>
    obtain ⟨k, hk, rfl, hL, hO, hB⟩ := hrel
    by_cases hlt : k < 64
    · have cc := hL
      have c0 := hL.cell 0 (by decide)
      have c1 := hL.cell 1 (by decide)
      have c2 := hL.cell 2 (by decide)
      have c3 := hL.cell 3 (by decide)
      have c4 := hL.cell 4 (by decide)
      have c5 := hL.cell 5 (by decide)
      have c6 := hL.cell 6 (by decide)
      have c7 := hL.cell 7 (by decide)
      clear cc
      have HM : Hid (Pl wr w.heap.size 8 l ∧ Ow wr (w.heap.size + 1) (.slice (some ⟨w.heap.size + 1, 0, none⟩) 64 64) (lk l k) ∧ Below w.heap.size w wr) := ⟨hL, hO, hB⟩
      clear hL hB hO
      go_wp2_with fail
      refine (llane_in l k hlt (HL.out k hlt) _).mono ?_
      rintro e w1 ⟨rfl, hb⟩
      clear c0 c1 c2 c3 c4 c5 c6 c7
      have HP : Hid (Pl w1 w.heap.size 8 l ∧ Below w.heap.size w w1) := ⟨HM.out.1.below hb, HM.out.2.2.trans (hb.mono HM.out.2.2.size)⟩
      have hO := HM.out.2.1.below hb
      clear hb HM
      have HO : Hid (Ow w1 (w.heap.size + 1) (.slice (some ⟨w.heap.size + 1, 0, none⟩) 64 64) (lk l k)) := hO
      obtain ⟨hc, hf⟩ := hO.at (by rw [lk_length l k hk]) k hlt
      clear hO
      go_wp2
      go_roundw
      case rel =>
        refine ⟨k + 1, by omega, by go_num, HP.out.1.other (by simp) _, ?_, HP.out.2.setCell (p := ⟨w.heap.size + 1, k, none⟩) (by simp) _⟩
        rw [← lk_set l k hlt]
        exact HO.out.set (by rw [lk_length l k hk]) k (l k)
      case measure => simp [intOf]; omega
    · have e8 : k = 64 := by omega
      subst e8
      have HM : Hid (Ow wr w.heap.size (.slice (some ⟨w.heap.size + 1, 0, none⟩) 64 64) (ll l) ∧ Below w.heap.size w wr) := ⟨by rw [← lk_all]; exact hO.mono (by omega), hB⟩
      clear hL hB hO
      go_wp2
      go_ret
      exact ⟨_, rfl, HM.out⟩

theorem byte_bit (x i : Nat) (hx : x < 256) : bits .and .u8 ((x : Int) / 2 ^ i) 1 = ((x / 2 ^ i % 2 : Nat) : Int) := by
  have h1 : x / 2 ^ i < 256 := Nat.lt_of_le_of_lt (Nat.div_le_self _ _) hx
  rw [cast_div_pow, show (1 : Int) = ((1 : Nat) : Int) from rfl, u8_and_nat _ _ h1 (by decide), Nat.and_one_is_mod]
set_option maxRecDepth 100000 in
set_option maxHeartbeats 1000000 in
theorem lpack_calls (q : Option Addr) (n c : Nat) (xs : List Nat) (l : Nat → Nat) (hl : ∀ k, k < 64 → xs.getD k 0 = l k) (w : World) (hs : Bs w q n xs) :
    Calls Tryz.prog 139 #[.slice q n c] w fun e w' => e = .returned (V8 l) ∧ Below w.heap.size w w' := by
  have hmax := hs.max
  have HS : Hid (Bs w q n xs) := hs
  have HL : Hid (∀ k, k < 64 → xs.getD k 0 = l k) := hl
  have H0 : Hid (∀ k, n ≤ k → xs.getD k 0 = 0) := fun k hk => by
    have := hs.len
    simp [List.getD, List.getElem?_eq_none (by omega : xs.length ≤ k)]
  clear hs hl
  rcases (by omega : n ≤ 64 ∨ 64 < n) with hcase | hcase
  all_goals
    go_enter Tryz.func139, Tryz.ntmps139
    go_wp2
    go_loopg [9] 64 (fun g i wr => ∃ k : Nat, k + g = 64 ∧ k ≤ n ∧ i = .int .i64 (k : Int) ∧ Pl wr w.heap.size 8 (fun _ => 0) ∧ Pl wr (w.heap.size + 1) 8 (Ln.packS l k 0) ∧ Below w.heap.size w wr)
    case atStart =>
      refine ⟨0, by omega, by omega, rfl, (pl_zero8 w rfl 166).alloc _, ?_, ((Below.refl _ _).alloc (Nat.le_refl _) _).alloc (by simp) _⟩
      exact (pl_zero8 _ (by simp) 166).same (fun i _ => by rw [Ln.pack_start, pk_zero])
    case round =>
      obtain ⟨k, hkg, hk, rfl, hR, hP, hB⟩ := hrel
      by_cases hlt : k < n ∧ k < 64
      · obtain ⟨hkn, hk64⟩ := hlt
        have a1 : (k : Int) < (n : Int) := by omega
        have a2 : (k : Int) < 64 := by omega
        obtain ⟨ad, rfl, hab, hce⟩ := HS.out.cell k hkn
        have hxk := HL.out k hk64
        have hlb : l k < 256 := by rw [← hxk]; exact HS.out.byte k
        rw [hxk] at hce
        clear hxk
        have HC : Hid (w.cell? (ad.add k) = some (.int .u8 (l k : Nat))) := hce
        have HA : Hid (ad.block < w.heap.size) := hab
        clear hce hab
        have HP : Hid (Pl wr w.heap.size 8 (fun _ => 0) ∧ Pl wr (w.heap.size + 1) 8 (Ln.packS l k 0) ∧ Below w.heap.size w wr) := ⟨hR, hP, hB⟩
        clear hR hP hB
        go_wp2
        go_loopw [12] (fun i wx => ∃ j : Nat, j ≤ 8 ∧ i = .int .i64 (j : Int) ∧ Pl wx w.heap.size 8 (fun _ => 0) ∧ Pl wx (w.heap.size + 1) 8 (Ln.packS l k j) ∧ Below w.heap.size w wx) (fun i _ => 8 - (intOf i).toNat)
        case atStart => exact ⟨0, by omega, rfl, HP.out⟩
        case round =>
          clear HP
          obtain ⟨j, hj8, rfl, hR, hP, hB⟩ := hrel
          by_cases hj : j < 8
          · have cX := (hB.cell (p := ad.add k) (by rw [block_add]; exact HA.out)).trans HC.out
            have cP := hP.cell j hj
            have fP := hP.fz j
            have hb := byte_bit (l k) j hlb
            have HS2 := hP.set (l' := Ln.packS l k (j + 1)) j _ hj (Ln.pack_step l k j hk64) (fun i _ h => Ln.pack_else l k j i h)
            have hpl := Ln.pk_lt (Ln.packS l k j) j
            obtain ⟨b, hbb⟩ : ∃ b, l k / 2 ^ j % 2 = b := ⟨_, rfl⟩
            have hb2 : b < 2 := by rw [← hbb]; exact Nat.mod_lt _ (by decide)
            rw [hbb] at hb HS2
            obtain ⟨u, hu⟩ : ∃ u, Ln.pk (Ln.packS l k j) j = u := ⟨_, rfl⟩
            rw [hu] at cP HS2 hpl
            have hsh : IntKind.u64.wrap ((b : Int) * 2 ^ k) = ((b * 2 ^ k : Nat) : Int) := by
              have hp : 2 ^ k ≤ 2 ^ 63 := Nat.pow_le_pow_right (by decide) (by omega)
              have e2 : ((b : Int) * 2 ^ k) = ((b * 2 ^ k : Nat) : Int) := by simp
              have hm : b * 2 ^ k ≤ 1 * 2 ^ 63 := Nat.mul_le_mul (by omega) hp
              rw [IntKind.wrap_u64, e2]
              omega
            have hor : bits .or .u64 (u : Int) (((b * 2 ^ k : Nat) : Int)) = ((u ||| b * 2 ^ k : Nat) : Int) := u64_or_nat _ _ hpl (by
              have hp : 2 ^ k ≤ 2 ^ 63 := Nat.pow_le_pow_right (by decide) (by omega)
              have hm : b * 2 ^ k ≤ 1 * 2 ^ 63 := Nat.mul_le_mul (by omega) hp
              omega)
            obtain ⟨s, hs⟩ : ∃ s, b * 2 ^ k = s := ⟨_, rfl⟩
            rw [hs] at hsh hor HS2
            have HP2 : Hid (Pl (wr.setCell ⟨w.heap.size + 1, j, none⟩ (.int .u64 ((u ||| s : Nat) : Int))) (w.heap.size + 1) 8 (Ln.packS l k (j + 1))) := HS2
            have HR2 : Hid (Pl wr w.heap.size 8 (fun _ => 0) ∧ Below w.heap.size w wr) := ⟨hR, hB⟩
            clear HS2 hs hu hbb hR hP hB hpl
            go_wp2
            go_region
            go_wp2
            go_roundw
            case rel => exact ⟨j + 1, by omega, by go_num, (HR2.out.1.other (by simp) _).drew, HP2.out.drew, (HR2.out.2.setCell (p := ⟨w.heap.size + 1, j, none⟩) (by simp) _).drew⟩
            case measure => simp [intOf]; omega
          · have e8 : j = 8 := by omega
            subst e8
            have HQ : Hid (Pl wr w.heap.size 8 (fun _ => 0) ∧ Pl wr (w.heap.size + 1) 8 (Ln.packS l (k + 1) 0) ∧ Below w.heap.size w wr) := ⟨hR, hP.same (fun i _ => (Ln.pack_next l k i hlb).symm), hB⟩
            clear hR hP hB
            go_wp2
            go_roundg (gk - 1)
            case rel => exact ⟨k + 1, by omega, by omega, by go_num, HQ.out⟩
            case measure => omega
      · have hX : Pl wr (w.heap.size + 1) 8 l := hP.same (fun i _ => (Ln.pack_end l k i (fun m h1 h2 => by
          rw [← HL.out m h2]
          exact H0.out m (by omega))).symm)
        have a3 : ¬ ((k : Int) < (n : Int) ∧ (k : Int) < 64) := by omega
        have c0 := hX.cell 0 (by decide)
        have c1 := hX.cell 1 (by decide)
        have c2 := hX.cell 2 (by decide)
        have c3 := hX.cell 3 (by decide)
        have c4 := hX.cell 4 (by decide)
        have c5 := hX.cell 5 (by decide)
        have c6 := hX.cell 6 (by decide)
        have c7 := hX.cell 7 (by decide)
        have r0 := hR.cell 0 (by decide)
        have r1 := hR.cell 1 (by decide)
        have r2 := hR.cell 2 (by decide)
        have r3 := hR.cell 3 (by decide)
        have r4 := hR.cell 4 (by decide)
        have r5 := hR.cell 5 (by decide)
        have r6 := hR.cell 6 (by decide)
        have r7 := hR.cell 7 (by decide)
        have f0 := hR.fz 0
        have f1 := hR.fz 1
        have f2 := hR.fz 2
        have f3 := hR.fz 3
        have f4 := hR.fz 4
        have f5 := hR.fz 5
        have f6 := hR.fz 6
        have f7 := hR.fz 7
        have HM : Hid (Pl wr w.heap.size 8 (fun _ => 0) ∧ Below w.heap.size w wr) := ⟨hR, hB⟩
        clear hP hR hB hX
        first
          | (have a4 : ¬ ((k : Int) < (n : Int)) := by omega)
          | (have a4 : ¬ ((k : Int) < 64) := by omega)
        clear a3 hlt
        go_wp2
        exact bodyPost_ret (results_cell Tryz.results139 rfl (load8 (HM.out.1.set8 l))) rfl ⟨rfl, below_set8 HM.out.2 (by omega) l⟩
end Go.Proofs
/- The walks of lanes.reduce, Mul, Scale and Square. Conditions: lanes are bytes. -/
namespace Go.Proofs
open Go.RowKit Go.ChangeShapes Go.WideShapes

/-- The value of fifteen planes with the lanes l. -/
abbrev V15 (l : Nat → Nat) : Value := .agg #[.int .u64 (Ln.pk l 0 : Nat), .int .u64 (Ln.pk l 1 : Nat), .int .u64 (Ln.pk l 2 : Nat), .int .u64 (Ln.pk l 3 : Nat), .int .u64 (Ln.pk l 4 : Nat), .int .u64 (Ln.pk l 5 : Nat), .int .u64 (Ln.pk l 6 : Nat), .int .u64 (Ln.pk l 7 : Nat), .int .u64 (Ln.pk l 8 : Nat), .int .u64 (Ln.pk l 9 : Nat), .int .u64 (Ln.pk l 10 : Nat), .int .u64 (Ln.pk l 11 : Nat), .int .u64 (Ln.pk l 12 : Nat), .int .u64 (Ln.pk l 13 : Nat), .int .u64 (Ln.pk l 14 : Nat)]
theorem fifteen {P : Nat → Prop} (h : ∀ i, i < 8 → P i) (h8 : P 8) (h9 : P 9) (h10 : P 10) (h11 : P 11) (h12 : P 12) (h13 : P 13) (h14 : P 14) : ∀ i, i < 15 → P i := by
  intro i hi
  by_cases e : i < 8
  · exact h i e
  · match i, hi with
    | 8, _ => exact h8
    | 9, _ => exact h9
    | 10, _ => exact h10
    | 11, _ => exact h11
    | 12, _ => exact h12
    | 13, _ => exact h13
    | 14, _ => exact h14
theorem pl_box15 (W : World) {B : Nat} (hB : B = W.heap.size) (l : Nat → Nat) (t : TypeId) : Pl (W.alloc (.cells #[.int .u64 (Ln.pk l 0 : Nat), .int .u64 (Ln.pk l 1 : Nat), .int .u64 (Ln.pk l 2 : Nat), .int .u64 (Ln.pk l 3 : Nat), .int .u64 (Ln.pk l 4 : Nat), .int .u64 (Ln.pk l 5 : Nat), .int .u64 (Ln.pk l 6 : Nat), .int .u64 (Ln.pk l 7 : Nat), .int .u64 (Ln.pk l 8 : Nat), .int .u64 (Ln.pk l 9 : Nat), .int .u64 (Ln.pk l 10 : Nat), .int .u64 (Ln.pk l 11 : Nat), .int .u64 (Ln.pk l 12 : Nat), .int .u64 (Ln.pk l 13 : Nat), .int .u64 (Ln.pk l 14 : Nat)] t)) B 15 l :=
  pl_new W hB 15 l _ t (fifteen (eight rfl rfl rfl rfl rfl rfl rfl rfl) rfl rfl rfl rfl rfl rfl rfl)
theorem pl_zero15 (W : World) {B : Nat} (hB : B = W.heap.size) (t : TypeId) : Pl (W.alloc (.cells #[.int .u64 0, .int .u64 0, .int .u64 0, .int .u64 0, .int .u64 0, .int .u64 0, .int .u64 0, .int .u64 0, .int .u64 0, .int .u64 0, .int .u64 0, .int .u64 0, .int .u64 0, .int .u64 0, .int .u64 0] t)) B 15 (fun _ => 0) :=
  pl_new W hB 15 _ _ t (fun i hi => by rw [pk_zero]; revert i; exact fifteen (eight rfl rfl rfl rfl rfl rfl rfl rfl) rfl rfl rfl rfl rfl rfl rfl)
theorem low_step (l : Nat → Nat) (k : Nat) : Ln.pk (fun n => l n % 2 ^ (k + 1)) k = Ln.pk l k := by
  apply Nat.eq_of_testBit_eq
  intro n
  rw [Ln.pk_bit, Ln.pk_bit, Nat.testBit_mod_two_pow]
  simp
theorem low_else (l : Nat → Nat) (k i : Nat) (h : i ≠ k) : Ln.pk (fun n => l n % 2 ^ (k + 1)) i = Ln.pk (fun n => l n % 2 ^ k) i := by
  apply Nat.eq_of_testBit_eq
  intro n
  rw [Ln.pk_bit, Ln.pk_bit, Nat.testBit_mod_two_pow, Nat.testBit_mod_two_pow]
  have : decide (i < k + 1) = decide (i < k) := decide_eq_decide.2 (by omega)
  rw [this]
theorem low_end (l : Nat → Nat) (i : Nat) (hi : i < 8) : Ln.pk (fun n => l n % 2 ^ 8) i = Ln.pk l i := Ln.pk_low l i hi
theorem low_some : ∀ j : Nat, j < 5 → ((29 : Int) / 2 ^ j == 0) = false := by decide +kernel
theorem low_none : ((29 : Int) / 2 ^ 5 == 0) = true := by decide +kernel
theorem low_bit : ∀ j : Nat, j < 5 → (bits .and .u64 ((29 : Int) / 2 ^ j) 1 == 1) = Nat.testBit 29 j := by decide +kernel

set_option maxRecDepth 100000 in
set_option maxHeartbeats 2000000 in
theorem lreduce_calls (l r : Nat → Nat) (hl : ∀ n, n < 64 → l n < 32768) (hr : ∀ n, n < 64 → Gf.red (l n) = r n) (w : World) :
    Calls Tryz.prog 142 #[V15 l] w fun e w' => e = .returned (V8 r) ∧ Below w.heap.size w w' := by
  have HR : Hid (∀ i, i < 8 → Ln.pk r i = Ln.pk (fun n => Ln.dn (l n) 7) i) := fun i hi => by
    rw [← Ln.pk_low (fun n => Ln.dn (l n) 7) i hi]
    exact Ln.pk_same (fun n hn => by rw [Ln.dn_red _ (hl n hn), hr n hn]) i
  clear hl hr
  go_enter Tryz.func142, Tryz.ntmps142
  go_wp2
  go_step3
  go_wp2
  go_step3
  go_wp2
  go_loopg [3] 7 (fun g i wr => g ≤ 7 ∧ i = .int .i64 ((g : Int) + 7) ∧ Pl wr w.heap.size 15 (fun n => Ln.dn (l n) (7 - g)) ∧ Pl wr (w.heap.size + 1) 8 (fun _ => 0) ∧ Below w.heap.size w wr)
  case atStart => exact ⟨by omega, rfl, (pl_box15 w rfl l _).alloc _, pl_zero8 _ (by simp) _, ((Below.refl _ _).alloc (Nat.le_refl _) _).alloc (by simp) _⟩
  case round =>
    obtain ⟨hg, rfl, hL, hR, hB⟩ := hrel
    cases gk with
    | zero =>
      have HM : Hid (Pl wr w.heap.size 15 (fun n => Ln.dn (l n) 7) ∧ Pl wr (w.heap.size + 1) 8 (fun _ => 0) ∧ Below w.heap.size w wr) := ⟨hL, hR, hB⟩
      clear hL hR hB
      go_wp2
      obtain ⟨W, hW⟩ : ∃ W, wr.alloc (.cells #[.int .u64 0, .int .u64 0, .int .u64 0, .int .u64 0, .int .u64 0, .int .u64 0, .int .u64 0, .int .u64 0] 166) = W := ⟨_, rfl⟩
      have HN : Hid (Pl W w.heap.size 15 (fun n => Ln.dn (l n) 7) ∧ Pl W (w.heap.size + 1) 8 (fun _ => 0) ∧ Pl W wr.heap.size 8 (fun n => Ln.dn (l n) 7 % 2 ^ 0) ∧ Below w.heap.size w W ∧ w.heap.size + 1 < wr.heap.size) := by
        rw [← hW]
        exact ⟨HM.out.1.alloc _, HM.out.2.1.alloc _, (pl_zero8 _ rfl _).same (fun i _ => Ln.pk_same (fun n _ => by simp [Nat.mod_one]) i), HM.out.2.2.alloc HM.out.2.2.size _, HM.out.2.1.lt⟩
      rw [hW]
      clear hW HM
      obtain ⟨B, hBB⟩ : ∃ B, wr.heap.size = B := ⟨_, rfl⟩
      rw [hBB] at HN
      rw [hBB]
      clear hBB
      go_loopw [35] (fun i wr => ∃ k : Nat, k ≤ 8 ∧ i = .int .i64 (k : Int) ∧ Pl wr w.heap.size 15 (fun n => Ln.dn (l n) 7) ∧ Pl wr (w.heap.size + 1) 8 (fun _ => 0) ∧ Pl wr B 8 (fun n => Ln.dn (l n) 7 % 2 ^ k) ∧ Below w.heap.size w wr ∧ w.heap.size + 1 < B) (fun i _ => 8 - (intOf i).toNat)
      case atStart => exact ⟨0, by omega, rfl, HN.out⟩
      case round =>
        clear HN
        obtain ⟨k, hk, rfl, hL, hR, hP, hB, hlt2⟩ := hrel
        by_cases hlt : k < 8
        · have cL := hL.cell k (by omega)
          have cP := hP.cell k hlt
          have fP := hP.fz k
          have HS := hP.set (l' := fun n => Ln.dn (l n) 7 % 2 ^ (k + 1)) k _ hlt (low_step _ k) (fun i _ h => low_else _ k i h)
          obtain ⟨u, hu⟩ : ∃ u, Ln.pk (fun n => Ln.dn (l n) 7) k = u := ⟨_, rfl⟩
          rw [hu] at cL HS
          have HS2 : Hid (Pl (wr.setCell ⟨B, k, none⟩ (.int .u64 (u : Nat))) B 8 (fun n => Ln.dn (l n) 7 % 2 ^ (k + 1))) := HS
          have HM : Hid (Pl wr w.heap.size 15 (fun n => Ln.dn (l n) 7) ∧ Pl wr (w.heap.size + 1) 8 (fun _ => 0) ∧ Below w.heap.size w wr ∧ w.heap.size + 1 < B) := ⟨hL, hR, hB, hlt2⟩
          clear HS hu hL hR hP hB hlt2
          go_wp2
          go_roundw
          case rel =>
            have h2 := HM.out.2.2.2
            exact ⟨k + 1, by omega, by go_num, HM.out.1.other (by simp; omega) _, HM.out.2.1.other (by simp; omega) _, HS2.out, HM.out.2.2.1.setCell (p := ⟨B, k, none⟩) (by simp; omega) _, h2⟩
          case measure => simp [intOf]; omega
        · have e8 : k = 8 := by omega
          subst e8
          have hX : Pl wr B 8 r := hP.same (fun i hi => by rw [HR.out i hi]; exact (low_end _ i hi).symm)
          have c0 := hX.cell 0 (by decide)
          have c1 := hX.cell 1 (by decide)
          have c2 := hX.cell 2 (by decide)
          have c3 := hX.cell 3 (by decide)
          have c4 := hX.cell 4 (by decide)
          have c5 := hX.cell 5 (by decide)
          have c6 := hX.cell 6 (by decide)
          have c7 := hX.cell 7 (by decide)
          have r0 := hR.cell 0 (by decide)
          have r1 := hR.cell 1 (by decide)
          have r2 := hR.cell 2 (by decide)
          have r3 := hR.cell 3 (by decide)
          have r4 := hR.cell 4 (by decide)
          have r5 := hR.cell 5 (by decide)
          have r6 := hR.cell 6 (by decide)
          have r7 := hR.cell 7 (by decide)
          have f0 := hR.fz 0
          have f1 := hR.fz 1
          have f2 := hR.fz 2
          have f3 := hR.fz 3
          have f4 := hR.fz 4
          have f5 := hR.fz 5
          have f6 := hR.fz 6
          have f7 := hR.fz 7
          have HM : Hid (Pl wr (w.heap.size + 1) 8 (fun _ => 0) ∧ Below w.heap.size w wr) := ⟨hR, hB⟩
          clear hL hR hP hB hX hlt2
          go_wp2
          try rw [Exit.noGoto_ret]
          exact bodyPost_ret (results_cell Tryz.results142 rfl (load8 (HM.out.1.set8 r))) rfl ⟨rfl, below_set8 HM.out.2 (by omega) r⟩
    | succ m =>
      have HP : Hid (Pl wr w.heap.size 15 (fun n => Ln.dnI (Ln.dn (l n) (6 - m)) (m + 8) 0) ∧ Pl wr (w.heap.size + 1) 8 (fun _ => 0) ∧ Below w.heap.size w wr) := by
        refine ⟨hL.same (fun i _ => Ln.pk_same (fun n _ => ?_) i), hR, hB⟩
        rw [Ln.dnI_zero, show 7 - (m + 1) = 6 - m by omega]
      clear hL hR hB
      have ei : (((m + 1 : Nat) : Int) + 7) = (m : Int) + 8 := by omega
      rw [ei]
      clear ei
      go_wp2
      go_loopg [11] 5 (fun g i wx => ∃ j : Nat, j + g = 5 ∧ i = .int .i64 (j : Int) ∧ Pl wx w.heap.size 15 (fun n => Ln.dnI (Ln.dn (l n) (6 - m)) (m + 8) j) ∧ Pl wx (w.heap.size + 1) 8 (fun _ => 0) ∧ Below w.heap.size w wx)
      case atStart => exact ⟨0, by omega, rfl, HP.out⟩
      case round =>
        clear HP
        obtain ⟨j, hjg, rfl, hL, hR, hB⟩ := hrel
        by_cases hj : j < 5
        · have hs := low_some j hj
          have hb := low_bit j hj
          by_cases ht : Nat.testBit 29 j = true
          · rw [ht] at hb
            have cA := hL.cell (m + j) (by omega)
            have cH := hL.cell (m + 8) (by omega)
            have fA := hL.fz (m + j)
            have hst := Ln.dn_step (fun n => Ln.dn (l n) (6 - m)) (m + 8) j (by omega) hj ht
            rw [show m + 8 - 8 + j = m + j by omega] at hst
            have HS := hL.set (l' := fun n => Ln.dnI (Ln.dn (l n) (6 - m)) (m + 8) (j + 1)) (m + j) _ (by omega) hst (fun i _ h => Ln.dn_else (fun n => Ln.dn (l n) (6 - m)) (m + 8) j i (.inl (by omega)))
            have hx := u64_xor_nat _ _ (Ln.pk_lt (fun n => Ln.dnI (Ln.dn (l n) (6 - m)) (m + 8) j) (m + j)) (Ln.pk_lt (fun n => Ln.dnI (Ln.dn (l n) (6 - m)) (m + 8) j) (m + 8))
            obtain ⟨u, hu⟩ : ∃ u, Ln.pk (fun n => Ln.dnI (Ln.dn (l n) (6 - m)) (m + 8) j) (m + j) = u := ⟨_, rfl⟩
            obtain ⟨v, hv⟩ : ∃ v, Ln.pk (fun n => Ln.dnI (Ln.dn (l n) (6 - m)) (m + 8) j) (m + 8) = v := ⟨_, rfl⟩
            rw [hu, hv] at HS hx
            rw [hu] at cA
            rw [hv] at cH
            have HS2 : Hid (Pl (wr.setCell ⟨w.heap.size, m + j, none⟩ (.int .u64 ((u ^^^ v : Nat) : Int))) w.heap.size 15 (fun n => Ln.dnI (Ln.dn (l n) (6 - m)) (m + 8) (j + 1))) := HS
            have HM : Hid (Pl wr (w.heap.size + 1) 8 (fun _ => 0) ∧ Below w.heap.size w wr) := ⟨hR, hB⟩
            clear HS hu hv hst hL hR hB ht
            go_wp2
            go_region
            go_wp2
            go_roundg (gk - 1)
            case rel => exact ⟨j + 1, by omega, by go_num, HS2.out.drew, (HM.out.1.other (by simp) _).drew, (HM.out.2.setCell (p := ⟨w.heap.size, m + j, none⟩) (Nat.le_refl _) _).drew⟩
            case measure => omega
          · rw [Bool.not_eq_true] at ht
            rw [ht] at hb
            have HM : Hid (Pl wr w.heap.size 15 (fun n => Ln.dnI (Ln.dn (l n) (6 - m)) (m + 8) (j + 1)) ∧ Pl wr (w.heap.size + 1) 8 (fun _ => 0) ∧ Below w.heap.size w wr) :=
              ⟨hL.same (fun i _ => Ln.dn_else (fun n => Ln.dn (l n) (6 - m)) (m + 8) j i (.inr ht)), hR, hB⟩
            clear hL hR hB ht
            go_wp2
            go_roundg (gk - 1)
            case rel => exact ⟨j + 1, by omega, by go_num, HM.out⟩
            case measure => omega
        · have e5 : j = 5 := by omega
          subst e5
          have hs := low_none
          have HM : Hid (Pl wr w.heap.size 15 (fun n => Ln.dn (l n) (7 - m)) ∧ Pl wr (w.heap.size + 1) 8 (fun _ => 0) ∧ Below w.heap.size w wr) := by
            refine ⟨hL.same (fun i _ => Ln.pk_same (fun n _ => ?_) i), hR, hB⟩
            have := Ln.dnI_five (l n) (6 - m) (by omega)
            rw [show 14 - (6 - m) = m + 8 by omega, show 6 - m + 1 = 7 - m by omega] at this
            exact this.symm
          clear hL hR hB
          go_wp2
          go_roundg m
          case rel => exact ⟨by omega, by go_num, HM.out⟩
          case measure => omega
end Go.Proofs
/- The walks of lanes.Mul, Scale and Square. Conditions: lanes are bytes. -/
namespace Go.Proofs
open Go.RowKit Go.ChangeShapes Go.WideShapes

set_option maxRecDepth 100000 in
set_option maxHeartbeats 2000000 in
theorem lmul_calls (a b r : Nat → Nat) (ha : ∀ n, n < 64 → a n < 256) (hb : ∀ n, n < 64 → b n < 256) (hr : ∀ n, n < 64 → Gf.mul (a n) (b n) = r n) (w : World) :
    Calls Tryz.prog 140 #[V8 a, V8 b] w fun e w' => e = .returned (V8 r) ∧ Below w.heap.size w w' := by
  have HA : Hid (∀ n, n < 64 → a n < 256) := ha
  have HBb : Hid (∀ n, n < 64 → b n < 256) := hb
  have HRr : Hid (∀ n, n < 64 → Gf.mul (a n) (b n) = r n) := hr
  clear ha hb hr
  go_enter Tryz.func140, Tryz.ntmps140
  go_wp2
  go_loopg [8] 8 (fun g i wr => ∃ k : Nat, k + g = 8 ∧ i = .int .i64 (k : Int) ∧ Pl wr w.heap.size 8 a ∧ Pl wr (w.heap.size + 1) 8 b ∧ Pl wr (w.heap.size + 1 + 1) 8 (fun _ => 0) ∧ Pl wr (w.heap.size + 1 + 1 + 1) 15 (fun n => Gf.wideK (b n) (a n) k) ∧ Below w.heap.size w wr)
  case atStart =>
    exact ⟨0, by omega, rfl, (((pl_box w rfl a _).alloc _).alloc _).alloc _, ((pl_box _ (by simp) b _).alloc _).alloc _, (pl_zero8 _ (by simp) _).alloc _, pl_zero15 _ (by simp) _, ((((Below.refl _ _).alloc (Nat.le_refl _) _).alloc (by simp) _).alloc (by simp; omega) _).alloc (by simp; omega) _⟩
  case round =>
    obtain ⟨k, hkg, rfl, h0, h1, h2, h3, hB⟩ := hrel
    by_cases hk : k < 8
    · have HP : Hid (Pl wr w.heap.size 8 a ∧ Pl wr (w.heap.size + 1) 8 b ∧ Pl wr (w.heap.size + 1 + 1) 8 (fun _ => 0) ∧ Pl wr (w.heap.size + 1 + 1 + 1) 15 (fun n => Ln.inK (a n) (b n) k (Gf.wideK (b n) (a n) k) 0) ∧ Below w.heap.size w wr) := ⟨h0, h1, h2, h3, hB⟩
      clear h0 h1 h2 h3 hB
      go_wp2
      go_loopw [11] (fun i wx => ∃ j : Nat, j ≤ 8 ∧ i = .int .i64 (j : Int) ∧ Pl wx w.heap.size 8 a ∧ Pl wx (w.heap.size + 1) 8 b ∧ Pl wx (w.heap.size + 1 + 1) 8 (fun _ => 0) ∧ Pl wx (w.heap.size + 1 + 1 + 1) 15 (fun n => Ln.inK (a n) (b n) k (Gf.wideK (b n) (a n) k) j) ∧ Below w.heap.size w wx) (fun i _ => 8 - (intOf i).toNat)
      case atStart => exact ⟨0, by omega, rfl, HP.out⟩
      case round =>
        clear HP
        obtain ⟨j, hj8, rfl, h0, h1, h2, h3, hB⟩ := hrel
        by_cases hj : j < 8
        · have cA := h0.cell k hk
          have cB := h1.cell j hj
          have cW := h3.cell (k + j) (by omega)
          have fW := h3.fz (k + j)
          have HS := h3.set (l' := fun n => Ln.inK (a n) (b n) k (Gf.wideK (b n) (a n) k) (j + 1)) (k + j) _ (by omega) (Ln.mul_step a b (fun n => Gf.wideK (b n) (a n) k) k j) (fun i _ h => Ln.mul_else a b (fun n => Gf.wideK (b n) (a n) k) k j i h)
          have hand := u64_and_nat _ _ (Ln.pk_lt a k) (Ln.pk_lt b j)
          have hlt : Ln.pk a k &&& Ln.pk b j < 18446744073709551616 := Nat.and_lt_two_pow (n := 64) _ (Ln.pk_lt b j)
          have hxor := u64_xor_nat _ _ (Ln.pk_lt (fun n => Ln.inK (a n) (b n) k (Gf.wideK (b n) (a n) k) j) (k + j)) hlt
          obtain ⟨u, hu⟩ : ∃ u, Ln.pk (fun n => Ln.inK (a n) (b n) k (Gf.wideK (b n) (a n) k) j) (k + j) = u := ⟨_, rfl⟩
          obtain ⟨x, hx⟩ : ∃ x, Ln.pk a k = x := ⟨_, rfl⟩
          obtain ⟨y, hy⟩ : ∃ y, Ln.pk b j = y := ⟨_, rfl⟩
          rw [hu] at cW
          rw [hx] at cA
          rw [hy] at cB
          rw [hu, hx, hy] at HS hxor
          rw [hx, hy] at hand
          obtain ⟨z, hz⟩ : ∃ z, x &&& y = z := ⟨_, rfl⟩
          rw [hz] at HS hxor hand
          have HS2 : Hid (Pl (wr.setCell ⟨w.heap.size + 1 + 1 + 1, k + j, none⟩ (.int .u64 ((u ^^^ z : Nat) : Int))) (w.heap.size + 1 + 1 + 1) 15 (fun n => Ln.inK (a n) (b n) k (Gf.wideK (b n) (a n) k) (j + 1))) := HS
          have HM : Hid (Pl wr w.heap.size 8 a ∧ Pl wr (w.heap.size + 1) 8 b ∧ Pl wr (w.heap.size + 1 + 1) 8 (fun _ => 0) ∧ Below w.heap.size w wr) := ⟨h0, h1, h2, hB⟩
          clear HS hu hx hy hz hlt h0 h1 h2 h3 hB
          go_wp2
          go_region
          go_wp2
          go_roundw
          case rel => exact ⟨j + 1, by omega, by go_num, (HM.out.1.other (by dsimp only; omega) _).drew, (HM.out.2.1.other (by dsimp only; omega) _).drew, (HM.out.2.2.1.other (by dsimp only; omega) _).drew, HS2.out.drew, (HM.out.2.2.2.setCell (p := ⟨w.heap.size + 1 + 1 + 1, k + j, none⟩) (by simp; omega) _).drew⟩
          case measure => simp [intOf]; omega
        · have e8 : j = 8 := by omega
          subst e8
          have HM : Hid (Pl wr w.heap.size 8 a ∧ Pl wr (w.heap.size + 1) 8 b ∧ Pl wr (w.heap.size + 1 + 1) 8 (fun _ => 0) ∧ Pl wr (w.heap.size + 1 + 1 + 1) 15 (fun n => Gf.wideK (b n) (a n) (k + 1)) ∧ Below w.heap.size w wr) :=
            ⟨h0, h1, h2, h3.same (fun i _ => Ln.pk_same (fun n hn => (Ln.inK_all (a n) (b n) k (HBb.out n hn)).symm) i), hB⟩
          clear h0 h1 h2 h3 hB
          go_wp2
          go_roundg (gk - 1)
          case rel => exact ⟨k + 1, by omega, by go_num, HM.out⟩
          case measure => omega
    · have e8 : k = 8 := by omega
      subst e8
      obtain ⟨s, hs⟩ : ∃ s : Nat → Nat, (fun n => Gf.wideK (b n) (a n) 8) = s := ⟨_, rfl⟩
      rw [hs] at h3
      have hs1 : ∀ n, n < 64 → s n < 32768 := fun n hn => by rw [← hs]; exact Gf.wide_lt _ _ (HBb.out n hn)
      have hs2 : ∀ n, n < 64 → Gf.red (s n) = r n := fun n hn => by
        rw [← hs, ← HRr.out n hn]
        show Gf.red (Gf.wide (b n) (a n)) = _
        rw [Gf.wide_comm _ _ (HBb.out n hn) (HA.out n hn)]
        rfl
      have HC : Hid ((∀ n, n < 64 → s n < 32768) ∧ (∀ n, n < 64 → Gf.red (s n) = r n)) := ⟨hs1, hs2⟩
      have c0 := h3.cell 0 (by decide)
      have c1 := h3.cell 1 (by decide)
      have c2 := h3.cell 2 (by decide)
      have c3 := h3.cell 3 (by decide)
      have c4 := h3.cell 4 (by decide)
      have c5 := h3.cell 5 (by decide)
      have c6 := h3.cell 6 (by decide)
      have c7 := h3.cell 7 (by decide)
      have c8 := h3.cell 8 (by decide)
      have c9 := h3.cell 9 (by decide)
      have c10 := h3.cell 10 (by decide)
      have c11 := h3.cell 11 (by decide)
      have c12 := h3.cell 12 (by decide)
      have c13 := h3.cell 13 (by decide)
      have c14 := h3.cell 14 (by decide)
      have HM : Hid (Pl wr (w.heap.size + 1 + 1) 8 (fun _ => 0) ∧ Below w.heap.size w wr) := ⟨h2, hB⟩
      clear h0 h1 h2 h3 hB hs hs1 hs2
      go_wp2_with fail
      refine (lreduce_calls s r HC.out.1 HC.out.2 _).mono ?_
      rintro e w1 ⟨rfl, hb⟩
      clear c0 c1 c2 c3 c4 c5 c6 c7 c8 c9 c10 c11 c12 c13 c14
      have hR := HM.out.1.below hb
      have HN : Hid (Pl w1 (w.heap.size + 1 + 1) 8 (fun _ => 0) ∧ Below w.heap.size w w1) := ⟨hR, HM.out.2.trans (hb.mono HM.out.2.size)⟩
      have r0 := hR.cell 0 (by decide)
      have r1 := hR.cell 1 (by decide)
      have r2 := hR.cell 2 (by decide)
      have r3 := hR.cell 3 (by decide)
      have r4 := hR.cell 4 (by decide)
      have r5 := hR.cell 5 (by decide)
      have r6 := hR.cell 6 (by decide)
      have r7 := hR.cell 7 (by decide)
      have f0 := hR.fz 0
      have f1 := hR.fz 1
      have f2 := hR.fz 2
      have f3 := hR.fz 3
      have f4 := hR.fz 4
      have f5 := hR.fz 5
      have f6 := hR.fz 6
      have f7 := hR.fz 7
      clear hR hb HM
      go_wp2
      exact bodyPost_ret (results_cell Tryz.results140 rfl (load8 (HN.out.1.set8 r))) rfl ⟨rfl, below_set8 HN.out.2 (by omega) r⟩

theorem scale_bit (x j : Nat) (hx : x < 256) : (bits .and .u8 ((x : Int) / 2 ^ j) 1 == 0) = !x.testBit j := by
  have h1 : x / 2 ^ j < 256 := Nat.lt_of_le_of_lt (Nat.div_le_self _ _) hx
  rw [cast_div_pow, show (1 : Int) = ((1 : Nat) : Int) from rfl, u8_and_nat _ _ h1 (by decide), Nat.and_one_is_mod, Nat.testBit_eq_decide_div_mod_eq]
  rcases Nat.mod_two_eq_zero_or_one (x / 2 ^ j) with e | e <;> rw [e] <;> rfl
set_option maxRecDepth 100000 in
set_option maxHeartbeats 2000000 in
theorem lscale_calls (a r : Nat → Nat) (x : Nat) (ha : ∀ n, n < 64 → a n < 256) (hx : x < 256) (hr : ∀ n, n < 64 → Gf.mul (a n) x = r n) (w : World) :
    Calls Tryz.prog 135 #[V8 a, .int .u8 (x : Nat)] w fun e w' => e = .returned (V8 r) ∧ Below w.heap.size w w' := by
  have HA : Hid (∀ n, n < 64 → a n < 256) := ha
  have HRr : Hid (∀ n, n < 64 → Gf.mul (a n) x = r n) := hr
  clear ha hr
  go_enter Tryz.func135, Tryz.ntmps135
  go_wp2
  go_loopg [8] 8 (fun g i wr => ∃ k : Nat, k + g = 8 ∧ i = .int .i64 (k : Int) ∧ Pl wr w.heap.size 8 a ∧ Pl wr (w.heap.size + 1) 8 (fun _ => 0) ∧ Pl wr (w.heap.size + 1 + 1) 15 (fun n => Gf.wideK (a n) x k) ∧ Below w.heap.size w wr)
  case atStart =>
    exact ⟨0, by omega, rfl, ((pl_box w rfl a _).alloc _).alloc _, (pl_zero8 _ (by simp) _).alloc _, pl_zero15 _ (by simp) _, (((Below.refl _ _).alloc (Nat.le_refl _) _).alloc (by simp) _).alloc (by simp; omega) _⟩
  case round =>
    obtain ⟨k, hkg, rfl, h0, h2, h3, hB⟩ := hrel
    by_cases hk : k < 8
    · have hbit := scale_bit x k hx
      by_cases ht : x.testBit k = true
      · have HT : Hid (x.testBit k = true) := ht
        rw [ht] at hbit
        clear ht
        have HP : Hid (Pl wr w.heap.size 8 a ∧ Pl wr (w.heap.size + 1) 8 (fun _ => 0) ∧ Pl wr (w.heap.size + 1 + 1) 15 (fun n => Ln.scK (a n) x k (Gf.wideK (a n) x k) 0) ∧ Below w.heap.size w wr) := ⟨h0, h2, h3, hB⟩
        clear h0 h2 h3 hB
        go_wp2
        go_loopw [16] (fun i wx => ∃ j : Nat, j ≤ 8 ∧ i = .int .i64 (j : Int) ∧ Pl wx w.heap.size 8 a ∧ Pl wx (w.heap.size + 1) 8 (fun _ => 0) ∧ Pl wx (w.heap.size + 1 + 1) 15 (fun n => Ln.scK (a n) x k (Gf.wideK (a n) x k) j) ∧ Below w.heap.size w wx) (fun i _ => 8 - (intOf i).toNat)
        case atStart => exact ⟨0, by omega, rfl, HP.out⟩
        case round =>
          clear HP
          obtain ⟨j, hj8, rfl, h0, h2, h3, hB⟩ := hrel
          by_cases hj : j < 8
          · have cA := h0.cell j hj
            have cW := h3.cell (j + k) (by omega)
            have fW := h3.fz (j + k)
            have HS := h3.set (l' := fun n => Ln.scK (a n) x k (Gf.wideK (a n) x k) (j + 1)) (j + k) _ (by omega) (Ln.sc_step a (fun n => Gf.wideK (a n) x k) x j k) (fun i _ h => Ln.sc_else a (fun n => Gf.wideK (a n) x k) x j k i h)
            have hxor := u64_xor_nat _ _ (Ln.pk_lt (fun n => Ln.scK (a n) x k (Gf.wideK (a n) x k) j) (j + k)) (Ln.pk_lt a j)
            obtain ⟨u, hu⟩ : ∃ u, Ln.pk (fun n => Ln.scK (a n) x k (Gf.wideK (a n) x k) j) (j + k) = u := ⟨_, rfl⟩
            obtain ⟨y, hy⟩ : ∃ y, Ln.pk a j = y := ⟨_, rfl⟩
            rw [hu] at cW
            rw [hy] at cA
            rw [hu, hy] at HS hxor
            have HS2 : Hid (Pl (wr.setCell ⟨w.heap.size + 1 + 1, j + k, none⟩ (.int .u64 ((u ^^^ y : Nat) : Int))) (w.heap.size + 1 + 1) 15 (fun n => Ln.scK (a n) x k (Gf.wideK (a n) x k) (j + 1))) := HS
            have HM : Hid (Pl wr w.heap.size 8 a ∧ Pl wr (w.heap.size + 1) 8 (fun _ => 0) ∧ Below w.heap.size w wr) := ⟨h0, h2, hB⟩
            clear HS hu hy h0 h2 h3 hB
            go_wp2
            go_region
            go_wp2
            go_roundw
            case rel => exact ⟨j + 1, by omega, by go_num, (HM.out.1.other (by dsimp only; omega) _).drew, (HM.out.2.1.other (by dsimp only; omega) _).drew, HS2.out.drew, (HM.out.2.2.setCell (p := ⟨w.heap.size + 1 + 1, j + k, none⟩) (by simp; omega) _).drew⟩
            case measure => simp [intOf]; omega
          · have e8 : j = 8 := by omega
            subst e8
            have HM : Hid (Pl wr w.heap.size 8 a ∧ Pl wr (w.heap.size + 1) 8 (fun _ => 0) ∧ Pl wr (w.heap.size + 1 + 1) 15 (fun n => Gf.wideK (a n) x (k + 1)) ∧ Below w.heap.size w wr) :=
              ⟨h0, h2, h3.same (fun i _ => Ln.pk_same (fun n hn => (Ln.scK_all (a n) x k (HA.out n hn) HT.out).symm) i), hB⟩
            clear h0 h2 h3 hB
            go_wp2
            go_roundg (gk - 1)
            case rel => exact ⟨k + 1, by omega, by go_num, HM.out⟩
            case measure => omega
      · rw [Bool.not_eq_true] at ht
        have HM : Hid (Pl wr w.heap.size 8 a ∧ Pl wr (w.heap.size + 1) 8 (fun _ => 0) ∧ Pl wr (w.heap.size + 1 + 1) 15 (fun n => Gf.wideK (a n) x (k + 1)) ∧ Below w.heap.size w wr) :=
          ⟨h0, h2, h3.same (fun i _ => Ln.pk_same (fun n _ => by rw [Gf.wideK, if_neg (by rw [ht]; decide)]) i), hB⟩
        rw [ht] at hbit
        clear h0 h2 h3 hB ht
        go_wp2
        go_roundg (gk - 1)
        case rel => exact ⟨k + 1, by omega, by go_num, HM.out⟩
        case measure => omega
    · have e8 : k = 8 := by omega
      subst e8
      obtain ⟨s, hs⟩ : ∃ s : Nat → Nat, (fun n => Gf.wideK (a n) x 8) = s := ⟨_, rfl⟩
      rw [hs] at h3
      have hs1 : ∀ n, n < 64 → s n < 32768 := fun n hn => by rw [← hs]; exact Gf.wide_lt _ _ (HA.out n hn)
      have hs2 : ∀ n, n < 64 → Gf.red (s n) = r n := fun n hn => by
        rw [← hs, ← HRr.out n hn]
        rfl
      have HC : Hid ((∀ n, n < 64 → s n < 32768) ∧ (∀ n, n < 64 → Gf.red (s n) = r n)) := ⟨hs1, hs2⟩
      have c0 := h3.cell 0 (by decide)
      have c1 := h3.cell 1 (by decide)
      have c2 := h3.cell 2 (by decide)
      have c3 := h3.cell 3 (by decide)
      have c4 := h3.cell 4 (by decide)
      have c5 := h3.cell 5 (by decide)
      have c6 := h3.cell 6 (by decide)
      have c7 := h3.cell 7 (by decide)
      have c8 := h3.cell 8 (by decide)
      have c9 := h3.cell 9 (by decide)
      have c10 := h3.cell 10 (by decide)
      have c11 := h3.cell 11 (by decide)
      have c12 := h3.cell 12 (by decide)
      have c13 := h3.cell 13 (by decide)
      have c14 := h3.cell 14 (by decide)
      have HM : Hid (Pl wr (w.heap.size + 1) 8 (fun _ => 0) ∧ Below w.heap.size w wr) := ⟨h2, hB⟩
      clear h0 h2 h3 hB hs hs1 hs2
      go_wp2_with fail
      refine (lreduce_calls s r HC.out.1 HC.out.2 _).mono ?_
      rintro e w1 ⟨rfl, hb⟩
      clear c0 c1 c2 c3 c4 c5 c6 c7 c8 c9 c10 c11 c12 c13 c14
      have hR := HM.out.1.below hb
      have HN : Hid (Pl w1 (w.heap.size + 1) 8 (fun _ => 0) ∧ Below w.heap.size w w1) := ⟨hR, HM.out.2.trans (hb.mono HM.out.2.size)⟩
      have r0 := hR.cell 0 (by decide)
      have r1 := hR.cell 1 (by decide)
      have r2 := hR.cell 2 (by decide)
      have r3 := hR.cell 3 (by decide)
      have r4 := hR.cell 4 (by decide)
      have r5 := hR.cell 5 (by decide)
      have r6 := hR.cell 6 (by decide)
      have r7 := hR.cell 7 (by decide)
      have f0 := hR.fz 0
      have f1 := hR.fz 1
      have f2 := hR.fz 2
      have f3 := hR.fz 3
      have f4 := hR.fz 4
      have f5 := hR.fz 5
      have f6 := hR.fz 6
      have f7 := hR.fz 7
      clear hR hb HM
      go_wp2
      exact bodyPost_ret (results_cell Tryz.results135 rfl (load8 (HN.out.1.set8 r))) rfl ⟨rfl, below_set8 HN.out.2 (by omega) r⟩

set_option maxRecDepth 100000 in
set_option maxHeartbeats 2000000 in
theorem lsquare_calls (a r : Nat → Nat) (ha : ∀ n, n < 64 → a n < 256) (hr : ∀ n, n < 64 → Gf.mul (a n) (a n) = r n) (w : World) :
    Calls Tryz.prog 141 #[V8 a] w fun e w' => e = .returned (V8 r) ∧ Below w.heap.size w w' := by
  have HA : Hid (∀ n, n < 64 → a n < 256) := ha
  have HRr : Hid (∀ n, n < 64 → Gf.mul (a n) (a n) = r n) := hr
  clear ha hr
  go_enter Tryz.func141, Tryz.ntmps141
  go_wp2
  go_loopw [5] (fun i wr => ∃ k : Nat, k ≤ 8 ∧ i = .int .i64 (k : Int) ∧ Pl wr w.heap.size 8 a ∧ Pl wr (w.heap.size + 1) 8 (fun _ => 0) ∧ Pl wr (w.heap.size + 1 + 1) 15 (fun n => Ln.sqK (a n) k) ∧ Below w.heap.size w wr) (fun i _ => 8 - (intOf i).toNat)
  case atStart =>
    exact ⟨0, by omega, rfl, ((pl_box w rfl a _).alloc _).alloc _, (pl_zero8 _ (by simp) _).alloc _, pl_zero15 _ (by simp) _, (((Below.refl _ _).alloc (Nat.le_refl _) _).alloc (by simp) _).alloc (by simp; omega) _⟩
  case round =>
    obtain ⟨k, hk8, rfl, h0, h2, h3, hB⟩ := hrel
    by_cases hk : k < 8
    · have cA := h0.cell k hk
      have cW := h3.cell (2 * k) (by omega)
      have fW := h3.fz (2 * k)
      have HS := h3.set (l' := fun n => Ln.sqK (a n) (k + 1)) (2 * k) _ (by omega) (Ln.sq_step a k) (fun i _ h => Ln.sq_else a k i h)
      obtain ⟨y, hy⟩ : ∃ y, Ln.pk a k = y := ⟨_, rfl⟩
      rw [hy] at cA HS
      have HS2 : Hid (Pl (wr.setCell ⟨w.heap.size + 1 + 1, 2 * k, none⟩ (.int .u64 (y : Nat))) (w.heap.size + 1 + 1) 15 (fun n => Ln.sqK (a n) (k + 1))) := HS
      have HM : Hid (Pl wr w.heap.size 8 a ∧ Pl wr (w.heap.size + 1) 8 (fun _ => 0) ∧ Below w.heap.size w wr) := ⟨h0, h2, hB⟩
      clear HS hy h0 h2 h3 hB
      go_wp2
      go_roundw
      case rel => exact ⟨k + 1, by omega, by go_num, HM.out.1.other (by dsimp only; omega) _, HM.out.2.1.other (by dsimp only; omega) _, HS2.out, HM.out.2.2.setCell (p := ⟨w.heap.size + 1 + 1, 2 * k, none⟩) (by simp; omega) _⟩
      case measure => simp [intOf]; omega
    · have e8 : k = 8 := by omega
      subst e8
      obtain ⟨s, hs⟩ : ∃ s : Nat → Nat, (fun n => Ln.sqK (a n) 8) = s := ⟨_, rfl⟩
      rw [hs] at h3
      have hs0 : ∀ n, n < 64 → s n = Gf.wide (a n) (a n) := fun n hn => by rw [← hs]; exact Ln.sqK_wide _ (HA.out n hn)
      have hs1 : ∀ n, n < 64 → s n < 32768 := fun n hn => by rw [hs0 n hn]; exact Gf.wide_lt _ _ (HA.out n hn)
      have hs2 : ∀ n, n < 64 → Gf.red (s n) = r n := fun n hn => by
        rw [hs0 n hn, ← HRr.out n hn]
        rfl
      have HC : Hid ((∀ n, n < 64 → s n < 32768) ∧ (∀ n, n < 64 → Gf.red (s n) = r n)) := ⟨hs1, hs2⟩
      have c0 := h3.cell 0 (by decide)
      have c1 := h3.cell 1 (by decide)
      have c2 := h3.cell 2 (by decide)
      have c3 := h3.cell 3 (by decide)
      have c4 := h3.cell 4 (by decide)
      have c5 := h3.cell 5 (by decide)
      have c6 := h3.cell 6 (by decide)
      have c7 := h3.cell 7 (by decide)
      have c8 := h3.cell 8 (by decide)
      have c9 := h3.cell 9 (by decide)
      have c10 := h3.cell 10 (by decide)
      have c11 := h3.cell 11 (by decide)
      have c12 := h3.cell 12 (by decide)
      have c13 := h3.cell 13 (by decide)
      have c14 := h3.cell 14 (by decide)
      have HM : Hid (Pl wr (w.heap.size + 1) 8 (fun _ => 0) ∧ Below w.heap.size w wr) := ⟨h2, hB⟩
      clear h0 h2 h3 hB hs hs0 hs1 hs2
      go_wp2_with fail
      refine (lreduce_calls s r HC.out.1 HC.out.2 _).mono ?_
      rintro e w1 ⟨rfl, hb⟩
      clear c0 c1 c2 c3 c4 c5 c6 c7 c8 c9 c10 c11 c12 c13 c14
      have hR := HM.out.1.below hb
      have HN : Hid (Pl w1 (w.heap.size + 1) 8 (fun _ => 0) ∧ Below w.heap.size w w1) := ⟨hR, HM.out.2.trans (hb.mono HM.out.2.size)⟩
      have r0 := hR.cell 0 (by decide)
      have r1 := hR.cell 1 (by decide)
      have r2 := hR.cell 2 (by decide)
      have r3 := hR.cell 3 (by decide)
      have r4 := hR.cell 4 (by decide)
      have r5 := hR.cell 5 (by decide)
      have r6 := hR.cell 6 (by decide)
      have r7 := hR.cell 7 (by decide)
      have f0 := hR.fz 0
      have f1 := hR.fz 1
      have f2 := hR.fz 2
      have f3 := hR.fz 3
      have f4 := hR.fz 4
      have f5 := hR.fz 5
      have f6 := hR.fz 6
      have f7 := hR.fz 7
      clear hR hb HM
      go_wp2
      exact bodyPost_ret (results_cell Tryz.results141 rfl (load8 (HN.out.1.set8 r))) rfl ⟨rfl, below_set8 HN.out.2 (by omega) r⟩
end Go.Proofs
