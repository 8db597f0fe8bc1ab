/- Texts laid together: PolyX, BEq. Each says its own conditions. -/
import Derived.Laws.BytesArg
import Derived.Laws.Strings
import Derived.Test.YtnphdldcfdpflaaGreatMA
import Derived.Test.YtnphdldcfdpflaaGreatMG
/- Normal lists of sums, products and multiples; lists of literals. -/
namespace Go.Proofs
open Go.RowKit
namespace Pol
theorem bd_mul {a b : Nat} {p q : Pol} (hp : Bd a p) (hq : Bd b q) : Bd (a + b) (mul p q) := by
  cases a with
  | zero => rw [bd_zero hp, zero_mul]; exact Bd.zero _
  | succ a =>
    cases b with
    | zero => rw [bd_zero hq, mul_zero]; exact Bd.zero _
    | succ b => exact (hp.mul hq).mono_le (by omega)
theorem isN_mul (xs ys : List Nat) : ∃ zs, IsN zs (mul (ofL xs) (ofL ys)) ∧ zs.length ≤ xs.length + ys.length := isN_of_bd (bd_mul (ofL_bd xs) (ofL_bd ys))
theorem isN_add (xs ys : List Nat) : ∃ zs, IsN zs (add (ofL xs) (ofL ys)) ∧ zs.length ≤ xs.length + ys.length := isN_of_bd (((ofL_bd xs).mono_le (by omega)).add ((ofL_bd ys).mono_le (by omega)))
theorem isN_norm (xs : List Nat) : ∃ zs, IsN zs (ofL xs) ∧ zs.length ≤ xs.length := isN_of_bd (ofL_bd xs)
theorem isN_smul (a : GF) (xs : List Nat) : ∃ zs, IsN zs (smul a (ofL xs)) ∧ zs.length ≤ xs.length := isN_of_bd ((ofL_bd xs).smul a)
theorem isN_cut (k : Nat) (xs : List Nat) : ∃ zs, IsN zs (cut k (ofL xs)) ∧ zs.length ≤ xs.length := isN_of_bd (fun i hi => by unfold cut; split; exact ofL_bd xs i hi; rfl)
/-- The degree of a product. -/
theorem dg_mul {a b : Nat} {p q : Pol} (hp : Dg a p) (hq : Dg b q) : Dg (if a = 0 ∨ b = 0 then 0 else a + b - 1) (mul p q) := by
  cases a with
  | zero => rw [if_pos (.inl rfl), hp.eq_zero, zero_mul]; exact dg_zero
  | succ a =>
    cases b with
    | zero => rw [if_pos (.inr rfl), hq.eq_zero, mul_zero]; exact dg_zero
    | succ b =>
      rw [if_neg (by omega)]
      have := hp.mul hq
      rwa [show a + b + 1 = a + 1 + (b + 1) - 1 by omega] at this
end Pol
/-- A list of literals. -/
theorem bs_lit (W : World) (xs : List Nat) (hx : Pol.Byt xs) (hl : xs.length ≤ 1000) : Bs (W.alloc (.cells ⟨ob xs⟩ 5)) (some ⟨W.heap.size, 0, none⟩) xs.length xs :=
  ⟨rfl, by omega, fun i hi => ⟨_, rfl, by simp, by
    have e1 : (⟨W.heap.size, 0, none⟩ : Addr).add i = ⟨W.heap.size, i, none⟩ := by unfold Addr.add; split <;> simp_all
    rw [e1, World.cell?_alloc_at _ _ _ _ rfl]
    show (⟨ob xs⟩ : Array Value)[i]? = _
    rw [List.getElem?_toArray]
    exact ob_at xs i hi⟩, hx⟩
/-- The same, its cells and its block as a walk spells them. -/
theorem bs_lits (W : World) (A : Array Value) (xs : List Nat) (h n : Nat) (hA : A = ⟨ob xs⟩) (hh : h = W.heap.size) (hn : n = xs.length) (hx : xs.all (· < 256) = true) (hl : xs.length ≤ 1000) : Bs (W.alloc (.cells A 5)) (some ⟨h, 0, none⟩) n xs := by
  subst hA hh hn
  exact bs_lit W xs (fun i => by
    simp only [List.getD]
    cases hx' : xs[i]? with
    | none => decide
    | some x => simpa using List.all_eq_true.1 hx x (List.mem_of_getElem? hx')) hl
theorem off_at {T h n : Nat} (hT : ¬ h = T) : Off T n (some ⟨h, 0, none⟩) := fun _ a e => by cases e; exact hT
theorem off_new {W : World} {T n : Nat} (hT : T < W.heap.size) : Off T n (some ⟨W.heap.size, 0, none⟩) := fun _ a e => by cases e; show ¬ W.heap.size = T; omega
theorem byt_lit {xs : List Nat} (h : xs.all (· < 256) = true) : Pol.Byt xs := fun i => by
  simp only [List.getD]
  cases hx : xs[i]? with
  | none => decide
  | some x => simpa using List.all_eq_true.1 h x (List.mem_of_getElem? hx)
end Go.Proofs
/- The walk of bytes.Equal. Conditions: lists of bytes. -/
namespace Go.Proofs
open Go.RowKit Go.ChangeShapes Go.WideShapes
open Pol (ofL Byt)
/-- The string of bytes. -/
def strB (xs : List Nat) : ByteArray := ⟨(xs.map UInt8.ofNat).toArray⟩
theorem strB_inj {xs ys : List Nat} (hx : Byt xs) (hy : Byt ys) (h : strB xs = strB ys) : xs = ys := by
  have h1 : xs.map UInt8.ofNat = ys.map UInt8.ofNat := by
    have := congrArg (fun s => s.data.toList) h
    simpa [strB] using this
  have hl : xs.length = ys.length := by simpa using congrArg List.length h1
  apply List.ext_getElem?
  intro i
  have h2 := congrArg (fun l => l[i]?) h1
  simp only [List.getElem?_map] at h2
  by_cases hi : i < xs.length
  · have hj : i < ys.length := by omega
    have b1 := hx i
    have b2 := hy i
    simp only [List.getD, List.getElem?_eq_getElem hi, List.getElem?_eq_getElem hj, Option.getD_some, Option.map_some, Option.some.injEq] at h2 b1 b2 ⊢
    have h3 := congrArg UInt8.toNat h2
    simp only [UInt8.toNat_ofNat'] at h3
    omega
  · rw [List.getElem?_eq_none (by omega), List.getElem?_eq_none (by omega)]
theorem conv_bytes (w : World) (q : Option Addr) (n c : Nat) (xs : List Nat) (hs : Bs w q n xs) : (convert 22 9 (.slice q n c)).run Tryz.prog w = .ok (.string (strB xs)) w := by
  cases q with
  | none =>
    have h0 : n = 0 := by
      rcases Nat.eq_zero_or_pos n with h | h
      · exact h
      · obtain ⟨_, e, _⟩ := hs.cell 0 h; cases e
    have hl := hs.len
    rw [h0] at hl
    rw [List.length_eq_zero_iff.1 hl]
    exact run_convert_bytes_nil w _ _ Tryz.underlying22 Tryz.underlying5 n c _ Tryz.underlying9
  | some a =>
    have hl := hs.len
    rw [run_convert_bytes_string w _ _ _ _ n c Tryz.underlying22 Tryz.underlying5 Tryz.underlying9]
    have h2 : (loadCells a n).run Tryz.prog w = .ok ((xs.map Int.ofNat).map (Value.int .u8)).toArray w := by
      have := run_loadCells_list (P := Tryz.prog) w a ((xs.map Int.ofNat).map (Value.int .u8)) (fun j v hj => by
        have hjl : j < xs.length := by
          rcases Nat.lt_or_ge j xs.length with h | h
          · exact h
          · rw [List.getElem?_eq_none (by simpa using h)] at hj; cases hj
        obtain ⟨a', e, _, hc⟩ := hs.cell j (by omega)
        cases e
        rw [hc]
        simp [hjl] at hj
        simp [List.getD, hjl, ← hj])
      simpa [hl] using this
    rw [run_bytesToString w a n c _ h2, foldl_push_bytes]
    simp [strB, ByteArray.empty, ByteArray.emptyWithCapacity]
    rfl
set_option maxHeartbeats 1000000 in
theorem bequal_calls (q p : Option Addr) (n c m d : Nat) (xs ys : List Nat) (b : Bool) (hb : b = true ↔ xs = ys) (w : World) (hx : Bs w q n xs) (hy : Bs w p m ys) :
    Calls Tryz.prog 48 #[.slice q n c, .slice p m d] w fun e w' => e = .returned (.bool b) ∧ w' = w := by
  have h1 := conv_bytes w q n c xs hx
  have h2 := conv_bytes w p m d ys hy
  have h3 : ((strB xs).toList == (strB ys).toList) = b := by
    rw [Bool.eq_iff_iff, hb, beq_iff_eq, ByteArray.toList_eq, ByteArray.toList_eq]
    exact ⟨fun e => strB_inj hx.byte hy.byte (by unfold strB at e ⊢; simpa using e), fun e => by rw [e]⟩
  obtain ⟨s, hs⟩ : ∃ s, strB xs = s := ⟨_, rfl⟩
  obtain ⟨t, ht⟩ : ∃ t, strB ys = t := ⟨_, rfl⟩
  rw [hs] at h1 h3
  rw [ht] at h2 h3
  clear hx hy hs ht hb
  go_enter Tryz.func48, Tryz.ntmps48
  go_wp2
  go_ret
  exact ⟨rfl, rfl⟩
end Go.Proofs
