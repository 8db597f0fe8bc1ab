/- The walks of a field's calls on lists: Each, Pairs, Dot. Conditions: lists of at most a thousand million bytes, no longer than their capacities; a field that Of has made, and lists that do not lie in its table. -/
import Derived.Test.YtphhehppcfddgaaGreatFdLnP
import Derived.Deep.RegionHeld3
namespace Go.Proofs
open Go.RowKit Go.ChangeShapes Go.WideShapes

theorem Fd.tabled' {B T : Nat} {W W' : World} (h : Fd 1 B T W) (hm : Any T W') (hb : But (· = T) W W') : Fd 1 B T W' :=
  have hB : ¬ B = T := fun e => (h.tab rfl).2 e.symm
  ⟨h.k1, h.k3, (hb.cell (p := ⟨B, 0, none⟩) h.blt hB).trans h.num, (hb.cell (p := ⟨B, 1, none⟩) h.blt hB).trans h.way, fun e => ⟨hm, (h.tab e).2⟩, Nat.lt_of_lt_of_le h.lt hb.size⟩
theorem But.box {S : Nat → Prop} {w w1 : World} (o : Obj) (h : But S (w.alloc o) w1) : But S w w1 := ((But.refl S w).alloc o).trans h
theorem bleach_calls (a n c : Nat) (q : Option Addr) (xs : List Nat) (ha : a < 256) (hn : n ≤ 1000000000) (hnc : n ≤ c) (w : World) (hs : Bs w q n xs) :
    Calls Tryz.prog 111 #[.agg #[], .int .u8 a, .slice q n c] w fun e w' => ∃ v, e = .returned v ∧ Ow w' w.heap.size v (xs.map (Gf.mul a)) ∧ Below w.heap.size w w' :=
  (callsIn_wide (n := 3)).1 (bleach_in 3 (by omega) a n c q xs ha hn hnc w hs)

set_option maxRecDepth 100000 in
set_option maxHeartbeats 1000000 in
theorem bteach_calls (T a n c : Nat) (q : Option Addr) (xs : List Nat) (ha : a < 256) (hn : n ≤ 1000000000) (w : World) (hT : Any T w) (hs : Bs w q n xs) (hq : Off T n q) :
    Calls Tryz.prog 96 #[.agg #[.pointer (some ⟨T, 0, none⟩)], .int .u8 a, .slice q n c] w fun e w' => ∃ v, e = .returned v ∧ Ow w' w.heap.size v (xs.map (Gf.mul a)) ∧ Any T w' ∧ But (· = T) w w' := by
  have hT' := hT.but ((But.refl (fun _ => False) w).alloc (.cells #[.pointer (some ⟨T, 0, none⟩)] 43)) id
  have hs' := hs.alloc (.cells #[.pointer (some ⟨T, 0, none⟩)] 43)
  go_enter Tryz.func96, Tryz.ntmps96
  go_wp2_with fail
  refine (feach1_calls T a n c q xs ha hn _ hT' hs' hq).mono ?_
  rintro e w1 ⟨v, rfl, hO, hA, hB⟩
  go_wp2
  go_ret
  exact ⟨_, rfl, hO.mono (by simp), hA, hB.box _⟩
set_option maxRecDepth 100000 in
set_option maxHeartbeats 1000000 in
theorem bseach_calls (a n c : Nat) (q : Option Addr) (xs : List Nat) (ha : a < 256) (hn : n ≤ 1000000000) (w : World) (hs : Bs w q n xs) :
    Calls Tryz.prog 102 #[.agg #[], .int .u8 a, .slice q n c] w fun e w' => ∃ v, e = .returned v ∧ Ow w' w.heap.size v (xs.map (Gf.mul a)) ∧ But (fun _ => False) w w' := by
  have hs' := hs.alloc (.cells #[] 49)
  go_enter Tryz.func102, Tryz.ntmps102
  go_wp2_with fail
  refine (feach2_calls a n c q xs ha hn _ hs').mono ?_
  rintro e w1 ⟨v, rfl, hO, hB⟩
  go_wp2
  go_ret
  exact ⟨_, rfl, hO.mono (by simp), hB.box _⟩
theorem meach1 (T : Nat) (w : World) : (method 253 43 (.agg #[.pointer (some ⟨T, 0, none⟩)]) "erratum/field.each").run Tryz.prog w = .ok (96, .agg #[.pointer (some ⟨T, 0, none⟩)]) w := by kernel_rfl
theorem meach2 (w : World) : (method 253 49 (.agg #[]) "erratum/field.each").run Tryz.prog w = .ok (102, .agg #[]) w := by kernel_rfl
theorem meach3 (w : World) : (method 253 50 (.agg #[]) "erratum/field.each").run Tryz.prog w = .ok (111, .agg #[]) w := by kernel_rfl
set_option maxRecDepth 100000 in
set_option maxHeartbeats 1000000 in
theorem feach_calls (k B T a n c : Nat) (q : Option Addr) (xs : List Nat) (ha : a < 256) (hn : n ≤ 1000000000) (hnc : n ≤ c) (w : World) (h : Fd k B T w) (hs : Bs w q n xs) (hq : Off T n q) :
    Calls Tryz.prog 39 #[.pointer (some ⟨B, 0, none⟩), .int .u8 a, .slice q n c] w fun e w' => ∃ v, e = .returned v ∧ Ow w' w.heap.size v (xs.map (Gf.mul a)) ∧ Fd k B T w' ∧ But (· = T) w w' := by
  rcases way_lt h.k1 h.k3 with rfl | rfl | rfl
  · have hw : w.cell? ⟨B, 1, none⟩ = some (.iface 43 (.agg #[.pointer (some ⟨T, 0, none⟩)])) := h.way
    have hm := meach1 T
    go_enter Tryz.func39, Tryz.ntmps39
    go_wp2_with fail
    refine (bteach_calls T a n c q xs ha hn _ (h.tab rfl).1 hs hq).mono ?_
    rintro e w1 ⟨v, rfl, hO, hA, hB⟩
    go_wp2
    go_ret
    exact ⟨_, rfl, hO, h.tabled' hA hB, hB⟩
  · have hw : w.cell? ⟨B, 1, none⟩ = some (.iface 49 (.agg #[])) := h.way
    have hm := meach2
    go_enter Tryz.func39, Tryz.ntmps39
    go_wp2_with fail
    refine (bseach_calls a n c q xs ha hn _ hs).mono ?_
    rintro e w1 ⟨v, rfl, hO, hB⟩
    go_wp2
    go_ret
    exact ⟨_, rfl, hO, h.but hB id id, hB.mono (fun _ => False.elim)⟩
  · have hw : w.cell? ⟨B, 1, none⟩ = some (.iface 50 (.agg #[])) := h.way
    have hm := meach3
    go_enter Tryz.func39, Tryz.ntmps39
    go_wp2_with fail
    refine (bleach_calls a n c q xs ha hn hnc _ hs).mono ?_
    rintro e w1 ⟨v, rfl, hO, hB⟩
    go_wp2
    go_ret
    exact ⟨_, rfl, hO, h.below hB, But.of_below hB⟩

theorem bs_take {W : World} {q : Option Addr} {n : Nat} {xs : List Nat} (h : Bs W q n xs) (k : Nat) (hk : k ≤ n) : Bs W q k (xs.take k) := by
  refine ⟨by rw [List.length_take, h.len]; omega, Nat.le_trans hk h.max, fun i hi => ?_, fun i => ?_⟩
  · obtain ⟨a, e, hl, hc⟩ := h.cell i (by omega)
    refine ⟨a, e, hl, ?_⟩
    rw [hc]
    simp [List.getD, hi]
  · by_cases hi : i < k
    · have := h.byte i
      simpa [List.getD, hi] using this
    · simp [List.getD, List.getElem?_take, hi]
theorem zip_take (xs ys : List Nat) (k : Nat) (hk : k = min xs.length ys.length) : List.zipWith Gf.mul (xs.take k) (ys.take k) = List.zipWith Gf.mul xs ys := by
  apply List.ext_getElem?
  intro i
  simp only [List.getElem?_zipWith, List.getElem?_take]
  by_cases hi : i < k
  · simp [hi]
  · rcases (by omega : xs.length ≤ i ∨ ys.length ≤ i) with h | h
    · simp [hi, List.getElem?_eq_none h]
    · simp [hi, List.getElem?_eq_none h]

/-- All bytes XORed. -/
def xsum (l : List Nat) : Nat := l.foldl (· ^^^ ·) 0
theorem xsum_snoc (l : List Nat) (x : Nat) : xsum (l ++ [x]) = xsum l ^^^ x := by simp [xsum]
theorem xsum_lt (l : List Nat) (h : ∀ i, l.getD i 0 < 256) (k : Nat) : xsum (l.take k) < 256 := by
  induction k with
  | zero => simp [xsum]
  | succ k ih =>
    by_cases hk : k < l.length
    · have e : l.take (k + 1) = l.take k ++ [l.getD k 0] := by
        rw [List.take_add_one, List.getElem?_eq_getElem hk]
        simp [List.getD, hk]
      rw [e, xsum_snoc]
      exact Gf.xor_lt8 ih (h k)
    · have e : l.take (k + 1) = l.take k := by rw [List.take_of_length_le (by omega), List.take_of_length_le (by omega)]
      rw [e]; exact ih
theorem take_snoc (l : List Nat) (k : Nat) (hk : k < l.length) : l.take (k + 1) = l.take k ++ [l.getD k 0] := by
  rw [List.take_add_one, List.getElem?_eq_getElem hk]
  simp [List.getD, hk]
theorem zip_byte (xs ys : List Nat) (hx : ∀ i, xs.getD i 0 < 256) (i : Nat) : (List.zipWith Gf.mul xs ys).getD i 0 < 256 := by
  have h1 := hx i
  simp only [List.getD, List.getElem?_zipWith] at h1 ⊢
  cases h2 : xs[i]? with
  | none => simp
  | some a =>
    cases h3 : ys[i]? with
    | none => simp
    | some b =>
      rw [h2] at h1
      exact Gf.mul_lt a b h1
theorem map_byte (a : Nat) (xs : List Nat) (ha : a < 256) (i : Nat) : (xs.map (Gf.mul a)).getD i 0 < 256 := by
  simp only [List.getD, List.getElem?_map]
  cases xs[i]? with
  | none => simp
  | some b => exact Gf.mul_lt a b ha
end Go.Proofs
