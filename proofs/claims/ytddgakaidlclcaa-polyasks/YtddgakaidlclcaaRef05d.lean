/- The walk of the document's answer of layer 5 (erratumref05): Shift. Conditions: a list of at most a thousand million bytes, no longer than its capacity; an int. -/
import Derived.Test.YtddgakaidlclcaaRef05b
namespace Go.Proofs
open Go.RowKit Go.ChangeShapes Go.WideShapes
open Pol (IsN Dg ofL Byt)

/-- The places of a shifted list that i rounds have written. -/
def shF (xs : List Nat) (k : Int) (L i : Nat) : List Nat := (List.range L).map fun (j : Nat) => if 0 ≤ (j : Int) - k ∧ (j : Int) - k < (i : Int) then xs.getD ((j : Int) - k).toNat 0 else 0
theorem shF_length (xs : List Nat) (k : Int) (L i : Nat) : (shF xs k L i).length = L := by simp [shF]
theorem shF_at (xs : List Nat) (k : Int) (L i j : Nat) : (shF xs k L i).getD j 0 = if j < L then (if 0 ≤ (j : Int) - k ∧ (j : Int) - k < (i : Int) then xs.getD ((j : Int) - k).toNat 0 else 0) else 0 := by
  unfold shF
  by_cases h : j < L
  · rw [if_pos h]; simp [List.getD, h]
  · rw [if_neg h]; simp [List.getD, h]
theorem shF_byt {xs : List Nat} (hx : Byt xs) (k : Int) (L i : Nat) : Byt (shF xs k L i) := fun j => by
  rw [shF_at]
  split
  · split
    · exact hx _
    · decide
  · decide
theorem list_getD {xs ys : List Nat} (hl : xs.length = ys.length) (h : ∀ i, xs.getD i 0 = ys.getD i 0) : xs = ys := by
  apply List.ext_getElem?
  intro i
  by_cases hi : i < xs.length
  · have := h i
    simp only [List.getD, List.getElem?_eq_getElem hi, List.getElem?_eq_getElem (show i < ys.length by omega), Option.getD_some] at this
    rw [List.getElem?_eq_getElem hi, List.getElem?_eq_getElem (show i < ys.length by omega), this]
  · rw [List.getElem?_eq_none (by omega), List.getElem?_eq_none (by omega)]
theorem shF_zero (xs : List Nat) (k : Int) (L : Nat) : shF xs k L 0 = List.replicate L 0 := list_getD (by simp [shF]) fun j => by
  rw [shF_at, Pol.getD_rep]
  split
  · rw [if_neg (by omega)]
  · rfl
theorem shF_set (xs : List Nat) (k : Int) (L i j : Nat) (hj : j < L) (e : (i : Int) + k = (j : Int)) : (shF xs k L i).set j (xs.getD i 0) = shF xs k L (i + 1) := list_getD (by simp [shF]) fun a => by
  rw [getD_set, shF_length, shF_at, shF_at]
  by_cases h : j = a
  · subst h
    rw [if_pos ⟨rfl, hj⟩, if_pos hj, if_pos (by omega), show ((j : Int) - k).toNat = i by omega]
  · rw [if_neg (fun c => h c.1)]
    by_cases ha : a < L
    · rw [if_pos ha, if_pos ha]
      by_cases h1 : 0 ≤ (a : Int) - k ∧ (a : Int) - k < (i : Int)
      · rw [if_pos h1, if_pos (by omega)]
      · rw [if_neg h1, if_neg (by omega)]
    · rw [if_neg ha, if_neg ha]
theorem shF_skip (xs : List Nat) (k : Int) (L i : Nat) (e : (i : Int) + k < 0) : shF xs k L i = shF xs k L (i + 1) := list_getD (by simp [shF]) fun a => by
  rw [shF_at, shF_at]
  by_cases ha : a < L
  · rw [if_pos ha, if_pos ha]
    by_cases h1 : 0 ≤ (a : Int) - k ∧ (a : Int) - k < (i : Int)
    · rw [if_pos h1, if_pos (by omega)]
    · rw [if_neg h1, if_neg (by omega)]
  · rw [if_neg ha, if_neg ha]
theorem shF_all {xs : List Nat} {k : Int} {L d : Nat} (hd : Dg d (ofL xs)) (hL : (L : Int) = (d : Int) + k) (hA : ¬ (d = 0 ∨ 1001 - (d : Int) < k ∨ k < 1 - (d : Int))) : ofL (shF xs k L d) = shP k d (ofL xs) := by
  unfold shP
  rw [if_neg hA]
  funext j
  show GF.of _ = _
  rw [shF_at]
  by_cases hk : k < 0
  · rw [if_pos hk]
    show _ = ofL xs (j + (-k).toNat)
    by_cases hj : j < L
    · rw [if_pos hj, if_pos (by omega), show ((j : Int) - k).toNat = j + (-k).toNat by omega]; rfl
    · rw [if_neg hj, hd.bd _ (by omega)]; rfl
  · rw [if_neg hk]
    show _ = if k.toNat ≤ j then ofL xs (j - k.toNat) else 0
    by_cases h1 : k.toNat ≤ j
    · rw [if_pos h1]
      by_cases hj : j < L
      · rw [if_pos hj, if_pos (by omega), show ((j : Int) - k).toNat = j - k.toNat by omega]; rfl
      · rw [if_neg hj, hd.bd _ (by omega)]; rfl
    · rw [if_neg h1]
      split
      · rw [if_neg (by omega)]; rfl
      · rfl
set_option maxRecDepth 100000 in
set_option maxHeartbeats 2000000 in
theorem rshift_calls (q : Option Addr) (n c : Nat) (xs zs : List Nat) (k : Int) (d : Nat) (hd : Dg d (ofL xs)) (hz : IsN zs (shP k d (ofL xs))) (hn : n ≤ 1000000000) (w : World) (hs : Bs w q n xs) :
    Calls Try.prog 31 #[.slice q n c, .int .i64 k] w fun e w' => ∃ v, e = .returned v ∧ Ow w' w.heap.size v zs ∧ Below w.heap.size w w' := by
  have hdn : d ≤ n := by have := hd.le (Pol.ofL_bd xs); rw [hs.len] at this; exact this
  have K := rdeg_calls q n c xs d hd hn w hs
  by_cases hA : d = 0 ∨ 1001 - (d : Int) < k ∨ k < 1 - (d : Int)
  · have e0 : zs = [] := by unfold shP at hz; rw [if_pos hA] at hz; exact Pol.isN_zero hz
    subst e0
    have h0 : wrap64 (1000 - ((d : Int) - 1)) = 1001 - (d : Int) := by unfold wrap64; omega
    have h1 : wrap64 (-((d : Int) - 1)) = 1 - (d : Int) := by clear h0; unfold wrap64; omega
    have H0 : Hid ((d : Int) - 1 < 0 ∨ ¬ (d : Int) - 1 < 0 ∧ 1001 - (d : Int) < k ∨ ¬ (d : Int) - 1 < 0 ∧ ¬ 1001 - (d : Int) < k ∧ k < 1 - (d : Int)) := by show _ ∨ _; clear h0 h1; omega
    clear hs hz hd hA
    go_enter Try.func31, Try.ntmps31
    go_wp2_with fail
    refine K.mono ?_
    rintro e w1 ⟨rfl, hw⟩
    subst hw
    rcases H0.out with hh | ⟨hh, h⟩ | ⟨hh, h2, h⟩
    · go_wp2
      go_ret
      exact ⟨_, rfl, ow_nil _ _, Below.refl _ _⟩
    · go_wp2
      go_ret
      exact ⟨_, rfl, ow_nil _ _, Below.refl _ _⟩
    · go_wp2
      go_ret
      exact ⟨_, rfl, ow_nil _ _, Below.refl _ _⟩
  · obtain ⟨L, hL⟩ : ∃ L : Nat, (L : Int) = (d : Int) + k := ⟨((d : Int) + k).toNat, by omega⟩
    have HS : Hid (Bs w q n xs) := hs
    have HZ : Hid (IsN zs (ofL (shF xs k L d)) ∧ Byt (shF xs k L d) ∧ (shF xs k L d).length = L) := ⟨by rw [shF_all hd hL hA]; exact hz, shF_byt hs.byt k L d, shF_length _ _ _ _⟩
    have hLb : L ≤ 1001 := by omega
    have hmk := make_bytes L (by omega)
    obtain ⟨R, hR⟩ : ∃ R, w.heap.size = R := ⟨_, rfl⟩
    have HI : Hid (Ow (w.alloc (.cells (madeCells #[.int .u8 0] L) 5)) R (.slice (some ⟨R, 0, none⟩) L L) (shF xs k L 0) ∧ Below R w (w.alloc (.cells (madeCells #[.int .u8 0] L) 5))) := ⟨by rw [shF_zero, ← hR]; exact ow_made w (Nat.le_refl _) L (by omega), hR ▸ (Below.refl _ w).alloc (Nat.le_refl _) _⟩
    have hd0 : ((d : Int) - 1 < 0) = False := eq_false (by omega)
    have hA1 : (1000 - ((d : Int) - 1) < k) = False := eq_false (by omega)
    have hA2 : (k < -((d : Int) - 1)) = False := eq_false (by omega)
    have hL1 : (d : Int) + k = (L : Int) := hL.symm
    have HA : Hid (1 ≤ d ∧ (L : Int) = (d : Int) + k ∧ d ≤ n ∧ n ≤ 1000000000 ∧ L ≤ 1001) := ⟨by omega, hL, hdn, hn, hLb⟩
    clear hs hz hd hA hL
    go_enter Try.func31, Try.ntmps31
    go_wp2_with fail
    refine K.mono ?_
    rintro e w1 ⟨rfl, hw⟩
    subst hw
    go_wp2
    clear hmk K hA1 hA2 hd0 hL1
    go_loopw [7] (fun ii wr => ∃ i : Nat, i ≤ d ∧ ii = .int .i64 (i : Int) ∧ Ow wr R (.slice (some ⟨R, 0, none⟩) L L) (shF xs k L i) ∧ Below R w1 wr) (fun ii _ => d - (intOf ii).toNat)
    case atStart => exact ⟨0, by omega, rfl, HI.out⟩
    case round =>
      obtain ⟨i, hi, rfl, hO, hB⟩ := hrel
      by_cases hlt : i < d
      · have hii : (i : Int) ≤ (d : Int) - 1 := by omega
        by_cases hneg : (i : Int) + k < 0
        · have HX : Hid (Ow wr R (.slice (some ⟨R, 0, none⟩) L L) (shF xs k L (i + 1)) ∧ Below R w1 wr) := ⟨shF_skip xs k L i hneg ▸ hO, hB⟩
          have hge : (0 ≤ (i : Int) + k) = False := eq_false (by omega)
          have hwb : -1000000000 ≤ k := by have := HA.out; omega
          have hwc : k ≤ 1001 := by have := HA.out; omega
          have hib : i ≤ 1000000000 := by omega
          clear hO hB hneg
          go_wp2
          go_roundw
          case rel => exact ⟨i + 1, by omega, by go_num, HX.out⟩
          case measure => simp [intOf]; omega
        · obtain ⟨j, hj⟩ : ∃ j : Nat, (i : Int) + k = (j : Int) := ⟨((i : Int) + k).toNat, by omega⟩
          have hjL : j < L := by have := HA.out; omega
          obtain ⟨a, rfl, la, ca⟩ := HS.out.cell i (by omega)
          replace ca := (hB.cell (p := a.add i) (by rw [block_add, ← hR]; exact la)).trans ca
          obtain ⟨hc, hf⟩ := hO.at (shF_length _ _ _ _).symm j hjL
          have HX : Hid (Ow (wr.setCell ⟨R, j, none⟩ (.int .u8 (xs.getD i 0 : Nat))) R (.slice (some ⟨R, 0, none⟩) L L) (shF xs k L (i + 1)) ∧ Below R w1 (wr.setCell ⟨R, j, none⟩ (.int .u8 (xs.getD i 0 : Nat)))) := ⟨shF_set xs k L i j hjL hj ▸ hO.set (shF_length _ _ _ _).symm j _, hB.setCell (p := ⟨R, j, none⟩) (Nat.le_refl _) _⟩
          obtain ⟨x, hx⟩ : ∃ x, xs.getD i 0 = x := ⟨_, rfl⟩
          obtain ⟨y, hy⟩ : ∃ y, (shF xs k L i).getD j 0 = y := ⟨_, rfl⟩
          rw [hx] at ca HX
          rw [hy] at hc
          have hjb : (j : Int) ≤ 1001 := by omega
          have hjl : (j : Int) < (L : Int) := by omega
          have hin : (i : Int) < (n : Int) := by omega
          clear hO hB hneg la hx hy
          go_wp2
          go_roundw
          case rel => exact ⟨i + 1, by omega, by go_num, HX.out⟩
          case measure => simp [intOf]; omega
      · have e8 : i = d := by omega
        subst e8
        obtain ⟨q2, c2, e2, S2, C2, -⟩ := hO.tell (n := L) HZ.out.2.1 HZ.out.2.2
        cases e2
        have K := rnorm_calls _ L L _ zs HZ.out.1 (by omega) (Nat.le_refl _) wr S2
        have HBw : Hid (Below R w1 wr) := hB
        have hRw : R ≤ wr.heap.size := hR ▸ hB.size
        have hgt : ¬ (i : Int) ≤ (i : Int) - 1 := by omega
        clear hO hB S2 HS HZ HI
        go_wp2_with fail
        refine K.mono ?_
        rintro e w2 ⟨v, rfl, hO, hb⟩
        go_wp2
        go_ret
        subst hR
        exact ⟨_, rfl, hO.mono hRw, HBw.out.trans (hb.mono hRw)⟩
end Go.Proofs
