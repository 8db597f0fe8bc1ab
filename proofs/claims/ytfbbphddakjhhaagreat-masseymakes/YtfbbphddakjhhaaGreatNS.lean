/- Texts laid together: REch, RSol. Each says its own conditions. -/
import Derived.Deep.RegionLaw
import Derived.Test.YtfbbphddakjhhaaGreatNR
import Derived.Test.YtfbbphddakjhhaaGreatND
import Derived.Test.YtfbbphddakjhhaaGreatNE
import Derived.Test.YtfbbphddakjhhaaGreatMN
/- The walk of erratumref09.Echelon. Conditions: any numbers of rows and columns, and cells of bytes. -/
namespace Go.Proofs
open Go.RowKit Go.ChangeShapes Go.WideShapes
open Mx (Mat cells mx rowL IsEch)
open Pol (Byt ofL toL)
attribute [local go_sem ↓ high] builtin_ap
attribute [local go_sem] ap_sem

theorem take_row {R C : Nat} {ys : List Nat} (hl : ys.length = R * C) (hb : Byt ys) {k : Nat} (hk : k < R) : ys.take ((k + 1) * C) = ys.take (k * C) ++ toL C (mx C ys k) := by
  rw [← rowL_toL hl hb hk, Nat.succ_mul, List.take_add]; rfl
set_option maxRecDepth 100000 in
set_option maxHeartbeats 4000000 in
theorem rech_calls (R C : Int) (q : Option Addr) (n c : Nat) (xs : List Nat) (r' c' : Nat) (ys L : List Nat) (hE : EchO R C n xs r' c' ys L) (hnc : n ≤ c) (w : World) (hs : Bs w q n xs) :
    Calls Tryz.prog 46 #[.agg #[.int .i64 R, .int .i64 C, .slice q n c]] w fun e w' => ∃ v1 v2, e = .returned (.tuple #[.agg #[.int .i64 (r' : Nat), .int .i64 (c' : Nat), v1], v2]) ∧ Ow w' w.heap.size v1 ys ∧ OwI w' w.heap.size v2 L ∧ Below w.heap.size w w' := by
  obtain ⟨A, hA⟩ : ∃ A, w.heap.size = A := ⟨_, rfl⟩
  obtain ⟨P2, hP2⟩ : ∃ P2, (w.alloc (.cells #[.int .i64 R, .int .i64 C, .slice q n c] 95)).alloc (.cells #[.int .i64 0, .int .i64 0, .slice none 0 0] 95) = P2 := ⟨_, rfl⟩
  have HP : Hid (Mb P2 A (.int .i64 R) (.int .i64 C) (.slice q n c) ∧ Z3 P2 (A + 1) ∧ Below w.heap.size w P2 ∧ P2.heap.size = A + 2) := by
    have s1 : (w.alloc (.cells #[.int .i64 R, .int .i64 C, .slice q n c] 95)).heap.size = A + 1 := by rw [← hA]; simp
    have m1 := mb_new w (.int .i64 R) (.int .i64 C) (.slice q n c)
    have m3 := z3_new (w.alloc (.cells #[.int .i64 R, .int .i64 C, .slice q n c] 95))
    rw [hA] at m1
    rw [s1] at m3
    rw [← hP2]
    exact ⟨m1.below ((Below.refl _ _).alloc (Nat.le_refl _) _), m3, ((Below.refl _ w).alloc (Nat.le_refl _) _).alloc (by simp) _, by rw [← hA]; simp⟩
  have K1 := rright_calls R C q n c _ rfl P2
  rcases hE with ⟨hr, rfl, rfl, hE⟩ | ⟨hr, rfl, rfl, rfl, rfl⟩
  · rw [hr] at K1
    obtain ⟨r, c0, e1, e2, hr3, hc3, hn⟩ := right_split hr
    have e1 : r' = r := by omega
    have e2 : c' = c0 := by omega
    subst e1 e2
    have HS : Hid (Bs w q n xs ∧ n = r' * c' ∧ IsEch r' c' xs ys L) := ⟨hs, hn, hE⟩
    clear hs hn hE hr
    have a0 := (HP.out.1).c0
    have a1 := (HP.out.1).c1
    have a2 := (HP.out.1).c2
    go_enter Tryz.func46, Tryz.ntmps46
    go_wp2_with fail
    refine K1.mono ?_
    rintro e w1 ⟨rfl, hb1⟩
    clear K1
    clear a0 a1 a2
    have HT1 : Hid (Mb w1 A (.int .i64 (r' : Nat)) (.int .i64 (c' : Nat)) (.slice q n c) ∧ Z3 w1 (A + 1) ∧ Below w.heap.size w w1 ∧ A + 2 ≤ w1.heap.size) := ⟨HP.out.1.below hb1, HP.out.2.1.below hb1, HP.out.2.2.1.trans (hb1.mono HP.out.2.2.1.size), by have := hb1.size; rw [HP.out.2.2.2] at this; exact this⟩
    clear hb1
    have K2 := rred_calls r' c' q n c xs ys L HS.out.2.2 HS.out.2.1 hr3 (by omega) hnc w1 (HS.out.1.below HT1.out.2.2.1)
    have a0 := (HT1.out.1).c0
    have a1 := (HT1.out.1).c1
    have a2 := (HT1.out.1).c2
    go_wp2_with fail
    refine K2.mono ?_
    rintro e w2 ⟨v1, v2, rfl, hR2, hO2, hb2⟩
    clear K2
    clear a0 a1 a2
    obtain ⟨X, hX⟩ : ∃ X, w2.heap.size = X := ⟨_, rfl⟩
    obtain ⟨W3, hW3⟩ : ∃ W3, w2.alloc (.cells #[.int .i64 (r' : Nat), .int .i64 (c' : Nat), .slice none 0 0] 95) = W3 := ⟨_, rfl⟩
    obtain ⟨B1, hB1⟩ : ∃ B1, w1.heap.size + 1 = B1 := ⟨_, rfl⟩
    rw [hB1] at hR2 hO2
    obtain ⟨qv, cv, rfl⟩ := hR2.isSlice
    have HT2 : Hid (Mb w2 A (.int .i64 (r' : Nat)) (.int .i64 (c' : Nat)) (.slice q n c) ∧ Z3 w2 (A + 1) ∧ Below w.heap.size w w2 ∧ RwM w2 B1 (.slice qv r' cv) r' c' (mx c' ys) ∧ OwI w2 B1 v2 L ∧ A + 2 ≤ X ∧ w2.heap.size = X ∧ A + 2 ≤ B1) := ⟨HT1.out.1.below hb2, HT1.out.2.1.below hb2, HT1.out.2.2.1.trans (hb2.mono HT1.out.2.2.1.size), hR2, hO2, by have h1 := HT1.out.2.2.2; have h2 := hb2.size; omega, hX, by have h1 := HT1.out.2.2.2; omega⟩
    have HT3 : Hid (Gm W3 X (.int .i64 (r' : Nat)) (.int .i64 (c' : Nat)) (.slice none 0 0) [] ∧ Below X w2 W3) := by
      refine ⟨?_, by rw [← hX, ← hW3]; exact (Below.refl _ w2).alloc (Nat.le_refl _) _⟩
      rw [← hX, ← hW3]; exact gm_new w2 _ _
    have HW3 : Hid (w2.alloc (.cells #[.int .i64 (r' : Nat), .int .i64 (c' : Nat), .slice none 0 0] 95) = W3) := hW3
    clear hR2 hO2 hb2 HT1 hB1 hW3
    have a0 := (HT2.out.1).c0
    have a1 := (HT2.out.1).c1
    have a2 := (HT2.out.1).c2
    go_wp2
    clear a0 a1 a2
    rw [HW3.out]
    clear HW3
    go_loopw [7] (fun i wr => ∃ (k : Nat) (v : Value), k ≤ r' ∧ i = .int .i64 (k : Int) ∧ Gm wr X (.int .i64 (r' : Nat)) (.int .i64 (c' : Nat)) v (ys.take (k * c')) ∧ Below X w2 wr) (fun i _ => r' - (intOf i).toNat)
    case atStart => exact ⟨0, _, by omega, rfl, by rw [Nat.zero_mul, List.take_zero]; exact HT3.out.1, HT3.out.2⟩
    case round =>
      obtain ⟨k, v, hk, rfl, hG, hB⟩ := hrel
      have hB2 : Below w2.heap.size w2 wr := by rw [HT2.out.2.2.2.2.2.2.1]; exact hB
      by_cases hlt : k < r'
      · have hki : (k : Int) < (r' : Int) := by omega
        obtain ⟨g, cap, q1, c1, ev, hg, cc, fz, hc1, S1, -⟩ := (HT2.out.2.2.2.1.below hB2).at hlt
        injection ev with ev1 _ ev3
        subst ev1 ev3
        have hyl : (ys.take (k * c')).length + c' ≤ 10000000 := by
          have h1 : (ys.take (k * c')).length ≤ ys.length := by rw [List.length_take]; exact Nat.min_le_right _ _
          have h2 := HS.out.2.2.len
          have h3 : r' * c' ≤ 300 * 300 := Nat.mul_le_mul hr3 hc3
          omega
        obtain ⟨v', W', hap, c2, f2, hG', hB', -⟩ := hG.drew.list c1 S1.drew hyl
        rw [← take_row HS.out.2.2.len HS.out.2.2.byt hlt] at hG'
        obtain ⟨q5, m5, c5, rfl⟩ := hG'.ow.isSlice
        have ha1 := ap_ok hap
        have ha2 := ap_v hap
        have ha3 := ap_w hap
        have hm := hG.mb
        have HN : Hid (Gm (W'.setCell ⟨X, 2, none⟩ (.slice q5 m5 c5)) X (.int .i64 (r' : Nat)) (.int .i64 (c' : Nat)) (.slice q5 m5 c5) (ys.take ((k + 1) * c')) ∧ Below X w2 (W'.setCell ⟨X, 2, none⟩ (.slice q5 m5 c5))) := ⟨hG', hB.trans (((Below.refl X wr).drew).trans hB')⟩
        have b0 := (hm).c0
        have b1 := (hm).c1
        have b2 := (hm).c2
        clear hm hG hB hB2 hap hG' hB' S1 hyl hc1 fz
        go_wp2
        go_region
        all_goals
          go_wp2
          go_roundw
          case rel => exact ⟨k + 1, _, by omega, by go_num, HN.out⟩
          case measure => simp [intOf]; omega
      · obtain rfl : r' = k := by omega
        rw [List.take_of_length_le (by rw [HS.out.2.2.len]; exact Nat.le_refl _)] at hG
        obtain ⟨q9, m9, c9, rfl⟩ := hG.ow.isSlice
        have HZ : Hid (Z3 wr (A + 1) ∧ Ow wr (X + 1) (.slice q9 m9 c9) ys ∧ OwI wr B1 v2 L ∧ Below w.heap.size w wr ∧ A + 2 ≤ X ∧ A + 2 ≤ B1) := ⟨HT2.out.2.1.below hB2, hG.ow, HT2.out.2.2.2.2.1.below hB2, HT2.out.2.2.1.trans (hB2.mono HT2.out.2.2.1.size), HT2.out.2.2.2.2.2.1, HT2.out.2.2.2.2.2.2.2⟩
        have hm := hG.mb
        have b0 := (hm).c0
        have b1 := (hm).c1
        have b2 := (hm).c2
        have z0 := (HZ.out.1).c0
        have z1 := (HZ.out.1).c1
        have z2 := (HZ.out.1).c2
        have f0 := HZ.out.1.f0
        have f1 := HZ.out.1.f1
        have f2 := HZ.out.1.f2
        clear hG hB hB2 hm
        go_wp2
        have hbt := but_set3 wr (A + 1) (.int .i64 (r' : Nat)) (.int .i64 (c' : Nat)) (.slice q9 m9 c9)
        subst hA
        exact bodyPost_ret (results_two Tryz.results46 rfl (load_set3 HZ.out.1 _ _ _)) rfl ⟨_, _, rfl, (HZ.out.2.1.block fun i hi => hbt.block i (HZ.out.2.1.lt i hi).2 (by have := (HZ.out.2.1.lt i hi).1; have := HZ.out.2.2.2.2.1; omega)).mono (by have := HZ.out.2.2.2.2.1; omega), (HZ.out.2.2.1.but hbt (fun k hk => by have := HZ.out.2.2.2.2.2; omega)).mono (by have := HZ.out.2.2.2.2.2; omega), HZ.out.2.2.2.1.trans (hbt.below HZ.out.2.2.2.1.size (fun k hk => by omega))⟩
  · rw [hr] at K1
    clear hs hr
    have a0 := (HP.out.1).c0
    have a1 := (HP.out.1).c1
    have a2 := (HP.out.1).c2
    go_enter Tryz.func46, Tryz.ntmps46
    go_wp2_with fail
    refine K1.mono ?_
    rintro e w1 ⟨rfl, hb1⟩
    clear K1
    clear a0 a1 a2
    have HT1 : Hid (Z3 w1 (A + 1) ∧ Below w.heap.size w w1) := ⟨HP.out.2.1.below hb1, HP.out.2.2.1.trans (hb1.mono HP.out.2.2.1.size)⟩
    clear hb1
    have z0 := (HT1.out.1).c0
    have z1 := (HT1.out.1).c1
    have z2 := (HT1.out.1).c2
    have f0 := HT1.out.1.f0
    have f1 := HT1.out.1.f1
    have f2 := HT1.out.1.f2
    go_wp2
    have hbt := but_set3 w1 (A + 1) (.int .i64 0) (.int .i64 0) (.slice none 0 0)
    subst hA
    have hbw := HT1.out.2.trans (hbt.below HT1.out.2.size (fun k hk => by omega))
    exact bodyPost_ret (results_two Tryz.results46 rfl (load_set3 HT1.out.1 _ _ _)) rfl ⟨_, _, rfl, ow_nil _ _, owV_nil _ _ _, hbw⟩
end Go.Proofs
/- The walk of erratumref09.Solve. Conditions: any numbers of rows and columns, and cells of bytes; any column of bytes. -/
namespace Go.Proofs
open Go.RowKit Go.ChangeShapes Go.WideShapes
open Mx (Mat cells mx rowL IsEch IsSol wideL solx dl sm Red)
open Pol (Byt ofL toL)
attribute [local go_sem ↓ high] builtin_ap
attribute [local go_sem] ap_sem

namespace Mx
theorem solx_start (C c : Nat) (W : Mat) (l : Nat → Nat) : List.replicate C 0 = toL C (solx W c 0 l) := by
  refine list_ext (by rw [List.length_replicate, Pol.toL_length]) fun a ha => ?_
  rw [List.length_replicate] at ha
  rw [Pol.toL_at, if_pos ha]
  simp [List.getD, ha]; rfl
theorem solx_next {R C C' c t r : Nat} {W : Mat} {l : Nat → Nat} (h : Red R C' W r l) (ht : t < r) (x : Nat) (hx : x = (W t c).val) : (toL C (solx W c t l)).set (l t) x = toL C (solx W c (t + 1) l) := by
  refine toL_set (hx ▸ GF.lt _) (fun _ => ?_) (fun a _ ha => ?_)
  · have e : solx W c t l (l t) = 0 := solx_other c (l t) fun k hk e => by have := h.inj (by omega) ht e; omega
    unfold solx at e ⊢
    rw [sm_succ, e, dl_self, GF.mul_one, GF.zero_add, hx, GF.of_self]
  · unfold solx; rw [sm_succ, dl_ne ha, GF.mul_zero, GF.add_zero]
theorem wide_take {R C : Nat} {xs b : List Nat} (hl : xs.length = R * C) (hx : Byt xs) (hb : Byt b) {i : Nat} (hi : i < R) : (wideL R C xs b).take ((i + 1) * (C + 1)) = ((wideL R C xs b).take (i * (C + 1)) ++ rowL C xs i) ++ [b.getD i 0] := by
  rw [Nat.succ_mul, List.take_add, List.append_assoc, ← wideL_row hl hx hb hi]; rfl
end Mx
set_option maxRecDepth 100000 in
set_option maxHeartbeats 4000000 in
theorem rsolve_no (R C : Int) (q qb : Option Addr) (n c m cb : Nat) (h : ¬ (rightB R C n = true ∧ R = (m : Int))) (w : World) :
    Calls Tryz.prog 39 #[.agg #[.int .i64 R, .int .i64 C, .slice q n c], .slice qb m cb] w fun e w' => e = .returned (.tuple #[.slice none 0 0, .bool false]) ∧ Below w.heap.size w w' := by
  obtain ⟨A, hA⟩ : ∃ A, w.heap.size = A := ⟨_, rfl⟩
  obtain ⟨W0, hW0⟩ : ∃ W0, w.alloc (.cells #[.int .i64 R, .int .i64 C, .slice q n c] 95) = W0 := ⟨_, rfl⟩
  have HP : Hid (Mb W0 A (.int .i64 R) (.int .i64 C) (.slice q n c) ∧ Below w.heap.size w W0) := ⟨by rw [← hA, ← hW0]; exact mb_new w _ _ _, hW0 ▸ (Below.refl _ w).alloc (Nat.le_refl _) _⟩
  have K1 := rright_calls R C q n c _ rfl W0
  by_cases hr : rightB R C n = true
  · have hRm : ¬ R = (m : Int) := fun e => h ⟨hr, e⟩
    have hmR : ((m : Int) == R) = false := by simp; omega
    have hmR2 : ((m : Int) != R) = true := by simp; omega
    rw [hr] at K1
    clear hr h
    have a0 := (HP.out.1).c0
    have a1 := (HP.out.1).c1
    have a2 := (HP.out.1).c2
    go_enter Tryz.func39, Tryz.ntmps39
    go_wp2_with fail
    refine K1.mono ?_
    rintro e w1 ⟨rfl, hb1⟩
    clear K1
    clear a0 a1 a2
    have HT : Hid (Mb w1 A (.int .i64 R) (.int .i64 C) (.slice q n c) ∧ Below w.heap.size w w1) := ⟨HP.out.1.below hb1, HP.out.2.trans (hb1.mono HP.out.2.size)⟩
    clear hb1
    have a0 := (HT.out.1).c0
    have a1 := (HT.out.1).c1
    have a2 := (HT.out.1).c2
    go_wp2
    go_ret2
    subst hA
    exact ⟨rfl, HT.out.2⟩
  · rw [Bool.not_eq_true] at hr
    rw [hr] at K1
    clear hr h
    have a0 := (HP.out.1).c0
    have a1 := (HP.out.1).c1
    have a2 := (HP.out.1).c2
    go_enter Tryz.func39, Tryz.ntmps39
    go_wp2_with fail
    refine K1.mono ?_
    rintro e w1 ⟨rfl, hb1⟩
    clear K1
    clear a0 a1 a2
    have HT : Hid (Below w.heap.size w w1) := HP.out.2.trans (hb1.mono HP.out.2.size)
    clear hb1
    go_wp2
    go_ret2
    subst hA
    exact ⟨rfl, HT.out⟩

set_option maxRecDepth 100000 in
set_option maxHeartbeats 4000000 in
theorem rsolve_yes (R C : Nat) (q qb : Option Addr) (n c cb : Nat) (xs ys zs : List Nat) (ok : Bool) (hE : SlO R C n xs R ys zs ok) (hn : n = R * C) (hR : R ≤ 300) (hC : C ≤ 300) (hnc : n ≤ c) (w : World) (hs : Bs w q n xs) (hs2 : Bs w qb R ys) :
    Calls Tryz.prog 39 #[.agg #[.int .i64 (R : Nat), .int .i64 (C : Nat), .slice q n c], .slice qb R cb] w fun e w' => ∃ v, e = .returned (.tuple #[v, .bool ok]) ∧ Ow w' w.heap.size v zs ∧ Below w.heap.size w w' := by
  obtain ⟨A, hA⟩ : ∃ A, w.heap.size = A := ⟨_, rfl⟩
  obtain ⟨W0, hW0⟩ : ∃ W0, w.alloc (.cells #[.int .i64 (R : Nat), .int .i64 (C : Nat), .slice q n c] 95) = W0 := ⟨_, rfl⟩
  have HP : Hid (Mb W0 A (.int .i64 (R : Nat)) (.int .i64 (C : Nat)) (.slice q n c) ∧ Below w.heap.size w W0) := ⟨by rw [← hA, ← hW0]; exact mb_new w _ _ _, hW0 ▸ (Below.refl _ w).alloc (Nat.le_refl _) _⟩
  have hrb := right_nat hR hC hn
  have K1 := rright_calls R C q n c _ hrb W0
  obtain ⟨es, L, hEs⟩ := Mx.isEch_exists R C xs
  obtain ⟨wl, hwl⟩ : ∃ wl, wideL R C xs ys = wl := ⟨_, rfl⟩
  obtain ⟨D, hD⟩ : ∃ D, D = C + 1 := ⟨_, rfl⟩
  obtain ⟨ws, K, hWs⟩ := Mx.isEch_exists R D wl
  have HS : Hid (Bs w q n xs ∧ Bs w qb R ys ∧ n = R * C ∧ rightB R C n = true ∧ IsEch R C xs es L ∧ wideL R C xs ys = wl ∧ IsEch R D wl ws K ∧ D = C + 1 ∧ SlO R C n xs R ys zs ok) := ⟨hs, hs2, hn, hrb, hEs, hwl, hWs, hD, hE⟩
  have hD3 : D ≤ 301 := by omega
  have hCD : (C : Int) + 1 = (D : Int) := by omega
  have hCD2 : C < D := by omega
  obtain ⟨l, hl⟩ : ∃ l, L.length = l := ⟨_, rfl⟩
  obtain ⟨kl, hkl⟩ : ∃ kl, K.length = kl := ⟨_, rfl⟩
  have HL : Hid (L.length = l ∧ K.length = kl) := ⟨hl, hkl⟩
  have hl3 : l ≤ 300 := by have := hEs.rank.1; omega
  have hkl3 : kl ≤ 300 := by have := hWs.rank.1; omega
  clear hs hs2 hn hrb hEs hwl hWs hD hE hl hkl
  have a0 := (HP.out.1).c0
  have a1 := (HP.out.1).c1
  have a2 := (HP.out.1).c2
  go_enter Tryz.func39, Tryz.ntmps39
  go_wp2_with fail
  refine K1.mono ?_
  rintro e w1 ⟨rfl, hb1⟩
  clear K1
  clear a0 a1 a2
  have HT1 : Hid (Mb w1 A (.int .i64 (R : Nat)) (.int .i64 (C : Nat)) (.slice q n c) ∧ Below w.heap.size w w1) := ⟨HP.out.1.below hb1, HP.out.2.trans (hb1.mono HP.out.2.size)⟩
  clear hb1
  have K2 := rech_calls R C q n c xs R C es L (.inl ⟨HS.out.2.2.2.1, rfl, rfl, HS.out.2.2.2.2.1⟩) hnc w1 (HS.out.1.below HT1.out.2)
  have a0 := (HT1.out.1).c0
  have a1 := (HT1.out.1).c1
  have a2 := (HT1.out.1).c2
  go_wp2_with fail
  refine K2.mono ?_
  rintro e w2 ⟨v1, v2, rfl, hO1, hO2, hb2⟩
  clear K2
  clear a0 a1 a2
  obtain ⟨q2, c2, rfl, S2, -, -⟩ := OwI.tell hO2 HL.out.1
  obtain ⟨q1, m1, c1, rfl⟩ := hO1.isSlice
  obtain ⟨X, hX⟩ : ∃ X, w2.heap.size = X := ⟨_, rfl⟩
  obtain ⟨P3, hP3⟩ : ∃ P3, w2.alloc (.cells #[.int .i64 (R : Nat), .int .i64 (C : Nat), .slice q1 m1 c1] 95) = P3 := ⟨_, rfl⟩
  obtain ⟨P4, hP4⟩ : ∃ P4, P3.alloc (.cells #[.int .i64 (R : Nat), .int .i64 (D : Nat), .slice none 0 0] 95) = P4 := ⟨_, rfl⟩
  have hs3 : P3.heap.size = X + 1 := by rw [← hP3, ← hX]; simp
  have hb3 : Below w2.heap.size w2 P3 := hP3 ▸ (Below.refl _ w2).alloc (Nat.le_refl _) _
  have HT3 : Hid (Mb P3 A (.int .i64 (R : Nat)) (.int .i64 (C : Nat)) (.slice q n c) ∧ Below w.heap.size w P3 ∧ Is P3 q2 l L ∧ P3.heap.size = X + 1) := by
    have h2 := HT1.out.2.trans (hb2.mono HT1.out.2.size)
    exact ⟨(HT1.out.1.below hb2).below hb3, h2.trans (hb3.mono h2.size), S2.below hb3, hs3⟩
  have HT4 : Hid (Gm P4 (X + 1) (.int .i64 (R : Nat)) (.int .i64 (D : Nat)) (.slice none 0 0) [] ∧ Below (X + 1) P3 P4) := by
    refine ⟨?_, by rw [← hs3, ← hP4]; exact (Below.refl _ P3).alloc (Nat.le_refl _) _⟩
    rw [← hs3, ← hP4]; exact gm_new P3 _ _
  have HW : Hid ((w2.alloc (.cells #[.int .i64 (R : Nat), .int .i64 (C : Nat), .slice q1 m1 c1] 95)).alloc (.cells #[.int .i64 (R : Nat), .int .i64 (D : Nat), .slice none 0 0] 95) = P4) := by rw [← hP4, ← hP3]; rfl
  have hm2 := HT1.out.1.below hb2
  have hm3 : Mb (w2.alloc (.cells #[.int .i64 (R : Nat), .int .i64 (C : Nat), .slice q1 m1 c1] 95)) A (.int .i64 (R : Nat)) (.int .i64 (C : Nat)) (.slice q n c) := hP3 ▸ HT3.out.1
  have a0 := (hm2).c0
  have a1 := (hm2).c1
  have a2 := (hm2).c2
  have d0 := (hm3).c0
  have d1 := (hm3).c1
  have d2 := (hm3).c2
  clear hO1 hO2 S2 hb2 hb3 hP3 hP4 hs3 HT1 hm2 hm3
  go_wp2
  clear a0 a1 a2
  clear d0 d1 d2
  rw [HW.out]
  clear HW
  go_loopw [9] (fun i wr => ∃ (k : Nat) (v : Value), k ≤ R ∧ i = .int .i64 (k : Int) ∧ Gm wr (X + 1) (.int .i64 (R : Nat)) (.int .i64 (D : Nat)) v (wl.take (k * D)) ∧ Below (X + 1) P3 wr) (fun i _ => R - (intOf i).toNat)
  case atStart => exact ⟨0, _, by omega, rfl, by rw [Nat.zero_mul, List.take_zero]; exact HT4.out.1, HT4.out.2⟩
  case round =>
    obtain ⟨k, v, hk, rfl, hG, hB⟩ := hrel
    have hB3 : Below P3.heap.size P3 wr := by rw [HT3.out.2.2.2]; exact hB
    have hBw : Below w.heap.size w wr := HT3.out.2.1.trans (hB3.mono HT3.out.2.1.size)
    have hm := HT3.out.1.below hB3
    by_cases hlt : k < R
    · have hki : (k : Int) < (R : Int) := by omega
      obtain ⟨qv, mv, cv0, rfl⟩ := hG.ow.isSlice
      obtain ⟨p1, d1, ep, hd1, -⟩ := rowP_bs HS.out.1 HS.out.2.2.1 hnc hlt
      have hrow := rowP_bs HS.out.1 HS.out.2.2.1 hnc hlt
      obtain ⟨ad, eq, la, cb'⟩ := HS.out.2.1.cell k hlt
      subst eq
      replace cb' := (hBw.cell (p := ad.add k) (by rw [block_add]; exact la)).trans cb'
      obtain ⟨y, hy⟩ : ∃ y, ys.getD k 0 = y := ⟨_, rfl⟩
      rw [hy] at cb'
      have hlen : (wl.take (k * D)).length + C + 1 ≤ 100000 := by
        have h1 : (wl.take (k * D)).length ≤ wl.length := by rw [List.length_take]; exact Nat.min_le_right _ _
        have h2 : wl.length = R * D := by rw [← HS.out.2.2.2.2.2.1, Mx.wideL_length, HS.out.2.2.2.2.2.2.2.1]
        have h3 : R * D ≤ 300 * 301 := Nat.mul_le_mul hR hD3
        omega
      have HTk : Hid (wl.take ((k + 1) * D) = (wl.take (k * D) ++ rowL C xs k) ++ [y]) := by
        show wl.take ((k + 1) * D) = _
        rw [HS.out.2.2.2.2.2.2.2.1, ← HS.out.2.2.2.2.2.1, ← hy]
        exact Mx.wide_take (HS.out.1.len.trans HS.out.2.2.1) HS.out.1.byte HS.out.2.1.byte hlt
      have hrl : (rowL C xs k).length = C := Mx.rowL_length (HS.out.1.len.trans HS.out.2.2.1) hlt
      have hAX : A ≤ X + 1 := by have := HT3.out.2.1.size; rw [HT3.out.2.2.2, hA] at this; exact this
      have KR : Hid (Calls Tryz.prog 47 #[.agg #[.int .i64 (R : Nat), .int .i64 (C : Nat), .slice q n c], .int .i64 (k : Nat)] wr.drew fun e w' => e = .returned (.slice p1 C d1) ∧ ∃ q5 m5 c5 W5, (Builtin.append_ #[22, 22] 22 #[.slice qv mv cv0, .slice p1 C d1]).run Tryz.prog w' = .ok (.slice q5 m5 c5) W5 ∧ W5.cell? ⟨X + 1, 2, none⟩ = some (.slice qv mv cv0) ∧ W5.frozen? ⟨X + 1, 2, none⟩ = false ∧ w'.cell? ⟨X + 1, 2, none⟩ = some (.slice qv mv cv0) ∧ Hid (Gm (W5.setCell ⟨X + 1, 2, none⟩ (.slice q5 m5 c5)) (X + 1) (.int .i64 (R : Nat)) (.int .i64 (D : Nat)) (.slice q5 m5 c5) (wl.take (k * D) ++ rowL C xs k) ∧ Below (X + 1) P3 (W5.setCell ⟨X + 1, 2, none⟩ (.slice q5 m5 c5)))) := by
        have hk9 := rrow_calls R C k (k * C) q n c hlt HS.out.2.2.1 rfl hnc hR hC wr.drew
        rw [ep] at hk9
        refine hk9.mono ?_
        rintro e w' ⟨rfl, hb⟩
        have hbr : Below wr.heap.size wr w' := ((Below.refl _ wr).drew).trans hb
        have hG' := hG.below hbr
        obtain ⟨p2, d2, ep2, _, S2⟩ := hrow
        rw [ep] at ep2
        cases ep2
        rw [← rowL_toL (HS.out.1.len.trans HS.out.2.2.1) HS.out.1.byte hlt] at S2
        have hbw' : Below w.heap.size w w' := hBw.trans (hbr.mono hBw.size)
        obtain ⟨v5, W5, hap, cw, fw, hG5, hB5, -⟩ := hG'.list d1 (S2.below hbw') (by omega)
        obtain ⟨q5, m5, c5, rfl⟩ := hG5.ow.isSlice
        have hB' : Below (X + 1) P3 w' := hB.trans (hbr.mono (by have := hG.sz; omega))
        exact ⟨rfl, q5, m5, c5, W5, hap, cw, fw, hG'.mb.c2, hG5, hB'.trans hB5⟩
      have hgm := hG.mb
      have a0 := (hm).c0
      have a1 := (hm).c1
      have a2 := (hm).c2
      have b0 := (hgm).c0
      have b1 := (hgm).c1
      have b2 := (hgm).c2
      have HC : Hid (∀ W, Below (X + 1) P3 W → W.cell? (ad.add k) = some (.int .u8 (y : Nat))) := fun W hb => by
        have h1 : Below P3.heap.size P3 W := by rw [HT3.out.2.2.2]; exact hb
        have h2 : Below w.heap.size w W := HT3.out.2.1.trans (h1.mono HT3.out.2.1.size)
        obtain ⟨ad', eq, la', cb''⟩ := HS.out.2.1.cell k hlt
        cases eq
        rw [hy] at cb''
        exact (h2.cell (p := ad.add k) (by rw [block_add]; exact la')).trans cb''
      clear hG hB hB3 hBw hm hgm hrow ep hd1 la cb' hy
      go_wp2
      go_region_law
        (first
          | (refine step_go rfl (by go_simp) KR.out ?_; rintro e w5 ⟨rfl, q5, m5, c5, W5, hap5, cw, fw, cv, H5⟩; refine ⟨_, rfl, ?_⟩)
          | (refine step_ap9 rfl (.tmp 42) (.tmp 45) 22 rfl rfl hap5 rfl rfl ?_))
      all_goals
        clear a0 a1 a2
        clear b0 b1 b2
        clear KR hap5
        obtain ⟨W6, hW6⟩ : ∃ W6, W5.setCell ⟨X + 1, 2, none⟩ (.slice q5 m5 c5) = W6 := ⟨_, rfl⟩
        rw [hW6] at H5
        have hG6 := H5.out.1
        obtain ⟨g7, c7, W7, hap, cw7, fw7, hG7, hB7⟩ := hG6.drew.one y (by rw [List.length_append, hrl]; omega)
        have cb7 := HC.out W6 H5.out.2
        have HN : Hid (Gm (W7.setCell ⟨X + 1, 2, none⟩ (.slice (some ⟨g7, 0, none⟩) ((wl.take (k * D) ++ rowL C xs k) ++ [y]).length c7)) (X + 1) (.int .i64 (R : Nat)) (.int .i64 (D : Nat)) (.slice (some ⟨g7, 0, none⟩) ((wl.take (k * D) ++ rowL C xs k) ++ [y]).length c7) (wl.take ((k + 1) * D)) ∧ Below (X + 1) P3 (W7.setCell ⟨X + 1, 2, none⟩ (.slice (some ⟨g7, 0, none⟩) ((wl.take (k * D) ++ rowL C xs k) ++ [y]).length c7))) := by
          rw [HTk.out]
          exact ⟨hG7, H5.out.2.trans (((Below.refl (X + 1) W6).drew).trans hB7)⟩
        obtain ⟨m7, hm7⟩ : ∃ m7, ((wl.take (k * D) ++ rowL C xs k) ++ [y]).length = m7 := ⟨_, rfl⟩
        rw [hm7] at hap HN
        rw [show W6.drew.heap.size = W6.heap.size from rfl, show W6.drew.alloc (.cells #[.int .u8 (y : Nat)] 5) = (W6.alloc (.cells #[.int .u8 (y : Nat)] 5)).drew from rfl] at hap
        have ha1 := ap_ok hap
        have ha2 := ap_v hap
        have ha3 := ap_w hap
        have hgm := hG6.mb
        have b0 := (hgm).c0
        have b1 := (hgm).c1
        have b2 := (hgm).c2
        have hw1 := World.new_ne W6 (ad.add k) cb7
        have hw2 : (W6.alloc (.cells #[.int .u8 (y : Nat)] 5)).cell? ⟨X + 1, 2, none⟩ = some (.slice q5 m5 c5) := (hgm.below ((Below.refl _ W6).alloc (Nat.le_refl _) _)).c2
        clear hgm hG6 hap hG7 hB7 hm7 H5 cw fw cv HC HTk hrl
        go_wp2
        go_region
        all_goals
          go_wp2
          go_roundw
          case rel => exact ⟨k + 1, _, by omega, by go_num, HN.out⟩
          case measure => simp [intOf]; omega
    · obtain rfl : R = k := by omega
      have hwlen : wl.length = R * D := by rw [← HS.out.2.2.2.2.2.1, Mx.wideL_length, HS.out.2.2.2.2.2.2.2.1]
      rw [List.take_of_length_le (by rw [hwlen]; exact Nat.le_refl _)] at hG
      obtain ⟨n5, hn5⟩ : ∃ n5, wl.length = n5 := ⟨_, rfl⟩
      obtain ⟨q5, c5, rfl, S5, hc5, -⟩ := hG.ow.tell (n := n5) (HS.out.2.2.2.2.2.1 ▸ Mx.wideL_byt R C xs ys) hn5
      have hcase : (kl = l ∧ (∀ t, t < l → K.getD t 0 = L.getD t 0) ∧ ok = true ∧ zs = toL C (solx (mx D ws) C l fun t => L.getD t 0)) ∨ (l < kl ∧ ok = false ∧ zs = []) := by
        have hw := HS.out.2.2.2.2.2.2.1
        have hD := HS.out.2.2.2.2.2.2.2.1
        subst hD
        rw [← HS.out.2.2.2.2.2.1] at hw
        have hlk := HL.out
        rcases Mx.wide_cases HS.out.2.2.2.2.1 (Mx.ech_wide hw) with ⟨e1, e2, e3⟩ | ⟨e1, e2⟩
        · refine .inl ⟨by omega, fun t ht => e2 t (by omega), ?_⟩
          have e4 : toL C (solx (mx (C + 1) ws) C K.length fun t => K.getD t 0) = toL C (solx (mx (C + 1) ws) C l fun t => L.getD t 0) := by
            have : K.length = l := by omega
            rw [this]
            congr 1
            funext j
            exact Mx.sm_congr fun t ht => by
              have h9 : K.getD t 0 = L.getD t 0 := e2 t (by omega)
              show _ * dl j (K.getD t 0) = _ * dl j (L.getD t 0)
              rw [h9]
          rw [e4] at e3
          rcases HS.out.2.2.2.2.2.2.2.2 with ⟨h1, _, _, h4⟩ | ⟨h1, h2, h3⟩
          · rw [Int.toNat_natCast, Int.toNat_natCast] at h4
            exact ⟨h1, h4.unique e3⟩
          · have := h3 HS.out.2.2.2.1 rfl _ (by rw [Int.toNat_natCast, Int.toNat_natCast]; exact e3.sol.eq)
            exact this.elim
        · refine .inr ⟨by omega, ?_⟩
          rcases HS.out.2.2.2.2.2.2.2.2 with ⟨h1, _, _, h4⟩ | ⟨h1, h2, h3⟩
          · rw [Int.toNat_natCast, Int.toNat_natCast] at h4
            exact (e2 _ h4.sol.eq).elim
          · exact ⟨h1, h2⟩
      have K3 := rred_calls R D q5 n5 c5 wl ws K HS.out.2.2.2.2.2.2.1 (by rw [← hn5]; exact hwlen) hR hD3 hc5 wr S5
      have HT5 : Hid (Below w.heap.size w wr ∧ Below (X + 1) P3 wr) := ⟨hBw, hB⟩
      have hgm := hG.mb
      have b0 := (hgm).c0
      have b1 := (hgm).c1
      have b2 := (hgm).c2
      have a0 := (hm).c0
      have a1 := (hm).c1
      have a2 := (hm).c2
      clear hgm hm hG hB hB3 hBw S5 hwlen hn5 hc5
      go_wp2_with fail
      refine K3.mono ?_
      rintro e w3 ⟨v3, v4, rfl, hR3, hO3, hb3⟩
      clear K3
      clear b0 b1 b2
      clear a0 a1 a2
      obtain ⟨q4, c4, rfl, -, -, -⟩ := OwI.tell hO3 HL.out.2
      obtain ⟨q3, c3, rfl⟩ := hR3.isSlice
      have HT6 : Hid (Below w.heap.size w w3 ∧ Below (X + 1) P3 w3 ∧ RwM w3 (wr.heap.size + 1) (.slice q3 R c3) R D (mx D ws)) := by
        have h1 := HT5.out.2.size
        rw [HT3.out.2.2.2] at h1
        exact ⟨HT5.out.1.trans (hb3.mono HT5.out.1.size), HT5.out.2.trans (hb3.mono h1), hR3⟩
      have hm := HT3.out.1.below (W' := w3) (by rw [HT3.out.2.2.2]; exact HT6.out.2.1)
      clear hR3 hO3 hb3 HT5
      rcases hcase with ⟨hkl, hKL, rfl, rfl⟩ | ⟨hkl, rfl, rfl⟩
      · subst hkl
        obtain ⟨Y, hY⟩ : ∃ Y, w3.heap.size = Y := ⟨_, rfl⟩
        have hmk := make_bytes C (by omega)
        obtain ⟨W4, hW4⟩ : ∃ W4, w3.alloc (.cells (madeCells #[.int .u8 0] C) 5) = W4 := ⟨_, rfl⟩
        have HT7 : Hid (Ow W4 Y (.slice (some ⟨Y, 0, none⟩) C C) (List.replicate C 0) ∧ Below Y w3 W4 ∧ w3.heap.size = Y) := by
          have := ow_made w3 (base := Y) (by omega) C (by omega)
          rw [hY, hW4] at this
          exact ⟨this, by rw [← hY, ← hW4]; exact (Below.refl _ w3).alloc (Nat.le_refl _) _, hY⟩
        have HKL : Hid (∀ t, t < kl → K.getD t 0 = L.getD t 0) := hKL
        have a0 := (hm).c0
        have a1 := (hm).c1
        have a2 := (hm).c2
        clear hm hKL
        go_wp2
        clear a0 a1 a2
        clear hW4
        obtain ⟨W3, hW3⟩ : ∃ W3, wr = W3 := ⟨_, rfl⟩
        clear hW3
        go_loopw [13] (fun i wr => ∃ t : Nat, t ≤ kl ∧ i = .int .i64 (t : Int) ∧ Ow wr Y (.slice (some ⟨Y, 0, none⟩) C C) (toL C (solx (mx D ws) C t fun t => L.getD t 0)) ∧ Below Y w3 wr) (fun i _ => kl - (intOf i).toNat)
        case atStart => exact ⟨0, by omega, rfl, by rw [← Mx.solx_start]; exact HT7.out.1, HT7.out.2.1⟩
        case round =>
          obtain ⟨t, ht, rfl, hO, hB⟩ := hrel
          have hB3 : Below w3.heap.size w3 wr := by rw [HT7.out.2.2]; exact hB
          by_cases hlt : t < kl
          · have hti : (t : Int) < (kl : Int) := by omega
            have hsz3 : P3.heap.size ≤ w3.heap.size := HT6.out.2.1.size
            have hP3r : Below P3.heap.size P3 wr := by
              have h1 : Below P3.heap.size P3 w3 := by rw [HT3.out.2.2.2]; exact HT6.out.2.1
              exact h1.trans (hB3.mono hsz3)
            obtain ⟨al, el, _, cl⟩ := (HT3.out.2.2.1.below hP3r).cell t hlt
            subst el
            have htR : t < R := by have := HS.out.2.2.2.2.1.rank.1; rw [HL.out.1] at this; omega
            obtain ⟨g, cap, q6, c6, ev, hg, cc, fz, hc6, S6, -⟩ := (HT6.out.2.2.below hB3).at htR
            injection ev with ev1 _ ev3
            subst ev1 ev3
            obtain ⟨a6, e6, _, c6'⟩ := S6.cell C hCD2
            subst e6
            have hx : (toL D (mx D ws t)).getD C 0 = (mx D ws t C).val := by rw [Pol.toL_at, if_pos hCD2]
            rw [hx] at c6'
            obtain ⟨ld, hld⟩ : ∃ ld, L.getD t 0 = ld := ⟨_, rfl⟩
            rw [hld] at cl
            have hldC : ld < C := hld ▸ HS.out.2.2.2.2.1.lead_lt (by rw [HL.out.1]; exact hlt)
            have hldi : (ld : Int) < (C : Int) := by omega
            have htRi : (t : Int) < (R : Int) := by omega
            have hCDi : (C : Int) < (D : Int) := by omega
            have hx8 := (mx D ws t C).lt
            have hox := hO.at (by rw [Pol.toL_length]) ld hldC
            have hxc := hox.1
            have hxf := hox.2
            obtain ⟨z, hz⟩ : ∃ z, (toL C (solx (mx D ws) C t fun t => L.getD t 0)).getD ld 0 = z := ⟨_, rfl⟩
            rw [hz] at hxc
            obtain ⟨x, hxe⟩ : ∃ x, (mx D ws t C).val = x := ⟨_, rfl⟩
            rw [hxe] at c6' hx8
            have hm := HT3.out.1.below hP3r
            have HN : Hid (Ow (wr.setCell ⟨Y, ld, none⟩ (.int .u8 (x : Nat))) Y (.slice (some ⟨Y, 0, none⟩) C C) (toL C (solx (mx D ws) C (t + 1) fun t => L.getD t 0)) ∧ Below Y w3 (wr.setCell ⟨Y, ld, none⟩ (.int .u8 (x : Nat)))) := by
              refine ⟨?_, hB.setCell (p := ⟨Y, ld, none⟩) (Nat.le_refl _) _⟩
              have hred : Red R D (mx D ws) kl (fun t => L.getD t 0) := by
                have h1 := HS.out.2.2.2.2.2.2.1.ech.red
                rw [HL.out.2] at h1
                exact h1.congr (Mx.Eq.refl _ _ _) HKL.out
              have e := Mx.solx_next (C := C) (c := C) hred hlt x hxe.symm
              rw [hld] at e
              rw [← e]
              exact hO.set (by rw [Pol.toL_length]) ld x
            have a0 := (hm).c0
            have a1 := (hm).c1
            have a2 := (hm).c2
            clear hm hO hB hB3 hP3r hox hz hxe hx S6 hc6 fz hld
            go_wp2
            go_region
            all_goals
              go_wp2
              go_roundw
              case rel => exact ⟨t + 1, by omega, by go_num, HN.out.1.drew, HN.out.2.drew⟩
              case measure => simp [intOf]; omega
          · obtain rfl : kl = t := by omega
            have HN : Hid (Ow wr w.heap.size (.slice (some ⟨Y, 0, none⟩) C C) (toL C (solx (mx D ws) C kl fun t => L.getD t 0)) ∧ Below w.heap.size w wr) := by
              have h1 := HT6.out.1.size
              have h2 := HT7.out.2.2
              exact ⟨hO.mono (by omega), HT6.out.1.trans (hB3.mono h1)⟩
            clear hO hB hB3
            go_wp2
            go_ret2
            subst hA
            exact ⟨_, rfl, HN.out⟩
      · have hki2 : (l : Int) < (kl : Int) := by omega
        have HN : Hid (Below w.heap.size w w3) := HT6.out.1
        clear hm
        go_wp2
        go_ret2
        subst hA
        exact ⟨_, rfl, ow_nil _ _, HN.out⟩
theorem rsolve_calls (R C : Int) (q qb : Option Addr) (n c m cb : Nat) (xs ys zs : List Nat) (ok : Bool) (hE : SlO R C n xs m ys zs ok) (hnc : n ≤ c) (w : World) (hs : Bs w q n xs) (hs2 : Bs w qb m ys) :
    Calls Tryz.prog 39 #[.agg #[.int .i64 R, .int .i64 C, .slice q n c], .slice qb m cb] w fun e w' => ∃ v, e = .returned (.tuple #[v, .bool ok]) ∧ Ow w' w.heap.size v zs ∧ Below w.heap.size w w' := by
  by_cases h : rightB R C n = true ∧ R = (m : Int)
  · obtain ⟨h1, h2⟩ := h
    obtain ⟨r, c0, e1, e2, hr3, hc3, hn⟩ := right_split h1
    obtain rfl : r = m := by omega
    subst e1 e2
    exact rsolve_yes r c0 q qb n c cb xs ys zs ok hE hn hr3 hc3 hnc w hs hs2
  · refine (rsolve_no R C q qb n c m cb h w).mono ?_
    rintro e w' ⟨rfl, hb⟩
    rcases hE with ⟨_, h2, h3, _⟩ | ⟨rfl, rfl, _⟩
    · exact absurd ⟨h2, h3⟩ h
    · exact ⟨_, rfl, ow_nil _ _, hb⟩
end Go.Proofs
