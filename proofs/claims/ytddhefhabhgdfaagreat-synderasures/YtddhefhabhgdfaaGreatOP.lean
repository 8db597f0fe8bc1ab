/- The walks of erratumref12: Locator, Modified, Syndromes. Conditions: lists that are no great ones. -/
import Derived.Test.YtddhefhabhgdfaaGreatON
import Derived.Test.YtddhefhabhgdfaaGreatNY
import Derived.Test.YtddhefhabhgdfaaGreatMW
import Derived.Test.YtddhefhabhgdfaaGreatMS
import Derived.Test.YtddhefhabhgdfaaGreatOG
namespace Go.Proofs
open Go.RowKit Go.ChangeShapes Go.WideShapes
open Pol (IsN Dg ofL Byt vl)
attribute [local go_sem ↓ high] builtin_ap
attribute [local go_sem] ap_sem

set_option maxRecDepth 100000 in
set_option maxHeartbeats 1000000 in
theorem r12locator_calls (n c : Nat) (q : Option Addr) (zs : List Int) (hn : n ≤ 1000000) (w : World) (hs : Ns .i64 w q n zs) :
    Calls Tryz.prog 35 #[.slice q n c] w fun e w' => ∃ v, e = .returned v ∧ Ow w' w.heap.size v (Cd.locZ zs) ∧ Below w.heap.size w w' := by
  obtain ⟨R, hR⟩ : ∃ R, w.heap.size = R := ⟨_, rfl⟩
  have HS : Hid (Ns .i64 w q n zs) := hs
  have HI : Hid (Ow (w.alloc (.cells #[.int .u8 1] 5)) R (.slice (some ⟨R, 0, none⟩) 1 1) [1] ∧ Below R w (w.alloc (.cells #[.int .u8 1] 5))) := ⟨hR ▸ ow_one w (Nat.le_refl _) 1, hR ▸ (Below.refl _ w).alloc (Nat.le_refl _) _⟩
  clear hs
  go_enter Tryz.func35, Tryz.ntmps35
  go_wp2
  go_loopw [3, 4] (fun o i wr => ∃ t : Nat, t ≤ n ∧ i = .int .i64 (t : Int) ∧ Ow wr R o (Cd.locZ (zs.take t)) ∧ Below R w wr) (fun _ i _ => n - (intOf i).toNat)
  case atStart => exact ⟨0, by omega, rfl, by rw [List.take_zero, Cd.locZ_nil]; exact HI.out.1, HI.out.2⟩
  case round =>
    clear HI
    obtain ⟨t, ht, rfl, hO, hB⟩ := hrel
    by_cases hlt : t < n
    · have hi : (t : Int) < (n : Int) := by omega
      have hi0 : (0 : Int) ≤ (t : Int) := by omega
      have hk6 : (t : Int) ≤ 1000000 := by omega
      have hRw : R ≤ wr.heap.size := hR ▸ hB.size
      have hl := HS.out.len
      obtain ⟨a, rfl, la, ca⟩ := (HS.out.below (hR.symm ▸ hB)).cell t hlt
      obtain ⟨r, hr⟩ : ∃ r, Gf.powZ 2 (zs.getD t 0) = r := ⟨_, rfl⟩
      have hN := Cd.locZ_snoc (zs.take t) (zs.getD t 0) r hr
      have htk : zs.take t ++ [zs.getD t 0] = zs.take (t + 1) := by rw [List.take_succ_eq_append_getElem (by omega)]; simp [List.getD, show t < zs.length by omega]
      rw [htk] at hN
      have hb8 : r < 256 := by rw [← hr]; exact Cd.powZ_lt _
      obtain ⟨z, hze⟩ : ∃ z, zs.getD t 0 = z := ⟨_, rfl⟩
      rw [hze] at ca hr
      have K1 := r10point_calls z r hr wr
      obtain ⟨q2, c2, rfl, S2, C2, -⟩ := hO.tell (n := t + 1) (Cd.locZ_isN _).byt (by rw [Cd.locZ_length, List.length_take]; omega)
      have S : Bs (wr.alloc (.cells #[.int .u8 1, .int .u8 (r : Nat)] 5)) (some ⟨wr.heap.size, 0, none⟩) 2 [1, r] := bs_lits wr _ [1, r] _ 2 rfl rfl rfl (by simp [hb8]) (by simp)
      have K := rpmul_calls q2 (some ⟨wr.heap.size, 0, none⟩) (t + 1) c2 2 2 _ [1, r] _ hN (by omega) (by omega) _ (S2.alloc _) S
      have HB : Hid (Below R w (wr.alloc (.cells #[.int .u8 1, .int .u8 (r : Nat)] 5))) := hB.alloc hRw _
      clear hO hB S2 S hN hze hr hb8 htk la hl
      go_wp2_with (go_at_call 61; refine K1.mono ?_; rintro e w1 ⟨rfl, rfl⟩)
      refine K.mono ?_
      rintro e w2 ⟨v, rfl, hO, hb⟩
      clear K
      have HZ : Hid (Ow w2 R v (Cd.locZ (zs.take (t + 1))) ∧ Below R w w2) := ⟨hO.mono (by simp; omega), HB.out.trans (hb.mono (by simp; omega))⟩
      clear hO hb HB
      go_wp2
      go_roundw
      case rel => exact ⟨t + 1, by omega, by go_num, HZ.out⟩
      case measure => simp [intOf]; omega
    · obtain rfl : t = n := by omega
      have e0 : zs.take t = zs := List.take_of_length_le (by rw [HS.out.len]; exact Nat.le_refl _)
      rw [e0] at hO
      go_wp2
      go_ret
      exact ⟨_, rfl, hR.symm ▸ hO, hR.symm ▸ hB⟩
set_option maxRecDepth 100000 in
set_option maxHeartbeats 1000000 in
theorem r12synd_none (N K B : Int) (q : Option Addr) (n c : Nat) (h : cdB N K B = false ∨ ¬ (n : Int) = N) (w : World) :
    Calls Tryz.prog 33 #[.agg #[.int .i64 N, .int .i64 K, .int .i64 B], .slice q n c] w fun e w' => e = .returned (.slice none 0 0) ∧ Below w.heap.size w w' := by
  obtain ⟨R, hR⟩ : ∃ R, w.heap.size = R := ⟨_, rfl⟩
  obtain ⟨W0, hW0⟩ : ∃ W0, w.alloc (.cells #[.int .i64 N, .int .i64 K, .int .i64 B] 23) = W0 := ⟨_, rfl⟩
  have hb0 : Below w.heap.size w W0 := hW0 ▸ (Below.refl _ w).alloc (Nat.le_refl _) _
  have hC : Cb W0 R N K B := by rw [← hW0, ← hR]; exact cb_new w _ _ _
  have K1 := r10right_calls N K B W0
  have HB : Hid (Below w.heap.size w W0 ∧ Cb W0 R N K B) := ⟨hb0, hC⟩
  clear hb0
  cases hv : cdB N K B with
  | false =>
    rw [cdE_no hv] at K1
    have c0 := (hC).c0
    have c1 := (hC).c1
    have c2 := (hC).c2
    clear hC hv h
    go_enter Tryz.func33, Tryz.ntmps33
    go_wp2_with (go_at_call 39; refine K1.mono ?_; rintro e w1 ⟨rfl, hb1⟩)
    go_ret
    exact ⟨rfl, HB.out.1.trans (hb1.mono HB.out.1.size)⟩
  | true =>
    rw [cdE_yes hv] at K1
    have hn : (((n : Int) != N)) = true := by
      rcases h with h | h
      · rw [hv] at h; cases h
      · simpa using h
    have c0 := (hC).c0
    have c1 := (hC).c1
    have c2 := (hC).c2
    clear hC hv h
    go_enter Tryz.func33, Tryz.ntmps33
    go_wp2_with (go_at_call 39; refine K1.mono ?_; rintro e w1 ⟨rfl, hb1⟩; have d0 := (HB.out.2.below hb1).c0)
    all_goals
      go_ret
      exact ⟨rfl, HB.out.1.trans (hb1.mono HB.out.1.size)⟩
set_option maxRecDepth 100000 in
set_option maxHeartbeats 1000000 in
theorem r12synd_ok (N K B S c : Nat) (q : Option Addr) (xs : List Nat) (h : Cod N K B) (hS : N - K = S) (w : World) (hs : Bs w q N xs) :
    Calls Tryz.prog 33 #[.agg #[.int .i64 (N : Nat), .int .i64 (K : Nat), .int .i64 (B : Nat)], .slice q N c] w fun e w' => ∃ v, e = .returned v ∧ Ow w' w.heap.size v (Cd.syL S B xs) ∧ Below w.heap.size w w' := by
  obtain ⟨R, hR⟩ : ∃ R, w.heap.size = R := ⟨_, rfl⟩
  obtain ⟨W0, hW0⟩ : ∃ W0, w.alloc (.cells #[.int .i64 (N : Nat), .int .i64 (K : Nat), .int .i64 (B : Nat)] 23) = W0 := ⟨_, rfl⟩
  have hb0 : Below w.heap.size w W0 := hW0 ▸ (Below.refl _ w).alloc (Nat.le_refl _) _
  have hC : Cb W0 R N K B := by rw [← hW0, ← hR]; exact cb_new w _ _ _
  have K1 := r10right_calls (N : Int) (K : Int) (B : Int) W0
  rw [cdE_yes h.yes] at K1
  have HM : Hid (Cod N K B ∧ N - K = S ∧ Bs w q N xs ∧ Below w.heap.size w W0 ∧ Cb W0 R N K B) := ⟨h, hS, hs, hb0, hC⟩
  clear hs hS h hb0
  have c0 := (hC).c0
  have c1 := (hC).c1
  have c2 := (hC).c2
  clear hC
  go_enter Tryz.func33, Tryz.ntmps33
  go_wp2_with fail
  refine K1.mono ?_
  rintro e w1 ⟨rfl, hb1⟩
  clear K1
  clear c0 c1 c2
  have K2 := r10roots_calls N K B S HM.out.1 HM.out.2.1 w1
  have hC := HM.out.2.2.2.2.below hb1
  have HT : Hid (Below w.heap.size w w1 ∧ Bs w1 q N xs) := ⟨HM.out.2.2.2.1.trans (hb1.mono HM.out.2.2.2.1.size), HM.out.2.2.1.below (HM.out.2.2.2.1.trans (hb1.mono HM.out.2.2.2.1.size))⟩
  clear hb1
  have c0 := (hC).c0
  have c1 := (hC).c1
  have c2 := (hC).c2
  clear hC
  go_wp2_with fail
  refine K2.mono ?_
  rintro e w2 ⟨v, rfl, hO, hb⟩
  clear K2
  clear c0 c1 c2
  obtain ⟨q2, c2, rfl, S2, C2, -⟩ := hO.tell (n := S) (Cd.rts_byt B S) (Cd.rts_length B S)
  have K3 := r7all_calls q q2 N c S c2 xs _ (by have := HM.out.1.m; omega) (by have := HM.out.1.m; have := HM.out.2.1; omega) w2 (HT.out.2.below hb) S2
  rw [rts_vl] at K3
  have HT2 : Hid (Below w.heap.size w w2) := HT.out.1.trans (hb.mono HT.out.1.size)
  clear hO hb S2 C2
  go_wp2_with fail
  refine K3.mono ?_
  rintro e w3 ⟨v, rfl, hO, hb⟩
  clear K3
  have HY : Hid (Ow w3 w.heap.size v (Cd.syL S B xs) ∧ Below w.heap.size w w3) := ⟨hO.mono HT2.out.size, HT2.out.trans (hb.mono HT2.out.size)⟩
  clear hO hb
  go_wp2
  go_ret
  exact ⟨_, rfl, HY.out⟩
theorem r12synd_u (N K B : Int) (q : Option Addr) (n c : Nat) (xs ws : List Nat) (hw : syR N K B xs = ws) (w : World) (hs : Bs w q n xs) :
    Calls Tryz.prog 33 #[.agg #[.int .i64 N, .int .i64 K, .int .i64 B], .slice q n c] w fun e w' => ∃ v, e = .returned v ∧ Ow w' w.heap.size v ws ∧ Below w.heap.size w w' := by
  subst hw
  by_cases h : cdB N K B = false ∨ ¬ (n : Int) = N
  · rw [syR_no (by rw [hs.len]; exact h)]
    exact (r12synd_none N K B q n c h w).mono fun e w' ⟨he, hb⟩ => ⟨_, he, ow_nil _ _, hb⟩
  · have h1 : cdB N K B = true := by cases hv : cdB N K B with | true => rfl | false => exact absurd (.inl hv) h
    have h2 : (n : Int) = N := Classical.byContradiction fun h2 => h (.inr h2)
    obtain ⟨N', K', B', rfl, rfl, rfl, hC⟩ := cod_of h1
    obtain rfl : n = N' := by omega
    rw [syR_yes hC rfl hs.len]
    exact r12synd_ok n K' B' _ c q xs hC rfl w hs
set_option maxRecDepth 100000 in
set_option maxHeartbeats 1000000 in
theorem r12modified_calls (n c m d : Nat) (q p : Option Addr) (xs ys : List Nat) (hn : n ≤ 1000000) (hm : m ≤ 1000000) (w : World) (hs : Bs w q n xs) (hy : Bs w p m ys) :
    Calls Tryz.prog 36 #[.slice q n c, .slice p m d] w fun e w' => ∃ v, e = .returned v ∧ Ow w' w.heap.size v (Cd.modL xs ys) ∧ Below w.heap.size w w' := by
  obtain ⟨zs, hz, -⟩ := Pol.isN_mul xs ys
  have hwd := Cd.modL_wd hs.len hz
  have K := rpmul_calls q p n c m d xs ys zs hz (by omega) (by omega) w hs hy
  have HM : Hid (Cd.wd n zs = Cd.modL xs ys ∧ IsN zs (Pol.mul (ofL xs) (ofL ys))) := ⟨hwd, hz⟩
  clear hs hy hz hwd
  go_enter Tryz.func36, Tryz.ntmps36
  go_wp2_with fail
  refine K.mono ?_
  rintro e w1 ⟨v, rfl, hO, hb⟩
  clear K
  obtain ⟨l, hl⟩ : ∃ l, zs.length = l := ⟨_, rfl⟩
  obtain ⟨q1, c1, rfl, S1, C1, -⟩ := hO.tell (n := l) HM.out.2.byt hl
  have HS : Hid (Bs w1 q1 l zs ∧ Below w.heap.size w w1) := ⟨S1, hb⟩
  clear hO hb S1 C1 hl
  go_wp2
  go_loopw [6, 7] (fun o i wr => ∃ t : Nat, t ≤ n ∧ i = .int .i64 (t : Int) ∧ Ow wr w1.heap.size o (Cd.wd t zs) ∧ Below w1.heap.size w1 wr) (fun _ i _ => n - (intOf i).toNat)
  case atStart => exact ⟨0, by omega, rfl, ow_nil _ _, Below.refl _ _⟩
  case round =>
    obtain ⟨t, ht, rfl, hO, hB⟩ := hrel
    by_cases hlt : t < n
    · have hi : (t : Int) < (n : Int) := by omega
      have KC := rcoef_calls q1 l c1 zs (t : Int) wr (HS.out.1.below hB)
      rw [cof_nat] at KC
      have hws := wd_succ t zs
      obtain ⟨x, hx⟩ : ∃ x, zs.getD t 0 = x := ⟨_, rfl⟩
      rw [hx] at KC hws
      have hlu : (Cd.wd t zs).length ≤ 1000000000 := by rw [Cd.wd_length]; omega
      obtain ⟨vs, hvs⟩ : ∃ vs, Cd.wd t zs = vs := ⟨_, rfl⟩
      rw [hvs] at hO hlu hws
      obtain ⟨g, cg, W', hap, hO', hbw⟩ := run_append_one wr w1.heap.size _ vs x hO hlu hB.size
      obtain ⟨L, hL⟩ : ∃ L, (vs ++ [x]).length = L := ⟨_, rfl⟩
      rw [hL] at hap hO'
      have ha1 := ap_ok hap
      have ha2 := ap_v hap
      have ha3 := ap_w hap
      have HZ : Hid (Ow W' w1.heap.size (.slice (some ⟨g, 0, none⟩) L cg) (Cd.wd (t + 1) zs) ∧ Below w1.heap.size w1 W') := ⟨by rw [hws]; exact hO', hB.trans (hbw _ (Nat.le_refl _))⟩
      clear hO' hbw hap hL hO hx hvs hws hlu hB
      go_wp2_with fail
      refine KC.mono ?_
      rintro e w6 ⟨rfl, hw⟩
      subst hw
      clear KC
      go_wp2
      go_roundw
      case rel => exact ⟨t + 1, by omega, by go_num, HZ.out⟩
      case measure => simp [intOf]; omega
    · obtain rfl : t = n := by omega
      have HZ : Hid (Ow wr w.heap.size u6 (Cd.modL xs ys) ∧ Below w.heap.size w wr) := ⟨by rw [← HM.out.1]; exact hO.mono HS.out.2.size, HS.out.2.trans (hB.mono HS.out.2.size)⟩
      clear hO hB
      go_wp2
      go_ret
      exact ⟨_, rfl, HZ.out⟩
end Go.Proofs
