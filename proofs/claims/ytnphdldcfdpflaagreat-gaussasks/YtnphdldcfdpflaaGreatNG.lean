/- Texts laid together: LOf, LThin. Each says its own conditions. -/
import Derived.Deep.RegionHeld3
import Derived.Test.YtnphdldcfdpflaaGreatNC
import Derived.Test.YtnphdldcfdpflaaGreatMO
import Derived.Test.YtnphdldcfdpflaaGreatMC
import Derived.Test.YtnphdldcfdpflaaGreatMG
/- The walks of the laws' matrices of choices: erratumlaw08.Of and erratumlaw09.thin. Conditions: no more than 100 rows and columns; a list of bytes of at most a million. -/
namespace Go.Proofs
open Go.RowKit Go.ChangeShapes Go.WideShapes
open Mx (chL chA chB mx)
open Pol (Byt ofL)
attribute [local go_sem ↓ high] builtin_ap
attribute [local go_sem] ap_sem

set_option maxRecDepth 100000 in
set_option maxHeartbeats 4000000 in
theorem lof_calls (R C n c : Nat) (q : Option Addr) (xs : List Nat) (hR : R ≤ 100) (hC : C ≤ 100) (hn : n ≤ 1000000) (w : World) (hs : Bs w q n xs) :
    Calls Tryz.prog 12 #[.slice q n c, .int .i64 (R : Nat), .int .i64 (C : Nat)] w fun e w' => ∃ v, e = .returned (.agg #[.int .i64 (R : Nat), .int .i64 (C : Nat), v]) ∧ Ow w' w.heap.size v (chL xs (R * C)) ∧ Below w.heap.size w w' := by
  obtain ⟨A, hA⟩ : ∃ A, w.heap.size = A := ⟨_, rfl⟩
  obtain ⟨m, hm⟩ : ∃ m, R * C = m := ⟨_, rfl⟩
  have hm9 : m ≤ 10000 := by rw [← hm]; exact Nat.mul_le_mul hR hC
  have e1 : (R : Int) * (C : Int) = (m : Int) := by rw [← hm]; exact (Int.natCast_mul R C).symm
  obtain ⟨P1, hP1⟩ : ∃ P1, w.alloc (.cells #[.int .i64 0, .int .i64 0, .slice none 0 0] 24) = P1 := ⟨_, rfl⟩
  obtain ⟨P2, hP2⟩ : ∃ P2, P1.alloc (.cells #[.int .i64 (R : Nat), .int .i64 (C : Nat), .slice none 0 0] 24) = P2 := ⟨_, rfl⟩
  have hs1 : P1.heap.size = A + 1 := by rw [← hP1, ← hA]; simp
  have HP : Hid (Z3 P2 A ∧ Mb P2 (A + 1) (.int .i64 (R : Nat)) (.int .i64 (C : Nat)) (.slice none 0 0) ∧ Below A w P2 ∧ P2.heap.size = A + 2 ∧ P2.frozen? ⟨A + 1, 2, none⟩ = false) := by
    have h1 := z3_new w
    rw [hP1, hA] at h1
    have h2 := mb_new P1 (.int .i64 (R : Nat)) (.int .i64 (C : Nat)) (.slice none 0 0)
    rw [hs1, hP2] at h2
    exact ⟨h1.below (hP2 ▸ (Below.refl _ _).alloc (Nat.le_refl _) _), h2, by rw [← hP2, ← hP1, ← hA]; exact ((Below.refl _ w).alloc (Nat.le_refl _) _).alloc (by simp) _, by rw [← hP2]; simp [hs1], by rw [← hP2, ← hs1]; simp [go_sem]⟩
  have HS : Hid (Bs w q n xs ∧ R * C = m) := ⟨hs, hm⟩
  have HPP : Hid ((w.alloc (.cells #[.int .i64 0, .int .i64 0, .slice none 0 0] 24)).alloc (.cells #[.int .i64 (R : Nat), .int .i64 (C : Nat), .slice none 0 0] 24) = P2) := by rw [← hP2, ← hP1]; rfl
  rw [hm]
  clear hs hm hP1 hP2
  go_enter Tryz.func12, Tryz.ntmps12
  go_wp2
  rw [HPP.out]
  clear HPP
  go_loopw [8] (fun i wr => ∃ (k : Nat) (v : Value), k ≤ m ∧ i = .int .i64 (k : Int) ∧ Ow wr (A + 2) v (chL xs k) ∧ Mb wr (A + 1) (.int .i64 (R : Nat)) (.int .i64 (C : Nat)) v ∧ Z3 wr A ∧ Below A w wr ∧ wr.frozen? ⟨A + 1, 2, none⟩ = false ∧ A + 2 ≤ wr.heap.size) (fun i _ => m - (intOf i).toNat)
  case atStart => exact ⟨0, .slice none 0 0, by omega, rfl, ow_nil _ _, HP.out.2.1, HP.out.1, HP.out.2.2.1, HP.out.2.2.2.2, by rw [HP.out.2.2.2.1]; exact Nat.le_refl _⟩
  case round =>
    obtain ⟨k, v, hk, rfl, hO, hM, hZ, hB, hfz, hsz⟩ := hrel
    clear HP
    by_cases hlt : k < m
    · have hki : (k : Int) < (m : Int) := by omega
      obtain ⟨z, hz⟩ : ∃ z, chB xs k = z := ⟨_, rfl⟩
      have step : Hid (∀ nq, ∃ g c' W', (Builtin.append_ #[22, 22] 22 #[v, .slice (some ⟨wr.heap.size, 0, none⟩) 1 1]).run Tryz.prog ((wr.drewN nq).alloc (.cells #[.int .u8 (z : Nat)] 5)) = .ok (.slice (some ⟨g, 0, none⟩) (k + 1) c') W' ∧ W'.cell? ⟨A + 1, 2, none⟩ = some v ∧ W'.frozen? ⟨A + 1, 2, none⟩ = false ∧
          Hid (Ow (W'.setCell ⟨A + 1, 2, none⟩ (.slice (some ⟨g, 0, none⟩) (k + 1) c')) (A + 2) (.slice (some ⟨g, 0, none⟩) (k + 1) c') (chL xs (k + 1)) ∧ Mb (W'.setCell ⟨A + 1, 2, none⟩ (.slice (some ⟨g, 0, none⟩) (k + 1) c')) (A + 1) (.int .i64 (R : Nat)) (.int .i64 (C : Nat)) (.slice (some ⟨g, 0, none⟩) (k + 1) c') ∧ Z3 (W'.setCell ⟨A + 1, 2, none⟩ (.slice (some ⟨g, 0, none⟩) (k + 1) c')) A ∧ Below A w (W'.setCell ⟨A + 1, 2, none⟩ (.slice (some ⟨g, 0, none⟩) (k + 1) c')) ∧ (W'.setCell ⟨A + 1, 2, none⟩ (.slice (some ⟨g, 0, none⟩) (k + 1) c')).frozen? ⟨A + 1, 2, none⟩ = false ∧ A + 2 ≤ (W'.setCell ⟨A + 1, 2, none⟩ (.slice (some ⟨g, 0, none⟩) (k + 1) c')).heap.size)) := fun nq => by
        have hb5 : Below wr.heap.size wr (wr.drewN nq) := Below.drewN (Below.refl _ wr) nq
        obtain ⟨g, c', W', hap, hO', hb'⟩ := run_append_one (wr.drewN nq) (A + 2) v (chL xs k) z (hO.below hb5) (by rw [Mx.chL_length]; omega) hsz
        rw [← hz, ← Mx.chL_succ, Mx.chL_length, hz] at hap
        rw [← hz, ← Mx.chL_succ, Mx.chL_length] at hO'
        have hbA := hb' (A + 2) (Nat.le_refl _)
        have hbk : But (fun x => A + 2 ≤ x) (wr.drewN nq) W' := ⟨hbA.os, hbA.tape, hbA.output, hbA.size, fun i _ hs => hbA.block i (by omega)⟩
        have hM5 := (hM.below hb5).but hbk (by omega)
        have hs1 := hM5.blt
        have hset : But (· = A + 1) W' (W'.setCell ⟨A + 1, 2, none⟩ (.slice (some ⟨g, 0, none⟩) (k + 1) c')) := (But.refl (· = A + 1) W').setCell (p := ⟨A + 1, 2, none⟩) (.inl rfl) _
        have hfz' : W'.frozen? ⟨A + 1, 2, none⟩ = false := (hbk.frozen (p := ⟨A + 1, 2, none⟩) (hM.below hb5).blt (by show ¬ A + 2 ≤ A + 1; omega)).trans hfz
        have c2 := hM5.c2
        refine ⟨g, c', W', hap, c2, hfz', hO'.block fun i hi => hset.block i (hO'.lt i hi).2 (by have := (hO'.lt i hi).1; omega), ⟨?_, ?_, ?_⟩, ((hZ.below hb5).but hbk (by omega)).but hset (by omega), ?_, ?_, ?_⟩
        · exact (World.cell?_setCell_other _ _ _ _ (by intro c; cases c)).trans hM5.c0
        · exact (World.cell?_setCell_other _ _ _ _ (by intro c; cases c)).trans hM5.c1
        · simp [go_sem, c2]
        · have h1 : Below A w (wr.drewN nq) := hB.trans (hb5.mono (by omega))
          have h2 : Below A (wr.drewN nq) W' := hbA.mono (by omega)
          have h3 := h1.trans h2
          exact h3.trans (hset.below (by omega) (fun k hk => by omega))
        · rw [World.frozen?_setCell]; exact hfz'
        · have := hset.size; omega
      have hBs := HS.out.1.below (hA.symm ▸ hB)
      by_cases h0 : n = 0
      · obtain rfl : z = 0 := by
          have e : chA xs k = 0 := by unfold chA; rw [if_pos (by rw [HS.out.1.len]; exact h0)]
          rw [← hz]; unfold chB; rw [e]; rfl
        obtain ⟨g, c', W', hap, cw, fw, HN⟩ := step.out 0
        have e0 : wr.drewN 0 = wr := rfl
        rw [e0, show ((0 : Nat) : Int) = 0 from rfl] at hap
        have ha1 := ap_ok hap
        have ha2 := ap_v hap
        have ha3 := ap_w hap
        have hn1 : ((0 : Int) < (n : Int)) = False := eq_false (by omega)
        have hn2 : (0 < n) = False := eq_false (by omega)
        have b0 := (hM).c0
        have b1 := (hM).c1
        have b2 := (hM).c2
        clear hO hM hZ hB hfz hsz step hap hBs h0 hz
        go_wp2
        go_roundw
        case rel => exact ⟨k + 1, _, by omega, by go_num, HN.out⟩
        case measure => simp [intOf]; omega
      · have hn0 : 0 < n := by omega
        have hni : (0 : Int) < (n : Int) := by omega
        obtain ⟨r, hr⟩ : ∃ r, k % n = r := ⟨_, rfl⟩
        obtain ⟨d, hd⟩ : ∃ d, k / n = d := ⟨_, rfl⟩
        have hrn : r < n := hr ▸ Nat.mod_lt _ hn0
        obtain ⟨a, rfl, _, ca⟩ := hBs.cell r hrn
        obtain ⟨x, hx⟩ : ∃ x, xs.getD r 0 = x := ⟨_, rfl⟩
        have hxl : x < 256 := hx ▸ HS.out.1.byte r
        rw [hx] at ca
        have hri : (r : Int) < (n : Int) := by omega
        have r1 : (k : Int).tmod (n : Int) = (r : Int) := by rw [← hr]; exact Int.tmod_eq_emod_of_nonneg (by omega)
        have r2 : (k : Int).tdiv (n : Int) = (d : Int) := by rw [← hd]; exact Int.tdiv_eq_ediv_of_nonneg (by omega)
        have hdk : d ≤ 10000 := by have := Nat.div_le_self k n; omega
        obtain ⟨p, hp⟩ : ∃ p, d * k = p := ⟨_, rfl⟩
        have hp8 : p ≤ 100000000 := by rw [← hp]; exact Nat.mul_le_mul hdk (show k ≤ 10000 by omega)
        have r3 : (d : Int) * (k : Int) = (p : Int) := by rw [← hp]; exact (Int.natCast_mul d k).symm
        obtain ⟨p2, hp2⟩ : ∃ p2, p % 256 = p2 := ⟨_, rfl⟩
        have r4 : (p : Int) % 256 = (p2 : Int) := by omega
        have hp2l : p2 < 256 := by omega
        have r5 := u8_xor_nat x p2 hxl hp2l
        obtain ⟨y, hy⟩ : ∃ y, x ^^^ p2 = y := ⟨_, rfl⟩
        have hyl : y < 256 := hy ▸ Gf.xor_lt8 hxl hp2l
        rw [hy] at r5
        have hzy : z = if y % 5 = 4 then 0 else y := by
          have e : chA xs k = y := by
            unfold chA
            rw [if_neg (by rw [HS.out.1.len]; exact h0), HS.out.1.len, hr, hd, hp, hp2, hx, hy]
          rw [← hz]; unfold chB; rw [e]
        have HZ : Hid (z = if y % 5 = 4 then 0 else y) := hzy
        have b0 := (hM).c0
        have b1 := (hM).c1
        have b2 := (hM).c2
        clear hO hM hZ hB hfz hsz hBs h0 hz hr hd hx hp hp2 hy hzy
        go_wp2
        go_quiet (fail)
        obtain ⟨g, c', W', hap, cw, fw, HN⟩ := step.out nq
        have ha1 := ap_ok hap
        have ha2 := ap_v hap
        have ha3 := ap_w hap
        clear step hap ca r1 r2 r3 r4 r5
        by_cases h4 : y % 5 = 4
        · have e4 : (y : Int) % 5 = 4 := by omega
          have hz0 := HZ.out
          rw [if_pos h4] at hz0
          subst hz0
          rw [show ((0 : Nat) : Int) = 0 from rfl] at ha1 ha2 ha3
          clear h4
          go_wp2
          go_roundw
          case rel => exact ⟨k + 1, _, by omega, by go_num, HN.out⟩
          case measure => simp [intOf]; omega
        · have e4 : ((y : Int) % 5 == 4) = false := by simp; omega
          have hz0 := HZ.out
          rw [if_neg h4] at hz0
          subst hz0
          clear h4
          go_wp2
          go_roundw
          case rel => exact ⟨k + 1, _, by omega, by go_num, HN.out⟩
          case measure => simp [intOf]; omega
    · obtain rfl : k = m := by omega
      obtain ⟨q9, m9, c9, rfl⟩ : ∃ q m c, v = .slice q m c := by
        rcases hO.shape with ⟨rfl, _⟩ | ⟨g, c, rfl, _⟩
        · exact ⟨_, _, _, rfl⟩
        · exact ⟨_, _, _, rfl⟩
      have HZ : Hid (Z3 wr A ∧ Ow wr (A + 2) (.slice q9 m9 c9) (chL xs k) ∧ Below A w wr) := ⟨hZ, hO, hB⟩
      have b0 := (hM).c0
      have b1 := (hM).c1
      have b2 := (hM).c2
      have z0 := (hZ).c0
      have z1 := (hZ).c1
      have z2 := (hZ).c2
      have f0 := hZ.f0
      have f1 := hZ.f1
      have f2 := hZ.f2
      clear hO hM hZ hB hfz hsz
      go_wp2
      have hbt := but_set3 wr A (.int .i64 (R : Nat)) (.int .i64 (C : Nat)) (.slice q9 m9 c9)
      subst hA
      exact bodyPost_ret (results_cell Tryz.results12 rfl (load_set3 HZ.out.1 _ _ _)) rfl ⟨_, rfl, (HZ.out.2.1.block fun i hi => hbt.block i (HZ.out.2.1.lt i hi).2 (by have := (HZ.out.2.1.lt i hi).1; omega)).mono (by omega), HZ.out.2.2.trans (hbt.below HZ.out.2.2.size (fun k hk => by omega))⟩
end Go.Proofs
/- The walk of erratumlaw09.thin. Conditions: no more than 100 rows and columns; a list of bytes of at most a million. -/
namespace Go.Proofs
open Go.RowKit Go.ChangeShapes Go.WideShapes
open Mx (chL chA chB mx thL thI thR thJ thS)
open Pol (Byt ofL)

set_option maxRecDepth 100000 in
set_option maxHeartbeats 4000000 in
theorem lthin_calls (R C n c b : Nat) (q : Option Addr) (xs : List Nat) (hR : R ≤ 100) (hC : C ≤ 100) (hn : n ≤ 1000000) (hbl : b < 256) (w : World) (hs : Bs w q n xs) :
    Calls Tryz.prog 11 #[.slice q n c, .int .i64 (R : Nat), .int .i64 (C : Nat), .int .u8 (b : Nat)] w fun e w' => ∃ v, e = .returned (.agg #[.int .i64 (R : Nat), .int .i64 (C : Nat), v]) ∧ Ow w' w.heap.size v (thL xs R C b) ∧ Below w.heap.size w w' := by
  obtain ⟨A, hA⟩ : ∃ A, w.heap.size = A := ⟨_, rfl⟩
  obtain ⟨P1, hP1⟩ : ∃ P1, w.alloc (.cells #[.int .i64 0, .int .i64 0, .slice none 0 0] 24) = P1 := ⟨_, rfl⟩
  have hs1 : P1.heap.size = A + 1 := by rw [← hP1, ← hA]; simp
  have HP : Hid (Z3 P1 A ∧ Below A w P1) := by
    have h1 := z3_new w
    rw [hP1, hA] at h1
    exact ⟨h1, by rw [← hP1, ← hA]; exact (Below.refl _ w).alloc (Nat.le_refl _) _⟩
  have K1 := lof_calls R C n c q xs hR hC hn P1 (hs.below (hA.symm ▸ HP.out.2))
  have HX : Hid (Byt xs) := hs.byte
  clear hs
  go_enter Tryz.func11, Tryz.ntmps11
  go_wp2_with fail
  refine K1.mono ?_
  rintro e w1 ⟨v, rfl, hO, hb1⟩
  clear K1
  obtain ⟨m, hm⟩ : ∃ m, R * C = m := ⟨_, rfl⟩
  have hm9 : m ≤ 10000 := by rw [← hm]; exact Nat.mul_le_mul hR hC
  obtain ⟨qv, cv, rfl, S1, C1, -⟩ := hO.tell (n := m) (Mx.chL_byt HX.out _) (by rw [Mx.chL_length, hm])
  obtain ⟨X, hX⟩ : ∃ X, w1.heap.size = X := ⟨_, rfl⟩
  obtain ⟨W2, hW2⟩ : ∃ W2, w1.alloc (.cells #[.int .i64 (R : Nat), .int .i64 (C : Nat), .slice qv m cv] 24) = W2 := ⟨_, rfl⟩
  have HT : Hid (Z3 W2 A ∧ Below A w W2 ∧ Mb W2 X (.int .i64 (R : Nat)) (.int .i64 (C : Nat)) (.slice qv m cv) ∧ Ow W2 (A + 1) (.slice qv m cv) (chL xs (R * C)) ∧ R * C = m ∧ A < X ∧ (∀ k, (Value.slice qv m cv).ownBlock = some k → k < X) ∧ X < W2.heap.size) := by
    have h1 : Below w1.heap.size w1 W2 := hW2 ▸ (Below.refl _ w1).alloc (Nat.le_refl _) _
    have h2 := hb1.trans (h1.mono hb1.size)
    have hz := hb1.size
    refine ⟨HP.out.1.below h2, HP.out.2.trans (h2.mono (by omega)), ?_, by rw [← hs1]; exact hO.below h1, hm, by omega, fun k hk => hX ▸ (hO.lt k hk).2, ?_⟩
    · rw [← hX, ← hW2]; exact mb_new w1 _ _ _
    · rw [← hX, ← hW2]; simp
  clear hO hb1 S1 hm
  have HPP : Hid (w1.alloc (.cells #[.int .i64 (R : Nat), .int .i64 (C : Nat), .slice qv m cv] 24) = W2) := hW2
  clear hW2 hP1
  go_wp2
  rw [HPP.out]
  clear HPP
  go_loopw [10] (fun i wr => ∃ t : Nat, i = .int .i64 ((t + 2 : Nat) : Int) ∧ (t + 2 ≤ R ∨ t = 0) ∧ Ow wr (A + 1) (.slice qv m cv) (thI C b (chL xs (R * C)) t) ∧ But (fun k => (Value.slice qv m cv).ownBlock = some k) W2 wr) (fun i _ => 100 - (intOf i).toNat)
  case atStart => exact ⟨0, rfl, .inr rfl, HT.out.2.2.2.1, But.refl _ _⟩
  case round =>
    obtain ⟨t, rfl, htR, hO, hB⟩ := hrel
    obtain ⟨W3, hW3⟩ : ∃ W3, W3 = wr := ⟨_, rfl⟩
    subst hW3
    obtain ⟨i, hi⟩ : ∃ i, t + 2 = i := ⟨_, rfl⟩
    rw [hi]
    by_cases hlt : i < R
    · have hii : (i : Int) < (R : Int) := by omega
      obtain ⟨us, hus⟩ : ∃ us, thI C b (chL xs (R * C)) t = us := ⟨_, rfl⟩
      rw [hus] at hO
      obtain ⟨e8, he8⟩ : ∃ e8, i % 8 = e8 := ⟨_, rfl⟩
      have r1 : (i : Int).tmod 8 = (e8 : Int) := by rw [← he8]; exact Int.tmod_eq_emod_of_nonneg (by omega)
      have r2 : e8 < 8 := by omega
      obtain ⟨bit, hbit⟩ : ∃ bit : Bool, decide (b / 2 ^ e8 % 2 = 1) = bit := ⟨_, rfl⟩
      have r3 : (((b : Int) / 2 ^ e8).tmod 2 == 1) = bit := by
        have e : ((b : Int) / 2 ^ e8) = ((b / 2 ^ e8 : Nat) : Int) := by simp
        rw [← hbit, e, Int.tmod_eq_emod_of_nonneg (Int.natCast_nonneg _), Bool.eq_iff_iff]
        simp only [beq_iff_eq, decide_eq_true_eq]; omega
      have HU : Hid (thI C b (chL xs (R * C)) t = us ∧ decide (b / 2 ^ (i % 8) % 2 = 1) = bit ∧ t + 2 = i ∧ us.length = m ∧ Byt us) := by
        refine ⟨hus, by rw [he8]; exact hbit, hi, ?_, ?_⟩
        · rw [← hus, Mx.thI_length, Mx.chL_length]; exact HT.out.2.2.2.2.1
        · rw [← hus]; exact Mx.thI_byt hbl (Mx.chL_byt HX.out _) _
      clear he8 hbit hus hi
      go_wp2
      go_loopw [11] (fun j wx => ∃ u : Nat, u ≤ C ∧ j = .int .i64 (u : Int) ∧ (u = 0 ∨ bit = true) ∧ Ow wx (A + 1) (.slice qv m cv) (thJ C b i us u) ∧ But (fun k => (Value.slice qv m cv).ownBlock = some k) W2 wx) (fun j _ => C - (intOf j).toNat)
      case atStart => exact ⟨0, by omega, rfl, .inl rfl, hO, hB⟩
      case round =>
        obtain ⟨u, hu, rfl, hus2, hO2, hB2⟩ := hrel
        have hm := HT.out.2.2.1.but hB2 (fun e => by have := HT.out.2.2.2.2.2.2.1 X e; omega)
        by_cases hlu : u < C ∧ bit = true
        · obtain ⟨hlu, rfl⟩ := hlu
          have hui : (u : Int) < (C : Int) := by omega
          obtain ⟨ys, hys⟩ : ∃ ys, thJ C b i us u = ys := ⟨_, rfl⟩
          rw [hys] at hO2
          have hyl : ys.length = m := by rw [← hys, Mx.thJ_length]; exact HU.out.2.2.2.1
          have hyb : Byt ys := by rw [← hys]; exact Mx.thJ_byt hbl HU.out.2.2.2.2 _
          obtain ⟨i1, hi1⟩ : ∃ i1, i1 + 1 = i := ⟨i - 1, by have := HU.out.2.2.1; omega⟩
          obtain ⟨o, ho⟩ : ∃ o, i * C = o := ⟨_, rfl⟩
          obtain ⟨o1, ho1⟩ : ∃ o, i1 * C = o := ⟨_, rfl⟩
          obtain ⟨s0, hs0⟩ : ∃ s, o + u = s := ⟨_, rfl⟩
          obtain ⟨s1, hs1'⟩ : ∃ s, o1 + u = s := ⟨_, rfl⟩
          have hs0m : s0 < m := by rw [← hs0, ← ho, ← HT.out.2.2.2.2.1]; exact Mx.cell_lt hlt hlu
          have ho1o : o1 + C = o := by rw [← ho1, ← ho, ← hi1, Nat.succ_mul]
          have hCo1 : C ≤ o1 := by
            rw [← ho1]
            have h2 : 1 ≤ i1 := by have := HU.out.2.2.1; omega
            calc C = 1 * C := (Nat.one_mul C).symm
              _ ≤ i1 * C := Nat.mul_le_mul_right _ h2
          have q1 : (i : Int) * (C : Int) = (o : Int) := by rw [← ho]; exact (Int.natCast_mul i C).symm
          have q2 : (i : Int) - 1 = (i1 : Int) := by omega
          have q3 : (i1 : Int) * (C : Int) = (o1 : Int) := by rw [← ho1]; exact (Int.natCast_mul i1 C).symm
          have q4 : (o : Int) + (u : Int) = (s0 : Int) := by omega
          have q5 : (o1 : Int) + (u : Int) = (s1 : Int) := by omega
          have q6 : (s0 : Int) < (m : Int) := by omega
          have q7 : (s1 : Int) < (m : Int) := by omega
          have q8 : (u : Int) < (m : Int) := by omega
          have q9 : o ≤ 10000 := by omega
          have p1 : s1 < m := by omega
          have p2 : u < m := by omega
          have p3 : i ≤ 100 := by omega
          have p4 : i1 ≤ 100 := by omega
          have q10 : o1 ≤ 10000 := by omega
          obtain ⟨g, rfl⟩ : ∃ g, qv = some ⟨g, 0, none⟩ := by
            rcases hO2.shape with ⟨e1, e2⟩ | ⟨g, c, e1, _⟩
            · rw [e2] at hyl; simp at hyl; omega
            · cases e1; exact ⟨g, rfl⟩
          have cu := (hO2.at hyl.symm u (by omega)).1
          have cs1 := (hO2.at hyl.symm s1 (by omega)).1
          obtain ⟨cs0, fs0⟩ := hO2.at hyl.symm s0 hs0m
          obtain ⟨x, hx⟩ : ∃ x, ys.getD u 0 = x := ⟨_, rfl⟩
          obtain ⟨y, hy⟩ : ∃ y, ys.getD s1 0 = y := ⟨_, rfl⟩
          obtain ⟨z, hz⟩ : ∃ z, Gf.mul b y = z := ⟨_, rfl⟩
          obtain ⟨x0, hx0⟩ : ∃ x, ys.getD s0 0 = x := ⟨_, rfl⟩
          have hxl : x < 256 := hx ▸ hyb u
          have hzl : z < 256 := hz ▸ Gf.mul_lt _ _ hbl
          have hxo := u8_xor_nat x z hxl hzl
          rw [hx] at cu
          rw [hy] at cs1
          rw [hx0] at cs0
          have K9 : Hid (∀ W, Calls Tryz.prog 26 #[.int .u8 (b : Nat), .int .u8 (y : Nat)] W fun e w' => e = .returned (.int .u8 (z : Nat)) ∧ w' = W) := fun W => by have := rmul_calls b y hbl W; rw [hz] at this; exact this
          have HN : Hid (Ow (wr.setCell ⟨g, s0, none⟩ (.int .u8 ((x ^^^ z : Nat) : Int))) (A + 1) (.slice (some ⟨g, 0, none⟩) m cv) (thJ C b i us (u + 1)) ∧ But (fun k => (Value.slice (some ⟨g, 0, none⟩) m cv).ownBlock = some k) W2 (wr.setCell ⟨g, s0, none⟩ (.int .u8 ((x ^^^ z : Nat) : Int)))) := by
            refine ⟨?_, hB2.setCell (p := ⟨g, s0, none⟩) (.inl rfl) _⟩
            show Ow _ _ _ (thS C b i u (thJ C b i us u))
            rw [hys]
            unfold thS
            rw [ho, hs0, hx, show i - 1 = i1 by omega, ho1, hs1', hy, hz]
            exact hO2.set hyl.symm s0 _
          have n3 : ¬ X = g := by have := HT.out.2.2.2.2.2.2.1 g rfl; omega
          have HK9 : Hid ((wr.setCell ⟨g, s0, none⟩ (.int .u8 ((x ^^^ z : Nat) : Int))).cell? ⟨X, 2, none⟩ = some (.slice (some ⟨g, 0, none⟩) m cv) ∧ (wr.setCell ⟨g, s0, none⟩ (.int .u8 ((x ^^^ z : Nat) : Int))).cell? ⟨g, u, none⟩ = some (.int .u8 (x : Nat)) ∧ (wr.setCell ⟨g, s0, none⟩ (.int .u8 ((x ^^^ z : Nat) : Int))).cell? ⟨g, s1, none⟩ = some (.int .u8 (y : Nat))) :=
            ⟨(World.cell?_setCell_other _ _ _ _ (by intro c; first | exact n3 (congrArg Addr.block c) | exact n3 (congrArg Addr.block c).symm)).trans hm.c2, (World.cell?_setCell_other _ _ _ _ (by intro c; cases c; omega)).trans cu, (World.cell?_setCell_other _ _ _ _ (by intro c; cases c; omega)).trans cs1⟩
          have v1 := wrap_nat o (by omega)
          have v2 := wrap_nat s0 (by omega)
          have v3 := wrap_nat i1 (by omega)
          have v4 := wrap_nat o1 (by omega)
          have v5 := wrap_nat s1 (by omega)
          have b0 := (hm).c0
          have b1 := (hm).c1
          have b2 := (hm).c2
          clear hm hO2 hB2 hx hy hz hx0 hys ho ho1 hs0 hs1' hi1 hyb hyl hus2 hO hB
          have n1 : ¬ u = s0 := by omega
          have n2 : ¬ s1 = s0 := by omega
          clear ho1o hCo1
          go_wp2
          go_region_held3 (fun w' => w'.cell? ⟨X, 2, none⟩ = some (.slice (some ⟨g, 0, none⟩) m cv) ∧ w'.cell? ⟨g, u, none⟩ = some (.int .u8 (x : Nat)) ∧ w'.cell? ⟨g, s1, none⟩ = some (.int .u8 (y : Nat)))
            (first | exact HK9.out | (go_keep; done))
            (first
              | (go_at_call 26; refine (K9.out _).mono ?_; rintro e w5 ⟨rfl, rfl⟩))
          clear K9 HK9 cu cs1 cs0 fs0 v1 v2 v3 v4 v5 q1 q2 q3 q4 q5 q6 q7 q8 q9 q10 hxo
          clear b0 b1 b2
          go_wp2
          go_roundw
          case rel => exact ⟨u + 1, by omega, by go_num, .inr trivial, HN.out.1.drew, HN.out.2.drew⟩
          case measure => simp [intOf]; omega
        · have hT : Ow wr (A + 1) (.slice qv m cv) (thI C b (chL xs (R * C)) (t + 1)) := by
            show Ow _ _ _ (thR C b (t + 2) (thI C b (chL xs (R * C)) t))
            rw [HU.out.1, HU.out.2.2.1]
            unfold thR
            have hd := HU.out.2.1
            by_cases hb : bit = true
            · rw [hb] at hd
              rw [if_pos (of_decide_eq_true hd)]
              obtain rfl : u = C := by
                have : ¬ u < C := fun h => hlu ⟨h, hb⟩
                omega
              exact hO2
            · rw [Bool.not_eq_true] at hb
              rw [hb] at hd
              rw [if_neg (of_decide_eq_false hd)]
              rcases hus2 with rfl | h
              · exact hO2
              · rw [hb] at h; cases h
          have HN : Hid (Ow wr (A + 1) (.slice qv m cv) (thI C b (chL xs (R * C)) (t + 1)) ∧ But (fun k => (Value.slice qv m cv).ownBlock = some k) W2 wr ∧ t + 2 = i ∧ i < R) := ⟨hT, hB2, HU.out.2.2.1, hlt⟩
          have hcase : (u : Int) < (C : Int) ∧ bit = false ∨ ¬ (u : Int) < (C : Int) := by
            by_cases h : u < C
            · refine .inl ⟨by omega, ?_⟩
              cases bit
              · rfl
              · exact absurd ⟨h, rfl⟩ hlu
            · exact .inr (by omega)
          clear hT hO2 hB2 hm hlu hus2 hO hB
          rcases hcase with ⟨h1, rfl⟩ | h1
          all_goals
            go_wp2
            go_roundw
            case rel => exact ⟨t + 1, by have := HN.out.2.2.1; go_num, .inl (by have := HN.out.2.2; omega), HN.out.1, HN.out.2.1⟩
            case measure => simp [intOf]; omega
    · have hTe : thL xs R C b = thI C b (chL xs (R * C)) t := by
        unfold thL
        congr 1; omega
      have hm := HT.out.2.2.1.but hB (fun e => by have := HT.out.2.2.2.2.2.2.1 X e; omega)
      have HZ : Hid (Z3 W3 A ∧ Ow W3 (A + 1) (.slice qv m cv) (thL xs R C b) ∧ Below A w W3) := by
        refine ⟨HT.out.1.but hB (fun e => by have := (hO.lt A e).1; omega), by rw [hTe]; exact hO, ?_⟩
        have h2 := HT.out.2.1
        have h3 := h2.size
        exact h2.trans (hB.below (by omega) (fun k hk => by have := (hO.lt k hk).1; omega))
      have hni : ¬ (i : Int) < (R : Int) := by omega
      clear hO hB hTe
      have b0 := (hm).c0
      have b1 := (hm).c1
      have b2 := (hm).c2
      have z0 := (HZ.out.1).c0
      have z1 := (HZ.out.1).c1
      have z2 := (HZ.out.1).c2
      have f0 := HZ.out.1.f0
      have f1 := HZ.out.1.f1
      have f2 := HZ.out.1.f2
      go_wp2
      have hbt := but_set3 W3 A (.int .i64 (R : Nat)) (.int .i64 (C : Nat)) (.slice qv m cv)
      subst hA
      exact bodyPost_ret (results_cell Tryz.results11 rfl (load_set3 HZ.out.1 _ _ _)) rfl ⟨_, rfl, (HZ.out.2.1.block fun i hi => hbt.block i (HZ.out.2.1.lt i hi).2 (by have := (HZ.out.2.1.lt i hi).1; omega)).mono (by omega), HZ.out.2.2.trans (hbt.below HZ.out.2.2.size (fun k hk => by omega))⟩
end Go.Proofs
