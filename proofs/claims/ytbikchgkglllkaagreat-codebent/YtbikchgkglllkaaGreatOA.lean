/- Texts laid together: CdL, Known10, CdX. Each says its own conditions. -/
import Derived.Test.YtbikchgkglllkaaGreatNW
import Derived.Test.YtbikchgkglllkaaGreatNC
import Derived.Test.YtbikchgkglllkaaGreatMR
import Derived.Test.YtbikchgkglllkaaGreatMG
import Derived.Test.YtbikchgkglllkaaGreatNZ
import Derived.Test.YtbikchgkglllkaaGreatMH
/- The walks of the laws' Code and Word: a code of choices, and a list as long as its words. Conditions: bytes; a code. -/
namespace Go.Proofs
open Go.RowKit Go.ChangeShapes Go.WideShapes

/-- The code of choices. -/
def ckN (n k : Nat) : Nat := if n % 32 = 31 then 30 + k % 40 else 2 + n % 21
def ckK (n k : Nat) : Nat := 1 + k % (ckN n k - 1)
def ckB (b : Nat) : Nat := b % 255
theorem ckN_le (n k : Nat) : 2 ≤ ckN n k ∧ ckN n k ≤ 69 := by unfold ckN; split <;> omega
theorem ck_cod (n k b : Nat) : Cod (ckN n k) (ckK n k) (ckB b) := by
  have h := ckN_le n k
  have h2 : k % (ckN n k - 1) < ckN n k - 1 := Nat.mod_lt _ (by omega)
  exact ⟨by unfold ckK; omega, by unfold ckK; omega, by omega, by unfold ckB; omega⟩
theorem mc_new (w : World) (v0 v1 v2 : Value) : Mb (w.alloc (.cells #[v0, v1, v2] 23)) w.heap.size v0 v1 v2 := ⟨by simp [go_sem], by simp [go_sem], by simp [go_sem]⟩
theorem load3c {W : World} {B : Nat} {v0 v1 v2 : Value} (h0 : W.cell? ⟨B, 0, none⟩ = some v0) (h1 : W.cell? ⟨B, 1, none⟩ = some v1) (h2 : W.cell? ⟨B, 2, none⟩ = some v2) : (loadVar 23 ⟨B, 0, none⟩).run Tryz.prog W = .ok (.agg #[v0, v1, v2]) W := by
  have hl := run_loadCells_list (P := Tryz.prog) W ⟨B, 0, none⟩ [v0, v1, v2] (fun j v hj => by
    have hadd : (⟨B, 0, none⟩ : Addr).add j = ⟨B, j, none⟩ := by unfold Addr.add; split <;> simp_all
    rw [hadd]
    match j, hj with
    | 0, hj => rw [h0]; exact hj
    | 1, hj => rw [h1]; exact hj
    | 2, hj => rw [h2]; exact hj)
  have ha : (isAgg 23).run Tryz.prog W = .ok true W := Tryz.isAgg23 W
  have hl' : (loadCells ⟨B, 0, none⟩ 3).run Tryz.prog W = .ok #[v0, v1, v2] W := hl
  simp [loadVar, Sem.run_bind, ha, hl']

set_option maxRecDepth 100000 in
set_option maxHeartbeats 1000000 in
theorem lcode_calls (n k b : Nat) (hn : n < 256) (hk : k < 256) (hb : b < 256) (w : World) :
    Calls Tryz.prog 11 #[.int .u8 (n : Nat), .int .u8 (k : Nat), .int .u8 (b : Nat)] w fun e w' => e = .returned (.agg #[.int .i64 (ckN n k : Nat), .int .i64 (ckK n k : Nat), .int .i64 (ckB b : Nat)]) ∧ Below w.heap.size w w' := by
  have hb1 : (b : Int).tmod 255 = (ckB b : Nat) := by rw [Int.tmod_eq_emod_of_nonneg (by omega)]; unfold ckB; omega
  obtain ⟨B, hB⟩ : ∃ B, ckB b = B := ⟨_, rfl⟩
  have hle := ckN_le n k
  obtain ⟨N, hN⟩ : ∃ N, ckN n k = N := ⟨_, rfl⟩
  have hKq : ckK n k = 1 + k % (N - 1) := by unfold ckK; rw [hN]
  obtain ⟨M, hM⟩ : ∃ M, N - 1 = M := ⟨_, rfl⟩
  obtain ⟨r, hr⟩ : ∃ r, k % M = r := ⟨_, rfl⟩
  obtain ⟨K, hK⟩ : ∃ K, ckK n k = K := ⟨_, rfl⟩
  rw [hB] at hb1
  rw [hN] at hle
  have hM1 : (N : Int) - 1 = (M : Int) := by omega
  have hr1 : (k : Int) % (M : Int) = (r : Int) := by rw [← hr]; exact (Int.natCast_emod k M).symm
  have hr2 : (k : Int).tmod (M : Int) = (r : Int) := by rw [Int.tmod_eq_emod_of_nonneg (by omega)]; exact hr1
  have hMp : 0 < M := by omega
  have hMz : ((M : Int) == 0) = false := by simp; omega
  have hMz2 : ((M : Int) = 0) = False := eq_false (by omega)
  have hrl : r < M := by rw [← hr]; exact Nat.mod_lt _ hMp
  have hK1 : (1 : Int) + (r : Int) = (K : Int) := by rw [hM, hr] at hKq; omega
  have hwK : wrap64 (K : Int) = (K : Int) := by unfold wrap64; omega
  clear hMp hrl hMz2 hle
  have HX : Hid (∀ o o', Below w.heap.size w ((w.alloc o).alloc o')) := fun o o' => ((Below.refl _ w).alloc (Nat.le_refl _) _).alloc (by simp) _
  rw [hN, hK, hB]
  by_cases h31 : n % 32 = 31
  · have h1 : ((n : Int) % 32 == 31) = true := by simp; omega
    have hN1 : (30 : Int) + (k : Int) % 40 = (N : Int) := by unfold ckN at hN; rw [if_pos h31] at hN; omega
    clear hr hM hKq hN hK hB h31 hr1
    go_enter Tryz.func11, Tryz.ntmps11
    go_wp2
    exact bodyPost_ret (results_cell Tryz.results11 rfl (load3c (by simp [go_sem]) (by simp [go_sem]) (by simp [go_sem]))) rfl ⟨rfl, HX.out _ _⟩
  · have h1 : ((n : Int) % 32 == 31) = false := by simp; omega
    have hN1 : (2 : Int) + (n : Int) % 21 = (N : Int) := by unfold ckN at hN; rw [if_neg h31] at hN; omega
    clear hr hM hKq hN hK hB h31
    go_enter Tryz.func11, Tryz.ntmps11
    go_wp2
    exact bodyPost_ret (results_cell Tryz.results11 rfl (load3c (by simp [go_sem]) (by simp [go_sem]) (by simp [go_sem]))) rfl ⟨rfl, HX.out _ _⟩

theorem wd_eq (N : Nat) (xs : List Nat) : Cd.wd N xs = xs.take N ++ List.replicate (N - xs.length) 0 := by
  refine Mx.list_ext (by rw [Cd.wd_length]; simp; omega) fun i hi => ?_
  rw [Cd.wd_length] at hi
  rw [Cd.wd_at xs hi, Pol.getD_append]
  by_cases h : i < (xs.take N).length
  · rw [if_pos h]
    rw [List.length_take] at h
    simp [List.getD, hi]
  · rw [if_neg h]
    rw [List.length_take] at h
    rw [Mx.getD_out (by omega)]
    simp only [List.getD, List.getElem?_replicate]
    split <;> rfl
/-- copy into a fresh list of noughts. -/
theorem run_copy_word (W : World) (ty base G N n d : Nat) (sp : Option Addr) (xs : List Nat) (h : Ow W base (.slice (some ⟨G, 0, none⟩) N N) (List.replicate N 0)) (hs : Bs W sp n xs) :
    ∃ m : Nat, ∃ W', (Builtin.copy_ #[24, 24] ty #[.slice (some ⟨G, 0, none⟩) N N, .slice sp n d]).run Tryz.prog W = .ok (.int .i64 (m : Nat)) W' ∧ Ow W' base (.slice (some ⟨G, 0, none⟩) N N) (Cd.wd N xs) ∧ But (· = G) W W' := by
  have hl := hs.len
  rw [wd_eq, hl]
  by_cases h0 : min N n = 0
  · refine ⟨0, W, run_copy_none (P := Tryz.prog) W _ _ ty 5 (some ⟨G, 0, none⟩) sp N N n d Tryz.underlying24 (by kernel_rfl) (show min n N = 0 by omega), ?_, But.refl _ _⟩
    have e : xs.take N = [] := List.length_eq_zero_iff.1 (by rw [List.length_take, hl]; exact h0)
    rw [e, List.nil_append]
    rcases Nat.eq_zero_or_pos n with h1 | h1
    · subst h1; exact h
    · obtain rfl : N = 0 := by omega
      rw [Nat.zero_sub]; exact h
  · have hn0 : 0 < n := by omega
    obtain ⟨a, rfl, hla, _⟩ := hs.cell 0 hn0
    rcases h.2 with ⟨hx, _⟩ | ⟨g, cap', cur, hv, hbase, hg, hle, hmx, hsz, hcur⟩
    · cases hx
    · rw [List.length_replicate] at hv hle hcur
      cases hv
      rw [Nat.mul_one] at hsz hcur
      have hob : cur.toList = ob (List.replicate N 0) := by
        rw [← hcur]
        exact (List.take_of_length_le (by rw [Array.length_toList, hsz]; exact Nat.le_refl _)).symm
      have hll : (xs.take N).length = min N n := by rw [List.length_take, hl]
      have hrun := run_copy_row (P := Tryz.prog) W 24 24 ty 5 G 0 N N a n d cur 5 (ob (xs.take N)) Tryz.underlying24 (by kernel_rfl) hg (by rw [ob_length, hll]; exact Nat.min_comm _ _) (fun j v hj => by
          have hjl : j < (xs.take N).length := by rw [← ob_length (xs.take N)]; exact (List.getElem?_eq_some_iff.1 hj).1
          obtain ⟨a', e', _, hc'⟩ := hs.cell j (by omega)
          cases e'
          rw [ob_at _ j hjl] at hj
          have hjN : j < N := by omega
          have e2 : (xs.take N).getD j 0 = xs.getD j 0 := by simp [List.getD, hjN]
          rw [hc', ← hj, e2]) (by rw [ob_length, hll, hsz]; omega) (fun v hv => by
          simp only [ob] at hv
          obtain ⟨x, _, rfl⟩ := List.mem_map.1 hv
          rfl)
      have hcs : cur.toList.take 0 ++ ob (xs.take N) ++ cur.toList.drop (0 + (ob (xs.take N)).length) = ob (xs.take N ++ List.replicate (N - n) 0) := by
        rw [List.take_zero, List.nil_append, hob, ob_length, hll, Nat.zero_add, ob_append, ← ob_drop, List.drop_replicate]
        have e : N - min N n = N - n := by omega
        rw [e]
      rw [hcs] at hrun
      have hlen : (xs.take N ++ List.replicate (N - n) 0).length = N := by rw [List.length_append, hll, List.length_replicate]; omega
      refine ⟨_, _, hrun, ?_, ⟨rfl, rfl, rfl, by simp [World.setRow], fun k hk hne => setRow_other W G k _ (fun e => hne e)⟩⟩
      refine ⟨by rw [ob_length, Nat.mul_one], .inr ⟨G, N, _, ?_, hbase, setRow_heap W G cur _ _ _ hg, by rw [hlen]; exact Nat.le_refl _, by simpa using hmx, ?_, ?_⟩⟩
      · rw [hlen]
      · simp only [List.size_toArray]; rw [ob_length, hlen, Nat.mul_one]
      · rw [Nat.mul_one]; exact List.take_of_length_le (by rw [ob_length]; exact Nat.le_refl _)

set_option maxRecDepth 100000 in
set_option maxHeartbeats 1000000 in
theorem lword_calls (N n c : Nat) (K B : Int) (q : Option Addr) (xs : List Nat) (hN : N ≤ 1000) (w : World) (hs : Bs w q n xs) :
    Calls Tryz.prog 14 #[.agg #[.int .i64 (N : Nat), .int .i64 K, .int .i64 B], .slice q n c] w fun e w' => ∃ v, e = .returned v ∧ Ow w' w.heap.size v (Cd.wd N xs) ∧ Below w.heap.size w w' := by
  obtain ⟨P1, hP1⟩ : ∃ P1, w.alloc (.cells #[.int .i64 (N : Nat), .int .i64 K, .int .i64 B] 23) = P1 := ⟨_, rfl⟩
  have hb1 : Below w.heap.size w P1 := hP1 ▸ (Below.refl _ w).alloc (Nat.le_refl _) _
  have hC : Cb P1 w.heap.size (N : Nat) K B := by rw [← hP1]; exact cb_new w _ _ _
  obtain ⟨G, hG⟩ : ∃ G, P1.heap.size = G := ⟨_, rfl⟩
  obtain ⟨P2, hP2⟩ : ∃ P2, P1.alloc (.cells (madeCells #[.int .u8 0] N) 5) = P2 := ⟨_, rfl⟩
  have hb2 : Below P1.heap.size P1 P2 := hP2 ▸ (Below.refl _ P1).alloc (Nat.le_refl _) _
  have hO2 : Ow P2 w.heap.size (.slice (some ⟨G, 0, none⟩) N N) (List.replicate N 0) := by rw [← hP2, ← hG]; exact ow_made P1 hb1.size N (by omega)
  have hmk := make_bytes N (by omega)
  obtain ⟨m, W3, hcp, hO3, hb3⟩ := run_copy_word P2 3 w.heap.size G N n c q xs hO2 (hs.below (hb1.trans (hb2.mono hb1.size)))
  have HZ : Hid (Ow W3 w.heap.size (.slice (some ⟨G, 0, none⟩) N N) (Cd.wd N xs) ∧ Below w.heap.size w W3) := ⟨hO3, (hb1.trans (hb2.mono hb1.size)).trans (hb3.below (Nat.le_trans hb1.size hb2.size) (fun k hk => by have := hb1.size; omega))⟩
  clear hO2 hO3 hb1 hb2 hb3 hs
  have c0 := (hC).c0
  have c1 := (hC).c1
  have c2 := (hC).c2
  clear hC
  go_enter Tryz.func14, Tryz.ntmps14
  go_wp2
  go_ret
  exact ⟨_, rfl, HZ.out⟩
end Go.Proofs
/- The walk of the example of chapter 10 (known). No conditions. -/
namespace Go.Proofs
open Go.RowKit Go.ChangeShapes Go.WideShapes
open Pol (IsN Dg ofL Byt vl frL)
theorem gen_02 : Cd.gen 0 2 = [2, 3, 1] := by
  unfold Cd.gen
  have e : Cd.rts 0 2 = [1, 2] := by decide +kernel
  rw [e, frL_12]
theorem is_0 : decide (Cd.IsW 4 2 0 [2, 3, 1, 0]) = true := by decide +kernel
theorem is_1 : decide (Cd.IsW 4 2 0 [2, 3, 1, 1]) = false := by decide +kernel
theorem cod_42 : Cod 4 2 0 := ⟨by decide, by decide, by decide, by decide⟩
theorem cright_e (N K B r : Int) (hr : cdE N K B = r) (w : World) :
    Calls Tryz.prog 15 #[.agg #[.int .i64 N, .int .i64 K, .int .i64 B]] w fun e w' => e = .returned (.int .u16 r) ∧ Below w.heap.size w w' := by
  subst hr; exact cright_calls N K B w
theorem cspace_i (N K B r : Int) (hr : cdS N K B = r) (w : World) :
    Calls Tryz.prog 16 #[.agg #[.int .i64 N, .int .i64 K, .int .i64 B]] w fun e w' => e = .returned (.int .i64 r) ∧ Below w.heap.size w w' := by
  subst hr; exact cspace_calls N K B w

set_option maxRecDepth 100000 in
set_option maxHeartbeats 2000000 in
theorem known10_calls (w : World) : Calls Tryz.prog 10 #[] w fun e w' => e = .returned (.bool true) ∧ Below w.heap.size w w' := by
  have HB : Below w.heap.size w w := Below.refl _ _
  have hnot : ∀ (x : Bool) (w : World), (Op.unary .not (.bool x)).run Tryz.prog w = .ok (.bool (!x)) w := fun _ _ => rfl
  go_enter Tryz.func10, Tryz.ntmps10
  go_wp2_with fail
  refine (fof_calls 2 (by decide) (by decide) _).mono ?_
  rintro e w1 ⟨B_f, T_f, rfl, HF_f, hb, hlB, hlT⟩
  have HL_f : w.heap.size ≤ T_f := Nat.le_trans HB.size hlT
  replace HB := HB.trans (hb.mono HB.size)
  clear hb hlB hlT
  go_wp2_with fail
  obtain ⟨P_c, hP_c⟩ : ∃ P, w1.heap.size = P := ⟨_, rfl⟩
  obtain ⟨w2, hw2⟩ : ∃ W, w1.alloc (.cells #[.int .i64 4, .int .i64 2, .int .i64 0] 23) = W := ⟨_, rfl⟩
  have hb : Below w1.heap.size w1 w2 := hw2 ▸ (Below.refl _ w1).alloc (Nat.le_refl _) _
  have N_c_f : ¬ P_c = T_f := by have := HF_f.lt; omega
  have M_c : Mb w2 P_c (.int .i64 4) (.int .i64 2) (.int .i64 0) := by rw [← hP_c, ← hw2]; exact mc_new w1 _ _ _
  replace HB := HB.trans (hb.mono HB.size)
  replace HF_f := HF_f.below hb
  clear hb
  rw [hw2, hP_c]
  have u_c0 := M_c.c0
  have u_c1 := M_c.c1
  have u_c2 := M_c.c2
  go_wp2_with fail
  refine (cgen_calls 2 B_f T_f 4 2 0 2 cod_42 rfl _ HF_f).mono ?_
  rintro e w3 ⟨v, rfl, hO, hF, hb⟩
  obtain ⟨q_g, c_g, rfl, S_g, C_g, hQ⟩ := hO.tell (n := 3) (by rw [gen_02]; exact byt_lit rfl) (by rw [gen_02]; rfl)
  clear hO
  have Q_g_f := hQ _ HF_f.lt
  clear hQ
  replace HB := HB.trans (hb.below HB.size (by rintro k rfl; exact HL_f))
  replace M_c := M_c.but hb N_c_f
  clear HF_f hb
  have HF_f := hF
  clear hF
  clear hP_c hw2 u_c0 u_c1 u_c2
  rw [gen_02] at S_g
  obtain ⟨P_y, hP_y⟩ : ∃ P, w3.heap.size = P := ⟨_, rfl⟩
  obtain ⟨w4, hw4⟩ : ∃ W, w3.alloc (.cells #[.int .u8 2, .int .u8 3, .int .u8 1] 5) = W := ⟨_, rfl⟩
  have hb : Below w3.heap.size w3 w4 := hw4 ▸ (Below.refl _ w3).alloc (Nat.le_refl _) _
  have Q_y_f : Off T_f 3 (some ⟨P_y, 0, none⟩) := off_at (by have := HF_f.lt; omega)
  have S_y : Bs w4 (some ⟨P_y, 0, none⟩) 3 [2, 3, 1] := by rw [← hw4, ← hP_y]; exact bs_lits w3 _ [2, 3, 1] _ 3 rfl (by first | rfl | simp) rfl rfl (by simp)
  replace HB := HB.trans (hb.mono HB.size)
  replace HF_f := HF_f.below hb
  replace S_g := S_g.below hb
  replace M_c := M_c.below hb
  clear hb
  go_wp2_with fail
  refine (same_calls q_g _ 3 c_g 3 [2, 3, 1] _ S_g S_y).mono ?_
  rintro e w5 ⟨rfl, hb⟩
  replace HB := HB.trans (hb.mono HB.size)
  replace HF_f := HF_f.below hb
  replace S_g := S_g.below hb
  replace S_y := S_y.below hb
  replace M_c := M_c.below hb
  clear hb
  clear hP_y hw4
  clear S_g S_y
  have u_c0 := M_c.c0
  have u_c1 := M_c.c1
  have u_c2 := M_c.c2
  go_wp2_with fail
  refine (cright_e 4 2 0 0 (by decide) _).mono ?_
  rintro e w6 ⟨rfl, hb⟩
  replace HB := HB.trans (hb.mono HB.size)
  replace HF_f := HF_f.below hb
  replace M_c := M_c.below hb
  clear hb
  clear u_c0 u_c1 u_c2
  have u_c0 := M_c.c0
  have u_c1 := M_c.c1
  have u_c2 := M_c.c2
  go_wp2_with fail
  refine (cright_e 4 4 0 10 (by decide) _).mono ?_
  rintro e w7 ⟨rfl, hb⟩
  replace HB := HB.trans (hb.mono HB.size)
  replace HF_f := HF_f.below hb
  replace M_c := M_c.below hb
  clear hb
  clear u_c0 u_c1 u_c2
  have u_c0 := M_c.c0
  have u_c1 := M_c.c1
  have u_c2 := M_c.c2
  go_wp2_with fail
  refine (cspace_i 4 2 0 2 (by decide) _).mono ?_
  rintro e w8 ⟨rfl, hb⟩
  replace HB := HB.trans (hb.mono HB.size)
  replace HF_f := HF_f.below hb
  replace M_c := M_c.below hb
  clear hb
  clear u_c0 u_c1 u_c2
  have u_c0 := M_c.c0
  have u_c1 := M_c.c1
  have u_c2 := M_c.c2
  obtain ⟨P_y, hP_y⟩ : ∃ P, w8.heap.size = P := ⟨_, rfl⟩
  obtain ⟨w9, hw9⟩ : ∃ W, w8.alloc (.cells #[.int .u8 2, .int .u8 3, .int .u8 1, .int .u8 0] 5) = W := ⟨_, rfl⟩
  have hb : Below w8.heap.size w8 w9 := hw9 ▸ (Below.refl _ w8).alloc (Nat.le_refl _) _
  have Q_y_f : Off T_f 4 (some ⟨P_y, 0, none⟩) := off_at (by have := HF_f.lt; omega)
  have S_y : Bs w9 (some ⟨P_y, 0, none⟩) 4 [2, 3, 1, 0] := by rw [← hw9, ← hP_y]; exact bs_lits w8 _ [2, 3, 1, 0] _ 4 rfl (by first | rfl | simp) rfl rfl (by simp)
  replace HB := HB.trans (hb.mono HB.size)
  replace HF_f := HF_f.below hb
  replace M_c := M_c.below hb
  clear hb
  go_wp2_with fail
  refine (chas_e 2 B_f T_f 4 2 0 2 4 4 _ [2, 3, 1, 0] true cod_42 rfl is_0 _ HF_f S_y Q_y_f).mono ?_
  rintro e w10 ⟨rfl, hF, hb⟩
  replace HB := HB.trans (hb.below HB.size (by rintro k rfl; exact HL_f))
  replace S_y := S_y.but hb Q_y_f
  replace M_c := M_c.but hb N_c_f
  clear HF_f hb
  have HF_f := hF
  clear hF
  clear u_c0 u_c1 u_c2 hP_y hw9
  clear S_y
  have u_c0 := M_c.c0
  have u_c1 := M_c.c1
  have u_c2 := M_c.c2
  obtain ⟨P_y, hP_y⟩ : ∃ P, w10.heap.size = P := ⟨_, rfl⟩
  obtain ⟨w11, hw11⟩ : ∃ W, w10.alloc (.cells #[.int .u8 2, .int .u8 3, .int .u8 1, .int .u8 1] 5) = W := ⟨_, rfl⟩
  have hb : Below w10.heap.size w10 w11 := hw11 ▸ (Below.refl _ w10).alloc (Nat.le_refl _) _
  have Q_y_f : Off T_f 4 (some ⟨P_y, 0, none⟩) := off_at (by have := HF_f.lt; omega)
  have S_y : Bs w11 (some ⟨P_y, 0, none⟩) 4 [2, 3, 1, 1] := by rw [← hw11, ← hP_y]; exact bs_lits w10 _ [2, 3, 1, 1] _ 4 rfl (by first | rfl | simp) rfl rfl (by simp)
  replace HB := HB.trans (hb.mono HB.size)
  replace HF_f := HF_f.below hb
  replace M_c := M_c.below hb
  clear hb
  go_wp2_with fail
  refine (chas_e 2 B_f T_f 4 2 0 2 4 4 _ [2, 3, 1, 1] false cod_42 rfl is_1 _ HF_f S_y Q_y_f).mono ?_
  rintro e w12 ⟨rfl, hF, hb⟩
  replace HB := HB.trans (hb.below HB.size (by rintro k rfl; exact HL_f))
  replace S_y := S_y.but hb Q_y_f
  replace M_c := M_c.but hb N_c_f
  clear HF_f hb
  have HF_f := hF
  clear hF
  clear u_c0 u_c1 u_c2 hP_y hw11
  go_wp2
  go_ret
  exact ⟨rfl, HB⟩
end Go.Proofs
/- What the laws of codes ask, each call a step from world to world: lists that are told lie apart from the field's table. Conditions: a code; a field that Of has made. -/
namespace Go.Proofs
open Go.RowKit Go.ChangeShapes Go.WideShapes
open Pol (IsN Dg ofL Byt vl frL)

/-- A list that is told, apart from T. -/
structure Tl (W : World) (T : Nat) (q : Option Addr) (n c : Nat) (xs : List Nat) : Prop where
  bs : Bs W q n xs
  le : n ≤ c
  off : Off T n q
theorem Tl.but {W W' : World} {T n c : Nat} {q : Option Addr} {xs : List Nat} (h : Tl W T q n c xs) (hb : But (· = T) W W') : Tl W' T q n c xs := ⟨h.bs.but hb h.off, h.le, h.off⟩
theorem Tl.below {W W' : World} {T n c : Nat} {q : Option Addr} {xs : List Nat} (h : Tl W T q n c xs) (hb : Below W.heap.size W W') : Tl W' T q n c xs := ⟨h.bs.below hb, h.le, h.off⟩
theorem Ow.tl {W : World} {base T n : Nat} {v : Value} {xs : List Nat} (h : Ow W base v xs) (hT : T < base) (hx : Byt xs) (hn : xs.length = n) : ∃ q c, v = .slice q n c ∧ Tl W T q n c xs := by
  obtain ⟨q, c, e, S, C, Q⟩ := h.tell hx hn
  exact ⟨q, c, e, S, C, Q T hT⟩

set_option maxRecDepth 100000 in
set_option maxHeartbeats 1000000 in
/-- Cut of a list however long, at a place that is no great one. -/
theorem pcut_anyz (q : Option Addr) (n c : Nat) (xs zs : List Nat) (k : Int) (hz : IsN zs (Pol.cut k.toNat (ofL xs))) (hk : k ≤ 1000000) (hnc : n ≤ c) (w : World) (hs : Bs w q n xs) :
    Calls Tryz.prog 21 #[.slice q n c, .int .i64 k] w fun e w' => ∃ v, e = .returned v ∧ Ow w' w.heap.size v zs ∧ Below w.heap.size w w' := by
  obtain ⟨t, ht⟩ : ∃ t : Nat, min k.toNat n = t := ⟨_, rfl⟩
  have e1 : Pol.cut k.toNat (ofL xs) = ofL (xs.take t) := by
    rw [Pol.ofL_take]
    funext i
    unfold Pol.cut
    have hb := Pol.ofL_bd xs i
    rw [hs.len] at hb
    by_cases h1 : i < k.toNat
    · by_cases h2 : i < n
      · rw [if_pos h1, if_pos (by omega)]
      · rw [if_pos h1, if_neg (by omega), hb (by omega)]
    · rw [if_neg h1, if_neg (by omega)]
  rw [e1] at hz
  have K := pnorm_calls q t c (xs.take t) zs hz (by omega) (by omega) w (bs_take hs t (by omega))
  have hm : (if (n : Int) < (if k < 0 then 0 else k) then (n : Int) else (if k < 0 then 0 else k)) = (t : Int) := by split <;> split <;> omega
  have hi : (t : Int) ≤ (c : Int) := by omega
  clear hs hz e1 hk
  go_enter Tryz.func21, Tryz.ntmps21
  go_wp2_with (go_at_call 47; refine K.mono ?_; rintro e w1 ⟨v, rfl, hO, hb⟩)
  all_goals
    go_ret
    exact ⟨_, rfl, hO, hb⟩
theorem pcut_any (q : Option Addr) (n c : Nat) (xs zs : List Nat) (k : Nat) (hz : IsN zs (Pol.cut k (ofL xs))) (hk : k ≤ 1000000) (hnc : n ≤ c) (w : World) (hs : Bs w q n xs) :
    Calls Tryz.prog 21 #[.slice q n c, .int .i64 (k : Nat)] w fun e w' => ∃ v, e = .returned v ∧ Ow w' w.heap.size v zs ∧ Below w.heap.size w w' :=
  pcut_anyz q n c xs zs (k : Int) hz (by omega) hnc w hs

section
variable (k Bf T P N K B S : Nat) (w0 : World)
theorem Tc.lt {k Bf T R : Nat} {N K B : Int} {w W : World} (h : Tc k Bf T R N K B w W) : T < W.heap.size := h.tw.fd.lt
theorem kgen (h : Cod N K B) (hS : N - K = S) (W : World) (hW : Tc k Bf T P N K B w0 W) :
    Calls Tryz.prog 19 #[.pointer (some ⟨Bf, 0, none⟩), .agg #[.int .i64 (N : Nat), .int .i64 (K : Nat), .int .i64 (B : Nat)]] W fun e w' => ∃ q c, e = .returned (.slice q (S + 1) c) ∧ Tl w' T q (S + 1) c (Cd.gen B S) ∧ Tc k Bf T P N K B w0 w' ∧ But (· = T) W w' :=
  (cgen_calls k Bf T N K B S h hS W hW.tw.fd).mono fun e w' ⟨v, he, hO, hF, hb⟩ => by
    obtain ⟨q, c, rfl, t⟩ := hO.tl hW.lt (Cd.gen_isN B S).byt (Cd.gen_length B S)
    exact ⟨q, c, he, t, hW.next hF hb, hb⟩
theorem kcut (q : Option Addr) (n c m : Nat) (xs zs : List Nat) (hK : K ≤ 1000000) (hz : IsN zs (Pol.cut K (ofL xs))) (hm : zs.length = m) (W : World) (hW : Tc k Bf T P N K B w0 W) (hs : Tl W T q n c xs) :
    Calls Tryz.prog 21 #[.slice q n c, .int .i64 (K : Nat)] W fun e w' => ∃ q c, e = .returned (.slice q m c) ∧ Tl w' T q m c zs ∧ Tc k Bf T P N K B w0 w' ∧ But (· = T) W w' :=
  (pcut_any q n c xs zs K hz hK hs.le W hs.bs).mono fun e w' ⟨v, he, hO, hb⟩ => by
    obtain ⟨q, c, rfl, t⟩ := hO.tl hW.lt hz.byt hm
    exact ⟨q, c, he, t, hW.below hb, But.of_below hb⟩
theorem kmul (q p : Option Addr) (n c m d l : Nat) (xs ys zs : List Nat) (hz : IsN zs (Pol.mul (ofL xs) (ofL ys))) (hl : zs.length = l) (hn : n ≤ 100000000) (hm : m ≤ 100000000) (W : World) (hW : Tc k Bf T P N K B w0 W) (hx : Tl W T q n c xs) (hy : Tl W T p m d ys) :
    Calls Tryz.prog 20 #[.pointer (some ⟨Bf, 0, none⟩), .slice q n c, .slice p m d] W fun e w' => ∃ q c, e = .returned (.slice q l c) ∧ Tl w' T q l c zs ∧ Tc k Bf T P N K B w0 w' ∧ But (· = T) W w' :=
  (pmul_calls k Bf T n c m d q p xs ys zs hz hn hm hx.le hy.le W hW.tw.fd hx.bs hy.bs hx.off hy.off).mono fun e w' ⟨v, he, hO, hF, hb⟩ => by
    obtain ⟨q, c, rfl, t⟩ := hO.tl hW.lt hz.byt hl
    exact ⟨q, c, he, t, hW.next hF hb, hb⟩
theorem kword (q : Option Addr) (n c : Nat) (xs : List Nat) (hN : N ≤ 1000) (W : World) (hW : Tc k Bf T P N K B w0 W) (hs : Tl W T q n c xs) :
    Calls Tryz.prog 14 #[.agg #[.int .i64 (N : Nat), .int .i64 (K : Nat), .int .i64 (B : Nat)], .slice q n c] W fun e w' => ∃ q c, e = .returned (.slice q N c) ∧ Tl w' T q N c (Cd.wd N xs) ∧ Tc k Bf T P N K B w0 w' ∧ But (· = T) W w' :=
  (lword_calls N n c (K : Int) (B : Int) q xs hN W hs.bs).mono fun e w' ⟨v, he, hO, hb⟩ => by
    obtain ⟨q, c, rfl, t⟩ := hO.tl hW.lt (Cd.wd_byt hs.bs.byt N) (Cd.wd_length N xs)
    exact ⟨q, c, he, t, hW.below hb, But.of_below hb⟩
theorem kknown (W : World) (hW : Tc k Bf T P N K B w0 W) :
    Calls Tryz.prog 10 #[] W fun e w' => e = .returned (.bool true) ∧ Tc k Bf T P N K B w0 w' ∧ But (· = T) W w' :=
  (known10_calls W).mono fun _ _ ⟨he, hb⟩ => ⟨he, hW.below hb, But.of_below hb⟩
theorem kspace (h : Cod N K B) (hS : N - K = S) (W : World) (hW : Tc k Bf T P N K B w0 W) :
    Calls Tryz.prog 16 #[.agg #[.int .i64 (N : Nat), .int .i64 (K : Nat), .int .i64 (B : Nat)]] W fun e w' => e = .returned (.int .i64 (S : Nat)) ∧ Tc k Bf T P N K B w0 w' ∧ But (· = T) W w' :=
  (cspace_e N K B S h hS W).mono fun _ _ ⟨he, hb⟩ => ⟨he, hW.below hb, But.of_below hb⟩
theorem kdeg (q : Option Addr) (n c d : Nat) (xs : List Nat) (hd : Dg d (ofL xs)) (W : World) (hW : Tc k Bf T P N K B w0 W) (hs : Tl W T q n c xs) :
    Calls Tryz.prog 27 #[.slice q n c] W fun e w' => e = .returned (.int .i64 ((d : Int) - 1)) ∧ Tc k Bf T P N K B w0 w' ∧ But (· = T) W w' :=
  (pdeg_calls q n c xs d hd W hs.bs).mono fun _ _ ⟨he, hb⟩ => ⟨he, hW.below hb, But.of_below hb⟩
theorem khas (q : Option Addr) (n c : Nat) (xs : List Nat) (b : Bool) (h : Cod N K B) (hS : N - K = S) (hb : decide (Cd.IsW N S B xs) = b) (W : World) (hW : Tc k Bf T P N K B w0 W) (hs : Tl W T q n c xs) :
    Calls Tryz.prog 24 #[.pointer (some ⟨Bf, 0, none⟩), .agg #[.int .i64 (N : Nat), .int .i64 (K : Nat), .int .i64 (B : Nat)], .slice q n c] W fun e w' => e = .returned (.bool b) ∧ Tc k Bf T P N K B w0 w' ∧ But (· = T) W w' :=
  (chas_e k Bf T N K B S n c q xs b h hS hb W hW.tw.fd hs.bs hs.off).mono fun _ _ ⟨he, hF, hb⟩ => ⟨he, hW.next hF hb, hb⟩
end

/-! ## A word of choices -/
/-- Of any list: the front that is a message, its product with the generator, the word. -/
structure WF (N K B S : Nat) (xs : List Nat) (cs zs : List Nat) (m l d : Nat) : Prop where
  cut : IsN cs (Pol.cut K (ofL xs))
  cl : cs.length = m
  mul : IsN zs (Pol.mul (ofL (Cd.gen B S)) (ofL cs))
  zl : zs.length = l
  mK : m ≤ K
  lN : l ≤ N
  isW : Cd.IsW N S B (Cd.wd N zs)
  deg : Dg d (ofL cs)
  nz : Cd.nz (Cd.wd N zs) = 0 ↔ d = 0
theorem wf_exists {N K B S : Nat} (h : Cod N K B) (hS : N - K = S) (xs : List Nat) : ∃ cs zs m l d, WF N K B S xs cs zs m l d := by
  have hK := h.k
  have hN := h.n
  obtain ⟨cs, hc, hcl⟩ : ∃ cs, IsN cs (Pol.cut K (ofL xs)) ∧ cs.length ≤ K := Pol.isN_of_bd (n := K) (fun i hi => by unfold Pol.cut; rw [if_neg (by omega)])
  obtain ⟨zs, hz, -⟩ := Pol.isN_mul (Cd.gen B S) cs
  have hzl := Cd.mul_length hz hcl (show S + K = N by omega) hK
  obtain ⟨d, hd⟩ := (Pol.Fin.ofL cs).dg
  refine ⟨cs, zs, _, _, d, hc, rfl, hz, rfl, hcl, hzl, Cd.isW_mul hz hzl, hd, ?_⟩
  have hbz : Pol.Bd N (ofL zs) := (Pol.ofL_bd zs).mono_le hzl
  rw [Cd.nz_zero]
  constructor
  · intro h0
    have e : ofL zs = Pol.zero := by
      rw [← Cd.ofL_wd hbz]
      funext i
      show GF.of _ = 0
      rw [h0 i]; rfl
    rw [hz.eq] at e
    rcases Pol.mul_zero_of (Pol.Fin.ofL _) (Pol.Fin.ofL _) e with e1 | e1
    · have hg : IsN (Cd.gen B S) Pol.zero := e1 ▸ (⟨(Cd.gen_isN B S).nrm, (Cd.gen_isN B S).byt, rfl⟩ : IsN (Cd.gen B S) (ofL (Cd.gen B S)))
      have := Cd.gen_length B S
      rw [Pol.isN_zero hg] at this
      cases this
    · cases d with
      | zero => rfl
      | succ d => exact absurd e1 hd.ne_zero
  · rintro rfl i
    have e1 : ofL cs = Pol.zero := hd.eq_zero
    rw [e1, Pol.mul_zero] at hz
    have e2 := Pol.isN_zero hz
    rw [e2]
    by_cases hi : i < N
    · rw [Cd.wd_at _ hi]; rfl
    · exact Mx.getD_out (by rw [Cd.wd_length]; omega)
/-- How many of the first are not nought. -/
def nzK (ws : List Nat) (i : Nat) : Nat := Cd.nz (ws.take i)
theorem nzK_zero (ws : List Nat) : nzK ws 0 = 0 := rfl
theorem nzK_succ (ws : List Nat) (i : Nat) (h : i < ws.length) : nzK ws (i + 1) = nzK ws i + (if ws.getD i 0 = 0 then 0 else 1) := by
  unfold nzK Cd.nz
  have e : ws.take (i + 1) = ws.take i ++ [ws.getD i 0] := Pol.take_snoc' ws i h
  rw [e, List.filter_append, List.length_append]
  congr 1
  by_cases h0 : ws.getD i 0 = 0
  · rw [if_pos h0, h0]; rfl
  · rw [if_neg h0]
    rw [List.filter_cons_of_pos (p := fun x => x != 0) (bne_iff_ne.2 h0)]; rfl
theorem nzK_le (ws : List Nat) (i : Nat) : nzK ws i ≤ i := by
  unfold nzK Cd.nz
  exact Nat.le_trans (List.length_filter_le _ _) (by rw [List.length_take]; omega)
theorem nzK_all (ws : List Nat) (n : Nat) (h : ws.length = n) : nzK ws n = Cd.nz ws := by unfold nzK; rw [List.take_of_length_le (by omega)]
end Go.Proofs
