/- Texts laid together: CdL, Known10, CdX. Each says its own conditions. -/
import Derived.Test.YtjnkkokhkooegaaGreatNW
import Derived.Test.YtjnkkokhkooegaaGreatNA
import Derived.Test.YtjnkkokhkooegaaGreatMO
import Derived.Test.YtjnkkokhkooegaaGreatMG
/- The walks of the laws' Code and Word: a code of choices, and a list as long as its words. Conditions: bytes; a code. -/
namespace Go.Proofs
open Go.RowKit Go.ChangeShapes Go.WideShapes

/-- The code of choices. -/
def ckN (n k : Nat) : Nat := if n % 32 = 31 then 30 + k % 40 else 2 + n % 21
def ckK (n k : Nat) : Nat := 1 + k % (ckN n k - 1)
def ckB (b : Nat) : Nat := b % 255
theorem ckN_le (n k : Nat) : 2 ≤ ckN n k ∧ ckN n k ≤ 69 := by unfold ckN; split <;> omega
theorem ck_cod (n k b : Nat) : Cod (ckN n k) (ckK n k) (ckB b) := by
  have h := ckN_le n k
  have h2 : k % (ckN n k - 1) < ckN n k - 1 := Nat.mod_lt _ (by omega)
  exact ⟨by unfold ckK; omega, by unfold ckK; omega, by omega, by unfold ckB; omega⟩
theorem load3c {W : World} {B : Nat} {v0 v1 v2 : Value} (h0 : W.cell? ⟨B, 0, none⟩ = some v0) (h1 : W.cell? ⟨B, 1, none⟩ = some v1) (h2 : W.cell? ⟨B, 2, none⟩ = some v2) : (loadVar 26 ⟨B, 0, none⟩).run Tryz.prog W = .ok (.agg #[v0, v1, v2]) W := by
  have hl := run_loadCells_list (P := Tryz.prog) W ⟨B, 0, none⟩ [v0, v1, v2] (fun j v hj => by
    have hadd : (⟨B, 0, none⟩ : Addr).add j = ⟨B, j, none⟩ := by unfold Addr.add; split <;> simp_all
    rw [hadd]
    match j, hj with
    | 0, hj => rw [h0]; exact hj
    | 1, hj => rw [h1]; exact hj
    | 2, hj => rw [h2]; exact hj)
  have ha : (isAgg 26).run Tryz.prog W = .ok true W := Tryz.isAgg26 W
  have hl' : (loadCells ⟨B, 0, none⟩ 3).run Tryz.prog W = .ok #[v0, v1, v2] W := hl
  simp [loadVar, Sem.run_bind, ha, hl']

set_option maxRecDepth 100000 in
set_option maxHeartbeats 1000000 in
theorem lcode_calls (n k b : Nat) (hn : n < 256) (hk : k < 256) (hb : b < 256) (w : World) :
    Calls Tryz.prog 9 #[.int .u8 (n : Nat), .int .u8 (k : Nat), .int .u8 (b : Nat)] w fun e w' => e = .returned (.agg #[.int .i64 (ckN n k : Nat), .int .i64 (ckK n k : Nat), .int .i64 (ckB b : Nat)]) ∧ Below w.heap.size w w' := by
  have hb1 : (b : Int).tmod 255 = (ckB b : Nat) := by rw [Int.tmod_eq_emod_of_nonneg (by omega)]; unfold ckB; omega
  obtain ⟨B, hB⟩ : ∃ B, ckB b = B := ⟨_, rfl⟩
  have hle := ckN_le n k
  obtain ⟨N, hN⟩ : ∃ N, ckN n k = N := ⟨_, rfl⟩
  have hKq : ckK n k = 1 + k % (N - 1) := by unfold ckK; rw [hN]
  obtain ⟨M, hM⟩ : ∃ M, N - 1 = M := ⟨_, rfl⟩
  obtain ⟨r, hr⟩ : ∃ r, k % M = r := ⟨_, rfl⟩
  obtain ⟨K, hK⟩ : ∃ K, ckK n k = K := ⟨_, rfl⟩
  rw [hB] at hb1
  rw [hN] at hle
  have hM1 : (N : Int) - 1 = (M : Int) := by omega
  have hr1 : (k : Int) % (M : Int) = (r : Int) := by rw [← hr]; exact (Int.natCast_emod k M).symm
  have hr2 : (k : Int).tmod (M : Int) = (r : Int) := by rw [Int.tmod_eq_emod_of_nonneg (by omega)]; exact hr1
  have hMp : 0 < M := by omega
  have hMz : ((M : Int) == 0) = false := by simp; omega
  have hMz2 : ((M : Int) = 0) = False := eq_false (by omega)
  have hrl : r < M := by rw [← hr]; exact Nat.mod_lt _ hMp
  have hK1 : (1 : Int) + (r : Int) = (K : Int) := by rw [hM, hr] at hKq; omega
  have hwK : wrap64 (K : Int) = (K : Int) := by unfold wrap64; omega
  clear hMp hrl hMz2 hle
  have HX : Hid (∀ o o', Below w.heap.size w ((w.alloc o).alloc o')) := fun o o' => ((Below.refl _ w).alloc (Nat.le_refl _) _).alloc (by simp) _
  rw [hN, hK, hB]
  by_cases h31 : n % 32 = 31
  · have h1 : ((n : Int) % 32 == 31) = true := by simp; omega
    have hN1 : (30 : Int) + (k : Int) % 40 = (N : Int) := by unfold ckN at hN; rw [if_pos h31] at hN; omega
    clear hr hM hKq hN hK hB h31 hr1
    go_enter Tryz.func9, Tryz.ntmps9
    go_wp2
    exact bodyPost_ret (results_cell Tryz.results9 rfl (load3c (by simp [go_sem]) (by simp [go_sem]) (by simp [go_sem]))) rfl ⟨rfl, HX.out _ _⟩
  · have h1 : ((n : Int) % 32 == 31) = false := by simp; omega
    have hN1 : (2 : Int) + (n : Int) % 21 = (N : Int) := by unfold ckN at hN; rw [if_neg h31] at hN; omega
    clear hr hM hKq hN hK hB h31
    go_enter Tryz.func9, Tryz.ntmps9
    go_wp2
    exact bodyPost_ret (results_cell Tryz.results9 rfl (load3c (by simp [go_sem]) (by simp [go_sem]) (by simp [go_sem]))) rfl ⟨rfl, HX.out _ _⟩

theorem wd_eq (N : Nat) (xs : List Nat) : Cd.wd N xs = xs.take N ++ List.replicate (N - xs.length) 0 := by
  refine Mx.list_ext (by rw [Cd.wd_length]; simp; omega) fun i hi => ?_
  rw [Cd.wd_length] at hi
  rw [Cd.wd_at xs hi, Pol.getD_append]
  by_cases h : i < (xs.take N).length
  · rw [if_pos h]
    rw [List.length_take] at h
    simp [List.getD, hi]
  · rw [if_neg h]
    rw [List.length_take] at h
    rw [Mx.getD_out (by omega)]
    simp only [List.getD, List.getElem?_replicate]
    split <;> rfl
/-- copy into a fresh list of noughts. -/
theorem run_copy_word (W : World) (ty base G N n d : Nat) (sp : Option Addr) (xs : List Nat) (h : Ow W base (.slice (some ⟨G, 0, none⟩) N N) (List.replicate N 0)) (hs : Bs W sp n xs) :
    ∃ m : Nat, ∃ W', (Builtin.copy_ #[22, 22] ty #[.slice (some ⟨G, 0, none⟩) N N, .slice sp n d]).run Tryz.prog W = .ok (.int .i64 (m : Nat)) W' ∧ Ow W' base (.slice (some ⟨G, 0, none⟩) N N) (Cd.wd N xs) ∧ But (· = G) W W' := by
  have hl := hs.len
  rw [wd_eq, hl]
  by_cases h0 : min N n = 0
  · refine ⟨0, W, run_copy_none (P := Tryz.prog) W _ _ ty 5 (some ⟨G, 0, none⟩) sp N N n d Tryz.underlying22 (by kernel_rfl) (show min n N = 0 by omega), ?_, But.refl _ _⟩
    have e : xs.take N = [] := List.length_eq_zero_iff.1 (by rw [List.length_take, hl]; exact h0)
    rw [e, List.nil_append]
    rcases Nat.eq_zero_or_pos n with h1 | h1
    · subst h1; exact h
    · obtain rfl : N = 0 := by omega
      rw [Nat.zero_sub]; exact h
  · have hn0 : 0 < n := by omega
    obtain ⟨a, rfl, hla, _⟩ := hs.cell 0 hn0
    rcases h.2 with ⟨hx, _⟩ | ⟨g, cap', cur, hv, hbase, hg, hle, hmx, hsz, hcur⟩
    · cases hx
    · rw [List.length_replicate] at hv hle hcur
      cases hv
      rw [Nat.mul_one] at hsz hcur
      have hob : cur.toList = ob (List.replicate N 0) := by
        rw [← hcur]
        exact (List.take_of_length_le (by rw [Array.length_toList, hsz]; exact Nat.le_refl _)).symm
      have hll : (xs.take N).length = min N n := by rw [List.length_take, hl]
      have hrun := run_copy_row (P := Tryz.prog) W 22 22 ty 5 G 0 N N a n d cur 5 (ob (xs.take N)) Tryz.underlying22 (by kernel_rfl) hg (by rw [ob_length, hll]; exact Nat.min_comm _ _) (fun j v hj => by
          have hjl : j < (xs.take N).length := by rw [← ob_length (xs.take N)]; exact (List.getElem?_eq_some_iff.1 hj).1
          obtain ⟨a', e', _, hc'⟩ := hs.cell j (by omega)
          cases e'
          rw [ob_at _ j hjl] at hj
          have hjN : j < N := by omega
          have e2 : (xs.take N).getD j 0 = xs.getD j 0 := by simp [List.getD, hjN]
          rw [hc', ← hj, e2]) (by rw [ob_length, hll, hsz]; omega) (fun v hv => by
          simp only [ob] at hv
          obtain ⟨x, _, rfl⟩ := List.mem_map.1 hv
          rfl)
      have hcs : cur.toList.take 0 ++ ob (xs.take N) ++ cur.toList.drop (0 + (ob (xs.take N)).length) = ob (xs.take N ++ List.replicate (N - n) 0) := by
        rw [List.take_zero, List.nil_append, hob, ob_length, hll, Nat.zero_add, ob_append, ← ob_drop, List.drop_replicate]
        have e : N - min N n = N - n := by omega
        rw [e]
      rw [hcs] at hrun
      have hlen : (xs.take N ++ List.replicate (N - n) 0).length = N := by rw [List.length_append, hll, List.length_replicate]; omega
      refine ⟨_, _, hrun, ?_, ⟨rfl, rfl, rfl, by simp [World.setRow], fun k hk hne => setRow_other W G k _ (fun e => hne e)⟩⟩
      refine ⟨by rw [ob_length, Nat.mul_one], .inr ⟨G, N, _, ?_, hbase, setRow_heap W G cur _ _ _ hg, by rw [hlen]; exact Nat.le_refl _, by simpa using hmx, ?_, ?_⟩⟩
      · rw [hlen]
      · simp only [List.size_toArray]; rw [ob_length, hlen, Nat.mul_one]
      · rw [Nat.mul_one]; exact List.take_of_length_le (by rw [ob_length]; exact Nat.le_refl _)

set_option maxRecDepth 100000 in
set_option maxHeartbeats 1000000 in
theorem lword_calls (N n c : Nat) (K B : Int) (q : Option Addr) (xs : List Nat) (hN : N ≤ 1000) (w : World) (hs : Bs w q n xs) :
    Calls Tryz.prog 14 #[.agg #[.int .i64 (N : Nat), .int .i64 K, .int .i64 B], .slice q n c] w fun e w' => ∃ v, e = .returned v ∧ Ow w' w.heap.size v (Cd.wd N xs) ∧ Below w.heap.size w w' := by
  obtain ⟨P1, hP1⟩ : ∃ P1, w.alloc (.cells #[.int .i64 (N : Nat), .int .i64 K, .int .i64 B] 26) = P1 := ⟨_, rfl⟩
  have hb1 : Below w.heap.size w P1 := hP1 ▸ (Below.refl _ w).alloc (Nat.le_refl _) _
  have hC : Cb P1 w.heap.size (N : Nat) K B := by rw [← hP1]; exact cb_new w _ _ _
  obtain ⟨G, hG⟩ : ∃ G, P1.heap.size = G := ⟨_, rfl⟩
  obtain ⟨P2, hP2⟩ : ∃ P2, P1.alloc (.cells (madeCells #[.int .u8 0] N) 5) = P2 := ⟨_, rfl⟩
  have hb2 : Below P1.heap.size P1 P2 := hP2 ▸ (Below.refl _ P1).alloc (Nat.le_refl _) _
  have hO2 : Ow P2 w.heap.size (.slice (some ⟨G, 0, none⟩) N N) (List.replicate N 0) := by rw [← hP2, ← hG]; exact ow_made P1 hb1.size N (by omega)
  have hmk := make_bytes N (by omega)
  obtain ⟨m, W3, hcp, hO3, hb3⟩ := run_copy_word P2 3 w.heap.size G N n c q xs hO2 (hs.below (hb1.trans (hb2.mono hb1.size)))
  have HZ : Hid (Ow W3 w.heap.size (.slice (some ⟨G, 0, none⟩) N N) (Cd.wd N xs) ∧ Below w.heap.size w W3) := ⟨hO3, (hb1.trans (hb2.mono hb1.size)).trans (hb3.below (Nat.le_trans hb1.size hb2.size) (fun k hk => by have := hb1.size; omega))⟩
  clear hO2 hO3 hb1 hb2 hb3 hs
  have c0 := (hC).c0
  have c1 := (hC).c1
  have c2 := (hC).c2
  clear hC
  go_enter Tryz.func14, Tryz.ntmps14
  go_wp2
  go_ret
  exact ⟨_, rfl, HZ.out⟩
end Go.Proofs
/- The walk of the example of chapter 10 (known). No conditions. -/
namespace Go.Proofs
open Go.RowKit Go.ChangeShapes Go.WideShapes
open Pol (IsN Dg ofL Byt vl frL)
theorem cright_e (N K B r : Int) (hr : cdE N K B = r) (w : World) :
    Calls Tryz.prog 33 #[.agg #[.int .i64 N, .int .i64 K, .int .i64 B]] w fun e w' => e = .returned (.int .u16 r) ∧ Below w.heap.size w w' := by
  subst hr; exact cright_calls N K B w
theorem cspace_i (N K B r : Int) (hr : cdS N K B = r) (w : World) :
    Calls Tryz.prog 43 #[.agg #[.int .i64 N, .int .i64 K, .int .i64 B]] w fun e w' => e = .returned (.int .i64 r) ∧ Below w.heap.size w w' := by
  subst hr; exact cspace_calls N K B w

end Go.Proofs
/- What the laws of codes ask, each call a step from world to world: lists that are told lie apart from the field's table. Conditions: a code; a field that Of has made. -/
namespace Go.Proofs
open Go.RowKit Go.ChangeShapes Go.WideShapes
open Pol (IsN Dg ofL Byt vl frL)

/-- A list that is told, apart from T. -/
structure Tl (W : World) (T : Nat) (q : Option Addr) (n c : Nat) (xs : List Nat) : Prop where
  bs : Bs W q n xs
  le : n ≤ c
  off : Off T n q
theorem Tl.but {W W' : World} {T n c : Nat} {q : Option Addr} {xs : List Nat} (h : Tl W T q n c xs) (hb : But (· = T) W W') : Tl W' T q n c xs := ⟨h.bs.but hb h.off, h.le, h.off⟩
theorem Tl.below {W W' : World} {T n c : Nat} {q : Option Addr} {xs : List Nat} (h : Tl W T q n c xs) (hb : Below W.heap.size W W') : Tl W' T q n c xs := ⟨h.bs.below hb, h.le, h.off⟩
theorem Ow.tl {W : World} {base T n : Nat} {v : Value} {xs : List Nat} (h : Ow W base v xs) (hT : T < base) (hx : Byt xs) (hn : xs.length = n) : ∃ q c, v = .slice q n c ∧ Tl W T q n c xs := by
  obtain ⟨q, c, e, S, C, Q⟩ := h.tell hx hn
  exact ⟨q, c, e, S, C, Q T hT⟩


section
variable (k Bf T P N K B S : Nat) (w0 : World)
theorem Tc.lt {k Bf T R : Nat} {N K B : Int} {w W : World} (h : Tc k Bf T R N K B w W) : T < W.heap.size := h.tw.fd.lt
theorem kword (q : Option Addr) (n c : Nat) (xs : List Nat) (hN : N ≤ 1000) (W : World) (hW : Tc k Bf T P N K B w0 W) (hs : Tl W T q n c xs) :
    Calls Tryz.prog 14 #[.agg #[.int .i64 (N : Nat), .int .i64 (K : Nat), .int .i64 (B : Nat)], .slice q n c] W fun e w' => ∃ q c, e = .returned (.slice q N c) ∧ Tl w' T q N c (Cd.wd N xs) ∧ Tc k Bf T P N K B w0 w' ∧ But (· = T) W w' :=
  (lword_calls N n c (K : Int) (B : Int) q xs hN W hs.bs).mono fun e w' ⟨v, he, hO, hb⟩ => by
    obtain ⟨q, c, rfl, t⟩ := hO.tl hW.lt (Cd.wd_byt hs.bs.byt N) (Cd.wd_length N xs)
    exact ⟨q, c, he, t, hW.below hb, But.of_below hb⟩
end

/-! ## A word of choices -/
end Go.Proofs
