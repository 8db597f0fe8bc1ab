/- The walk of check.Answer of a right code, and of lists as long as it says. Conditions: lists of its length. -/
import Derived.Test.YtjnkkokhkooegaaGreatPU
import Derived.Test.YtjnkkokhkooegaaGreatOF
namespace Go.Proofs
open Go.RowKit Go.ChangeShapes Go.WideShapes
open Pol (Byt)

/-- A box of an answer, new. -/
structure An0 (W : World) (B : Nat) : Prop where
  c0 : W.cell? ⟨B, 0, none⟩ = some (.slice none 0 0)
  c1 : W.cell? ⟨B, 1, none⟩ = some (.slice none 0 0)
  c2 : W.cell? ⟨B, 2, none⟩ = some (.slice none 0 0)
  f0 : W.frozen? ⟨B, 0, none⟩ = false
  f1 : W.frozen? ⟨B, 1, none⟩ = false
  f2 : W.frozen? ⟨B, 2, none⟩ = false
theorem An0.blt {W : World} {B : Nat} (h : An0 W B) : B < W.heap.size := World.block_lt_of_cell? _ _ h.c0
theorem An0.below {W W' : World} {B : Nat} (h : An0 W B) (hb : Below W.heap.size W W') : An0 W' B := by
  have hB := hb.block B h.blt
  have hf : ∀ i, W'.frozen? ⟨B, i, none⟩ = W.frozen? ⟨B, i, none⟩ := fun i => by unfold World.frozen?; simp only [hB]
  exact ⟨(hb.cell (p := ⟨B, 0, none⟩) h.blt).trans h.c0, (hb.cell (p := ⟨B, 1, none⟩) h.blt).trans h.c1, (hb.cell (p := ⟨B, 2, none⟩) h.blt).trans h.c2, (hf 0).trans h.f0, (hf 1).trans h.f1, (hf 2).trans h.f2⟩
theorem an0_new (w : World) : An0 (w.alloc (.cells #[.slice none 0 0, .slice none 0 0, .slice none 0 0] 47)) w.heap.size := ⟨by simp [go_sem], by simp [go_sem], by simp [go_sem], by simp [go_sem], by simp [go_sem], by simp [go_sem]⟩
theorem load3a {W : World} {B : Nat} {v0 v1 v2 : Value} (h0 : W.cell? ⟨B, 0, none⟩ = some v0) (h1 : W.cell? ⟨B, 1, none⟩ = some v1) (h2 : W.cell? ⟨B, 2, none⟩ = some v2) : (loadVar 47 ⟨B, 0, none⟩).run Tryz.prog W = .ok (.agg #[v0, v1, v2]) W := by
  have hl := run_loadCells_list (P := Tryz.prog) W ⟨B, 0, none⟩ [v0, v1, v2] (fun j v hj => by
    have hadd : (⟨B, 0, none⟩ : Addr).add j = ⟨B, j, none⟩ := by unfold Addr.add; split <;> simp_all
    rw [hadd]
    match j, hj with
    | 0, hj => rw [h0]; exact hj
    | 1, hj => rw [h1]; exact hj
    | 2, hj => rw [h2]; exact hj)
  have ha : (isAgg 47).run Tryz.prog W = .ok true W := Tryz.isAgg47 W
  have hl' : (loadCells ⟨B, 0, none⟩ 3).run Tryz.prog W = .ok #[v0, v1, v2] W := hl
  simp [loadVar, Sem.run_bind, ha, hl']
theorem load_seta {W : World} {B : Nat} (h : An0 W B) (v0 v1 v2 : Value) :
    (loadVar 47 ⟨B, 0, none⟩).run Tryz.prog (((W.setCell ⟨B, 0, none⟩ v0).setCell ⟨B, 1, none⟩ v1).setCell ⟨B, 2, none⟩ v2) = .ok (.agg #[v0, v1, v2]) (((W.setCell ⟨B, 0, none⟩ v0).setCell ⟨B, 1, none⟩ v1).setCell ⟨B, 2, none⟩ v2) := by
  have h0 := h.c0
  have h1 := h.c1
  have h2 := h.c2
  exact load3a (by simp [go_sem, h0]) (by simp [go_sem, h1]) (by simp [go_sem, h2])
theorem but_seta (W : World) (B : Nat) (v0 v1 v2 : Value) : But (· = B) W (((W.setCell ⟨B, 0, none⟩ v0).setCell ⟨B, 1, none⟩ v1).setCell ⟨B, 2, none⟩ v2) :=
  (((But.refl (· = B) W).setCell (p := ⟨B, 0, none⟩) (.inl rfl) v0).setCell (p := ⟨B, 1, none⟩) (.inl rfl) v1).setCell (p := ⟨B, 2, none⟩) (.inl rfl) v2
theorem results_twoA {fn : Func} {p : Tmp} {ty : TypeId} {s : Tmp} (h : fn.results = #[.cell p ty, .tmp s]) {tmps : Array Value} {P : Program} {w : World} {a : Addr} {v : Value} (hp : tmps.getD p undef = .pointer (some a)) (hl : (loadVar ty a).run P w = .ok v w) :
    (results fn tmps).run P w = .ok (.tuple #[v, tmps.getD s undef]) w := by
  simp only [results, h]
  simp only [Array.getD_eq_getD_getElem?] at hp ⊢
  simp [hp, asAddr, hl]
set_option maxRecDepth 100000 in
set_option maxHeartbeats 2000000 in
theorem answer_ok (N K B S c d : Nat) (q p : Option Addr) (xs ws ms : List Nat) (h : Cod N K B) (hS : N - K = S) (hm : ws.drop S = ms) (hd : N ≤ d) (w : World) (hs : Bs w q N xs) (hy : Bs w p N ws) :
    Calls Tryz.prog 23 #[.agg #[.int .i64 (N : Nat), .int .i64 (K : Nat), .int .i64 (B : Nat)], .slice q N c, .slice p N d] w fun e w' => ∃ v0 v1 v2, e = .returned (.tuple #[.agg #[v0, v1, v2], .int .u16 0]) ∧ Ow w' w.heap.size v0 ws ∧ Ow w' w.heap.size v1 ms ∧ OwZ w' w.heap.size v2 ((Cd.ap xs ws).map fun i : Nat => (i : Int)) ∧ Below w.heap.size w w' := by
  obtain ⟨R, hR⟩ : ∃ R, w.heap.size = R := ⟨_, rfl⟩
  obtain ⟨W0, hW0⟩ : ∃ W0, (w.alloc (.cells #[.int .i64 (N : Nat), .int .i64 (K : Nat), .int .i64 (B : Nat)] 26)).alloc (.cells #[.slice none 0 0, .slice none 0 0, .slice none 0 0] 47) = W0 := ⟨_, rfl⟩
  have hb0 : Below R w W0 := by rw [← hW0, ← hR]; exact ((Below.refl _ w).alloc (Nat.le_refl _) _).alloc (by simp) _
  have hC : Cb W0 R (N : Nat) (K : Nat) (B : Nat) := by
    rw [← hW0, ← hR]
    exact (cb_new w _ _ _).below ((Below.refl _ _).alloc (Nat.le_refl _) _)
  have hA : An0 W0 (R + 1) := by
    have := an0_new (w.alloc (.cells #[.int .i64 (N : Nat), .int .i64 (K : Nat), .int .i64 (B : Nat)] 26))
    rw [hW0] at this
    simpa [hR] using this
  have hsz : W0.heap.size = R + 2 := by rw [← hW0, ← hR]; simp
  have K1 := eme_ok N K B S d p ws ms h hS hm hd W0 (hy.below (hR.symm ▸ hb0))
  have HS : Hid (Bs w q N xs ∧ Bs w p N ws ∧ Below R w W0 ∧ An0 W0 (R + 1) ∧ Cb W0 R (N : Nat) (K : Nat) (B : Nat) ∧ W0.heap.size = R + 2 ∧ N ≤ 255) := ⟨hs, hy, hb0, hA, hC, hsz, h.m⟩
  clear hs hy hb0 hA hsz h hS hm hd
  have c0 := (hC).c0
  have c1 := (hC).c1
  have c2 := (hC).c2
  clear hC
  go_enter Tryz.func23, Tryz.ntmps23
  go_wp2_with fail
  refine K1.mono ?_
  rintro e w1 ⟨v1, rfl, hO1, hb1⟩
  clear K1
  clear c0 c1 c2
  have H1 : Hid (Ow w1 (R + 2) v1 ms ∧ Below (R + 2) W0 w1) := ⟨HS.out.2.2.2.2.2.1 ▸ hO1, HS.out.2.2.2.2.2.1 ▸ hb1⟩
  have hC := HS.out.2.2.2.2.1.below hb1
  have hbw : Below w.heap.size w w1 := hR.symm ▸ HS.out.2.2.1.trans ((HS.out.2.2.2.2.2.1 ▸ hb1 : Below (R + 2) W0 w1).mono (by omega))
  have K2 := clone_calls p N d ws (by have := HS.out; omega) w1 (HS.out.2.1.below hbw)
  clear hO1 hb1 hbw
  have c0 := (hC).c0
  have c1 := (hC).c1
  have c2 := (hC).c2
  clear hC
  go_wp2_with fail
  refine K2.mono ?_
  rintro e w2 ⟨v0, rfl, hO2, hb2⟩
  clear K2
  clear c0 c1 c2
  have H2 : Hid (Ow w2 (R + 2) v0 ws ∧ Ow w2 (R + 2) v1 ms ∧ Below (R + 2) W0 w2) := ⟨hO2.mono (by rw [← HS.out.2.2.2.2.2.1]; exact H1.out.2.size), H1.out.1.below hb2, H1.out.2.trans (hb2.mono (by rw [← HS.out.2.2.2.2.2.1]; exact H1.out.2.size))⟩
  have hbw : Below w.heap.size w w2 := hR.symm ▸ HS.out.2.2.1.trans (H2.out.2.2.mono (by omega))
  have K3 := apart_calls q p N c N d xs ws (by have := HS.out; omega) w2 (HS.out.1.below hbw) (HS.out.2.1.below hbw)
  clear hO2 hb2 hbw H1
  go_wp2_with fail
  refine K3.mono ?_
  rintro e w3 ⟨v2, rfl, hO3, hb3⟩
  clear K3
  have H3 : Hid (Ow w3 (R + 2) v0 ws ∧ Ow w3 (R + 2) v1 ms ∧ OwZ w3 (R + 2) v2 ((Cd.ap xs ws).map fun i : Nat => (i : Int)) ∧ Below (R + 2) W0 w3) := ⟨H2.out.1.below hb3, H2.out.2.1.below hb3, OwV.mono hO3 (by rw [← HS.out.2.2.2.2.2.1]; exact H2.out.2.2.size), H2.out.2.2.trans (hb3.mono (by rw [← HS.out.2.2.2.2.2.1]; exact H2.out.2.2.size))⟩
  clear hO3 hb3 H2
  obtain ⟨a0, n0, c0, rfl⟩ : ∃ a n c, v0 = .slice a n c := by
    rcases H3.out.1.shape with ⟨h, _⟩ | ⟨g, cap, h, _⟩
    · exact ⟨_, _, _, h⟩
    · exact ⟨_, _, _, h⟩
  obtain ⟨a1, n1, c1, rfl⟩ : ∃ a n c, v1 = .slice a n c := by
    rcases H3.out.2.1.shape with ⟨h, _⟩ | ⟨g, cap, h, _⟩
    · exact ⟨_, _, _, h⟩
    · exact ⟨_, _, _, h⟩
  obtain ⟨a2, n2, c2, rfl⟩ : ∃ a n c, v2 = .slice a n c := by
    rcases OwV.shape H3.out.2.2.1 with ⟨h, _⟩ | ⟨g, cap, h, _⟩
    · exact ⟨_, _, _, h⟩
    · exact ⟨_, _, _, h⟩
  have hA := HS.out.2.2.2.1.below (HS.out.2.2.2.2.2.1.symm ▸ H3.out.2.2.2)
  have HA : Hid (An0 w3 (R + 1)) := hA
  have z0 := hA.c0
  have z1 := hA.c1
  have z2 := hA.c2
  have y0 := hA.f0
  have y1 := hA.f1
  have y2 := hA.f2
  clear hA
  go_wp2
  have hbt := but_seta w3 (R + 1) (.slice a0 n0 c0) (.slice a1 n1 c1) (.slice a2 n2 c2)
  have hbw : Below w.heap.size w (((w3.setCell ⟨R + 1, 0, none⟩ (.slice a0 n0 c0)).setCell ⟨R + 1, 1, none⟩ (.slice a1 n1 c1)).setCell ⟨R + 1, 2, none⟩ (.slice a2 n2 c2)) := by
    rw [hR]
    have h6 : Below R w w3 := HS.out.2.2.1.trans (H3.out.2.2.2.mono (by omega))
    exact ((h6.setCell (p := ⟨R + 1, 0, none⟩) (Nat.le_succ _) _).setCell (p := ⟨R + 1, 1, none⟩) (Nat.le_succ _) _).setCell (p := ⟨R + 1, 2, none⟩) (Nat.le_succ _) _
  have hk : ∀ {v : Value} (k : Nat), (∀ j, v.ownBlock = some j → R + 2 ≤ j ∧ j < w3.heap.size) → v.ownBlock = some k → (((w3.setCell ⟨R + 1, 0, none⟩ (.slice a0 n0 c0)).setCell ⟨R + 1, 1, none⟩ (.slice a1 n1 c1)).setCell ⟨R + 1, 2, none⟩ (.slice a2 n2 c2)).heap[k]? = w3.heap[k]? := fun k h1 h2 => hbt.block k (h1 k h2).2 (by have := (h1 k h2).1; omega)
  exact bodyPost_ret (results_twoA Tryz.results23 rfl (load_seta HA.out _ _ _)) rfl ⟨_, _, _, rfl, (H3.out.1.block fun k e => hk k H3.out.1.lt e).mono (by omega), (H3.out.2.1.block fun k e => hk k H3.out.2.1.lt e).mono (by omega), OwV.mono (OwV.block H3.out.2.2.1 fun k e => hk k (OwV.lt H3.out.2.2.1) e) (by omega), hbw⟩
end Go.Proofs
