/- The walk of the example of chapter 9 (known). No conditions. -/
import Derived.Test.YtnphdldcfdpflaaGreatNE
import Derived.Test.YtnphdldcfdpflaaGreatMH
import Derived.Test.YtnphdldcfdpflaaGreatMR
import Derived.Test.YtnphdldcfdpflaaGreatNF
namespace Go.Proofs
open Go.RowKit Go.ChangeShapes Go.WideShapes
open Mx (mx IsEch IsSol IsInv Sol dot nullL)
open Pol (ofL Byt)
namespace Mx
theorem known_inv : IsInv 2 [1, 1, 0, 2] [1, 142, 0, 142] := by
  refine isInv_cols rfl (byt_lit rfl) fun j hj i hi => ?_
  match j, hj, i, hi with
  | 0, _, 0, _ => decide
  | 0, _, 1, _ => decide
  | 1, _, 0, _ => decide
  | 1, _, 1, _ => decide
theorem known_rank {ys L : List Nat} (h : IsEch 2 2 [1, 1, 0, 2] ys L) : L.length = 2 := (isInv_iff h).1 ⟨_, known_inv⟩
theorem inv_free {n : Nat} {xs zs : List Nat} (h : IsInv n xs zs) {c : Nat} (hc : c < n) (hf : Free n n (mx n xs) c) : False := by
  obtain ⟨E, r, l, hE⟩ := ech_exists n n (mx n xs)
  have hr := rank_inv hE h.inv
  subst hr
  obtain ⟨x, h1, h2, _⟩ := hf
  have h3 := hE.trivial h1 c hc
  rw [h2] at h3
  exact GF.one_ne_zero h3
theorem known_sol : IsSol 2 2 [1, 1, 0, 2] [3, 4] [1, 2] := by
  refine ⟨rfl, byt_lit rfl, fun i hi => ?_, fun c hc hf => (inv_free known_inv hc hf).elim⟩
  match i, hi with
  | 0, _ => decide
  | 1, _ => decide
end Mx
theorem slO_byt {R C : Int} {n : Nat} {xs : List Nat} {m : Nat} {ys zs : List Nat} {ok : Bool} (h : SlO R C n xs m ys zs ok) : Byt zs := by
  rcases h with ⟨_, _, _, h⟩ | ⟨_, rfl, _⟩
  · exact h.byt
  · exact fun i => by simp
theorem inO_byt {R C : Int} {n : Nat} {xs : List Nat} {m : Nat} {zs : List Nat} {ok : Bool} (h : InO R C n xs m zs ok) : Byt zs := by
  rcases h with ⟨_, _, _, _, h⟩ | ⟨_, _, rfl, _⟩
  · exact h.byt
  · exact fun i => by simp
theorem echO_byt {R C : Int} {n : Nat} {xs : List Nat} {r c : Nat} {ys L : List Nat} (h : EchO R C n xs r c ys L) : Byt ys := by
  rcases h with ⟨_, _, _, h⟩ | ⟨_, _, _, rfl, _⟩
  · exact h.byt
  · exact fun i => by simp
theorem bs_mk (W : World) (n : Nat) (hn : n ≤ 1000000) : Bs (W.alloc (.cells (madeCells #[.int .u8 0] n) 5)) (some ⟨W.heap.size, 0, none⟩) n (List.replicate n 0) := by
  obtain ⟨q, c, e, hb, -⟩ := (ow_made W (Nat.le_refl _) n (by omega)).tell (n := n) (Pol.byt_rep n) (by simp)
  cases e
  exact hb

set_option maxRecDepth 100000 in
set_option maxHeartbeats 4000000 in
theorem known09_calls (w : World) : Calls Tryz.prog 10 #[] w fun e w' => e = .returned (.bool true) ∧ Below w.heap.size w w' := by
  obtain ⟨ys, L, hE⟩ := Mx.isEch_exists 2 2 [1, 1, 0, 2]
  have hL := Mx.known_rank hE
  have hN : (nullL 2 ys L).length = 0 := by have := Mx.nullL_length hE; omega
  have HE : Hid (EchO 2 2 4 [1, 1, 0, 2] 2 2 ys L ∧ L.length = 2 ∧ (nullL 2 ys L).length = 0 ∧ SlO 2 2 4 [1, 1, 0, 2] 2 [3, 4] [1, 2] true) := ⟨.inl ⟨rfl, rfl, rfl, hE⟩, hL, hN, .inl ⟨rfl, rfl, rfl, Mx.known_sol⟩⟩
  clear hE hL hN
  have HB : Below w.heap.size w w := Below.refl _ _
  go_enter Tryz.func10, Tryz.ntmps10
  go_wp2_with fail
  refine (fof_calls 2 (by decide) (by decide) _).mono ?_
  rintro e w1 ⟨B_f, T_f, rfl, HF_f, hb, hlB, hlT⟩
  have HL_f : w.heap.size ≤ T_f := Nat.le_trans HB.size hlT
  replace HB := HB.trans (hb.mono HB.size)
  clear hb hlB hlT
  obtain ⟨P_a, hP_a⟩ : ∃ P, w1.heap.size = P := ⟨_, rfl⟩
  obtain ⟨w2, hw2⟩ : ∃ W, w1.alloc (.cells #[.int .u8 1, .int .u8 1, .int .u8 0, .int .u8 2] 5) = W := ⟨_, rfl⟩
  have hb : Below w1.heap.size w1 w2 := hw2 ▸ (Below.refl _ w1).alloc (Nat.le_refl _) _
  have Q_a_f : Off T_f 4 (some ⟨P_a, 0, none⟩) := off_at (by have := HF_f.lt; omega)
  have S_a : Bs w2 (some ⟨P_a, 0, none⟩) 4 [1, 1, 0, 2] := by rw [← hw2, ← hP_a]; exact bs_lits w1 _ [1, 1, 0, 2] _ 4 rfl (by first | rfl | simp) rfl rfl (by simp)
  replace HB := HB.trans (hb.mono HB.size)
  replace HF_f := HF_f.below hb
  clear hb
  obtain ⟨P_m, hP_m⟩ : ∃ P, w2.heap.size = P := ⟨_, rfl⟩
  obtain ⟨w3, hw3⟩ : ∃ W, w2.alloc (.cells #[.int .i64 2, .int .i64 2, .slice (some ⟨P_a, 0, none⟩) 4 4] 24) = W := ⟨_, rfl⟩
  have hb : Below w2.heap.size w2 w3 := hw3 ▸ (Below.refl _ w2).alloc (Nat.le_refl _) _
  have N_m_f : ¬ P_m = T_f := by have := HF_f.lt; omega
  have M_m : Mb w3 P_m (.int .i64 2) (.int .i64 2) (.slice (some ⟨P_a, 0, none⟩) 4 4) := by rw [← hP_m, ← hw3]; exact mb_new w2 _ _ _
  replace HB := HB.trans (hb.mono HB.size)
  replace HF_f := HF_f.below hb
  replace S_a := S_a.below hb
  clear hb
  have u_m0 := M_m.c0
  have u_m1 := M_m.c1
  have u_m2 := M_m.c2
  obtain ⟨P_b, hP_b⟩ : ∃ P, w3.heap.size = P := ⟨_, rfl⟩
  obtain ⟨w4, hw4⟩ : ∃ W, w3.alloc (.cells #[.int .u8 3, .int .u8 4] 5) = W := ⟨_, rfl⟩
  have hb : Below w3.heap.size w3 w4 := hw4 ▸ (Below.refl _ w3).alloc (Nat.le_refl _) _
  have Q_b_f : Off T_f 2 (some ⟨P_b, 0, none⟩) := off_at (by have := HF_f.lt; omega)
  have S_b : Bs w4 (some ⟨P_b, 0, none⟩) 2 [3, 4] := by rw [← hw4, ← hP_b]; exact bs_lits w3 _ [3, 4] _ 2 rfl (by first | rfl | simp) rfl rfl (by simp)
  replace HB := HB.trans (hb.mono HB.size)
  replace HF_f := HF_f.below hb
  replace S_a := S_a.below hb
  replace M_m := M_m.below hb
  clear hb
  go_wp2_with fail
  refine (gsolve1_calls 2 B_f T_f 2 2 _ _ 4 4 2 2 _ _ [1, 2] true HE.out.2.2.2 (by decide) (by decide) (by decide) (by decide) (by decide) (by decide) _ S_a S_b HF_f).mono ?_
  rintro e w5 ⟨v, rfl, hO, hF, hb⟩
  obtain ⟨q_x, c_x, rfl, S_x, C_x, hQ⟩ := hO.tell (n := 2) (byt_lit rfl) rfl
  clear hO
  have Q_x_f := hQ _ HF_f.lt
  clear hQ
  replace HB := HB.trans (hb.below HB.size (by rintro k rfl; exact HL_f))
  replace S_a := S_a.but hb Q_a_f
  replace S_b := S_b.but hb Q_b_f
  replace M_m := M_m.but hb N_m_f
  clear HF_f hb
  have HF_f := hF
  clear hF
  clear hP_a hw2 hP_m hw3 u_m0 u_m1 u_m2 hP_b hw4
  obtain ⟨P_c, hP_c⟩ : ∃ P, w5.heap.size = P := ⟨_, rfl⟩
  obtain ⟨w6, hw6⟩ : ∃ W, w5.alloc (.cells #[.int .u8 1, .int .u8 2] 5) = W := ⟨_, rfl⟩
  have hb : Below w5.heap.size w5 w6 := hw6 ▸ (Below.refl _ w5).alloc (Nat.le_refl _) _
  have Q_c_f : Off T_f 2 (some ⟨P_c, 0, none⟩) := off_at (by have := HF_f.lt; omega)
  have S_c : Bs w6 (some ⟨P_c, 0, none⟩) 2 [1, 2] := by rw [← hw6, ← hP_c]; exact bs_lits w5 _ [1, 2] _ 2 rfl (by first | rfl | simp) rfl rfl (by simp)
  replace HB := HB.trans (hb.mono HB.size)
  replace HF_f := HF_f.below hb
  replace S_a := S_a.below hb
  replace S_b := S_b.below hb
  replace S_x := S_x.below hb
  replace M_m := M_m.below hb
  clear hb
  go_wp2_with fail
  refine (same_any _ _ 2 2 c_x 2 [1, 2] [1, 2] true (by simp) _ S_x S_c).mono ?_
  rintro e w7 ⟨rfl, hb⟩
  replace HB := HB.trans (hb.mono HB.size)
  replace HF_f := HF_f.below hb
  replace S_a := S_a.below hb
  replace S_b := S_b.below hb
  replace S_x := S_x.below hb
  replace S_c := S_c.below hb
  replace M_m := M_m.below hb
  clear hb
  clear hP_c hw6
  have u_m0 := M_m.c0
  have u_m1 := M_m.c1
  have u_m2 := M_m.c2
  go_wp2_with fail
  refine (grank_calls 2 B_f T_f 2 2 _ 4 4 _ 2 2 ys L 2 HE.out.1 HE.out.2.1 (by decide) (by decide) (by decide) (by decide) (by decide) _ S_a HF_f Q_a_f).mono ?_
  rintro e w8 ⟨rfl, hF, hb⟩
  replace HB := HB.trans (hb.below HB.size (by rintro k rfl; exact HL_f))
  replace S_a := S_a.but hb Q_a_f
  replace S_b := S_b.but hb Q_b_f
  replace S_x := S_x.but hb Q_x_f
  replace S_c := S_c.but hb Q_c_f
  replace M_m := M_m.but hb N_m_f
  clear HF_f hb
  have HF_f := hF
  clear hF
  clear u_m0 u_m1 u_m2
  have u_m0 := M_m.c0
  have u_m1 := M_m.c1
  have u_m2 := M_m.c2
  go_wp2_with fail
  refine (gnull_calls 2 B_f T_f 2 2 _ 4 4 _ 2 2 ys L HE.out.1 (by decide) (by decide) (by decide) (by decide) (by decide) _ S_a HF_f Q_a_f).mono ?_
  rintro e w9 ⟨v_n, rfl, O_n, hF, hb⟩
  have E_n_f := HF_f.lt
  replace HB := HB.trans (hb.below HB.size (by rintro k rfl; exact HL_f))
  replace S_a := S_a.but hb Q_a_f
  replace S_b := S_b.but hb Q_b_f
  replace S_x := S_x.but hb Q_x_f
  replace S_c := S_c.but hb Q_c_f
  replace M_m := M_m.but hb N_m_f
  clear HF_f hb
  have HF_f := hF
  clear hF
  clear u_m0 u_m1 u_m2
  obtain ⟨q_n, c_n, rfl⟩ := O_n.isSlice
  rw [HE.out.2.2.1]
  clear O_n
  go_wp2
  go_ret
  exact ⟨rfl, HB⟩
end Go.Proofs
