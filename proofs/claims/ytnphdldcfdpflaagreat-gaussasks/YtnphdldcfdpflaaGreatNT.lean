/- The walk of erratumlaw09.asks: whatever matrix and column are asked, the program and the document answer the same. Conditions: numbers of a machine's ints; cells and columns of bytes. -/
import Derived.Test.YtnphdldcfdpflaaGreatNS
import Derived.Test.YtnphdldcfdpflaaGreatKnown09
namespace Go.Proofs
open Go.RowKit Go.ChangeShapes Go.WideShapes
open Mx (Mat cells mx rowL IsEch IsSol IsInv nullL)
open Pol (Byt ofL toL)

theorem echO_b9 {R C : Int} {n : Nat} {xs : List Nat} {r c : Nat} {ys L : List Nat} (h : EchO R C n xs r c ys L) : Byt ys ∧ L.length ≤ 300 ∧ c ≤ 300 := by
  rcases h with ⟨h1, h2, h3, h4⟩ | ⟨_, _, rfl, rfl, rfl⟩
  · obtain ⟨r', c', e1, e2, h5, h6, _⟩ := right_split h1
    have := h4.rank.1
    exact ⟨h4.byt, by omega, by omega⟩
  · exact ⟨fun i => by simp, by simp, by omega⟩
theorem slO_b9 {R C : Int} {n : Nat} {xs : List Nat} {m : Nat} {ys zs : List Nat} {ok : Bool} (h : SlO R C n xs m ys zs ok) : Byt zs := by
  rcases h with ⟨_, _, _, h⟩ | ⟨_, rfl, _⟩
  · exact h.byt
  · exact fun i => by simp
theorem inO_b9 {R C : Int} {n : Nat} {xs : List Nat} {m : Nat} {zs : List Nat} {ok : Bool} (h : InO R C n xs m zs ok) : Byt zs := by
  rcases h with ⟨_, _, _, _, h⟩ | ⟨_, _, rfl, _⟩
  · exact h.byt
  · exact fun i => by simp
theorem null_byt (C : Nat) (ys L : List Nat) (i : Nat) : Byt ((nullL C ys L).getD i []) := by
  unfold Mx.nullL
  simp only [List.getD, List.getElem?_map]
  cases (Mx.freeL C L)[i]? with
  | none => exact fun i => by simp
  | some c => exact Mx.nulL_byt _ _ _ _
theorem null_len (C : Nat) (ys L : List Nat) : (nullL C ys L).length ≤ C := by
  unfold Mx.nullL Mx.freeL
  rw [List.length_map]
  exact Nat.le_trans (List.length_filter_le _ _) (by rw [List.length_range]; exact Nat.le_refl _)
set_option maxRecDepth 100000 in
set_option maxHeartbeats 8000000 in
theorem asks_calls (j : Nat) (R C : Int) (q qb : Option Addr) (n c m cb : Nat) (xs bs : List Nat) (hj : j < 256) (hR1 : -9223372036854775808 ≤ R) (hR2 : R < 9223372036854775808) (hC1 : -9223372036854775808 ≤ C) (hC2 : C < 9223372036854775808) (hnc : n ≤ c) (hcb : m ≤ cb) (w : World) (S_a : Bs w q n xs) (S_b : Bs w qb m bs) :
    Calls Tryz.prog 14 #[.int .u8 j, .agg #[.int .i64 R, .int .i64 C, .slice q n c], .slice qb m cb] w fun e w' => e = .returned (.bool true) ∧ Below w.heap.size w w' := by
  obtain ⟨g, hg⟩ : ∃ g : Nat, 1 + j % 3 = g := ⟨_, rfl⟩
  have hg1 : 1 ≤ g := by omega
  have hg3 : g ≤ 3 := by omega
  have hgi : (1 : Int) + (j : Int) % 3 = (g : Int) := by omega
  obtain ⟨r, d, ys, L, hE⟩ := echO_exists R C n xs
  obtain ⟨zs, ok, hS⟩ := slO_exists R C n xs m bs
  obtain ⟨mi, us, oi, hI⟩ := inO_exists R C n xs
  obtain ⟨ny, hny⟩ : ∃ k, ys.length = k := ⟨_, rfl⟩
  obtain ⟨l, hl⟩ : ∃ k, L.length = k := ⟨_, rfl⟩
  obtain ⟨nz, hnz⟩ : ∃ k, zs.length = k := ⟨_, rfl⟩
  obtain ⟨nu, hnu⟩ : ∃ k, us.length = k := ⟨_, rfl⟩
  have HE : Hid (EchO R C n xs r d ys L ∧ Byt ys ∧ ys.length = ny ∧ L.length = l) := ⟨hE, (echO_b9 hE).1, hny, hl⟩
  have HS : Hid (SlO R C n xs m bs zs ok ∧ Byt zs ∧ zs.length = nz) := ⟨hS, slO_b9 hS, hnz⟩
  have HI : Hid (InO R C n xs mi us oi ∧ Byt us ∧ us.length = nu) := ⟨hI, inO_b9 hI, hnu⟩
  have hl3 : l ≤ 300 := hl ▸ (echO_b9 hE).2.1
  have hd3 : d ≤ 300 := (echO_b9 hE).2.2
  clear hg hE hS hI hny hl hnz hnu
  have HB : Below w.heap.size w w := Below.refl _ _
  go_enter Tryz.func14, Tryz.ntmps14
  obtain ⟨P_ba, hP_ba⟩ : ∃ P, w.heap.size = P := ⟨_, rfl⟩
  obtain ⟨w1, hw1⟩ : ∃ W, w.alloc (.cells #[.int .i64 R, .int .i64 C, .slice q n c] 24) = W := ⟨_, rfl⟩
  have hb : Below w.heap.size w w1 := hw1 ▸ (Below.refl _ w).alloc (Nat.le_refl _) _
  have M_ba : Mb w1 P_ba (.int .i64 R) (.int .i64 C) (.slice q n c) := by rw [← hP_ba, ← hw1]; exact mb_new w _ _ _
  replace HB := HB.trans (hb.mono HB.size)
  replace S_a := S_a.below hb
  replace S_b := S_b.below hb
  clear hb
  go_wp2_with fail
  refine (fof_calls g hg1 hg3 _).mono ?_
  rintro e w2 ⟨B_f, T_f, rfl, HF_f, hb, hlB, hlT⟩
  have HL_f : w.heap.size ≤ T_f := Nat.le_trans HB.size hlT
  have Q_a_f := S_a.off hlT
  have Q_b_f := S_b.off hlT
  have N_ba_f : ¬ P_ba = T_f := by have := M_ba.blt; omega
  replace HB := HB.trans (hb.mono HB.size)
  replace S_a := S_a.below hb
  replace S_b := S_b.below hb
  replace M_ba := M_ba.below hb
  clear hb hlB hlT
  clear hP_ba hw1
  clear hgi
  have u_ba0 := M_ba.c0
  have u_ba1 := M_ba.c1
  have u_ba2 := M_ba.c2
  go_wp2_with fail
  refine (gech_calls g B_f T_f R C q n c xs r d ys L HE.out.1 hR1 hR2 hC1 hC2 hnc _ S_a HF_f Q_a_f).mono ?_
  rintro e w3 ⟨v, v', rfl, hO, hI, hF, hb⟩
  obtain ⟨q_e, c_e, rfl, S_e, C_e, hQ⟩ := hO.tell (n := ny) HE.out.2.1 HE.out.2.2.1
  obtain ⟨q_l, c_l, rfl, I_l, C_l, hK⟩ := OwI.tell hI HE.out.2.2.2
  clear hO hI
  have Q_e_f := hQ _ HF_f.lt
  have K_l_f : ∀ a, q_l = some a → ¬ a.block = T_f := fun a e h => by have h1 := hK a e; have h2 := HF_f.lt; omega
  clear hQ hK
  replace HB := HB.trans (hb.below HB.size (by rintro k rfl; exact HL_f))
  replace S_a := S_a.but hb Q_a_f
  replace S_b := S_b.but hb Q_b_f
  replace M_ba := M_ba.but hb N_ba_f
  clear HF_f hb
  have HF_f := hF
  clear hF
  clear u_ba0 u_ba1 u_ba2
  obtain ⟨P_be, hP_be⟩ : ∃ P, w3.heap.size = P := ⟨_, rfl⟩
  obtain ⟨w4, hw4⟩ : ∃ W, w3.alloc (.cells #[.int .i64 (r : Nat), .int .i64 (d : Nat), .slice q_e ny c_e] 24) = W := ⟨_, rfl⟩
  have hb : Below w3.heap.size w3 w4 := hw4 ▸ (Below.refl _ w3).alloc (Nat.le_refl _) _
  have N_be_f : ¬ P_be = T_f := by have := HF_f.lt; omega
  have M_be : Mb w4 P_be (.int .i64 (r : Nat)) (.int .i64 (d : Nat)) (.slice q_e ny c_e) := by rw [← hP_be, ← hw4]; exact mb_new w3 _ _ _
  replace HB := HB.trans (hb.mono HB.size)
  replace HF_f := HF_f.below hb
  replace S_a := S_a.below hb
  replace S_b := S_b.below hb
  replace S_e := S_e.below hb
  replace M_ba := M_ba.below hb
  replace I_l := I_l.below hb
  clear hb
  have u_ba0 := M_ba.c0
  have u_ba1 := M_ba.c1
  have u_ba2 := M_ba.c2
  go_wp2_with fail
  refine (rech_calls R C q n c xs r d ys L HE.out.1 hnc _ S_a).mono ?_
  rintro e w5 ⟨v, v', rfl, hO, hI, hb⟩
  obtain ⟨q_h, c_h, rfl, S_h, C_h, hQ⟩ := hO.tell (n := ny) HE.out.2.1 HE.out.2.2.1
  obtain ⟨q_u, c_u, rfl, I_u, C_u, hK⟩ := OwI.tell hI HE.out.2.2.2
  clear hO hI
  have Q_h_f := hQ _ HF_f.lt
  have K_u_f : ∀ a, q_u = some a → ¬ a.block = T_f := fun a e h => by have h1 := hK a e; have h2 := HF_f.lt; omega
  clear hQ hK
  replace HB := HB.trans (hb.mono HB.size)
  replace HF_f := HF_f.below hb
  replace S_a := S_a.below hb
  replace S_b := S_b.below hb
  replace S_e := S_e.below hb
  replace M_ba := M_ba.below hb
  replace M_be := M_be.below hb
  replace I_l := I_l.below hb
  clear hb
  clear hP_be hw4 u_ba0 u_ba1 u_ba2
  obtain ⟨P_bh, hP_bh⟩ : ∃ P, w5.heap.size = P := ⟨_, rfl⟩
  obtain ⟨w6, hw6⟩ : ∃ W, w5.alloc (.cells #[.int .i64 (r : Nat), .int .i64 (d : Nat), .slice q_h ny c_h] 24) = W := ⟨_, rfl⟩
  have hb : Below w5.heap.size w5 w6 := hw6 ▸ (Below.refl _ w5).alloc (Nat.le_refl _) _
  have N_bh_f : ¬ P_bh = T_f := by have := HF_f.lt; omega
  have M_bh : Mb w6 P_bh (.int .i64 (r : Nat)) (.int .i64 (d : Nat)) (.slice q_h ny c_h) := by rw [← hP_bh, ← hw6]; exact mb_new w5 _ _ _
  replace HB := HB.trans (hb.mono HB.size)
  replace HF_f := HF_f.below hb
  replace S_a := S_a.below hb
  replace S_b := S_b.below hb
  replace S_e := S_e.below hb
  replace S_h := S_h.below hb
  replace M_ba := M_ba.below hb
  replace M_be := M_be.below hb
  replace I_l := I_l.below hb
  replace I_u := I_u.below hb
  clear hb
  have u_ba0 := M_ba.c0
  have u_ba1 := M_ba.c1
  have u_ba2 := M_ba.c2
  go_wp2_with fail
  refine (gsolve1_calls g B_f T_f R C q qb n c m cb xs bs zs ok HS.out.1 hR1 hR2 hC1 hC2 hnc hcb _ S_a S_b HF_f).mono ?_
  rintro e w7 ⟨v, rfl, hO, hF, hb⟩
  obtain ⟨q_x, c_x, rfl, S_x, C_x, hQ⟩ := hO.tell (n := nz) HS.out.2.1 HS.out.2.2
  clear hO
  have Q_x_f := hQ _ HF_f.lt
  clear hQ
  replace HB := HB.trans (hb.below HB.size (by rintro k rfl; exact HL_f))
  replace S_a := S_a.but hb Q_a_f
  replace S_b := S_b.but hb Q_b_f
  replace S_e := S_e.but hb Q_e_f
  replace S_h := S_h.but hb Q_h_f
  replace M_ba := M_ba.but hb N_ba_f
  replace M_be := M_be.but hb N_be_f
  replace M_bh := M_bh.but hb N_bh_f
  replace I_l := I_l.but hb (fun _ => K_l_f)
  replace I_u := I_u.but hb (fun _ => K_u_f)
  clear HF_f hb
  have HF_f := hF
  clear hF
  clear hP_bh hw6 u_ba0 u_ba1 u_ba2
  have u_ba0 := M_ba.c0
  have u_ba1 := M_ba.c1
  have u_ba2 := M_ba.c2
  go_wp2_with fail
  refine (rsolve_calls R C q qb n c m cb xs bs zs ok HS.out.1 hnc _ S_a S_b).mono ?_
  rintro e w8 ⟨v, rfl, hO, hb⟩
  obtain ⟨q_y, c_y, rfl, S_y, C_y, hQ⟩ := hO.tell (n := nz) HS.out.2.1 HS.out.2.2
  clear hO
  have Q_y_f := hQ _ HF_f.lt
  clear hQ
  replace HB := HB.trans (hb.mono HB.size)
  replace HF_f := HF_f.below hb
  replace S_a := S_a.below hb
  replace S_b := S_b.below hb
  replace S_e := S_e.below hb
  replace S_h := S_h.below hb
  replace S_x := S_x.below hb
  replace M_ba := M_ba.below hb
  replace M_be := M_be.below hb
  replace M_bh := M_bh.below hb
  replace I_l := I_l.below hb
  replace I_u := I_u.below hb
  clear hb
  clear u_ba0 u_ba1 u_ba2
  have u_ba0 := M_ba.c0
  have u_ba1 := M_ba.c1
  have u_ba2 := M_ba.c2
  go_wp2_with fail
  refine (ginv_calls g B_f T_f R C q n c xs mi us oi HI.out.1 hR1 hR2 hC1 hC2 hnc _ S_a HF_f).mono ?_
  rintro e w9 ⟨v, rfl, hO, hF, hb⟩
  obtain ⟨q_p, c_p, rfl, S_p, C_p, hQ⟩ := hO.tell (n := nu) HI.out.2.1 HI.out.2.2
  clear hO
  have Q_p_f := hQ _ HF_f.lt
  clear hQ
  replace HB := HB.trans (hb.below HB.size (by rintro k rfl; exact HL_f))
  replace S_a := S_a.but hb Q_a_f
  replace S_b := S_b.but hb Q_b_f
  replace S_e := S_e.but hb Q_e_f
  replace S_h := S_h.but hb Q_h_f
  replace S_x := S_x.but hb Q_x_f
  replace S_y := S_y.but hb Q_y_f
  replace M_ba := M_ba.but hb N_ba_f
  replace M_be := M_be.but hb N_be_f
  replace M_bh := M_bh.but hb N_bh_f
  replace I_l := I_l.but hb (fun _ => K_l_f)
  replace I_u := I_u.but hb (fun _ => K_u_f)
  clear HF_f hb
  have HF_f := hF
  clear hF
  clear u_ba0 u_ba1 u_ba2
  obtain ⟨P_bp, hP_bp⟩ : ∃ P, w9.heap.size = P := ⟨_, rfl⟩
  obtain ⟨w10, hw10⟩ : ∃ W, w9.alloc (.cells #[.int .i64 (mi : Nat), .int .i64 (mi : Nat), .slice q_p nu c_p] 24) = W := ⟨_, rfl⟩
  have hb : Below w9.heap.size w9 w10 := hw10 ▸ (Below.refl _ w9).alloc (Nat.le_refl _) _
  have N_bp_f : ¬ P_bp = T_f := by have := HF_f.lt; omega
  have M_bp : Mb w10 P_bp (.int .i64 (mi : Nat)) (.int .i64 (mi : Nat)) (.slice q_p nu c_p) := by rw [← hP_bp, ← hw10]; exact mb_new w9 _ _ _
  replace HB := HB.trans (hb.mono HB.size)
  replace HF_f := HF_f.below hb
  replace S_a := S_a.below hb
  replace S_b := S_b.below hb
  replace S_e := S_e.below hb
  replace S_h := S_h.below hb
  replace S_x := S_x.below hb
  replace S_y := S_y.below hb
  replace S_p := S_p.below hb
  replace M_ba := M_ba.below hb
  replace M_be := M_be.below hb
  replace M_bh := M_bh.below hb
  replace I_l := I_l.below hb
  replace I_u := I_u.below hb
  clear hb
  have u_ba0 := M_ba.c0
  have u_ba1 := M_ba.c1
  have u_ba2 := M_ba.c2
  go_wp2_with fail
  refine (r9inv_calls R C q n c xs mi us oi HI.out.1 hnc _ S_a).mono ?_
  rintro e w11 ⟨v, rfl, hO, hb⟩
  obtain ⟨q_r, c_r, rfl, S_r, C_r, hQ⟩ := hO.tell (n := nu) HI.out.2.1 HI.out.2.2
  clear hO
  have Q_r_f := hQ _ HF_f.lt
  clear hQ
  replace HB := HB.trans (hb.mono HB.size)
  replace HF_f := HF_f.below hb
  replace S_a := S_a.below hb
  replace S_b := S_b.below hb
  replace S_e := S_e.below hb
  replace S_h := S_h.below hb
  replace S_x := S_x.below hb
  replace S_y := S_y.below hb
  replace S_p := S_p.below hb
  replace M_ba := M_ba.below hb
  replace M_be := M_be.below hb
  replace M_bh := M_bh.below hb
  replace M_bp := M_bp.below hb
  replace I_l := I_l.below hb
  replace I_u := I_u.below hb
  clear hb
  clear hP_bp hw10 u_ba0 u_ba1 u_ba2
  obtain ⟨P_br, hP_br⟩ : ∃ P, w11.heap.size = P := ⟨_, rfl⟩
  obtain ⟨w12, hw12⟩ : ∃ W, w11.alloc (.cells #[.int .i64 (mi : Nat), .int .i64 (mi : Nat), .slice q_r nu c_r] 24) = W := ⟨_, rfl⟩
  have hb : Below w11.heap.size w11 w12 := hw12 ▸ (Below.refl _ w11).alloc (Nat.le_refl _) _
  have N_br_f : ¬ P_br = T_f := by have := HF_f.lt; omega
  have M_br : Mb w12 P_br (.int .i64 (mi : Nat)) (.int .i64 (mi : Nat)) (.slice q_r nu c_r) := by rw [← hP_br, ← hw12]; exact mb_new w11 _ _ _
  replace HB := HB.trans (hb.mono HB.size)
  replace HF_f := HF_f.below hb
  replace S_a := S_a.below hb
  replace S_b := S_b.below hb
  replace S_e := S_e.below hb
  replace S_h := S_h.below hb
  replace S_x := S_x.below hb
  replace S_y := S_y.below hb
  replace S_p := S_p.below hb
  replace S_r := S_r.below hb
  replace M_ba := M_ba.below hb
  replace M_be := M_be.below hb
  replace M_bh := M_bh.below hb
  replace M_bp := M_bp.below hb
  replace I_l := I_l.below hb
  replace I_u := I_u.below hb
  clear hb
  go_wp2
  obtain ⟨nn, hnn⟩ : ∃ k, (nullL d ys L).length = k := ⟨_, rfl⟩
  have hnn3 : nn ≤ 1000000 := by have := null_len d ys L; omega
  have KA : Hid (∀ W', But (· = T_f) w12 W' → Calls Tryz.prog 34 #[.agg #[.int .i64 (r : Nat), .int .i64 (d : Nat), .slice q_e ny c_e], .agg #[.int .i64 (r : Nat), .int .i64 (d : Nat), .slice q_h ny c_h]] W' fun e w' => e = .returned (.bool true) ∧ Below W'.heap.size W' w') := fun W' h => rsame_calls r d q_e q_h ny c_e c_h ys W' (S_e.but h Q_e_f) (S_h.but h Q_h_f)
  have KB : Hid (∀ W', But (· = T_f) w12 W' → Calls Tryz.prog 34 #[.agg #[.int .i64 (mi : Nat), .int .i64 (mi : Nat), .slice q_p nu c_p], .agg #[.int .i64 (mi : Nat), .int .i64 (mi : Nat), .slice q_r nu c_r]] W' fun e w' => e = .returned (.bool true) ∧ Below W'.heap.size W' w') := fun W' h => rsame_calls mi mi q_p q_r nu c_p c_r us W' (S_p.but h Q_p_f) (S_r.but h Q_r_f)
  have KC : Hid (∀ W', But (· = T_f) w12 W' → Calls Tryz.prog 35 #[.slice q_l l c_l, .slice q_u l c_u] W' fun e w' => e = .returned (.bool true) ∧ Below W'.heap.size W' w') := fun W' h => rints_calls q_l q_u l c_l c_u L (by omega) W' (I_l.but h (fun _ => K_l_f)) (I_u.but h (fun _ => K_u_f))
  have KD : Hid (∀ W', But (· = T_f) w12 W' → Fd g B_f T_f W' → Calls Tryz.prog 20 #[.pointer (some ⟨B_f, 0, none⟩), .agg #[.int .i64 R, .int .i64 C, .slice q n c]] W' fun e w' => e = .returned (.int .i64 (l : Nat)) ∧ Fd g B_f T_f w' ∧ But (· = T_f) W' w') := fun W' h k => grank_calls g B_f T_f R C q n c xs r d ys L l HE.out.1 HE.out.2.2.2 hR1 hR2 hC1 hC2 hnc W' (S_a.but h Q_a_f) k Q_a_f
  have KE : Hid (∀ W', But (· = T_f) w12 W' → Calls Tryz.prog 18 #[.slice q_x nz c_x, .slice q_y nz c_y] W' fun e w' => e = .returned (.bool true) ∧ Below W'.heap.size W' w') := fun W' h => same_any q_x q_y nz nz c_x c_y zs zs true (by simp) W' (S_x.but h Q_x_f) (S_y.but h Q_y_f)
  have KG : Hid (∀ W', But (· = T_f) w12 W' → Fd g B_f T_f W' → Calls Tryz.prog 19 #[.pointer (some ⟨B_f, 0, none⟩), .agg #[.int .i64 R, .int .i64 C, .slice q n c]] W' fun e w' => ∃ v, e = .returned v ∧ OwL w' W'.heap.size v (nullL d ys L) ∧ Fd g B_f T_f w' ∧ But (· = T_f) W' w') := fun W' h k => gnull_calls g B_f T_f R C q n c xs r d ys L HE.out.1 hR1 hR2 hC1 hC2 hnc W' (S_a.but h Q_a_f) k Q_a_f
  have KH : Hid (∀ W', But (· = T_f) w12 W' → Calls Tryz.prog 37 #[.agg #[.int .i64 R, .int .i64 C, .slice q n c]] W' fun e w' => ∃ v, e = .returned v ∧ OwL w' W'.heap.size v (nullL d ys L) ∧ Below W'.heap.size W' w') := fun W' h => rnull_calls R C q n c xs r d ys L HE.out.1 hnc W' (S_a.but h Q_a_f)
  have KL : Hid (∀ W' b1 b2 v1 v2, OwL W' b1 v1 (nullL d ys L) → OwL W' b2 v2 (nullL d ys L) → Calls Tryz.prog 36 #[v1, v2] W' fun e w' => e = .returned (.bool true) ∧ Below W'.heap.size W' w') := fun W' b1 b2 v1 v2 h1 h2 => rlists_calls b1 b2 v1 v2 (nullL d ys L) nn hnn3 hnn (fun i _ => null_byt d ys L i) W' h1 h2
  have HM : Hid (∀ w', But (· = T_f) w12 w' → w'.cell? ⟨P_ba, 0, none⟩ = some (.int .i64 R) ∧ w'.cell? ⟨P_ba, 1, none⟩ = some (.int .i64 C) ∧ w'.cell? ⟨P_ba, 2, none⟩ = some (.slice q n c) ∧ w'.cell? ⟨P_be, 0, none⟩ = some (.int .i64 (r : Nat)) ∧ w'.cell? ⟨P_be, 1, none⟩ = some (.int .i64 (d : Nat)) ∧ w'.cell? ⟨P_be, 2, none⟩ = some (.slice q_e ny c_e) ∧ w'.cell? ⟨P_bh, 0, none⟩ = some (.int .i64 (r : Nat)) ∧ w'.cell? ⟨P_bh, 1, none⟩ = some (.int .i64 (d : Nat)) ∧ w'.cell? ⟨P_bh, 2, none⟩ = some (.slice q_h ny c_h) ∧ w'.cell? ⟨P_bp, 0, none⟩ = some (.int .i64 (mi : Nat)) ∧ w'.cell? ⟨P_bp, 1, none⟩ = some (.int .i64 (mi : Nat)) ∧ w'.cell? ⟨P_bp, 2, none⟩ = some (.slice q_p nu c_p) ∧ w'.cell? ⟨P_br, 0, none⟩ = some (.int .i64 (mi : Nat)) ∧ w'.cell? ⟨P_br, 1, none⟩ = some (.int .i64 (mi : Nat)) ∧ w'.cell? ⟨P_br, 2, none⟩ = some (.slice q_r nu c_r)) := fun w' h => ⟨(M_ba.but h N_ba_f).c0, (M_ba.but h N_ba_f).c1, (M_ba.but h N_ba_f).c2, (M_be.but h N_be_f).c0, (M_be.but h N_be_f).c1, (M_be.but h N_be_f).c2, (M_bh.but h N_bh_f).c0, (M_bh.but h N_bh_f).c1, (M_bh.but h N_bh_f).c2, (M_bp.but h N_bp_f).c0, (M_bp.but h N_bp_f).c1, (M_bp.but h N_bp_f).c2, (M_br.but h N_br_f).c0, (M_br.but h N_br_f).c1, (M_br.but h N_br_f).c2⟩
  have HBt : But (· = T_f) w12 w12.drew := (But.refl _ w12).drew
  have HFd : Fd g B_f T_f w12.drew := HF_f.drew
  have HB2 : Hid (Below w.heap.size w w12) := HB
  clear S_a S_b S_e S_h S_x S_y S_p S_r I_l I_u HF_f hnn HB
  clear M_ba M_be M_bh M_bp M_br
  go_region_held3 (fun w' => w'.cell? ⟨P_ba, 0, none⟩ = some (.int .i64 R) ∧ w'.cell? ⟨P_ba, 1, none⟩ = some (.int .i64 C) ∧ w'.cell? ⟨P_ba, 2, none⟩ = some (.slice q n c) ∧ w'.cell? ⟨P_be, 0, none⟩ = some (.int .i64 (r : Nat)) ∧ w'.cell? ⟨P_be, 1, none⟩ = some (.int .i64 (d : Nat)) ∧ w'.cell? ⟨P_be, 2, none⟩ = some (.slice q_e ny c_e) ∧ w'.cell? ⟨P_bh, 0, none⟩ = some (.int .i64 (r : Nat)) ∧ w'.cell? ⟨P_bh, 1, none⟩ = some (.int .i64 (d : Nat)) ∧ w'.cell? ⟨P_bh, 2, none⟩ = some (.slice q_h ny c_h) ∧ w'.cell? ⟨P_bp, 0, none⟩ = some (.int .i64 (mi : Nat)) ∧ w'.cell? ⟨P_bp, 1, none⟩ = some (.int .i64 (mi : Nat)) ∧ w'.cell? ⟨P_bp, 2, none⟩ = some (.slice q_p nu c_p) ∧ w'.cell? ⟨P_br, 0, none⟩ = some (.int .i64 (mi : Nat)) ∧ w'.cell? ⟨P_br, 1, none⟩ = some (.int .i64 (mi : Nat)) ∧ w'.cell? ⟨P_br, 2, none⟩ = some (.slice q_r nu c_r))
    (first | exact HM.out _ HBt | (go_keep; done))
    (first
      | (go_at_call 34; with_reducible refine (KA.out _ HBt).mono ?_; rintro e w1 ⟨rfl, hb⟩; replace HBt := HBt.trans (But.of_below hb); replace HFd := HFd.below hb; clear hb)
      | (go_at_call 34; with_reducible refine (KB.out _ HBt).mono ?_; rintro e w1 ⟨rfl, hb⟩; replace HBt := HBt.trans (But.of_below hb); replace HFd := HFd.below hb; clear hb)
      | (go_at_call 35; refine (KC.out _ HBt).mono ?_; rintro e w1 ⟨rfl, hb⟩; replace HBt := HBt.trans (But.of_below hb); replace HFd := HFd.below hb; clear hb)
      | (go_at_call 20; refine (KD.out _ HBt HFd).mono ?_; rintro e w1 ⟨rfl, hF, hb⟩; replace HBt := HBt.trans hb; clear HFd; have HFd := hF; clear hF hb)
      | (go_at_call 18; refine (KE.out _ HBt).mono ?_; rintro e w1 ⟨rfl, hb⟩; replace HBt := HBt.trans (But.of_below hb); replace HFd := HFd.below hb; clear hb)
      | (go_at_call 19; refine (KG.out _ HBt HFd).mono ?_; rintro e w1 ⟨v5, rfl, O5, hF, hb⟩; replace HBt := HBt.trans hb; clear HFd; have HFd := hF; clear hF hb)
      | (go_at_call 37; refine (KH.out _ HBt).mono ?_; rintro e w1 ⟨v6, rfl, O6, hb⟩; replace HBt := HBt.trans (But.of_below hb); replace HFd := HFd.below hb; replace O5 := O5.below hb; clear hb)
      | (go_at_call 36; refine (KL.out _ _ _ _ _ O5 O6).mono ?_; rintro e w1 ⟨rfl, hb⟩; replace HBt := HBt.trans (But.of_below hb); replace HFd := HFd.below hb; clear hb O5 O6))
  go_wp2
  go_ret
  exact ⟨rfl, HB2.out.trans (HBt.below HB2.out.size (by rintro k rfl; exact HL_f))⟩
end Go.Proofs
