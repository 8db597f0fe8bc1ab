/- Texts laid together: GEch, GSol. Each says its own conditions. -/
import Derived.Test.YtnphdldcfdpflaaGreatNC
import Derived.Test.YtnphdldcfdpflaaGreatNB
/- The walks of gauss.Echelon and Rank. Conditions: any numbers of rows and columns, and cells of bytes; a field that Of has made, in whose table the cells do not lie. -/
namespace Go.Proofs
open Go.RowKit Go.ChangeShapes Go.WideShapes
open Mx (Mat cells upd prt lay mx rowL bes IsEch)
open Pol (Byt ofL)

/-- What is told of any matrix, right or not: its rows, columns and cells, and where rows lead. -/
def EchO (R C : Int) (n : Nat) (xs : List Nat) (r c : Nat) (ys L : List Nat) : Prop :=
  (rightB R C n = true ∧ R = (r : Int) ∧ C = (c : Int) ∧ IsEch r c xs ys L) ∨ (rightB R C n = false ∧ r = 0 ∧ c = 0 ∧ ys = [] ∧ L = [])
theorem right_split {R C : Int} {n : Nat} (h : rightB R C n = true) : ∃ r c : Nat, R = (r : Int) ∧ C = (c : Int) ∧ r ≤ 300 ∧ c ≤ 300 ∧ n = r * c := by
  unfold rightB at h
  simp only [Bool.and_eq_true, decide_eq_true_eq, side_true] at h
  obtain ⟨⟨⟨h1, h2⟩, h3, h4⟩, h5⟩ := h
  refine ⟨R.toNat, C.toNat, by omega, by omega, by omega, by omega, ?_⟩
  have e1 : R = (R.toNat : Int) := by omega
  have e2 : C = (C.toNat : Int) := by omega
  rw [e1, e2, ← Int.natCast_mul] at h5
  exact Int.ofNat.inj h5
theorem echO_exists (R C : Int) (n : Nat) (xs : List Nat) : ∃ r c ys L, EchO R C n xs r c ys L := by
  by_cases h : rightB R C n = true
  · obtain ⟨r, c, e1, e2, _⟩ := right_split h
    obtain ⟨ys, L, hE⟩ := Mx.isEch_exists r c xs
    exact ⟨r, c, ys, L, .inl ⟨h, e1, e2, hE⟩⟩
  · exact ⟨0, 0, [], [], .inr ⟨by simpa using h, rfl, rfl, rfl, rfl⟩⟩
theorem bs_none (W : World) : Bs W none 0 [] := ⟨rfl, by omega, fun i hi => absurd hi (Nat.not_lt_zero i), fun i => by simp⟩
theorem Ow.isSlice {W : World} {base : Nat} {v : Value} {xs : List Nat} (h : Ow W base v xs) : ∃ q m c, v = .slice q m c := by
  rcases h.shape with ⟨rfl, _⟩ | ⟨g, c, rfl, _⟩
  · exact ⟨_, _, _, rfl⟩
  · exact ⟨_, _, _, rfl⟩
theorem results_two {fn : Func} {p : Tmp} {ty : TypeId} {s : Tmp} (h : fn.results = #[.cell p ty, .tmp s]) {tmps : Array Value} {P : Program} {w : World} {a : Addr} {v : Value} (hp : tmps.getD p undef = .pointer (some a)) (hl : (loadVar ty a).run P w = .ok v w) :
    (results fn tmps).run P w = .ok (.tuple #[v, tmps.getD s undef]) w := by
  simp only [results, h]
  simp only [Array.getD_eq_getD_getElem?] at hp ⊢
  simp [hp, asAddr, hl]

set_option maxRecDepth 100000 in
set_option maxHeartbeats 4000000 in
theorem gech_calls (k B T : Nat) (R C : Int) (q : Option Addr) (n c : Nat) (xs : List Nat) (r' c' : Nat) (ys L : List Nat) (hE : EchO R C n xs r' c' ys L) (hR1 : -9223372036854775808 ≤ R) (hR2 : R < 9223372036854775808) (hC1 : -9223372036854775808 ≤ C) (hC2 : C < 9223372036854775808) (hnc : n ≤ c) (w : World) (hs : Bs w q n xs) (hF : Fd k B T w) (hq : Off T n q) :
    Calls Tryz.prog 25 #[.pointer (some ⟨B, 0, none⟩), .agg #[.int .i64 R, .int .i64 C, .slice q n c]] w fun e w' => ∃ v1 v2, e = .returned (.tuple #[.agg #[.int .i64 (r' : Nat), .int .i64 (c' : Nat), v1], v2]) ∧ Ow w' w.heap.size v1 ys ∧ OwI w' w.heap.size v2 L ∧ Fd k B T w' ∧ But (· = T) w w' := by
  obtain ⟨A, hA⟩ : ∃ A, w.heap.size = A := ⟨_, rfl⟩
  obtain ⟨P2, hP2⟩ : ∃ P2, (w.alloc (.cells #[.int .i64 R, .int .i64 C, .slice q n c] 24)).alloc (.cells #[.int .i64 0, .int .i64 0, .slice none 0 0] 24) = P2 := ⟨_, rfl⟩
  have HP : Hid (Mb P2 A (.int .i64 R) (.int .i64 C) (.slice q n c) ∧ Z3 P2 (A + 1) ∧ Below w.heap.size w P2 ∧ P2.heap.size = A + 2) := by
    have s1 : (w.alloc (.cells #[.int .i64 R, .int .i64 C, .slice q n c] 24)).heap.size = A + 1 := by rw [← hA]; simp
    have m1 := mb_new w (.int .i64 R) (.int .i64 C) (.slice q n c)
    have m3 := z3_new (w.alloc (.cells #[.int .i64 R, .int .i64 C, .slice q n c] 24))
    rw [hA] at m1
    rw [s1] at m3
    rw [← hP2]
    exact ⟨m1.below ((Below.refl _ _).alloc (Nat.le_refl _) _), m3, ((Below.refl _ w).alloc (Nat.le_refl _) _).alloc (by simp) _, by rw [← hA]; simp⟩
  have K1 := mright_calls R C q n c _ rfl hR1 hR2 hC1 hC2 P2
  rcases hE with ⟨hr, rfl, rfl, hE⟩ | ⟨hr, rfl, rfl, rfl, rfl⟩
  · rw [hr] at K1
    obtain ⟨r, c0, e1, e2, hr3, hc3, hn⟩ := right_split hr
    have e1 : r' = r := by omega
    have e2 : c' = c0 := by omega
    subst e1 e2
    have HS : Hid (Bs w q n xs ∧ Off T n q ∧ n = r' * c' ∧ IsEch r' c' xs ys L ∧ Fd k B T w) := ⟨hs, hq, hn, hE, hF⟩
    clear hs hq hn hE hF hr hR1 hR2 hC1 hC2
    have a0 := (HP.out.1).c0
    have a1 := (HP.out.1).c1
    have a2 := (HP.out.1).c2
    go_enter Tryz.func25, Tryz.ntmps25
    go_wp2_with fail
    refine K1.mono ?_
    rintro e w1 ⟨rfl, hb1⟩
    clear K1
    clear a0 a1 a2
    have HT1 : Hid (Mb w1 A (.int .i64 (r' : Nat)) (.int .i64 (c' : Nat)) (.slice q n c) ∧ Z3 w1 (A + 1) ∧ Below w.heap.size w w1 ∧ A + 2 ≤ w1.heap.size) := ⟨HP.out.1.below hb1, HP.out.2.1.below hb1, HP.out.2.2.1.trans (hb1.mono HP.out.2.2.1.size), by have := hb1.size; rw [HP.out.2.2.2] at this; exact this⟩
    clear hb1
    have K2 := gbeside_calls (some ⟨B, 0, none⟩) r' c' 0 c' n q none n c 0 0 xs [] rfl HS.out.2.2.1 HS.out.2.2.1 (Nat.mul_zero _).symm hnc (Nat.le_refl _) hr3 hc3 (by omega) w1 (HS.out.1.below HT1.out.2.2.1) (bs_none w1)
    have a0 := (HT1.out.1).c0
    have a1 := (HT1.out.1).c1
    have a2 := (HT1.out.1).c2
    go_wp2_with fail
    refine K2.mono ?_
    rintro e w2 ⟨G, rfl, hW2, hb2⟩
    clear K2
    clear a0 a1 a2
    obtain ⟨X, hX⟩ : ∃ X, w2.heap.size = X := ⟨_, rfl⟩
    obtain ⟨W3, hW3⟩ : ∃ W3, w2.alloc (.cells #[.int .i64 (r' : Nat), .int .i64 (c' : Nat), .slice (some ⟨G, 0, none⟩) n n, .pointer (some ⟨B, 0, none⟩)] 85) = W3 := ⟨_, rfl⟩
    have HT3 : Hid (Z3 W3 (A + 1) ∧ Below w.heap.size w W3 ∧ Wk W3 (A + 2) G n r' c' (bes c' (mx c' xs) (mx 0 [])) ∧ Wb W3 X r' c' G n (.pointer (some ⟨B, 0, none⟩)) ∧ Fd k B T W3 ∧ A + 2 ≤ G ∧ G < X ∧ ¬ B = G ∧ ¬ T = G ∧ T < A ∧ A + 1 < W3.heap.size) := by
      have h1 : Below w2.heap.size w2 W3 := hW3 ▸ (Below.refl _ w2).alloc (Nat.le_refl _) _
      have h2 : Below w1.heap.size w1 W3 := hb2.trans (h1.mono hb2.size)
      have h3 : Below w.heap.size w W3 := HT1.out.2.2.1.trans (h2.mono HT1.out.2.2.1.size)
      have hlt := hW2.lt
      have hs := HT1.out.2.2.2
      have hF := HS.out.2.2.2.2
      have hl1 := hF.lt
      have hl2 := hF.blt
      refine ⟨HT1.out.2.1.below h2, h3, (hW2.below h1).mono hs, ?_, hF.below h3, by omega, by omega, by omega, by omega, by omega, ?_⟩
      · rw [← hX, ← hW3]; exact wb_new w2 r' c' G n _
      · have := (HT1.out.2.1.below h2).blt; exact this
    have K3 := greduce_calls k B T (A + 2) G n r' c' (bes c' (mx c' xs) (mx 0 [])) hr3 (by omega) W3 HT3.out.2.2.1 HT3.out.2.2.2.2.1 HT3.out.2.2.2.2.2.2.2.1 HT3.out.2.2.2.2.2.2.2.2.1
    clear hW2 hb2 HT1
    have b0 := (HT3.out.2.2.2.1).c0
    have b1 := (HT3.out.2.2.2.1).c1
    have b2 := (HT3.out.2.2.2.1).c2
    have b3 := (HT3.out.2.2.2.1).c3
    go_wp2_with fail
    refine K3.mono ?_
    rintro e w4 ⟨v4, E, L4, rfl, hW4, hO4, hE4, hF4, hb4⟩
    clear K3
    clear b0 b1 b2 b3
    have HT4 : Hid (Z3 w4 (A + 1) ∧ Wb w4 X r' c' G n (.pointer (some ⟨B, 0, none⟩)) ∧ Ow w4 A (.slice (some ⟨G, 0, none⟩) n n) ys ∧ OwI w4 (A + 2) v4 L ∧ Fd k B T w4 ∧ But (· = T) w w4 ∧ A + 2 ≤ G) := by
      have hq := HT3.out.2.2.2.2.2
      have h0 : IsEch r' c' xs (cells r' c' E) L4 := by
        refine ⟨Mx.cells_length _ _ _, Mx.cells_byt _ _ _, (hE4.of_eqv ?_).congr (Mx.mx_cells r' c' E).symm fun _ _ => rfl⟩
        exact Mx.Eq.eqv fun a b _ hb => by unfold bes; rw [if_pos hb]
      obtain ⟨e1, e2⟩ := HS.out.2.2.2.1.unique h0
      have hs1 := HT3.out.2.2.2.1.blt
      refine ⟨HT3.out.1.but hb4 (by omega), HT3.out.2.2.2.1.but hb4 (by omega), ?_, ?_, hF4, ?_, hq.1⟩
      · rw [e1]; exact hW4.2.mono (by omega)
      · rw [e2]; exact hO4.mono (by omega)
      · have h3 := HT3.out.2.1
        exact ⟨hb4.os.trans h3.os, hb4.tape.trans h3.tape, hb4.output.trans h3.output, Nat.le_trans h3.size hb4.size, fun i hi hs => (hb4.block i (Nat.lt_of_lt_of_le hi h3.size) (by omega)).trans (h3.block i hi)⟩
    clear hW4 hO4 hE4 hF4 hb4
    have b0 := (HT4.out.2.1).c0
    have b1 := (HT4.out.2.1).c1
    have b2 := (HT4.out.2.1).c2
    have b3 := (HT4.out.2.1).c3
    have z0 := (HT4.out.1).c0
    have z1 := (HT4.out.1).c1
    have z2 := (HT4.out.1).c2
    have f0 := HT4.out.1.f0
    have f1 := HT4.out.1.f1
    have f2 := HT4.out.1.f2
    go_wp2
    have hbt := but_set3 w4 (A + 1) (.int .i64 (r' : Nat)) (.int .i64 (c' : Nat)) (.slice (some ⟨G, 0, none⟩) n n)
    subst hA
    have hbw : But (· = T) w (((w4.setCell ⟨w.heap.size + 1, 0, none⟩ (.int .i64 (r' : Nat))).setCell ⟨w.heap.size + 1, 1, none⟩ (.int .i64 (c' : Nat))).setCell ⟨w.heap.size + 1, 2, none⟩ (.slice (some ⟨G, 0, none⟩) n n)) := by
      have h6 := HT4.out.2.2.2.2.2.1
      exact ⟨hbt.os.trans h6.os, hbt.tape.trans h6.tape, hbt.output.trans h6.output, Nat.le_trans h6.size hbt.size, fun i hi hs => (hbt.block i (Nat.lt_of_lt_of_le hi h6.size) (by omega)).trans (h6.block i hi hs)⟩
    refine bodyPost_ret (results_two Tryz.results25 rfl (load_set3 HT4.out.1 _ _ _)) rfl ⟨_, _, rfl, HT4.out.2.2.1.block fun k hk => hbt.block k (HT4.out.2.2.1.lt k hk).2 (by cases hk; have := HT4.out.2.2.2.2.2.2; show ¬ G = _; omega), (HT4.out.2.2.2.1.but hbt (fun k hk => by omega)).mono (by omega), HT4.out.2.2.2.2.1.but hbt ?_ ?_, hbw⟩
    · have := HS.out.2.2.2.2.blt; omega
    · have := HS.out.2.2.2.2.lt; omega
  · rw [hr] at K1
    have HS : Hid (Fd k B T w) := hF
    clear hs hq hF hr hR1 hR2 hC1 hC2
    have a0 := (HP.out.1).c0
    have a1 := (HP.out.1).c1
    have a2 := (HP.out.1).c2
    go_enter Tryz.func25, Tryz.ntmps25
    go_wp2_with fail
    refine K1.mono ?_
    rintro e w1 ⟨rfl, hb1⟩
    clear K1
    clear a0 a1 a2
    have HT1 : Hid (Z3 w1 (A + 1) ∧ Below w.heap.size w w1) := ⟨HP.out.2.1.below hb1, HP.out.2.2.1.trans (hb1.mono HP.out.2.2.1.size)⟩
    clear hb1
    have z0 := (HT1.out.1).c0
    have z1 := (HT1.out.1).c1
    have z2 := (HT1.out.1).c2
    have f0 := HT1.out.1.f0
    have f1 := HT1.out.1.f1
    have f2 := HT1.out.1.f2
    go_wp2
    have hbt := but_set3 w1 (A + 1) (.int .i64 0) (.int .i64 0) (.slice none 0 0)
    subst hA
    have hbw := HT1.out.2.trans (hbt.below HT1.out.2.size (fun k hk => by omega))
    exact bodyPost_ret (results_two Tryz.results25 rfl (load_set3 HT1.out.1 _ _ _)) rfl ⟨_, _, rfl, ow_nil _ _, owV_nil _ _ _, HS.out.below hbw, But.of_below hbw⟩

set_option maxRecDepth 100000 in
set_option maxHeartbeats 4000000 in
theorem grank_calls (k B T : Nat) (R C : Int) (q : Option Addr) (n c : Nat) (xs : List Nat) (r' c' : Nat) (ys L : List Nat) (l : Nat) (hE : EchO R C n xs r' c' ys L) (hl : L.length = l) (hR1 : -9223372036854775808 ≤ R) (hR2 : R < 9223372036854775808) (hC1 : -9223372036854775808 ≤ C) (hC2 : C < 9223372036854775808) (hnc : n ≤ c) (w : World) (hs : Bs w q n xs) (hF : Fd k B T w) (hq : Off T n q) :
    Calls Tryz.prog 20 #[.pointer (some ⟨B, 0, none⟩), .agg #[.int .i64 R, .int .i64 C, .slice q n c]] w fun e w' => e = .returned (.int .i64 (l : Nat)) ∧ Fd k B T w' ∧ But (· = T) w w' := by
  obtain ⟨A, hA⟩ : ∃ A, w.heap.size = A := ⟨_, rfl⟩
  obtain ⟨P2, hP2⟩ : ∃ P2, w.alloc (.cells #[.int .i64 R, .int .i64 C, .slice q n c] 24) = P2 := ⟨_, rfl⟩
  have hb0 : Below w.heap.size w P2 := hP2 ▸ (Below.refl _ w).alloc (Nat.le_refl _) _
  have HP : Hid (Mb P2 A (.int .i64 R) (.int .i64 C) (.slice q n c) ∧ Below w.heap.size w P2) := ⟨by rw [← hA, ← hP2]; exact mb_new w _ _ _, hb0⟩
  have K1 := gech_calls k B T R C q n c xs r' c' ys L hE hR1 hR2 hC1 hC2 hnc P2 (hs.below hb0) (hF.below hb0) hq
  clear hs hF hq hE hb0 hR1 hR2 hC1 hC2
  have a0 := (HP.out.1).c0
  have a1 := (HP.out.1).c1
  have a2 := (HP.out.1).c2
  go_enter Tryz.func20, Tryz.ntmps20
  go_wp2_with fail
  refine K1.mono ?_
  rintro e w1 ⟨v1, v2, rfl, hO1, hO2, hF1, hb1⟩
  clear K1
  clear a0 a1 a2
  obtain ⟨q2, c2, rfl, -, -, -⟩ := OwI.tell hO2 hl
  have HT : Hid (Fd k B T w1 ∧ But (· = T) w w1) := ⟨hF1, (But.of_below HP.out.2).trans hb1⟩
  obtain ⟨q1, m1, c1, rfl⟩ := hO1.isSlice
  clear hO1 hO2 hF1 hb1
  go_wp2
  go_ret
  exact ⟨rfl, HT.out.1.alloc _, HT.out.2.alloc _⟩
end Go.Proofs
/- The walks of gauss.solveAll and Solve. Conditions: any numbers of rows and columns, and cells of bytes; a field that Of has made, in whose table the cells do not lie. -/
namespace Go.Proofs
open Go.RowKit Go.ChangeShapes Go.WideShapes
open Mx (Mat cells upd prt lay mx rowL bes IsEch Sol dot solx)
open Pol (Byt ofL)

/-- What is told of any two matrices: one whose columns solve those of the second one; or that there is none. -/
def SaO (R C : Int) (n : Nat) (xs : List Nat) (Rb : Int) (Cb : Nat) (ys : List Nat) (c b : Nat) (zs : List Nat) (ok : Bool) : Prop :=
  (ok = true ∧ rightB R C n = true ∧ R = Rb ∧ C = (c : Int) ∧ b = Cb ∧ zs.length = c * Cb ∧ Byt zs ∧ ∀ j, j < Cb → Sol R.toNat c (mx c xs) (fun i => mx Cb ys i j) (fun t => mx Cb zs t j)) ∨
  (ok = false ∧ c = 0 ∧ b = 0 ∧ zs = [] ∧ (rightB R C n = true → R = Rb → ∃ j, j < Cb ∧ ∀ x : Nat → GF, ¬ ∀ i, i < R.toNat → dot C.toNat (mx C.toNat xs i) x = mx Cb ys i j))
namespace Mx
/-- The columns that are told, as far as lead t. -/
def solT (E : Mat) (C t : Nat) (l : Nat → Nat) : Mat := fun a b => solx E (C + b) t l a
theorem sol_next {R C D r t : Nat} {E : Mat} {L : List Nat} (h : Red R (C + D) E r fun k => L.getD k 0) (ht : t < r) :
    Eq C D (lay (solT E C t fun k => L.getD k 0) (L.getD t 0) 0 (prt E t C D)) (solT E C (t + 1) fun k => L.getD k 0) := fun a b ha hb => by
  unfold lay
  rw [prt_length]
  have e : solT E C (t + 1) (fun k => L.getD k 0) a b = solT E C t (fun k => L.getD k 0) a b + E t (C + b) * dl a (L.getD t 0) := rfl
  rw [e]
  by_cases q : a = L.getD t 0
  · subst q
    rw [if_pos ⟨rfl, by omega, by omega⟩, dl_self, GF.mul_one, Nat.sub_zero, prt_ofL _ _ _ _ _ hb]
    have : solT E C t (fun k => L.getD k 0) (L.getD t 0) b = 0 := solx_other _ _ fun k hk e => by have := h.inj (by omega) ht e; omega
    rw [this, GF.zero_add]
  · rw [if_neg (fun k => q k.1), dl_ne q, GF.mul_zero, GF.add_zero]
theorem saO_cols {R C D : Nat} {xs ys zs : List Nat} {X : Mat} (hl : zs.length = C * D) (hb : Byt zs) (h : ∀ j, j < D → Sol R C (mx C xs) (fun i => mx D ys i j) (fun t => mx D zs t j)) (k : ∀ j, j < D → Sol R C (mx C xs) (fun i => mx D ys i j) (fun t => X t j)) : zs = cells C D X :=
  cells_eq hl hb fun i j hi hj => (h j hj).unique (k j hj) i hi
theorem leads_lt {R C r : Nat} {E : Mat} {l : Nat → Nat} {B : Nat} (h : Red R B E (r + 1) l) (hl : l r < C) : ∀ k, k < r + 1 → l k < C := fun k hk => by
  by_cases e : k = r
  · subst e; exact hl
  · have := h.up k r (by omega) (by omega); omega
end Mx

set_option maxRecDepth 100000 in
set_option maxHeartbeats 4000000 in
theorem gsolve_calls (k B T : Nat) (R C Rb : Int) (q qb : Option Addr) (n c nb Cb cb : Nat) (xs ys : List Nat) (c' b' : Nat) (zs : List Nat) (ok : Bool) (hE : SaO R C n xs Rb Cb ys c' b' zs ok) (hR1 : -9223372036854775808 ≤ R) (hR2 : R < 9223372036854775808) (hC1 : -9223372036854775808 ≤ C) (hC2 : C < 9223372036854775808)
    (hnc : n ≤ c) (hcb : nb ≤ cb) (hCb : Cb ≤ 300) (hnb : rightB R C n = true → R = Rb → nb = R.toNat * Cb) (w : World) (hs : Bs w q n xs) (hs2 : Bs w qb nb ys) (hF : Fd k B T w) :
    Calls Tryz.prog 41 #[.pointer (some ⟨B, 0, none⟩), .agg #[.int .i64 R, .int .i64 C, .slice q n c], .agg #[.int .i64 Rb, .int .i64 (Cb : Nat), .slice qb nb cb]] w fun e w' => ∃ v, e = .returned (.tuple #[.agg #[.int .i64 (c' : Nat), .int .i64 (b' : Nat), v], .bool ok]) ∧ Ow w' w.heap.size v zs ∧ Fd k B T w' ∧ But (· = T) w w' := by
  obtain ⟨A, hA⟩ : ∃ A, w.heap.size = A := ⟨_, rfl⟩
  obtain ⟨P3, hP3⟩ : ∃ P3, ((w.alloc (.cells #[.int .i64 R, .int .i64 C, .slice q n c] 24)).alloc (.cells #[.int .i64 Rb, .int .i64 (Cb : Nat), .slice qb nb cb] 24)).alloc (.cells #[.int .i64 0, .int .i64 0, .slice none 0 0] 24) = P3 := ⟨_, rfl⟩
  have HP : Hid (Mb P3 A (.int .i64 R) (.int .i64 C) (.slice q n c) ∧ Mb P3 (A + 1) (.int .i64 Rb) (.int .i64 (Cb : Nat)) (.slice qb nb cb) ∧ Z3 P3 (A + 2) ∧ Below w.heap.size w P3 ∧ P3.heap.size = A + 3) := by
    have s1 : (w.alloc (.cells #[.int .i64 R, .int .i64 C, .slice q n c] 24)).heap.size = A + 1 := by rw [← hA]; simp
    have s2 : ((w.alloc (.cells #[.int .i64 R, .int .i64 C, .slice q n c] 24)).alloc (.cells #[.int .i64 Rb, .int .i64 (Cb : Nat), .slice qb nb cb] 24)).heap.size = A + 2 := by rw [← hA]; simp
    have m1 := mb_new w (.int .i64 R) (.int .i64 C) (.slice q n c)
    have m2 := mb_new (w.alloc (.cells #[.int .i64 R, .int .i64 C, .slice q n c] 24)) (.int .i64 Rb) (.int .i64 (Cb : Nat)) (.slice qb nb cb)
    have m3 := z3_new ((w.alloc (.cells #[.int .i64 R, .int .i64 C, .slice q n c] 24)).alloc (.cells #[.int .i64 Rb, .int .i64 (Cb : Nat), .slice qb nb cb] 24))
    rw [hA] at m1
    rw [s1] at m2
    rw [s2] at m3
    rw [← hP3]
    exact ⟨m1.below (((Below.refl _ _).alloc (Nat.le_refl _) _).alloc (by simp) _), m2.below ((Below.refl _ _).alloc (Nat.le_refl _) _), m3, (((Below.refl _ w).alloc (Nat.le_refl _) _).alloc (by simp) _).alloc (by simp; omega) _, by rw [← hA]; simp⟩
  obtain ⟨rb, hrb⟩ : ∃ rb, rightB R C n = rb := ⟨_, rfl⟩
  have K1 := mright_calls R C q n c rb hrb hR1 hR2 hC1 hC2 P3
  by_cases hgood : rb = true ∧ R = Rb
  · obtain ⟨rfl, rfl⟩ := hgood
    obtain ⟨r, c0, rfl, rfl, hr3, hc3, hn⟩ := right_split hrb
    have hnb' := hnb hrb rfl
    rw [Int.toNat_natCast] at hnb'
    have HS : Hid (Bs w q n xs ∧ Bs w qb nb ys ∧ n = r * c0 ∧ nb = r * Cb ∧ SaO r c0 n xs r Cb ys c' b' zs ok ∧ Fd k B T w ∧ rightB r c0 n = true) := ⟨hs, hs2, hn, hnb', hE, hF, hrb⟩
    clear hs hs2 hn hnb hnb' hE hF hrb hR1 hR2 hC1 hC2
    have a0 := (HP.out.1).c0
    have a1 := (HP.out.1).c1
    have a2 := (HP.out.1).c2
    have d0 := (HP.out.2.1).c0
    have d1 := (HP.out.2.1).c1
    have d2 := (HP.out.2.1).c2
    go_enter Tryz.func41, Tryz.ntmps41
    go_wp2_with fail
    refine K1.mono ?_
    rintro e w1 ⟨rfl, hb1⟩
    clear K1
    clear a0 a1 a2
    clear d0 d1 d2
    have HT1 : Hid (Mb w1 A (.int .i64 (r : Nat)) (.int .i64 (c0 : Nat)) (.slice q n c) ∧ Mb w1 (A + 1) (.int .i64 (r : Nat)) (.int .i64 (Cb : Nat)) (.slice qb nb cb) ∧ Z3 w1 (A + 2) ∧ Below w.heap.size w w1 ∧ A + 3 ≤ w1.heap.size) := ⟨HP.out.1.below hb1, HP.out.2.1.below hb1, HP.out.2.2.1.below hb1, HP.out.2.2.2.1.trans (hb1.mono HP.out.2.2.2.1.size), by have := hb1.size; rw [HP.out.2.2.2.2] at this; exact this⟩
    clear hb1
    obtain ⟨D, hD⟩ : ∃ D, D = c0 + Cb := ⟨_, rfl⟩
    obtain ⟨m, hm⟩ : ∃ m, m = r * D := ⟨_, rfl⟩
    have K2 := gbeside_calls (some ⟨B, 0, none⟩) r c0 Cb D m q qb n c nb cb xs ys hD hm HS.out.2.2.1 HS.out.2.2.2.1 hnc hcb hr3 hc3 hCb w1 (HS.out.1.below HT1.out.2.2.2.1) (HS.out.2.1.below HT1.out.2.2.2.1)
    have HD : Hid (D = c0 + Cb ∧ m = r * D) := ⟨hD, hm⟩
    have hD6 : D ≤ 600 := by omega
    have hcD : c0 ≤ D := by omega
    have hDc : D - c0 = Cb := by omega
    clear hD hm
    have a0 := (HT1.out.1).c0
    have a1 := (HT1.out.1).c1
    have a2 := (HT1.out.1).c2
    have d0 := (HT1.out.2.1).c0
    have d1 := (HT1.out.2.1).c1
    have d2 := (HT1.out.2.1).c2
    go_wp2_with fail
    refine K2.mono ?_
    rintro e w2 ⟨G, rfl, hW2, hb2⟩
    clear K2
    clear a0 a1 a2
    clear d0 d1 d2
    obtain ⟨X, hX⟩ : ∃ X, w2.heap.size = X := ⟨_, rfl⟩
    obtain ⟨W3, hW3⟩ : ∃ W3, w2.alloc (.cells #[.int .i64 (r : Nat), .int .i64 (D : Nat), .slice (some ⟨G, 0, none⟩) m m, .pointer (some ⟨B, 0, none⟩)] 85) = W3 := ⟨_, rfl⟩
    have HT3 : Hid (Mb W3 A (.int .i64 (r : Nat)) (.int .i64 (c0 : Nat)) (.slice q n c) ∧ Mb W3 (A + 1) (.int .i64 (r : Nat)) (.int .i64 (Cb : Nat)) (.slice qb nb cb) ∧ Z3 W3 (A + 2) ∧ Below w.heap.size w W3 ∧ Wk W3 (A + 3) G m r D (bes c0 (mx c0 xs) (mx Cb ys)) ∧ Wb W3 X r D G m (.pointer (some ⟨B, 0, none⟩)) ∧ Fd k B T W3 ∧ A + 3 ≤ G ∧ G < X ∧ ¬ B = G ∧ ¬ T = G ∧ T < A ∧ B < A) := by
      have h1 : Below w2.heap.size w2 W3 := hW3 ▸ (Below.refl _ w2).alloc (Nat.le_refl _) _
      have h2 : Below w1.heap.size w1 W3 := hb2.trans (h1.mono hb2.size)
      have h3 : Below w.heap.size w W3 := HT1.out.2.2.2.1.trans (h2.mono HT1.out.2.2.2.1.size)
      have hlt := hW2.lt
      have hs := HT1.out.2.2.2.2
      have hF := HS.out.2.2.2.2.2.1
      have hl1 := hF.lt
      have hl2 := hF.blt
      refine ⟨HT1.out.1.below h2, HT1.out.2.1.below h2, HT1.out.2.2.1.below h2, h3, (hW2.below h1).mono hs, ?_, hF.below h3, by omega, by omega, by omega, by omega, by omega, by omega⟩
      rw [← hX, ← hW3]; exact wb_new w2 r D G m _
    have K3 := greduce_calls k B T (A + 3) G m r D (bes c0 (mx c0 xs) (mx Cb ys)) hr3 hD6 W3 HT3.out.2.2.2.2.1 HT3.out.2.2.2.2.2.2.1 HT3.out.2.2.2.2.2.2.2.2.2.1 HT3.out.2.2.2.2.2.2.2.2.2.2.1
    clear hW2 hb2 HT1 HP
    have b0 := (HT3.out.2.2.2.2.2.1).c0
    have b1 := (HT3.out.2.2.2.2.2.1).c1
    have b2 := (HT3.out.2.2.2.2.2.1).c2
    have b3 := (HT3.out.2.2.2.2.2.1).c3
    go_wp2_with fail
    refine K3.mono ?_
    rintro e w4 ⟨v4, E, L, rfl, hW4, hO4, hE4, hF4, hb4⟩
    clear K3
    clear b0 b1 b2 b3
    obtain ⟨l, hl⟩ : ∃ l, L.length = l := ⟨_, rfl⟩
    obtain ⟨q4, c4, rfl, S4, C4, Q4⟩ := OwI.tell hO4 hl
    have HT4 : Hid (Mb w4 A (.int .i64 (r : Nat)) (.int .i64 (c0 : Nat)) (.slice q n c) ∧ Mb w4 (A + 1) (.int .i64 (r : Nat)) (.int .i64 (Cb : Nat)) (.slice qb nb cb) ∧ Z3 w4 (A + 2) ∧ Wb w4 X r D G m (.pointer (some ⟨B, 0, none⟩)) ∧ Wk w4 (A + 3) G m r D E ∧ Is w4 q4 l L ∧ Mx.Ech r (c0 + Cb) (bes c0 (mx c0 xs) (mx Cb ys)) E l (fun k => L.getD k 0) ∧ Fd k B T w4 ∧ But (· = T) w w4 ∧ L.length = l ∧ X < w4.heap.size) := by
      have hq := HT3.out.2.2.2.2.2.2.2
      have hs1 := HT3.out.2.2.2.2.2.1.blt
      refine ⟨HT3.out.1.but hb4 (by omega), HT3.out.2.1.but hb4 (by omega), HT3.out.2.2.1.but hb4 (by omega), HT3.out.2.2.2.2.2.1.but hb4 (by omega), hW4, S4, ?_, hF4, ?_, hl, Nat.lt_of_lt_of_le hs1 hb4.size⟩
      · rw [← HD.out.1, ← hl]; exact hE4
      · have h3 := HT3.out.2.2.2.1
        exact ⟨hb4.os.trans h3.os, hb4.tape.trans h3.tape, hb4.output.trans h3.output, Nat.le_trans h3.size hb4.size, fun i hi hs => (hb4.block i (Nat.lt_of_lt_of_le hi h3.size) (by omega)).trans (h3.block i hi)⟩
    clear hW4 hO4 hE4 hF4 hb4 S4 hl
    have hll : l ≤ r := HT4.out.2.2.2.2.2.2.1.red.le
    obtain ⟨n2, hn2⟩ : ∃ n2, n2 = c0 * Cb := ⟨_, rfl⟩
    have HN2 : Hid (n2 = c0 * Cb) := hn2
    clear hn2
    by_cases hbad : 0 < l ∧ c0 ≤ L.getD (l - 1) 0
    · obtain ⟨rfl, rfl, rfl, rfl⟩ : ok = false ∧ c' = 0 ∧ b' = 0 ∧ zs = [] := by
        rcases HS.out.2.2.2.2.1 with ⟨_, _, _, h4, _, _, _, h8⟩ | ⟨h1, h2, h3, h4, _⟩
        · have h4 : c' = c0 := by omega
          subst h4
          rw [Int.toNat_natCast] at h8
          obtain ⟨hj, hno⟩ := Mx.bes_none HT4.out.2.2.2.2.2.2.1 (k := l - 1) (by omega) hbad.2
          exact absurd (h8 _ hj).eq (hno _)
        · exact ⟨h1, h2, h3, h4⟩
      obtain ⟨a4, rfl, _, cs⟩ := HT4.out.2.2.2.2.2.1.cell (l - 1) (by omega)
      obtain ⟨s, hs⟩ : ∃ s, l - 1 = s := ⟨_, rfl⟩
      obtain ⟨ld, hld⟩ : ∃ ld, L.getD s 0 = ld := ⟨_, rfl⟩
      rw [hs, hld] at cs hbad
      have i0 : 0 < l := by omega
      have i1 : (0 : Int) < (l : Int) := by omega
      have i2 : (l : Int) - 1 = (s : Int) := by omega
      have i3 : (s : Int) < (l : Int) := by omega
      have i4 : (c0 : Int) ≤ (ld : Int) := by omega
      have i5 : c0 ≤ ld := by omega
      clear hs hld hbad
      have a0 := (HT4.out.1).c0
      have a1 := (HT4.out.1).c1
      have a2 := (HT4.out.1).c2
      go_wp2
      go_quiet (fail)
      clear i0 i1 i2 i3 i4 i5 cs
      obtain ⟨W5, hW5⟩ : ∃ W5, w4.drewN nq = W5 := ⟨_, rfl⟩
      rw [hW5]
      clear a0 a1 a2
      have HT5 : Hid (Z3 W5 (A + 2) ∧ Fd k B T W5 ∧ But (· = T) w W5 ∧ T < A ∧ B < A) := by
        have hb : Below w4.heap.size w4 W5 := hW5 ▸ Below.drewN (Below.refl _ w4) nq
        have h := HT4.out
        exact ⟨h.2.2.1.below hb, h.2.2.2.2.2.2.2.1.below hb, h.2.2.2.2.2.2.2.2.1.trans (But.of_below hb), HT3.out.2.2.2.2.2.2.2.2.2.2.2⟩
      clear hW5 HT4 HT3
      have z0 := (HT5.out.1).c0
      have z1 := (HT5.out.1).c1
      have z2 := (HT5.out.1).c2
      have f0 := HT5.out.1.f0
      have f1 := HT5.out.1.f1
      have f2 := HT5.out.1.f2
      go_wp2
      have hbt := but_set3 W5 (A + 2) (.int .i64 0) (.int .i64 0) (.slice none 0 0)
      subst hA
      have hbw : But (· = T) w (((W5.setCell ⟨w.heap.size + 2, 0, none⟩ (.int .i64 0)).setCell ⟨w.heap.size + 2, 1, none⟩ (.int .i64 0)).setCell ⟨w.heap.size + 2, 2, none⟩ (.slice none 0 0)) := by
        have h6 := HT5.out.2.2.1
        exact ⟨hbt.os.trans h6.os, hbt.tape.trans h6.tape, hbt.output.trans h6.output, Nat.le_trans h6.size hbt.size, fun i hi hs => (hbt.block i (Nat.lt_of_lt_of_le hi h6.size) (by omega)).trans (h6.block i hi hs)⟩
      exact bodyPost_ret (results_two Tryz.results41 rfl (load_set3 HT5.out.1 _ _ _)) rfl ⟨_, rfl, ow_nil _ _, HT5.out.2.1.but hbt (by have := HT5.out.2.2.2; omega) (by have := HT5.out.2.2.2; omega), hbw⟩
    · have HG : Hid (∀ k, k < l → L.getD k 0 < c0) := by
        intro k hk
        have hr := HT4.out.2.2.2.2.2.2.1.red
        by_cases e : k = l - 1
        · subst e; omega
        · have := hr.up k (l - 1) (by omega) (by omega)
          have h2 : L.getD k 0 < L.getD (l - 1) 0 := this
          omega
      have hcase : (((0 : Int) < (l : Int)) = False ∧ (0 < l) = False) ∨ ∃ s, s + 1 = l ∧ ∃ a4, q4 = some a4 ∧ w4.cell? (a4.add s) = some (.int .i64 (L.getD s 0 : Nat)) ∧ L.getD s 0 < c0 := by
        by_cases h0 : l = 0
        · exact .inl ⟨eq_false (by omega), eq_false (by omega)⟩
        · obtain ⟨a4, e4, _, hc4⟩ := HT4.out.2.2.2.2.2.1.cell (l - 1) (by omega)
          exact .inr ⟨l - 1, by omega, a4, e4, hc4, HG.out _ (by omega)⟩
      clear hbad
      have a0 := (HT4.out.1).c0
      have a1 := (HT4.out.1).c1
      have a2 := (HT4.out.1).c2
      have b0 := (HT4.out.2.2.2.1).c0
      have b1 := (HT4.out.2.2.2.1).c1
      have b2 := (HT4.out.2.2.2.1).c2
      have b3 := (HT4.out.2.2.2.1).c3
      have d0 := (HT4.out.2.1).c0
      have d1 := (HT4.out.2.1).c1
      have d2 := (HT4.out.2.1).c2
      rcases hcase with ⟨e1, e2⟩ | ⟨s, hs, a4, rfl, cs, hlt4⟩
      · go_wp2
        go_quiet (fail)
        clear e1 e2
        obtain ⟨W5, hW5⟩ : ∃ W5, w4.drewN nq = W5 := ⟨_, rfl⟩
        rw [hW5]
        clear a0 a1 a2
        clear b0 b1 b2 b3
        clear d0 d1 d2
        have HT5 : Hid (Mb W5 A (.int .i64 (r : Nat)) (.int .i64 (c0 : Nat)) (.slice q n c) ∧ Mb W5 (A + 1) (.int .i64 (r : Nat)) (.int .i64 (Cb : Nat)) (.slice qb nb cb) ∧ Z3 W5 (A + 2) ∧ Wb W5 X r D G m (.pointer (some ⟨B, 0, none⟩)) ∧ Wk W5 (A + 3) G m r D E ∧ Is W5 q4 l L ∧ Fd k B T W5 ∧ But (· = T) w W5 ∧ X < W5.heap.size) := by
          have hb : Below w4.heap.size w4 W5 := hW5 ▸ Below.drewN (Below.refl _ w4) nq
          have h := HT4.out
          exact ⟨h.1.below hb, h.2.1.below hb, h.2.2.1.below hb, h.2.2.2.1.below hb, h.2.2.2.2.1.below hb, h.2.2.2.2.2.1.below hb, h.2.2.2.2.2.2.2.1.below hb, h.2.2.2.2.2.2.2.2.1.trans (But.of_below hb), Nat.lt_of_lt_of_le h.2.2.2.2.2.2.2.2.2.2 hb.size⟩
        clear hW5
        have K5 := gblank_calls c0 Cb n2 (some ⟨B, 0, none⟩) HN2.out (by omega) (by omega) W5
        have a0 := (HT5.out.1).c0
        have a1 := (HT5.out.1).c1
        have a2 := (HT5.out.1).c2
        have b0 := (HT5.out.2.2.2.1).c0
        have b1 := (HT5.out.2.2.2.1).c1
        have b2 := (HT5.out.2.2.2.1).c2
        have b3 := (HT5.out.2.2.2.1).c3
        have d0 := (HT5.out.2.1).c0
        have d1 := (HT5.out.2.1).c1
        have d2 := (HT5.out.2.1).c2
        go_wp2_with fail
        refine K5.mono ?_
        rintro e w6 ⟨G2, rfl, hW6, hb6⟩
        clear K5
        clear a0 a1 a2
        clear b0 b1 b2 b3
        clear d0 d1 d2
        obtain ⟨X2, hX2⟩ : ∃ X2, w6.heap.size = X2 := ⟨_, rfl⟩
        obtain ⟨W7, hW7⟩ : ∃ W7, w6.alloc (.cells #[.int .i64 (c0 : Nat), .int .i64 (Cb : Nat), .slice (some ⟨G2, 0, none⟩) n2 n2, .pointer (some ⟨B, 0, none⟩)] 85) = W7 := ⟨_, rfl⟩
        have HT7 : Hid (Mb W7 A (.int .i64 (r : Nat)) (.int .i64 (c0 : Nat)) (.slice q n c) ∧ Z3 W7 (A + 2) ∧ Wb W7 X r D G m (.pointer (some ⟨B, 0, none⟩)) ∧ Wb W7 X2 c0 Cb G2 n2 (.pointer (some ⟨B, 0, none⟩)) ∧ Wk W7 (A + 3) G m r D E ∧ Wk W7 (A + 3) G2 n2 c0 Cb (fun _ _ => 0) ∧ Is W7 q4 l L ∧ Fd k B T W7 ∧ But (· = T) w W7 ∧ X < G2 ∧ G2 < X2 ∧ G < G2 ∧ A + 3 ≤ G2) := by
          have h1 : Below w6.heap.size w6 W7 := hW7 ▸ (Below.refl _ w6).alloc (Nat.le_refl _) _
          have h2 : Below W5.heap.size W5 W7 := hb6.trans (h1.mono hb6.size)
          have h := HT5.out
          have hlt := hW6.lt
          have hx := h.2.2.2.2.2.2.2.2
          have hg := HT3.out.2.2.2.2.2.2.2
          refine ⟨h.1.below h2, h.2.2.1.below h2, h.2.2.2.1.below h2, ?_, h.2.2.2.2.1.below h2, (hW6.below h1).mono (by omega), h.2.2.2.2.2.1.below h2, h.2.2.2.2.2.2.1.below h2, h.2.2.2.2.2.2.2.1.trans (But.of_below h2), by omega, by omega, by omega, by omega⟩
          rw [← hX2, ← hW7]; exact wb_new w6 c0 Cb G2 n2 _
        have HI : Hid (Is W5 q4 l L ∧ W5.heap.size ≤ G2 ∧ G2 < X2 ∧ Mx.Ech r (c0 + Cb) (bes c0 (mx c0 xs) (mx Cb ys)) E l (fun k => L.getD k 0)) := ⟨HT5.out.2.2.2.2.2.1, hW6.lt.1, hX2 ▸ hW6.lt.2, HT4.out.2.2.2.2.2.2.1⟩
        have HY : Hid (T < A ∧ B < A) := HT3.out.2.2.2.2.2.2.2.2.2.2.2
        clear hW6 hb6 HT5 HT4 HT3
        have b0 := (HT7.out.2.2.1).c0
        have b1 := (HT7.out.2.2.1).c1
        have b2 := (HT7.out.2.2.1).c2
        have b3 := (HT7.out.2.2.1).c3
        go_wp2
        clear b0 b1 b2 b3
        clear hW7
        go_loopw [58] (fun i wr => ∃ t : Nat, t ≤ l ∧ i = .int .i64 (t : Int) ∧ Wk wr (A + 3) G2 n2 c0 Cb (Mx.solT E c0 t fun k => L.getD k 0) ∧ But (· = G2) W7 wr) (fun i _ => l - (intOf i).toNat)
        case atStart => exact ⟨0, by omega, rfl, HT7.out.2.2.2.2.2.1.congr fun a b _ _ => rfl, But.refl _ _⟩
        case round =>
          obtain ⟨t, ht, rfl, hW, hB⟩ := hrel
          by_cases hlt : t < l
          · have hti : (t : Int) < (l : Int) := by omega
            obtain ⟨M, hM⟩ : ∃ M, (Mx.solT E c0 t fun k => L.getD k 0) = M := ⟨_, rfl⟩
            rw [hM] at hW
            obtain ⟨ld, hld⟩ : ∃ ld, L.getD t 0 = ld := ⟨_, rfl⟩
            have hldc : ld < c0 := hld ▸ HG.out t hlt
            obtain ⟨o1, ho1⟩ : ∃ o, o = t * D := ⟨_, rfl⟩
            obtain ⟨o2, ho2⟩ : ∃ o, o = ld * Cb := ⟨_, rfl⟩
            obtain ⟨dp, hdp⟩ : ∃ dp, (if D = c0 then (some ⟨G, o1, none⟩ : Option Addr) else some ⟨G, o1 + c0, none⟩) = dp := ⟨_, rfl⟩
            have HK : Hid (∀ W, But (· = G2) W7 W → Wb W X2 c0 Cb G2 n2 (.pointer (some ⟨B, 0, none⟩)) ∧ Wb W X r D G m (.pointer (some ⟨B, 0, none⟩)) ∧ Mb W A (.int .i64 (r : Nat)) (.int .i64 (c0 : Nat)) (.slice q n c) ∧ Wk W (A + 3) G m r D E ∧ Is W q4 l L) := fun W hb => by
              have h := HT7.out
              have hg := h.2.2.2.2.2.2.2.2.2
              refine ⟨h.2.2.2.1.but hb (by omega), h.2.2.1.but hb (by omega), h.1.but hb (by omega), h.2.2.2.2.1.but hb (by omega), h.2.2.2.2.2.2.1.but hb fun h0 a e e2 => ?_⟩
              obtain ⟨a', e', hl', _⟩ := HI.out.1.cell 0 h0
              rw [e] at e'; cases e'
              have := HI.out.2
              omega
            have K7 : Hid (∀ W, But (· = G2) W7 W ∧ Wk W (A + 3) G2 n2 c0 Cb M → Calls Tryz.prog 59 #[.agg #[.int .i64 (c0 : Nat), .int .i64 (Cb : Nat), .slice (some ⟨G2, 0, none⟩) n2 n2, .pointer (some ⟨B, 0, none⟩)], .int .i64 (ld : Nat)] W fun e w' => e = .returned (.slice (some ⟨G2, o2, none⟩) Cb Cb) ∧ But (· = G2) W7 w' ∧ Wk w' (A + 3) G2 n2 c0 Cb M) := fun W hW => by
              refine (grow_calls G2 n2 c0 Cb ld o2 (.pointer (some ⟨B, 0, none⟩)) hldc HN2.out ho2 (by omega) (by omega) W).mono ?_
              rintro e w' ⟨rfl, hb⟩
              exact ⟨rfl, hW.1.trans (But.of_below hb), hW.2.below hb⟩
            have K8 : Hid (∀ W, But (· = G2) W7 W ∧ Wk W (A + 3) G2 n2 c0 Cb M → Calls Tryz.prog 59 #[.agg #[.int .i64 (r : Nat), .int .i64 (D : Nat), .slice (some ⟨G, 0, none⟩) m m, .pointer (some ⟨B, 0, none⟩)], .int .i64 (t : Nat)] W fun e w' => e = .returned (.slice (some ⟨G, o1, none⟩) D D) ∧ But (· = G2) W7 w' ∧ ∃ W'', (Builtin.copy_ #[22, 22] 3 #[.slice (some ⟨G2, o2, none⟩) Cb Cb, .slice dp Cb Cb]).run Tryz.prog w' = .ok (.int .i64 (Cb : Nat)) W'' ∧ Hid (Wk W'' (A + 3) G2 n2 c0 Cb (Mx.solT E c0 (t + 1) fun k => L.getD k 0) ∧ But (· = G2) W7 W'')) := fun W hW => by
              refine (grow_calls G m r D t o1 (.pointer (some ⟨B, 0, none⟩)) (by omega) HD.out.2 ho1 hr3 hD6 W).mono ?_
              rintro e w' ⟨rfl, hb⟩
              have hb' := hW.1.trans (But.of_below (S := (· = G2)) hb)
              have hk := HK.out w' hb'
              have hsrc : Bs w' dp Cb (prt E t c0 Cb) := by
                by_cases hz : Cb = 0
                · subst hz
                  exact ⟨rfl, by omega, fun i hi => absurd hi (Nat.not_lt_zero i), fun i => by simp [prt, Pol.toL]⟩
                · rw [← hdp, if_neg (by omega)]
                  exact hk.2.2.2.1.bs (by omega) (by omega) ho1 (by omega)
              obtain ⟨W'', hcp, hW'', hb''⟩ := run_copy_part w' 3 (A + 3) G2 n2 c0 Cb ld 0 Cb Cb Cb Cb (some ⟨G2, o2, none⟩) dp M _ hldc (by omega) (hW.2.below hb) (fun _ => by rw [ho2, Nat.add_zero]) hsrc (Nat.le_refl _)
              refine ⟨rfl, hb', W'', hcp, ?_, hb'.trans hb''⟩
              have := Mx.sol_next (D := Cb) (t := t) HI.out.2.2.2.red hlt
              rw [hM, hld] at this
              exact hW''.congr this
            have HK5 : Hid (∀ W, But (· = G2) W7 W → W.cell? ⟨X2, 0, none⟩ = some (.int .i64 (c0 : Nat)) ∧ W.cell? ⟨X2, 1, none⟩ = some (.int .i64 (Cb : Nat)) ∧ W.cell? ⟨X2, 2, none⟩ = some (.slice (some ⟨G2, 0, none⟩) n2 n2) ∧ W.cell? ⟨X2, 3, none⟩ = some (.pointer (some ⟨B, 0, none⟩)) ∧ W.cell? ⟨X, 0, none⟩ = some (.int .i64 (r : Nat)) ∧ W.cell? ⟨X, 1, none⟩ = some (.int .i64 (D : Nat)) ∧ W.cell? ⟨X, 2, none⟩ = some (.slice (some ⟨G, 0, none⟩) m m) ∧ W.cell? ⟨X, 3, none⟩ = some (.pointer (some ⟨B, 0, none⟩)) ∧ W.cell? ⟨A, 1, none⟩ = some (.int .i64 (c0 : Nat))) := fun W hb => by
              have h := HK.out W hb
              exact ⟨h.1.c0, h.1.c1, h.1.c2, h.1.c3, h.2.1.c0, h.2.1.c1, h.2.1.c2, h.2.1.c3, h.2.2.1.c1⟩
            have hT0 : But (· = G2) W7 wr.drew ∧ Wk wr.drew (A + 3) G2 n2 c0 Cb M := ⟨hB.drew, hW.drew⟩
            have hk0 := HK.out _ hB
            have b0 := (hk0.1).c0
            have b1 := (hk0.1).c1
            have b2 := (hk0.1).c2
            have b3 := (hk0.1).c3
            have x0 := (hk0.2.1).c0
            have x1 := (hk0.2.1).c1
            have x2 := (hk0.2.1).c2
            have x3 := (hk0.2.1).c3
            have a0 := (hk0.2.2.1).c0
            have a1 := (hk0.2.2.1).c1
            have a2 := (hk0.2.2.1).c2
            obtain ⟨a9, e9, _, cl⟩ := hk0.2.2.2.2.cell t hlt
            subst e9
            rw [hld] at cl
            have hci : (c0 : Int) ≤ (D : Int) := by omega
            clear hW hB ho1 ho2 hM hld hk0 HK
            go_wp2
            go_region_held_law (fun w' => w'.cell? ⟨X2, 0, none⟩ = some (.int .i64 (c0 : Nat)) ∧ w'.cell? ⟨X2, 1, none⟩ = some (.int .i64 (Cb : Nat)) ∧ w'.cell? ⟨X2, 2, none⟩ = some (.slice (some ⟨G2, 0, none⟩) n2 n2) ∧ w'.cell? ⟨X2, 3, none⟩ = some (.pointer (some ⟨B, 0, none⟩)) ∧ w'.cell? ⟨X, 0, none⟩ = some (.int .i64 (r : Nat)) ∧ w'.cell? ⟨X, 1, none⟩ = some (.int .i64 (D : Nat)) ∧ w'.cell? ⟨X, 2, none⟩ = some (.slice (some ⟨G, 0, none⟩) m m) ∧ w'.cell? ⟨X, 3, none⟩ = some (.pointer (some ⟨B, 0, none⟩)) ∧ w'.cell? ⟨A, 1, none⟩ = some (.int .i64 (c0 : Nat)))
              (first | exact HK5.out _ hT0.1 | exact HK5.out _ hT3.1 | exact HK5.out _ hT4 | exact HK5.out _ hT5.out.2)
              (first
                | (go_at_call 59; with_reducible refine (K7.out _ hT0).mono ?_; rintro e w8 ⟨rfl, hT3⟩)
                | (go_at_call 59; with_reducible refine (K8.out _ hT3).mono ?_; rintro e w9 ⟨rfl, hT4, w10, hcp, hT5⟩)
                | (refine step_cp rfl (.tmp 65) (.tmp 71) 22 rfl hcp rfl rfl rfl ?_; simp only [Act.put, List.getElem_toArray, List.getElem_cons_succ, List.getElem_cons_zero, List.setIfInBounds_toArray, List.set_cons_succ, List.set_cons_zero]))
            clear K7 K8 HK5 hT0 hT3 hT4 hcp hdp cl
            clear a0 a1 a2
            clear b0 b1 b2 b3
            clear x0 x1 x2 x3
            go_wp2
            go_roundw
            case rel => exact ⟨t + 1, by omega, by go_num, hT5.out⟩
            case measure => simp [intOf]; omega
          · obtain rfl : t = l := by omega
            have hsol : ∀ j, j < Cb → Sol r c0 (mx c0 xs) (fun i => mx Cb ys i j) (fun a => Mx.solT E c0 t (fun k => L.getD k 0) a j) := fun j hj => Mx.bes_all HI.out.2.2.2 HG.out j hj
            obtain ⟨rfl, rfl, rfl, hzs⟩ : ok = true ∧ c' = c0 ∧ b' = Cb ∧ zs = cells c0 Cb (Mx.solT E c0 t fun k => L.getD k 0) := by
              rcases HS.out.2.2.2.2.1 with ⟨h1, _, _, h4, h5, h6, h7, h8⟩ | ⟨_, _, _, _, h5⟩
              · have h4 : c' = c0 := by omega
                subst h4
                rw [Int.toNat_natCast] at h8
                exact ⟨h1, rfl, h5, Mx.saO_cols h6 h7 h8 hsol⟩
              · obtain ⟨j, hj, hno⟩ := h5 HS.out.2.2.2.2.2.2 rfl
                rw [Int.toNat_natCast, Int.toNat_natCast] at hno
                exact absurd (hsol j hj).eq (hno _)
            have HZ : Hid (Wb wr X2 c' b' G2 n2 (.pointer (some ⟨B, 0, none⟩)) ∧ Z3 wr (A + 2) ∧ Ow wr A (.slice (some ⟨G2, 0, none⟩) n2 n2) zs ∧ Fd k B T wr ∧ But (· = T) w wr ∧ A + 3 ≤ G2) := by
              have h := HT7.out
              have hg := h.2.2.2.2.2.2.2.2.2
              have hy := HY.out
              refine ⟨h.2.2.2.1.but hB (by omega), h.2.1.but hB (by omega), ?_, h.2.2.2.2.2.2.2.1.but hB (by omega) (by omega), ?_, by omega⟩
              · rw [hzs]; exact hW.2.mono (by omega)
              · have h6 := h.2.2.2.2.2.2.2.2.1
                exact ⟨hB.os.trans h6.os, hB.tape.trans h6.tape, hB.output.trans h6.output, Nat.le_trans h6.size hB.size, fun i hi hs => (hB.block i (Nat.lt_of_lt_of_le hi h6.size) (by omega)).trans (h6.block i hi hs)⟩
            clear hW hB hsol hzs
            have b0 := (HZ.out.1).c0
            have b1 := (HZ.out.1).c1
            have b2 := (HZ.out.1).c2
            have b3 := (HZ.out.1).c3
            have z0 := (HZ.out.2.1).c0
            have z1 := (HZ.out.2.1).c1
            have z2 := (HZ.out.2.1).c2
            have f0 := HZ.out.2.1.f0
            have f1 := HZ.out.2.1.f1
            have f2 := HZ.out.2.1.f2
            go_wp2
            have hbt := but_set3 wr (A + 2) (.int .i64 (c' : Nat)) (.int .i64 (b' : Nat)) (.slice (some ⟨G2, 0, none⟩) n2 n2)
            subst hA
            have hbw : But (· = T) w (((wr.setCell ⟨w.heap.size + 2, 0, none⟩ (.int .i64 (c' : Nat))).setCell ⟨w.heap.size + 2, 1, none⟩ (.int .i64 (b' : Nat))).setCell ⟨w.heap.size + 2, 2, none⟩ (.slice (some ⟨G2, 0, none⟩) n2 n2)) := by
              have h6 := HZ.out.2.2.2.2.1
              exact ⟨hbt.os.trans h6.os, hbt.tape.trans h6.tape, hbt.output.trans h6.output, Nat.le_trans h6.size hbt.size, fun i hi hs => (hbt.block i (Nat.lt_of_lt_of_le hi h6.size) (by omega)).trans (h6.block i hi hs)⟩
            exact bodyPost_ret (results_two Tryz.results41 rfl (load_set3 HZ.out.2.1 _ _ _)) rfl ⟨_, rfl, HZ.out.2.2.1.block fun k hk => hbt.block k (HZ.out.2.2.1.lt k hk).2 (by cases hk; have := HZ.out.2.2.2.2.2; show ¬ G2 = _; omega), HZ.out.2.2.2.1.but hbt (by have := HY.out; omega) (by have := HY.out; omega), hbw⟩
      · obtain ⟨ld, hld⟩ : ∃ ld, L.getD s 0 = ld := ⟨_, rfl⟩
        rw [hld] at cs hlt4
        have i0 : 0 < l := by omega
        have i1 : (0 : Int) < (l : Int) := by omega
        have i2 : (l : Int) - 1 = (s : Int) := by omega
        have i3 : (s : Int) < (l : Int) := by omega
        have i4 : (ld : Int) < (c0 : Int) := by omega
        clear hs hld
        go_wp2
        go_quiet (fail)
        rw [show decide (c0 ≤ ld) = false from decide_eq_false (by omega)]
        clear i0 i1 i2 i3 i4 cs hlt4
        obtain ⟨W5, hW5⟩ : ∃ W5, w4.drewN nq = W5 := ⟨_, rfl⟩
        rw [hW5]
        clear a0 a1 a2
        clear b0 b1 b2 b3
        clear d0 d1 d2
        have HT5 : Hid (Mb W5 A (.int .i64 (r : Nat)) (.int .i64 (c0 : Nat)) (.slice q n c) ∧ Mb W5 (A + 1) (.int .i64 (r : Nat)) (.int .i64 (Cb : Nat)) (.slice qb nb cb) ∧ Z3 W5 (A + 2) ∧ Wb W5 X r D G m (.pointer (some ⟨B, 0, none⟩)) ∧ Wk W5 (A + 3) G m r D E ∧ Is W5 (some a4) l L ∧ Fd k B T W5 ∧ But (· = T) w W5 ∧ X < W5.heap.size) := by
          have hb : Below w4.heap.size w4 W5 := hW5 ▸ Below.drewN (Below.refl _ w4) nq
          have h := HT4.out
          exact ⟨h.1.below hb, h.2.1.below hb, h.2.2.1.below hb, h.2.2.2.1.below hb, h.2.2.2.2.1.below hb, h.2.2.2.2.2.1.below hb, h.2.2.2.2.2.2.2.1.below hb, h.2.2.2.2.2.2.2.2.1.trans (But.of_below hb), Nat.lt_of_lt_of_le h.2.2.2.2.2.2.2.2.2.2 hb.size⟩
        clear hW5
        have K5 := gblank_calls c0 Cb n2 (some ⟨B, 0, none⟩) HN2.out (by omega) (by omega) W5
        have a0 := (HT5.out.1).c0
        have a1 := (HT5.out.1).c1
        have a2 := (HT5.out.1).c2
        have b0 := (HT5.out.2.2.2.1).c0
        have b1 := (HT5.out.2.2.2.1).c1
        have b2 := (HT5.out.2.2.2.1).c2
        have b3 := (HT5.out.2.2.2.1).c3
        have d0 := (HT5.out.2.1).c0
        have d1 := (HT5.out.2.1).c1
        have d2 := (HT5.out.2.1).c2
        go_wp2_with fail
        refine K5.mono ?_
        rintro e w6 ⟨G2, rfl, hW6, hb6⟩
        clear K5
        clear a0 a1 a2
        clear b0 b1 b2 b3
        clear d0 d1 d2
        obtain ⟨X2, hX2⟩ : ∃ X2, w6.heap.size = X2 := ⟨_, rfl⟩
        obtain ⟨W7, hW7⟩ : ∃ W7, w6.alloc (.cells #[.int .i64 (c0 : Nat), .int .i64 (Cb : Nat), .slice (some ⟨G2, 0, none⟩) n2 n2, .pointer (some ⟨B, 0, none⟩)] 85) = W7 := ⟨_, rfl⟩
        have HT7 : Hid (Mb W7 A (.int .i64 (r : Nat)) (.int .i64 (c0 : Nat)) (.slice q n c) ∧ Z3 W7 (A + 2) ∧ Wb W7 X r D G m (.pointer (some ⟨B, 0, none⟩)) ∧ Wb W7 X2 c0 Cb G2 n2 (.pointer (some ⟨B, 0, none⟩)) ∧ Wk W7 (A + 3) G m r D E ∧ Wk W7 (A + 3) G2 n2 c0 Cb (fun _ _ => 0) ∧ Is W7 (some a4) l L ∧ Fd k B T W7 ∧ But (· = T) w W7 ∧ X < G2 ∧ G2 < X2 ∧ G < G2 ∧ A + 3 ≤ G2) := by
          have h1 : Below w6.heap.size w6 W7 := hW7 ▸ (Below.refl _ w6).alloc (Nat.le_refl _) _
          have h2 : Below W5.heap.size W5 W7 := hb6.trans (h1.mono hb6.size)
          have h := HT5.out
          have hlt := hW6.lt
          have hx := h.2.2.2.2.2.2.2.2
          have hg := HT3.out.2.2.2.2.2.2.2
          refine ⟨h.1.below h2, h.2.2.1.below h2, h.2.2.2.1.below h2, ?_, h.2.2.2.2.1.below h2, (hW6.below h1).mono (by omega), h.2.2.2.2.2.1.below h2, h.2.2.2.2.2.2.1.below h2, h.2.2.2.2.2.2.2.1.trans (But.of_below h2), by omega, by omega, by omega, by omega⟩
          rw [← hX2, ← hW7]; exact wb_new w6 c0 Cb G2 n2 _
        have HI : Hid (Is W5 (some a4) l L ∧ W5.heap.size ≤ G2 ∧ G2 < X2 ∧ Mx.Ech r (c0 + Cb) (bes c0 (mx c0 xs) (mx Cb ys)) E l (fun k => L.getD k 0)) := ⟨HT5.out.2.2.2.2.2.1, hW6.lt.1, hX2 ▸ hW6.lt.2, HT4.out.2.2.2.2.2.2.1⟩
        have HY : Hid (T < A ∧ B < A) := HT3.out.2.2.2.2.2.2.2.2.2.2.2
        clear hW6 hb6 HT5 HT4 HT3
        have b0 := (HT7.out.2.2.1).c0
        have b1 := (HT7.out.2.2.1).c1
        have b2 := (HT7.out.2.2.1).c2
        have b3 := (HT7.out.2.2.1).c3
        go_wp2
        clear b0 b1 b2 b3
        clear hW7
        go_loopw [58] (fun i wr => ∃ t : Nat, t ≤ l ∧ i = .int .i64 (t : Int) ∧ Wk wr (A + 3) G2 n2 c0 Cb (Mx.solT E c0 t fun k => L.getD k 0) ∧ But (· = G2) W7 wr) (fun i _ => l - (intOf i).toNat)
        case atStart => exact ⟨0, by omega, rfl, HT7.out.2.2.2.2.2.1.congr fun a b _ _ => rfl, But.refl _ _⟩
        case round =>
          obtain ⟨t, ht, rfl, hW, hB⟩ := hrel
          by_cases hlt : t < l
          · have hti : (t : Int) < (l : Int) := by omega
            obtain ⟨M, hM⟩ : ∃ M, (Mx.solT E c0 t fun k => L.getD k 0) = M := ⟨_, rfl⟩
            rw [hM] at hW
            obtain ⟨ld, hld⟩ : ∃ ld, L.getD t 0 = ld := ⟨_, rfl⟩
            have hldc : ld < c0 := hld ▸ HG.out t hlt
            obtain ⟨o1, ho1⟩ : ∃ o, o = t * D := ⟨_, rfl⟩
            obtain ⟨o2, ho2⟩ : ∃ o, o = ld * Cb := ⟨_, rfl⟩
            obtain ⟨dp, hdp⟩ : ∃ dp, (if D = c0 then (some ⟨G, o1, none⟩ : Option Addr) else some ⟨G, o1 + c0, none⟩) = dp := ⟨_, rfl⟩
            have HK : Hid (∀ W, But (· = G2) W7 W → Wb W X2 c0 Cb G2 n2 (.pointer (some ⟨B, 0, none⟩)) ∧ Wb W X r D G m (.pointer (some ⟨B, 0, none⟩)) ∧ Mb W A (.int .i64 (r : Nat)) (.int .i64 (c0 : Nat)) (.slice q n c) ∧ Wk W (A + 3) G m r D E ∧ Is W (some a4) l L) := fun W hb => by
              have h := HT7.out
              have hg := h.2.2.2.2.2.2.2.2.2
              refine ⟨h.2.2.2.1.but hb (by omega), h.2.2.1.but hb (by omega), h.1.but hb (by omega), h.2.2.2.2.1.but hb (by omega), h.2.2.2.2.2.2.1.but hb fun h0 a e e2 => ?_⟩
              obtain ⟨a', e', hl', _⟩ := HI.out.1.cell 0 h0
              rw [e] at e'; cases e'
              have := HI.out.2
              omega
            have K7 : Hid (∀ W, But (· = G2) W7 W ∧ Wk W (A + 3) G2 n2 c0 Cb M → Calls Tryz.prog 59 #[.agg #[.int .i64 (c0 : Nat), .int .i64 (Cb : Nat), .slice (some ⟨G2, 0, none⟩) n2 n2, .pointer (some ⟨B, 0, none⟩)], .int .i64 (ld : Nat)] W fun e w' => e = .returned (.slice (some ⟨G2, o2, none⟩) Cb Cb) ∧ But (· = G2) W7 w' ∧ Wk w' (A + 3) G2 n2 c0 Cb M) := fun W hW => by
              refine (grow_calls G2 n2 c0 Cb ld o2 (.pointer (some ⟨B, 0, none⟩)) hldc HN2.out ho2 (by omega) (by omega) W).mono ?_
              rintro e w' ⟨rfl, hb⟩
              exact ⟨rfl, hW.1.trans (But.of_below hb), hW.2.below hb⟩
            have K8 : Hid (∀ W, But (· = G2) W7 W ∧ Wk W (A + 3) G2 n2 c0 Cb M → Calls Tryz.prog 59 #[.agg #[.int .i64 (r : Nat), .int .i64 (D : Nat), .slice (some ⟨G, 0, none⟩) m m, .pointer (some ⟨B, 0, none⟩)], .int .i64 (t : Nat)] W fun e w' => e = .returned (.slice (some ⟨G, o1, none⟩) D D) ∧ But (· = G2) W7 w' ∧ ∃ W'', (Builtin.copy_ #[22, 22] 3 #[.slice (some ⟨G2, o2, none⟩) Cb Cb, .slice dp Cb Cb]).run Tryz.prog w' = .ok (.int .i64 (Cb : Nat)) W'' ∧ Hid (Wk W'' (A + 3) G2 n2 c0 Cb (Mx.solT E c0 (t + 1) fun k => L.getD k 0) ∧ But (· = G2) W7 W'')) := fun W hW => by
              refine (grow_calls G m r D t o1 (.pointer (some ⟨B, 0, none⟩)) (by omega) HD.out.2 ho1 hr3 hD6 W).mono ?_
              rintro e w' ⟨rfl, hb⟩
              have hb' := hW.1.trans (But.of_below (S := (· = G2)) hb)
              have hk := HK.out w' hb'
              have hsrc : Bs w' dp Cb (prt E t c0 Cb) := by
                by_cases hz : Cb = 0
                · subst hz
                  exact ⟨rfl, by omega, fun i hi => absurd hi (Nat.not_lt_zero i), fun i => by simp [prt, Pol.toL]⟩
                · rw [← hdp, if_neg (by omega)]
                  exact hk.2.2.2.1.bs (by omega) (by omega) ho1 (by omega)
              obtain ⟨W'', hcp, hW'', hb''⟩ := run_copy_part w' 3 (A + 3) G2 n2 c0 Cb ld 0 Cb Cb Cb Cb (some ⟨G2, o2, none⟩) dp M _ hldc (by omega) (hW.2.below hb) (fun _ => by rw [ho2, Nat.add_zero]) hsrc (Nat.le_refl _)
              refine ⟨rfl, hb', W'', hcp, ?_, hb'.trans hb''⟩
              have := Mx.sol_next (D := Cb) (t := t) HI.out.2.2.2.red hlt
              rw [hM, hld] at this
              exact hW''.congr this
            have HK5 : Hid (∀ W, But (· = G2) W7 W → W.cell? ⟨X2, 0, none⟩ = some (.int .i64 (c0 : Nat)) ∧ W.cell? ⟨X2, 1, none⟩ = some (.int .i64 (Cb : Nat)) ∧ W.cell? ⟨X2, 2, none⟩ = some (.slice (some ⟨G2, 0, none⟩) n2 n2) ∧ W.cell? ⟨X2, 3, none⟩ = some (.pointer (some ⟨B, 0, none⟩)) ∧ W.cell? ⟨X, 0, none⟩ = some (.int .i64 (r : Nat)) ∧ W.cell? ⟨X, 1, none⟩ = some (.int .i64 (D : Nat)) ∧ W.cell? ⟨X, 2, none⟩ = some (.slice (some ⟨G, 0, none⟩) m m) ∧ W.cell? ⟨X, 3, none⟩ = some (.pointer (some ⟨B, 0, none⟩)) ∧ W.cell? ⟨A, 1, none⟩ = some (.int .i64 (c0 : Nat))) := fun W hb => by
              have h := HK.out W hb
              exact ⟨h.1.c0, h.1.c1, h.1.c2, h.1.c3, h.2.1.c0, h.2.1.c1, h.2.1.c2, h.2.1.c3, h.2.2.1.c1⟩
            have hT0 : But (· = G2) W7 wr.drew ∧ Wk wr.drew (A + 3) G2 n2 c0 Cb M := ⟨hB.drew, hW.drew⟩
            have hk0 := HK.out _ hB
            have b0 := (hk0.1).c0
            have b1 := (hk0.1).c1
            have b2 := (hk0.1).c2
            have b3 := (hk0.1).c3
            have x0 := (hk0.2.1).c0
            have x1 := (hk0.2.1).c1
            have x2 := (hk0.2.1).c2
            have x3 := (hk0.2.1).c3
            have a0 := (hk0.2.2.1).c0
            have a1 := (hk0.2.2.1).c1
            have a2 := (hk0.2.2.1).c2
            obtain ⟨a9, e9, _, cl⟩ := hk0.2.2.2.2.cell t hlt
            cases e9
            rw [hld] at cl
            have hci : (c0 : Int) ≤ (D : Int) := by omega
            clear hW hB ho1 ho2 hM hld hk0 HK
            go_wp2
            go_region_held_law (fun w' => w'.cell? ⟨X2, 0, none⟩ = some (.int .i64 (c0 : Nat)) ∧ w'.cell? ⟨X2, 1, none⟩ = some (.int .i64 (Cb : Nat)) ∧ w'.cell? ⟨X2, 2, none⟩ = some (.slice (some ⟨G2, 0, none⟩) n2 n2) ∧ w'.cell? ⟨X2, 3, none⟩ = some (.pointer (some ⟨B, 0, none⟩)) ∧ w'.cell? ⟨X, 0, none⟩ = some (.int .i64 (r : Nat)) ∧ w'.cell? ⟨X, 1, none⟩ = some (.int .i64 (D : Nat)) ∧ w'.cell? ⟨X, 2, none⟩ = some (.slice (some ⟨G, 0, none⟩) m m) ∧ w'.cell? ⟨X, 3, none⟩ = some (.pointer (some ⟨B, 0, none⟩)) ∧ w'.cell? ⟨A, 1, none⟩ = some (.int .i64 (c0 : Nat)))
              (first | exact HK5.out _ hT0.1 | exact HK5.out _ hT3.1 | exact HK5.out _ hT4 | exact HK5.out _ hT5.out.2)
              (first
                | (go_at_call 59; with_reducible refine (K7.out _ hT0).mono ?_; rintro e w8 ⟨rfl, hT3⟩)
                | (go_at_call 59; with_reducible refine (K8.out _ hT3).mono ?_; rintro e w9 ⟨rfl, hT4, w10, hcp, hT5⟩)
                | (refine step_cp rfl (.tmp 65) (.tmp 71) 22 rfl hcp rfl rfl rfl ?_; simp only [Act.put, List.getElem_toArray, List.getElem_cons_succ, List.getElem_cons_zero, List.setIfInBounds_toArray, List.set_cons_succ, List.set_cons_zero]))
            clear K7 K8 HK5 hT0 hT3 hT4 hcp hdp cl
            clear a0 a1 a2
            clear b0 b1 b2 b3
            clear x0 x1 x2 x3
            go_wp2
            go_roundw
            case rel => exact ⟨t + 1, by omega, by go_num, hT5.out⟩
            case measure => simp [intOf]; omega
          · obtain rfl : t = l := by omega
            have hsol : ∀ j, j < Cb → Sol r c0 (mx c0 xs) (fun i => mx Cb ys i j) (fun a => Mx.solT E c0 t (fun k => L.getD k 0) a j) := fun j hj => Mx.bes_all HI.out.2.2.2 HG.out j hj
            obtain ⟨rfl, rfl, rfl, hzs⟩ : ok = true ∧ c' = c0 ∧ b' = Cb ∧ zs = cells c0 Cb (Mx.solT E c0 t fun k => L.getD k 0) := by
              rcases HS.out.2.2.2.2.1 with ⟨h1, _, _, h4, h5, h6, h7, h8⟩ | ⟨_, _, _, _, h5⟩
              · have h4 : c' = c0 := by omega
                subst h4
                rw [Int.toNat_natCast] at h8
                exact ⟨h1, rfl, h5, Mx.saO_cols h6 h7 h8 hsol⟩
              · obtain ⟨j, hj, hno⟩ := h5 HS.out.2.2.2.2.2.2 rfl
                rw [Int.toNat_natCast, Int.toNat_natCast] at hno
                exact absurd (hsol j hj).eq (hno _)
            have HZ : Hid (Wb wr X2 c' b' G2 n2 (.pointer (some ⟨B, 0, none⟩)) ∧ Z3 wr (A + 2) ∧ Ow wr A (.slice (some ⟨G2, 0, none⟩) n2 n2) zs ∧ Fd k B T wr ∧ But (· = T) w wr ∧ A + 3 ≤ G2) := by
              have h := HT7.out
              have hg := h.2.2.2.2.2.2.2.2.2
              have hy := HY.out
              refine ⟨h.2.2.2.1.but hB (by omega), h.2.1.but hB (by omega), ?_, h.2.2.2.2.2.2.2.1.but hB (by omega) (by omega), ?_, by omega⟩
              · rw [hzs]; exact hW.2.mono (by omega)
              · have h6 := h.2.2.2.2.2.2.2.2.1
                exact ⟨hB.os.trans h6.os, hB.tape.trans h6.tape, hB.output.trans h6.output, Nat.le_trans h6.size hB.size, fun i hi hs => (hB.block i (Nat.lt_of_lt_of_le hi h6.size) (by omega)).trans (h6.block i hi hs)⟩
            clear hW hB hsol hzs
            have b0 := (HZ.out.1).c0
            have b1 := (HZ.out.1).c1
            have b2 := (HZ.out.1).c2
            have b3 := (HZ.out.1).c3
            have z0 := (HZ.out.2.1).c0
            have z1 := (HZ.out.2.1).c1
            have z2 := (HZ.out.2.1).c2
            have f0 := HZ.out.2.1.f0
            have f1 := HZ.out.2.1.f1
            have f2 := HZ.out.2.1.f2
            go_wp2
            have hbt := but_set3 wr (A + 2) (.int .i64 (c' : Nat)) (.int .i64 (b' : Nat)) (.slice (some ⟨G2, 0, none⟩) n2 n2)
            subst hA
            have hbw : But (· = T) w (((wr.setCell ⟨w.heap.size + 2, 0, none⟩ (.int .i64 (c' : Nat))).setCell ⟨w.heap.size + 2, 1, none⟩ (.int .i64 (b' : Nat))).setCell ⟨w.heap.size + 2, 2, none⟩ (.slice (some ⟨G2, 0, none⟩) n2 n2)) := by
              have h6 := HZ.out.2.2.2.2.1
              exact ⟨hbt.os.trans h6.os, hbt.tape.trans h6.tape, hbt.output.trans h6.output, Nat.le_trans h6.size hbt.size, fun i hi hs => (hbt.block i (Nat.lt_of_lt_of_le hi h6.size) (by omega)).trans (h6.block i hi hs)⟩
            exact bodyPost_ret (results_two Tryz.results41 rfl (load_set3 HZ.out.2.1 _ _ _)) rfl ⟨_, rfl, HZ.out.2.2.1.block fun k hk => hbt.block k (HZ.out.2.2.1.lt k hk).2 (by cases hk; have := HZ.out.2.2.2.2.2; show ¬ G2 = _; omega), HZ.out.2.2.2.1.but hbt (by have := HY.out; omega) (by have := HY.out; omega), hbw⟩
  · obtain ⟨rfl, rfl, rfl, rfl⟩ : ok = false ∧ c' = 0 ∧ b' = 0 ∧ zs = [] := by
      rcases hE with ⟨_, h2, h3, _⟩ | ⟨h1, h2, h3, h4, _⟩
      · exact absurd ⟨hrb.symm.trans h2, h3⟩ hgood
      · exact ⟨h1, h2, h3, h4⟩
    have HS : Hid (Fd k B T w) := hF
    have hcase : rb = false ∨ (rb = true ∧ (R != Rb) = true) := by
      cases rb
      · exact .inl rfl
      · exact .inr ⟨rfl, by simp; exact fun e => hgood ⟨rfl, e⟩⟩
    clear hs hs2 hnb hE hF hrb hR1 hR2 hC1 hC2 hgood
    have a0 := (HP.out.1).c0
    have a1 := (HP.out.1).c1
    have a2 := (HP.out.1).c2
    have d0 := (HP.out.2.1).c0
    have d1 := (HP.out.2.1).c1
    have d2 := (HP.out.2.1).c2
    rcases hcase with rfl | ⟨rfl, hne⟩
    all_goals
      go_enter Tryz.func41, Tryz.ntmps41
      go_wp2_with fail
      refine K1.mono ?_
      rintro e w1 ⟨rfl, hb1⟩
      clear K1
      clear a0 a1 a2
      clear d0 d1 d2
      have HT1 : Hid (Mb w1 A (.int .i64 R) (.int .i64 C) (.slice q n c) ∧ Mb w1 (A + 1) (.int .i64 Rb) (.int .i64 (Cb : Nat)) (.slice qb nb cb) ∧ Z3 w1 (A + 2) ∧ Below w.heap.size w w1) := ⟨HP.out.1.below hb1, HP.out.2.1.below hb1, HP.out.2.2.1.below hb1, HP.out.2.2.2.1.trans (hb1.mono HP.out.2.2.2.1.size)⟩
      clear hb1
      have a0 := (HT1.out.1).c0
      have a1 := (HT1.out.1).c1
      have a2 := (HT1.out.1).c2
      have d0 := (HT1.out.2.1).c0
      have d1 := (HT1.out.2.1).c1
      have d2 := (HT1.out.2.1).c2
      have z0 := (HT1.out.2.2.1).c0
      have z1 := (HT1.out.2.2.1).c1
      have z2 := (HT1.out.2.2.1).c2
      have f0 := HT1.out.2.2.1.f0
      have f1 := HT1.out.2.2.1.f1
      have f2 := HT1.out.2.2.1.f2
      go_wp2
      have hbt := but_set3 w1 (A + 2) (.int .i64 0) (.int .i64 0) (.slice none 0 0)
      subst hA
      have hbw := HT1.out.2.2.2.trans (hbt.below HT1.out.2.2.2.size (fun k hk => by omega))
      exact bodyPost_ret (results_two Tryz.results41 rfl (load_set3 HT1.out.2.2.1 _ _ _)) rfl ⟨_, rfl, ow_nil _ _, HS.out.below hbw, But.of_below hbw⟩
end Go.Proofs
