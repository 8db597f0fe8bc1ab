/- The walk of matrix.Mul. Conditions: right matrices, the first one's columns as many as the second one's rows; a field that Of has made, in whose table the first one does not lie. -/
import Derived.Test.YtnphdldcfdpflaaGreatNJ
import Derived.Test.YtnphdldcfdpflaaGreatND
namespace Go.Proofs
open Go.RowKit Go.Shelf Go.ChangeShapes Go.WideShapes
open Mx (Mat cells upd prt lay mx rowL timesL turnL mulL)
open Pol (Byt ofL)
attribute [local go_sem] Oper.semAt_some

/-- What the rows that have come lay into the product. -/
def mulF {R : Nat} (C : Nat) (L : List Nat) (pre : List (Rw R)) : Mat := fun a b => if hasR pre a = true then mx C L a b else 0
theorem mulF_snoc {R K : Nat} (C : Nat) (L ts : List Nat) (pre : List (Rw R)) (x : Rw R) (hts : ts = rowL C L x.1) : Mx.Eq K C (fun a b => if a = x.1 then ofL ts b else mulF C L pre a b) (mulF C L (pre ++ [x])) := fun a b _ hb => by
  show (if a = x.1 then ofL ts b else mulF C L pre a b) = mulF C L (pre ++ [x]) a b
  unfold mulF
  rw [hasR_snoc]
  by_cases e : a = x.1
  · subst e
    rw [if_pos rfl, if_pos (by simp), hts]
    unfold Mx.mx Pol.ofL
    rw [Mx.rowL_at C L _ b hb]
  · rw [if_neg e]
    have : (x.1 == a) = false := by simpa using fun h => e h.symm
    rw [this, Bool.or_false]
theorem mulF_end {R : Nat} (C : Nat) (L : List Nat) : Mx.Eq R C (mulF C L (upR R R)) (mx C L) := fun a b ha _ => by
  unfold mulF; rw [hasR_up a R (Nat.le_refl _), decide_eq_true ha]; rfl

theorem bs_two {S : Nat → Prop} {W W' : World} {q : Option Addr} {n : Nat} {xs : List Nat} (h : Bs W q n xs) (hb : But S W W') (hs : 0 < n → ∀ a, q = some a → ¬ S a.block) : Bs W' q n xs :=
  ⟨h.len, h.max, fun j hj => by
    obtain ⟨a, e, hl, hc⟩ := h.cell j hj
    exact ⟨a, e, Nat.lt_of_lt_of_le hl hb.size, (hb.cell (p := a.add j) (by rw [block_add]; exact hl) (by rw [block_add]; exact hs (by omega) a e)).trans hc⟩, h.byte⟩

set_option maxRecDepth 100000 in
set_option maxHeartbeats 4000000 in
theorem mmul_in (D : Nat) (hD : 4 ≤ D) (k B T R N C na ca nb cb : Nat) (qa qb : Option Addr) (xs ys : List Nat) (hna : na = R * N) (hnb : nb = N * C) (hca : na ≤ ca) (hcb : nb ≤ cb) (hR : R ≤ 300) (hN : N ≤ 300) (hC : C ≤ 300) (w : World) (hF : Fd k B T w) (hs : Bs w qa na xs) (ht : Bs w qb nb ys) (hqT : Off T na qa) :
    CallsIn Fence.wide D Tryz.prog 22 #[.pointer (some ⟨B, 0, none⟩), .agg #[.int .i64 (R : Nat), .int .i64 (N : Nat), .slice qa na ca], .agg #[.int .i64 (N : Nat), .int .i64 (C : Nat), .slice qb nb cb]] w fun e w' => ∃ v, e = .returned (.tuple #[.agg #[.int .i64 (R : Nat), .int .i64 (C : Nat), v], .bool true]) ∧ Ow w' w.heap.size v (mulL R N C xs ys) ∧ Fd k B T w' ∧ But (· = T) w w' := by
  obtain ⟨L, hL⟩ : ∃ L, mulL R N C xs ys = L := ⟨_, rfl⟩
  rw [hL]
  refine callsIn_of_wp_marks Tryz.func22 rfl trivial ?_ rfl
  simp only [Tryz.ntmps22, List.size_toArray, List.length_cons, List.length_nil, Nat.reduceAdd, Nat.reduceSub, Array.replicate_succ, Array.replicate_zero, List.push_toArray, List.append_toArray, List.nil_append, List.cons_append]
  have hfn : ∀ f, Fence.wide.fn f := fun _ => trivial
  have hD1 : 1 ≤ D := by omega
  obtain ⟨A, hA⟩ : ∃ A, w.heap.size = A := ⟨_, rfl⟩
  obtain ⟨n', hn'⟩ : ∃ n', n' = R * C := ⟨_, rfl⟩
  obtain ⟨P1, hP1⟩ : ∃ P1, w.alloc (.cells #[.pointer (some ⟨B, 0, none⟩)] 32) = P1 := ⟨_, rfl⟩
  have s1 : P1.heap.size = A + 1 := by rw [← hP1, ← hA]; simp
  obtain ⟨P2, hP2⟩ : ∃ P2, P1.alloc (.cells #[.int .i64 (R : Nat), .int .i64 (N : Nat), .slice qa na ca] 24) = P2 := ⟨_, rfl⟩
  have s2 : P2.heap.size = A + 2 := by rw [← hP2]; simp [s1]
  obtain ⟨P3, hP3⟩ : ∃ P3, P2.alloc (.cells #[.int .i64 (N : Nat), .int .i64 (C : Nat), .slice qb nb cb] 24) = P3 := ⟨_, rfl⟩
  have s3 : P3.heap.size = A + 3 := by rw [← hP3]; simp [s2]
  obtain ⟨P4, hP4⟩ : ∃ P4, P3.alloc (.cells #[.int .i64 0, .int .i64 0, .slice none 0 0] 24) = P4 := ⟨_, rfl⟩
  have s4 : P4.heap.size = A + 4 := by rw [← hP4]; simp [s3]
  obtain ⟨P5, hP5⟩ : ∃ P5, P4.alloc (.cells #[.int .i64 (R : Nat), .int .i64 (N : Nat), .slice qa na ca, .int .i64 (N : Nat), .int .i64 (C : Nat), .slice qb nb cb] 24) = P5 := ⟨_, rfl⟩
  have s5 : P5.heap.size = A + 5 := by rw [← hP5]; simp [s4]
  have HP : Hid (Boxed P4 A 32 (.pointer (some ⟨B, 0, none⟩)) ∧ Mb P4 (A + 1) (.int .i64 (R : Nat)) (.int .i64 (N : Nat)) (.slice qa na ca) ∧ Mb P4 (A + 2) (.int .i64 (N : Nat)) (.int .i64 (C : Nat)) (.slice qb nb cb) ∧ Z3 P4 (A + 3) ∧ Below A w P4 ∧ Below P4.heap.size P4 P5) := by
    have b1 : Below w.heap.size w P1 := hP1 ▸ (Below.refl _ w).alloc (Nat.le_refl _) _
    have b2 : Below P1.heap.size P1 P2 := hP2 ▸ (Below.refl _ P1).alloc (Nat.le_refl _) _
    have b3 : Below P2.heap.size P2 P3 := hP3 ▸ (Below.refl _ P2).alloc (Nat.le_refl _) _
    have b4 : Below P3.heap.size P3 P4 := hP4 ▸ (Below.refl _ P3).alloc (Nat.le_refl _) _
    have b5 : Below P4.heap.size P4 P5 := hP5 ▸ (Below.refl _ P4).alloc (Nat.le_refl _) _
    have m1 := mb_new P1 (.int .i64 (R : Nat)) (.int .i64 (N : Nat)) (.slice qa na ca)
    rw [hP2, s1] at m1
    have m2 := mb_new P2 (.int .i64 (N : Nat)) (.int .i64 (C : Nat)) (.slice qb nb cb)
    rw [hP3, s2] at m2
    have m3 := z3_new P3
    rw [hP4, s3] at m3
    have b24 := b3.trans (b4.mono (by omega))
    refine ⟨?_, m1.below b24, m2.below b4, m3, ?_, b5⟩
    · rw [← hP4, ← hP3, ← hP2, ← hP1, ← hA]; exact (((Boxed.new w _ _).alloc _).alloc _).alloc _
    · rw [← hA]; exact ((b1.trans (b2.mono (by omega))).trans (b3.mono (by omega))).trans (b4.mono (by omega))
  have m5 := two_new P4 (.int .i64 (R : Nat)) (.int .i64 (N : Nat)) (.slice qa na ca) (.int .i64 (N : Nat)) (.int .i64 (C : Nat)) (.slice qb nb cb)
  rw [hP5, s4] at m5
  have K1 := mallRight_calls (A + 4) R N N C na ca nb cb qa qb hna hnb hR hN hN hC P5 m5
  have HS : Hid (Bs w qa na xs ∧ Bs w qb nb ys ∧ na = R * N ∧ nb = N * C ∧ n' = R * C ∧ Fd k B T w ∧ mulL R N C xs ys = L) := ⟨hs, ht, hna, hnb, hn', hF, hL⟩
  have hBA : B < A := hA ▸ hF.blt
  have hTA : T < A := hA ▸ hF.lt
  clear hs ht hna hnb hn' hF m5 hL
  have c1 := HP.out.1.cell
  have b0 := (HP.out.2.1).c0
  have b1 := (HP.out.2.1).c1
  have b2 := (HP.out.2.1).c2
  have d0 := (HP.out.2.2.1).c0
  have d1 := (HP.out.2.2.1).c1
  have d2 := (HP.out.2.2.1).c2
  gi_wp2_with fail
  refine (callsIn_wide.2 K1).mono ?_
  rintro e w1 ⟨rfl, hb1⟩
  clear K1 c1
  clear b0 b1 b2
  clear d0 d1 d2
  have HT1 : Hid (Boxed w1 A 32 (.pointer (some ⟨B, 0, none⟩)) ∧ Mb w1 (A + 1) (.int .i64 (R : Nat)) (.int .i64 (N : Nat)) (.slice qa na ca) ∧ Mb w1 (A + 2) (.int .i64 (N : Nat)) (.int .i64 (C : Nat)) (.slice qb nb cb) ∧ Z3 w1 (A + 3) ∧ Below A w w1 ∧ A + 4 ≤ w1.heap.size) := by
    have h := HP.out
    have hz1 := hb1.size
    have b := h.2.2.2.2.2.trans (hb1.mono (by omega))
    exact ⟨boxed_but h.1 (But.of_below (S := fun _ => False) b) id, h.2.1.below b, h.2.2.1.below b, h.2.2.2.1.below b, h.2.2.2.2.1.trans (b.mono (by omega)), by omega⟩
  clear hb1 HP hP1 hP2 hP3 hP4 hP5 s1 s2 s3 s4 s5
  have K2 := mblank_calls R C n' HS.out.2.2.2.2.1 hR hC w1
  have b0 := (HT1.out.2.1).c0
  have b1 := (HT1.out.2.1).c1
  have b2 := (HT1.out.2.1).c2
  have d0 := (HT1.out.2.2.1).c0
  have d1 := (HT1.out.2.2.1).c1
  have d2 := (HT1.out.2.2.1).c2
  gi_wp2_with fail
  refine (callsIn_wide.2 K2).mono ?_
  rintro e w2 ⟨G, rfl, hW2, hb2⟩
  clear K2
  clear b0 b1 b2
  clear d0 d1 d2
  obtain ⟨X, hX⟩ : ∃ X, w2.heap.size = X := ⟨_, rfl⟩
  obtain ⟨W3, hW3⟩ : ∃ W3, w2.alloc (.cells #[.int .i64 (R : Nat), .int .i64 (C : Nat), .slice (some ⟨G, 0, none⟩) n' n'] 24) = W3 := ⟨_, rfl⟩
  have HT3 : Hid (Boxed W3 A 32 (.pointer (some ⟨B, 0, none⟩)) ∧ Mb W3 (A + 1) (.int .i64 (R : Nat)) (.int .i64 (N : Nat)) (.slice qa na ca) ∧ Mb W3 (A + 2) (.int .i64 (N : Nat)) (.int .i64 (C : Nat)) (.slice qb nb cb) ∧ Z3 W3 (A + 3) ∧ Below A w W3 ∧ Mb W3 X (.int .i64 (R : Nat)) (.int .i64 (C : Nat)) (.slice (some ⟨G, 0, none⟩) n' n') ∧ Wk W3 (A + 4) G n' R C (fun _ _ => 0) ∧ A + 4 ≤ G ∧ G < X ∧ W3.heap.size = X + 1) := by
    have h1 : Below w2.heap.size w2 W3 := hW3 ▸ (Below.refl _ w2).alloc (Nat.le_refl _) _
    have hlt := hW2.lt
    have h2 := hb2.trans (h1.mono hb2.size)
    have h := HT1.out
    refine ⟨boxed_but h.1 (But.of_below (S := fun _ => False) h2) id, h.2.1.below h2, h.2.2.1.below h2, h.2.2.2.1.below h2, h.2.2.2.2.1.trans (h2.mono (by omega)), ?_, (hW2.below h1).mono h.2.2.2.2.2, by omega, hX ▸ hlt.2, ?_⟩
    · rw [← hX, ← hW3]; exact mb_new w2 _ _ _
    · rw [← hX, ← hW3]; simp
  clear hW2 hb2 HT1
  have K3 := mturn_calls N C nb cb qb ys HS.out.2.2.2.1 hcb hN hC W3 (HS.out.2.1.below (hA.symm ▸ HT3.out.2.2.2.2.1))
  have b0 := (HT3.out.2.2.1).c0
  have b1 := (HT3.out.2.2.1).c1
  have b2 := (HT3.out.2.2.1).c2
  gi_wp2_with fail
  refine (callsIn_wide.2 K3).mono ?_
  rintro e w4 ⟨v4, rfl, ho4, hb4⟩
  clear K3
  clear b0 b1 b2
  obtain ⟨q3, c3, rfl, hB3, hc3, hO3⟩ := ho4.told (Mx.cells_byt _ _ _)
  obtain ⟨n3, hn3⟩ : ∃ n3, (turnL N C ys).length = n3 := ⟨_, rfl⟩
  rw [hn3] at hB3 hc3 hO3 ⊢
  obtain ⟨Y, hY⟩ : ∃ Y, w4.heap.size = Y := ⟨_, rfl⟩
  obtain ⟨W5, hW5⟩ : ∃ W5, w4.alloc (.cells #[.int .i64 (C : Nat), .int .i64 (N : Nat), .slice q3 n3 c3] 24) = W5 := ⟨_, rfl⟩
  have HT5 : Hid (Boxed W5 A 32 (.pointer (some ⟨B, 0, none⟩)) ∧ Mb W5 (A + 1) (.int .i64 (R : Nat)) (.int .i64 (N : Nat)) (.slice qa na ca) ∧ Z3 W5 (A + 3) ∧ Below A w W5 ∧ Mb W5 X (.int .i64 (R : Nat)) (.int .i64 (C : Nat)) (.slice (some ⟨G, 0, none⟩) n' n') ∧ Wk W5 (A + 4) G n' R C (fun _ _ => 0) ∧ A + 4 ≤ G ∧ G < X ∧ X < Y ∧ Mb W5 Y (.int .i64 (C : Nat)) (.int .i64 (N : Nat)) (.slice q3 n3 c3) ∧ Bs W5 q3 n3 (turnL N C ys) ∧ Off T n3 q3 ∧ Off G n3 q3 ∧ n3 = C * N ∧ W5.heap.size = Y + 1) := by
    have h1 : Below w4.heap.size w4 W5 := hW5 ▸ (Below.refl _ w4).alloc (Nat.le_refl _) _
    have h2 := hb4.trans (h1.mono hb4.size)
    have h := HT3.out
    have hz := h.2.2.2.2.2.2.2.2.2
    have hz4 := hb4.size
    have hG := h.2.2.2.2.2.2.2.2.1
    have hG2 := h.2.2.2.2.2.2.2.1
    refine ⟨boxed_but h.1 (But.of_below (S := fun _ => False) h2) id, h.2.1.below h2, h.2.2.2.1.below h2, h.2.2.2.2.1.trans (h2.mono (by omega)), h.2.2.2.2.2.1.below h2, h.2.2.2.2.2.2.1.below h2, hG2, hG, by omega, ?_, hB3.below h1, hO3 T (by omega), hO3 G (by omega), by rw [← hn3, Mx.turnL_length], ?_⟩
    · rw [← hY, ← hW5]; exact mb_new w4 _ _ _
    · rw [← hY, ← hW5]; simp
  clear ho4 hb4 HT3 hB3 hO3 hn3
  have hz5 : W5.heap.size = Y + 1 := HT5.out.2.2.2.2.2.2.2.2.2.2.2.2.2.2
  have K4 := rowsOf_calls (D - 1) R N qa na ca W5
  obtain ⟨W6, hW6⟩ : ∃ W6, W5.alloc (.cells #[.int .i64 (R : Nat), .int .i64 (N : Nat), .slice qa na ca] 24) = W6 := ⟨_, rfl⟩
  rw [hW6, hz5] at K4
  have b0 := (HT5.out.2.1).c0
  have b1 := (HT5.out.2.1).c1
  have b2 := (HT5.out.2.1).c2
  gi_wp2_with fail
  refine K4.mono ?_
  rintro e w5 ⟨rfl, rfl⟩
  clear K4
  clear b0 b1 b2
  gi_wp2
  have h56 : Below W5.heap.size W5 W6 := hW6 ▸ (Below.refl _ W5).alloc (Nat.le_refl _) _
  have hsz : W6.heap.size = Y + 2 := by rw [← hW6]; simp [hz5]
  have hMb : Mb W6 (Y + 1) (.int .i64 (R : Nat)) (.int .i64 (N : Nat)) (.slice qa na ca) := by
    have := mb_new W5 (.int .i64 (R : Nat)) (.int .i64 (N : Nat)) (.slice qa na ca)
    rw [hW6, hz5] at this
    exact this
  have hAG : A + 4 ≤ G := HT5.out.2.2.2.2.2.2.1
  have hGX : G < X := HT5.out.2.2.2.2.2.2.2.1
  have hXY : X < Y := HT5.out.2.2.2.2.2.2.2.2.1
  have HT6 : Hid (Boxed W6 A 32 (.pointer (some ⟨B, 0, none⟩)) ∧ Z3 W6 (A + 3) ∧ Below A w W6 ∧ Mb W6 X (.int .i64 (R : Nat)) (.int .i64 (C : Nat)) (.slice (some ⟨G, 0, none⟩) n' n') ∧ Wk W6 (A + 4) G n' R C (fun _ _ => 0) ∧ Mb W6 Y (.int .i64 (C : Nat)) (.int .i64 (N : Nat)) (.slice q3 n3 c3) ∧ Bs W6 q3 n3 (turnL N C ys) ∧ Off T n3 q3 ∧ Off G n3 q3 ∧ n3 = C * N) := by
    obtain ⟨h1, h2, h3, h4, h5, h6, h7, h8, h9, h10, h11, h12, h13, h14, _⟩ := HT5.out
    exact ⟨boxed_but h1 (But.of_below (S := fun _ => False) h56) id, h3.below h56, h4.trans (h56.mono (by omega)), h5.below h56, h6.below h56, h10.below h56, h11.below h56, h12, h13, h14⟩
  clear HT5 hz5 h56 hW6 hW5 hW3
  refine wpIn_rangeFunc_ownG rfl hD1 (gf := 61) (lb := #[.pointer (some ⟨Y + 1, 0, none⟩)]) rfl trivial (enters_of Tryz.func61 (by kernel_rfl) rfl)
    (rowsOf1_stops (D - 1) (by omega) (Y + 1) R N qa na ca HS.out.2.2.1 hca hR hN W6 hMb) keepsM_t (fun W l o o' _ h1 h2 _ => keepsM_b W l o o' h1 h2) (Below.refl _ _) (fun _ => rfl)
    (fun pre W => Wk W (A + 4) G n' R C (mulF C L pre) ∧ Fd k B T W ∧ But (fun x => x = T ∨ x = G) W6 W)
    (fun _ _ _ => False)
    (own_and ((wk_own (mulF C L)).from _) (own_and (ownFrom_fd (by omega) (by omega)) (ownFrom_but (Nat.le_refl _))))
    (fun _ _ _ _ _ hs _ _ => hs)
    ⟨HT6.out.2.2.2.2.1.congr (fun a b _ _ => by unfold mulF; rw [hasR_nil, if_neg (by decide)]), HS.out.2.2.2.2.2.1.below (hA.symm ▸ HT6.out.2.2.1), But.refl _ _⟩
    (fun t => { tmps := #[.pointer (some ⟨B, 0, none⟩), .agg #[.int .i64 (R : Nat), .int .i64 (N : Nat), .slice qa na ca], .agg #[.int .i64 (N : Nat), .int .i64 (C : Nat), .slice qb nb cb], .pointer (some ⟨A, 0, none⟩), .pointer (some ⟨A + 1, 0, none⟩), .pointer (some ⟨A + 2, 0, none⟩), .pointer (some ⟨A + 3, 0, none⟩), .bool false, .pointer (some ⟨X, 0, none⟩), .pointer (some ⟨Y, 0, none⟩), .int .i64 ((t.1 : Nat) : Int), .slice (rowAt qa N (t.1 * N)) N N, .pointer (some ⟨B, 0, none⟩), .bool false, .bool false, .agg #[.int .i64 (R : Nat), .int .i64 (N : Nat), .slice qa na ca], .agg #[.int .i64 (N : Nat), .int .i64 (C : Nat), .slice qb nb cb], .slice (some ⟨A + 4, 0, none⟩) 2 2, .bool true, .bool false, .bool false, .bool false, .pointer (some ⟨A + 1, 1, none⟩), .int .i64 (N : Nat), .pointer (some ⟨A + 2, 0, none⟩), .int .i64 (N : Nat), .bool false, .bool false, undef, .pointer (some ⟨A + 1, 0, none⟩), .int .i64 (R : Nat), .pointer (some ⟨A + 2, 1, none⟩), .int .i64 (C : Nat), .agg #[.int .i64 (R : Nat), .int .i64 (C : Nat), .slice (some ⟨G, 0, none⟩) n' n'], .agg #[.int .i64 (N : Nat), .int .i64 (C : Nat), .slice qb nb cb], .agg #[.int .i64 (C : Nat), .int .i64 (N : Nat), .slice q3 n3 c3], .agg #[.int .i64 (R : Nat), .int .i64 (N : Nat), .slice qa na ca], .func (.func 61) #[] #[.pointer (some ⟨Y + 1, 0, none⟩)], .int .i64 ((t.1 : Nat) : Int), .slice (rowAt qa N (t.1 * N)) N N, undef, undef, undef, undef, undef, undef, undef, undef], defers := [] }) ?assign ?body ?done ?stop
  case assign =>
    intro l t W K hK
    obtain ⟨i, hi⟩ := t
    dsimp only [rwv] at hK ⊢
    obtain ⟨qr, hqr⟩ : ∃ qr, rowAt qa N (i * N) = qr := ⟨_, rfl⟩
    rw [hqr] at hK ⊢
    gi_wp2
    exact hK
  case body =>
    rintro l pre t W ⟨hW, hF, hB⟩ _
    have hsn := mulF_snoc (K := R) C L (timesL C N (turnL N C ys) (rowL N xs t.1)) pre t (by rw [← HS.out.2.2.2.2.2.2]; exact (Mx.mulL_row t.2).symm)
    obtain ⟨u, hu⟩ := t
    dsimp only at hsn ⊢
    obtain ⟨qr, hqr⟩ : ∃ qr, rowAt qa N (u * N) = qr := ⟨_, rfl⟩
    rw [hqr]
    obtain ⟨o, ho⟩ : ∃ o, o = u * C := ⟨_, rfl⟩
    have hui : (u : Int) < (R : Int) := by omega
    have hoff : Off T N qr ∧ Off G N qr := by
      have hle : u * N + N ≤ na := by rw [HS.out.2.2.1, ← Nat.succ_mul]; exact Nat.mul_le_mul_right _ hu
      rw [← hqr]
      exact ⟨rowAt_off hqT _ _ hle, rowAt_off (HS.out.1.off (by omega)) _ _ hle⟩
    have HBR : Hid (∀ W', But (fun x => x = T ∨ x = G) W6 W' → Bs W' qr N (rowL N xs u) ∧ Bs W' q3 n3 (turnL N C ys) ∧ W'.cell? ⟨A, 0, none⟩ = some (.pointer (some ⟨B, 0, none⟩)) ∧ Mb W' X (.int .i64 (R : Nat)) (.int .i64 (C : Nat)) (.slice (some ⟨G, 0, none⟩) n' n') ∧ Mb W' Y (.int .i64 (C : Nat)) (.int .i64 (N : Nat)) (.slice q3 n3 c3)) := fun W' hb => by
      obtain ⟨h1, h2, h3, h4, h5, h6, h7, h8, h9, h10⟩ := HT6.out
      refine ⟨?_, bs_two h7 hb (fun h0 a e => ?_), (boxed_but h1 hb (by omega)).cell, h4.but hb (by omega), h6.but hb (by omega)⟩
      · rw [← hqr]
        refine rowAt_bs (bs_two (HS.out.1.below (hA.symm ▸ h3)) hb (fun h0 a e => ?_)) HS.out.2.2.1 hu rfl
        rintro (e2 | e2)
        · exact hqT h0 a e e2
        · exact HS.out.1.off (T := G) (by omega) h0 a e e2
      · rintro (e2 | e2)
        · exact h8 h0 a e e2
        · exact h9 h0 a e e2
    have KP := mpiece_calls R C u o (some ⟨G, 0, none⟩) n' n' hu HS.out.2.2.2.2.1 ho (Nat.le_refl _) hR (by omega) W.drew
    obtain ⟨qp, hqp⟩ : ∃ qp, rowAt (some ⟨G, 0, none⟩) C o = qp := ⟨_, rfl⟩
    rw [hqp] at KP
    have KE : Hid (∀ W', Wk W' (A + 4) G n' R C (mulF C L pre) → Fd k B T W' → But (fun x => x = T ∨ x = G) W6 W' → Calls Tryz.prog 40 #[.pointer (some ⟨B, 0, none⟩), .slice qp C C, .agg #[.int .i64 (C : Nat), .int .i64 (N : Nat), .slice q3 n3 c3], .slice qr N N] W' fun e w' => (∃ v, e = .returned v) ∧ Wk w' (A + 4) G n' R C (mulF C L (pre ++ [⟨u, hu⟩])) ∧ Fd k B T w' ∧ But (fun x => x = T ∨ x = G) W' w') := fun W' k1 k2 k3 => by
      have h := HBR.out W' k3
      obtain ⟨_, _, _, _, _, _, _, h8, h9, h10⟩ := HT6.out
      refine (mdots_calls k B T (A + 4) G n' R u o C C N n3 c3 N qp q3 qr (turnL N C ys) (rowL N xs u) (mulF C L pre) hu ho (fun h0 => by rw [← hqp]; exact rowAt_some h0) h10 hc3 (Nat.le_refl _) hC hN (by omega) (by omega) W' k2 k1 h.2.1 h.1 h8 hoff.1 h9 hoff.2).mono ?_
      rintro e w' ⟨e1, e2, e3, e4⟩
      exact ⟨e1, e2.congr hsn, e3, e4⟩
    have HI : Hid (Wk W (A + 4) G n' R C (mulF C L pre) ∧ Fd k B T W ∧ But (fun x => x = T ∨ x = G) W6 W) := ⟨hW, hF, hB⟩
    have hd : 1 ≤ D - 1 - 1 := by omega
    have hmx : Tryz.prog.follows .mixedOrders = true := by kernel_rfl
    clear hsn hW hF hB hqr hqp ho hoff
    gi_wp2
    refine wpIn_mono (Q := fun e _ W' => e = .normal ∧ Hid ((Wk W' (A + 4) G n' R C (mulF C L (pre ++ [⟨u, hu⟩])) ∧ Fd k B T W' ∧ But (fun x => x = T ∨ x = G) W6 W') ∧ But (fun x => x = T ∨ x = G) W W')) ?_ ?_
    · have hS0 : ∀ W', But (fun x => x = T ∨ x = G) W6 W' → W'.cell? ⟨A, 0, none⟩ = some (.pointer (some ⟨B, 0, none⟩)) ∧ Mb W' X (.int .i64 (R : Nat)) (.int .i64 (C : Nat)) (.slice (some ⟨G, 0, none⟩) n' n') ∧ Mb W' Y (.int .i64 (C : Nat)) (.int .i64 (N : Nat)) (.slice q3 n3 c3) := fun W' h => (HBR.out W' h).2.2
      have hS := hS0 W.drew HI.out.2.2.drew
      refine region_held_round (S := fun w' => w'.cell? ⟨A, 0, none⟩ = some (.pointer (some ⟨B, 0, none⟩)) ∧ Mb w' X (.int .i64 (R : Nat)) (.int .i64 (C : Nat)) (.slice (some ⟨G, 0, none⟩) n' n') ∧ Mb w' Y (.int .i64 (C : Nat)) (.int .i64 (N : Nat)) (.slice q3 n3 c3)) hmx (fun ⟨_, _, e, _⟩ => by cases e) (by kernel_rfl) hS (fun hS => ?_)
      refine wpAnyH_take (i := 0) (v := .pointer (some ⟨B, 0, none⟩)) rfl (by kernel_rfl) (by kernel_rfl) (by kernel_rfl) (fun _ _ _ h => by cases h.1) (Or.inl ⟨by rfl, ?_⟩) hS ?_
      · intro w' ⟨h1, _, _⟩
        go_simp
      (try dsimp only [Act.put])
      refine wpAnyH_take (i := 1) (v := .agg #[.int .i64 (R : Nat), .int .i64 (C : Nat), .slice (some ⟨G, 0, none⟩) n' n']) rfl (by kernel_rfl) (by kernel_rfl) (by kernel_rfl) (fun _ _ _ h => by cases h.1) (Or.inl ⟨by rfl, ?_⟩) hS ?_
      · intro w' ⟨_, h2, _⟩
        have b0 := (h2).c0
        have b1 := (h2).c1
        have b2 := (h2).c2
        go_simp
      (try dsimp only [Act.put])
      refine wpAnyH_take (i := 2) (v := .int .i64 (u : Int)) rfl (by kernel_rfl) (by kernel_rfl) (by kernel_rfl) (fun _ _ _ h => by cases h.1) (Or.inl ⟨by rfl, ?_⟩) hS ?_
      · intro w' _
        go_simp
      (try dsimp only [Act.put])
      refine wpAnyH_take (i := 4) (v := .agg #[.int .i64 (C : Nat), .int .i64 (N : Nat), .slice q3 n3 c3]) rfl (by kernel_rfl) (by kernel_rfl) (by kernel_rfl) (fun _ _ _ h => by cases h.1) (Or.inl ⟨by rfl, ?_⟩) hS ?_
      · intro w' ⟨_, _, h3⟩
        have b0 := (h3).c0
        have b1 := (h3).c1
        have b2 := (h3).c2
        go_simp
      (try dsimp only [Act.put])
      refine wpAnyH_take (i := 5) (v := .slice qr N N) rfl (by kernel_rfl) (by kernel_rfl) (by kernel_rfl) (fun _ _ _ h => by cases h.1) (Or.inl ⟨by rfl, ?_⟩) hS ?_
      · intro w' _
        go_simp
      (try dsimp only [Act.put])
      refine wpAnyH_ready (rs := [3]) (by kernel_rfl) (by simp) ?_
      refine AllReadyH.cons rfl (fun K hK => ?_) AllReadyH.nil
      go_simp
      refine KP.mono ?_
      rintro e' w1 ⟨rfl, hb1'⟩
      have hb1 : But (fun x => x = T ∨ x = G) W w1 := ((But.refl (fun x => x = T ∨ x = G) W).drew).trans (But.of_below hb1')
      have hd0 : Below W.heap.size W W.drew := ⟨rfl, rfl, rfl, Nat.le_refl _, fun _ _ => rfl⟩
      have hd1 : Below W.heap.size W w1 := hd0.trans hb1'
      have hI1 : Wk w1 (A + 4) G n' R C (mulF C L pre) ∧ Fd k B T w1 ∧ But (fun x => x = T ∨ x = G) W6 w1 := ⟨HI.out.1.below hd1, HI.out.2.1.below hd1, HI.out.2.2.trans hb1⟩
      refine hK.out _ _ (hS0 w1 hI1.2.2) (fun _ => ?_)
      clear hK K
      (try dsimp only [Act.put])
      refine wpAnyH_ready (rs := [6]) (by kernel_rfl) (by simp) ?_
      refine AllReadyH.cons rfl (fun K hK => ?_) AllReadyH.nil
      go_simp
      refine (KE.out w1 hI1.1 hI1.2.1 hI1.2.2).mono ?_
      rintro e' w2 ⟨⟨v2, rfl⟩, hW2, hF2, hb2⟩
      refine hK.out _ _ (hS0 w2 (hI1.2.2.trans hb2)) (fun _ => ?_)
      exact wpAnyH_done (by kernel_rfl) ⟨rfl, ⟨hW2, hF2, hI1.2.2.trans hb2⟩, hb1.trans hb2⟩ _
    · rintro e a W' ⟨rfl, HQ⟩
      exact ⟨keepsFrom_but HQ.out.2 (fun k hk => by omega), keepsM_but HQ.out.2 (by omega), HQ.out.1⟩
  case done =>
    rintro D' ys' W hD' rfl ⟨hW, hF, hB⟩ hK
    have HZ : Hid (Mb W X (.int .i64 (R : Nat)) (.int .i64 (C : Nat)) (.slice (some ⟨G, 0, none⟩) n' n') ∧ Z3 W (A + 3) ∧ Wk W (A + 4) G n' R C (mx C L) ∧ Fd k B T W ∧ But (· = T) w W) := by
      obtain ⟨h1, h2, h3, h4, _⟩ := HT6.out
      refine ⟨h4.but hB (by omega), h2.but hB (by omega), hW.congr (mulF_end C L), hF, ?_⟩
      exact ⟨hB.os.trans h3.os, hB.tape.trans h3.tape, hB.output.trans h3.output, Nat.le_trans h3.size hB.size, fun i hi hs => (hB.block i (Nat.lt_of_lt_of_le hi h3.size) (by omega)).trans (h3.block i (by omega))⟩
    have hsW : W6.heap.size ≤ W.heap.size := hB.size
    clear hW hF hB
    have b0 := (HZ.out.1).c0
    have b1 := (HZ.out.1).c1
    have b2 := (HZ.out.1).c2
    have z0 := (HZ.out.2.1).c0
    have z1 := (HZ.out.2.1).c1
    have z2 := (HZ.out.2.1).c2
    have f0 := HZ.out.2.1.f0
    have f1 := HZ.out.2.1.f1
    have f2 := HZ.out.2.1.f2
    gi_wp2
    have hbt := but_set3 W (A + 3) (.int .i64 (R : Nat)) (.int .i64 (C : Nat)) (.slice (some ⟨G, 0, none⟩) n' n')
    have hm := mb_set3 HZ.out.2.1 (.int .i64 (R : Nat)) (.int .i64 (C : Nat)) (.slice (some ⟨G, 0, none⟩) n' n')
    obtain ⟨W7, hW7⟩ : ∃ W7, ((W.setCell ⟨A + 3, 0, none⟩ (.int .i64 (R : Nat))).setCell ⟨A + 3, 1, none⟩ (.int .i64 (C : Nat))).setCell ⟨A + 3, 2, none⟩ (.slice (some ⟨G, 0, none⟩) n' n') = W7 := ⟨_, rfl⟩
    rw [hW7] at hbt hm ⊢
    have hK6 : W7.heap[D']? = some (.deferred (some [])) := (hbt.block D' (Array.getElem?_eq_some_iff.1 hK).1 (by omega)).trans hK
    have hb7 := but_putObj W7 D' (.deferred none)
    refine ⟨by simp, .inl ⟨_, _, rfl, run_takeDeferred hK6, ?_⟩⟩
    refine ⟨_, results_two Tryz.results22 rfl (hm.but hb7 (by omega)).load, _, rfl, ?_, ?_, ?_⟩
    · have h1 := (HZ.out.2.2.1.but hbt (by omega)).but hb7 (by omega)
      have e : cells R C (mx C L) = L := by rw [← HS.out.2.2.2.2.2.2]; exact Mx.cells_mx (Mx.cells_length _ _ _) (Mx.cells_byt _ _ _)
      have h2 := h1.2
      rw [e] at h2
      exact h2.mono (by omega)
    · exact (HZ.out.2.2.2.1.but hbt (by omega) (by omega)).but hb7 (by omega) (by omega)
    · exact (HZ.out.2.2.2.2.past hbt (fun k hk => by omega)).past hb7 (fun k hk => by omega)
  case stop =>
    rintro D' c' pre W _ _ h _
    exact h.elim
theorem mmul_calls (k B T R N C na ca nb cb : Nat) (qa qb : Option Addr) (xs ys : List Nat) (hna : na = R * N) (hnb : nb = N * C) (hca : na ≤ ca) (hcb : nb ≤ cb) (hR : R ≤ 300) (hN : N ≤ 300) (hC : C ≤ 300) (w : World) (hF : Fd k B T w) (hs : Bs w qa na xs) (ht : Bs w qb nb ys) (hqT : Off T na qa) :
    Calls Tryz.prog 22 #[.pointer (some ⟨B, 0, none⟩), .agg #[.int .i64 (R : Nat), .int .i64 (N : Nat), .slice qa na ca], .agg #[.int .i64 (N : Nat), .int .i64 (C : Nat), .slice qb nb cb]] w fun e w' => ∃ v, e = .returned (.tuple #[.agg #[.int .i64 (R : Nat), .int .i64 (C : Nat), v], .bool true]) ∧ Ow w' w.heap.size v (mulL R N C xs ys) ∧ Fd k B T w' ∧ But (· = T) w w' :=
  (callsIn_wide (n := 4)).1 (mmul_in 4 (by omega) k B T R N C na ca nb cb qa qb xs ys hna hnb hca hcb hR hN hC w hF hs ht hqT)
end Go.Proofs
