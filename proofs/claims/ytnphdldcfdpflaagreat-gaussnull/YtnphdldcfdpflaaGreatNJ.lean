/- Texts laid together: MxD, MxT. Each says its own conditions. -/
import Derived.Test.YtnphdldcfdpflaaGreatNF
import Derived.Test.YtnphdldcfdpflaaGreatMJ
import Derived.Test.YtnphdldcfdpflaaGreatMG
import Derived.Test.YtnphdldcfdpflaaGreatMH
/- The walks of matrix.dots and Times. Conditions: a right matrix; a column of as many bytes as it has columns; a field that Of has made, in whose table none of them lies. -/
namespace Go.Proofs
open Go.RowKit Go.Shelf Go.ChangeShapes Go.WideShapes
open Mx (Mat cells upd prt lay mx rowL timesL)
open Pol (Byt ofL)
attribute [local go_sem] Oper.semAt_some

/-- What the rows that have come lay into row i. -/
def dotF {R : Nat} (ts : List Nat) (i : Nat) (M : Mat) (pre : List (Rw R)) : Mat := fun a b => if a = i ∧ hasR pre b = true then ofL ts b else M a b
theorem dotF_nil {R : Nat} (ts : List Nat) (i : Nat) (M : Mat) : dotF (R := R) ts i M [] = M := by funext a b; unfold dotF; rw [hasR_nil, if_neg]; rintro ⟨_, h⟩; cases h
theorem dotF_snoc {R N K : Nat} (ts : List Nat) (i : Nat) (M : Mat) (pre : List (Rw R)) (x : Rw R) : Mx.Eq N K (upd (dotF ts i M pre) i x.1 (ofL ts x.1)) (dotF ts i M (pre ++ [x])) := fun a b _ _ => by
  unfold upd dotF
  rw [hasR_snoc]
  by_cases e : a = i ∧ b = x.1
  · obtain ⟨rfl, rfl⟩ := e
    rw [if_pos ⟨rfl, rfl⟩, if_pos ⟨rfl, by simp⟩]
  · rw [if_neg e]
    by_cases h : a = i ∧ hasR pre b = true
    · rw [if_pos h, if_pos ⟨h.1, by rw [h.2]; rfl⟩]
    · rw [if_neg h, if_neg]
      rintro ⟨h1, h2⟩
      simp only [Bool.or_eq_true, beq_iff_eq] at h2
      rcases h2 with h2 | h2
      · exact h ⟨h1, h2⟩
      · exact e ⟨h1, h2.symm⟩
theorem dotF_end {R N : Nat} (ts : List Nat) (i : Nat) (M : Mat) : Mx.Eq N R (dotF ts i M (upR R R)) (fun a b => if a = i then ofL ts b else M a b) := fun a b _ hb => by
  unfold dotF
  rw [hasR_up b R (Nat.le_refl _), decide_eq_true hb]
  simp
/-- What the boxes of dots hold between two rounds. -/
structure DI (A k B T base G n1 R1 R : Nat) (lv vv : Value) (w0 : World) (M : Mat) (W : World) : Prop where
  bf : Boxed W A 32 (.pointer (some ⟨B, 0, none⟩))
  bl : Boxed W (A + 1) 22 lv
  bv : Boxed W (A + 3) 22 vv
  wk : Wk W base G n1 R1 R M
  fd : Fd k B T W
  but : But (fun x => x = T ∨ x = G) w0 W
theorem di_own {β : Type} {A k B T base G n1 R1 R C : Nat} {lv vv : Value} {w0 : World} (f : β → Mat) (hw : w0.heap.size ≤ C) (hB : B < C) (hT : T < C) : OwnFrom C (fun (y : β) W => DI A k B T base G n1 R1 R lv vv w0 (f y) W) := fun y X Y row hs hg hr =>
  have hr' : ∀ r, row = some r → ∃ o : Obj, X.heap[r]? = some o ∧ o.isCells = false := fun r e => (hr r e).2
  ⟨boxed_own (β := Unit) A _ (fun _ => _) () X Y row hs.bf hg hr', boxed_own (β := Unit) (A + 1) _ (fun _ => _) () X Y row hs.bl hg hr', boxed_own (β := Unit) (A + 3) _ (fun _ => _) () X Y row hs.bv hg hr', wk_own (β := Unit) (fun _ => f y) () X Y row hs.wk hg hr', ownFrom_fd (β := Unit) hB hT () X Y row hs.fd hg hr, ownFrom_but (β := Unit) hw () X Y row hs.but hg hr⟩

set_option maxRecDepth 100000 in
set_option maxHeartbeats 4000000 in
theorem mdots_in (D : Nat) (hD : 4 ≤ D) (k B T base G n1 R1 i o cl R C n c cv : Nat) (ql q qv : Option Addr) (xs vs : List Nat) (M : Mat) (hi : i < R1) (ho : o = i * R) (hql : 0 < R → ql = some ⟨G, o, none⟩) (hn : n = R * C) (hnc : n ≤ c) (hcv : C ≤ cv) (hR : R ≤ 300) (hC : C ≤ 300) (hGB : ¬ B = G) (hGT : ¬ T = G) (w : World) (hF : Fd k B T w) (hW : Wk w base G n1 R1 R M) (hs : Bs w q n xs) (hv : Bs w qv C vs) (hqT : Off T n q) (hvT : Off T C qv) (hqG : Off G n q) (hvG : Off G C qv) :
    CallsIn Fence.wide D Tryz.prog 40 #[.pointer (some ⟨B, 0, none⟩), .slice ql R cl, .agg #[.int .i64 (R : Nat), .int .i64 (C : Nat), .slice q n c], .slice qv C cv] w fun e w' => (∃ v, e = .returned v) ∧ Wk w' base G n1 R1 R (fun a b => if a = i then ofL (timesL R C xs vs) b else M a b) ∧ Fd k B T w' ∧ But (fun x => x = T ∨ x = G) w w' := by
  obtain ⟨ts, hts⟩ : ∃ ts, timesL R C xs vs = ts := ⟨_, rfl⟩
  rw [hts]
  have HTS : Hid (timesL R C xs vs = ts ∧ Byt ts) := ⟨hts, hts ▸ Mx.timesL_byt _ _ _ _⟩
  clear hts
  refine callsIn_of_wp_marks Tryz.func40 rfl trivial ?_ rfl
  simp only [Tryz.ntmps40, List.size_toArray, List.length_cons, List.length_nil, Nat.reduceAdd, Nat.reduceSub, Array.replicate_succ, Array.replicate_zero, List.push_toArray, List.append_toArray, List.nil_append, List.cons_append]
  have hfn : ∀ f, Fence.wide.fn f := fun _ => trivial
  have hD1 : 1 ≤ D := by omega
  obtain ⟨A, hA⟩ : ∃ A, w.heap.size = A := ⟨_, rfl⟩
  obtain ⟨P4, hP4⟩ : ∃ P4, (((w.alloc (.cells #[.pointer (some ⟨B, 0, none⟩)] 32)).alloc (.cells #[.slice ql R cl] 22)).alloc (.cells #[.int .i64 (R : Nat), .int .i64 (C : Nat), .slice q n c] 24)).alloc (.cells #[.slice qv C cv] 22) = P4 := ⟨_, rfl⟩
  obtain ⟨P5, hP5⟩ : ∃ P5, P4.alloc (.cells #[.int .i64 (R : Nat), .int .i64 (C : Nat), .slice q n c] 24) = P5 := ⟨_, rfl⟩
  have hs4 : P4.heap.size = A + 4 := by rw [← hP4, ← hA]; simp
  have HP : Hid (Mb P4 (A + 2) (.int .i64 (R : Nat)) (.int .i64 (C : Nat)) (.slice q n c) ∧ Mb P5 (A + 4) (.int .i64 (R : Nat)) (.int .i64 (C : Nat)) (.slice q n c) ∧ DI A k B T base G n1 R1 R (.slice ql R cl) (.slice qv C cv) w M P5 ∧ P5.heap.size = A + 5 ∧ Below w.heap.size w P5) := by
    have hb4 : Below w.heap.size w P4 := by rw [← hP4]; exact ((((Below.refl _ w).alloc (Nat.le_refl _) _).alloc (by simp) _).alloc (by simp; omega) _).alloc (by simp; omega) _
    have h45 : Below P4.heap.size P4 P5 := hP5 ▸ (Below.refl _ P4).alloc (Nat.le_refl _) _
    have hb5 := hb4.trans (h45.mono hb4.size)
    have m1 := mb_new ((w.alloc (.cells #[.pointer (some ⟨B, 0, none⟩)] 32)).alloc (.cells #[.slice ql R cl] 22)) (.int .i64 (R : Nat)) (.int .i64 (C : Nat)) (.slice q n c)
    have m2 := m1.below ((Below.refl _ _).alloc (Nat.le_refl _) (.cells #[.slice qv C cv] 22))
    rw [hP4] at m2
    have s2 : ((w.alloc (.cells #[.pointer (some ⟨B, 0, none⟩)] 32)).alloc (.cells #[.slice ql R cl] 22)).heap.size = A + 2 := by rw [← hA]; simp
    rw [s2] at m2
    have m3 := mb_new P4 (.int .i64 (R : Nat)) (.int .i64 (C : Nat)) (.slice q n c)
    rw [hP5, hs4] at m3
    refine ⟨m2, m3, ⟨?_, ?_, ?_, hW.below hb5, hF.below hb5, But.of_below hb5⟩, by rw [← hP5]; simp [hs4], hb5⟩
    · rw [← hP5, ← hP4, ← hA]; exact ((((Boxed.new w _ _).alloc _).alloc _).alloc _).alloc _
    · rw [← hP5, ← hP4]
      have e := (((Boxed.new (w.alloc (.cells #[.pointer (some ⟨B, 0, none⟩)] 32)) 22 (.slice ql R cl)).alloc (.cells #[.int .i64 (R : Nat), .int .i64 (C : Nat), .slice q n c] 24)).alloc (.cells #[.slice qv C cv] 22)).alloc (.cells #[.int .i64 (R : Nat), .int .i64 (C : Nat), .slice q n c] 24)
      simpa [hA] using e
    · rw [← hP5, ← hP4]
      have e := (Boxed.new (((w.alloc (.cells #[.pointer (some ⟨B, 0, none⟩)] 32)).alloc (.cells #[.slice ql R cl] 22)).alloc (.cells #[.int .i64 (R : Nat), .int .i64 (C : Nat), .slice q n c] 24)) 22 (.slice qv C cv)).alloc (.cells #[.int .i64 (R : Nat), .int .i64 (C : Nat), .slice q n c] 24)
      simpa [hA] using e
  have HS : Hid (Bs w q n xs ∧ Bs w qv C vs ∧ Off T n q ∧ Off T C qv ∧ Off G n q ∧ Off G C qv ∧ n = R * C ∧ o = i * R ∧ (0 < R → ql = some ⟨G, o, none⟩) ∧ T < A ∧ B < A ∧ G < A) := ⟨hs, hv, hqT, hvT, hqG, hvG, hn, ho, hql, hA ▸ hF.lt, hA ▸ hF.blt, hA ▸ hW.lt.2⟩
  have K4 := rowsOf_calls (D - 1) R C q n c P4
  rw [hP5, hs4] at K4
  clear hs hv hqT hvT hqG hvG hn ho hql hF hW
  have b0 := (HP.out.1).c0
  have b1 := (HP.out.1).c1
  have b2 := (HP.out.1).c2
  gi_wp2_with fail
  refine K4.mono ?_
  rintro e w5 ⟨rfl, rfl⟩
  clear K4
  clear b0 b1 b2
  gi_wp2
  have hsz : P5.heap.size = A + 5 := HP.out.2.2.2.1
  have hN : T < A ∧ B < A ∧ G < A := HS.out.2.2.2.2.2.2.2.2.2
  obtain ⟨hTA, hBA, hGA⟩ := hN
  refine wpIn_rangeFunc_ownG rfl hD1 (gf := 61) (lb := #[.pointer (some ⟨A + 4, 0, none⟩)]) rfl trivial (enters_of Tryz.func61 (by kernel_rfl) rfl)
    (rowsOf1_stops (D - 1) (by omega) (A + 4) R C q n c HS.out.2.2.2.2.2.2.1 hnc hR hC P5 HP.out.2.1) keepsM_t (fun W l o o' _ h1 h2 _ => keepsM_b W l o o' h1 h2) (Below.refl _ _) (fun _ => rfl)
    (fun pre W => DI A k B T base G n1 R1 R (.slice ql R cl) (.slice qv C cv) w (dotF ts i M pre) W)
    (fun _ _ _ => False)
    (di_own _ (by omega) (by omega) (by omega))
    (fun _ _ _ _ _ hs _ _ => hs)
    (by rw [dotF_nil]; exact HP.out.2.2.1)
    (fun t => { tmps := #[.pointer (some ⟨B, 0, none⟩), .slice ql R cl, .agg #[.int .i64 (R : Nat), .int .i64 (C : Nat), .slice q n c], .slice qv C cv, .pointer (some ⟨A, 0, none⟩), .pointer (some ⟨A + 1, 0, none⟩), .pointer (some ⟨A + 1 + 1, 0, none⟩), .pointer (some ⟨A + 1 + 1 + 1, 0, none⟩), .int .i64 ((t.1 : Nat) : Int), .slice (rowAt q C (t.1 * C)) C C, .agg #[.int .i64 (R : Nat), .int .i64 (C : Nat), .slice q n c], .func (.func 61) #[] #[.pointer (some ⟨A + 4, 0, none⟩)], .int .i64 ((t.1 : Nat) : Int), .slice (rowAt q C (t.1 * C)) C C, undef, undef, undef, undef, undef, undef, undef], defers := [] }) ?assign ?body ?done ?stop
  case assign =>
    intro l t W K hK
    obtain ⟨i', hi'⟩ := t
    dsimp only [rwv] at hK ⊢
    obtain ⟨qr, hqr⟩ : ∃ qr, rowAt q C (i' * C) = qr := ⟨_, rfl⟩
    rw [hqr] at hK ⊢
    gi_wp2
    exact hK
  case body =>
    rintro l pre t W hI _
    have hsn := dotF_snoc (N := R1) (K := R) ts i M pre t
    obtain ⟨u, hu⟩ := t
    dsimp only at hsn ⊢
    obtain ⟨qr, hqr⟩ : ∃ qr, rowAt q C (u * C) = qr := ⟨_, rfl⟩
    rw [hqr]
    have hui : (u : Int) < (R : Int) := by omega
    obtain rfl : ql = some ⟨G, o, none⟩ := HS.out.2.2.2.2.2.2.2.2.1 (by omega)
    have hsB : ∀ {q' : Option Addr} {m' : Nat} {zs : List Nat}, Bs w q' m' zs → Off T m' q' → Off G m' q' → Bs W q' m' zs := fun {q' m' zs} h h1 h2 => by
      refine ⟨h.len, h.max, fun j hj => ?_, h.byte⟩
      obtain ⟨a, e, hl, hc⟩ := h.cell j hj
      refine ⟨a, e, Nat.lt_of_lt_of_le hl hI.but.size, (hI.but.cell (p := a.add j) (by rw [block_add]; exact hl) ?_).trans hc⟩
      rw [block_add]
      rintro (e2 | e2)
      · exact h1 (by omega) a e e2
      · exact h2 (by omega) a e e2
    have h := HS.out
    have hBr : Bs W qr C (rowL C xs u) := by rw [← hqr]; exact rowAt_bs (hsB h.1 h.2.2.1 h.2.2.2.2.1) h.2.2.2.2.2.2.1 hu rfl
    have hBv : Bs W qv C vs := hsB h.2.1 h.2.2.2.1 h.2.2.2.2.2.1
    have hOr : Off T C qr := by
      rw [← hqr]
      refine rowAt_off h.2.2.1 _ _ ?_
      rw [h.2.2.2.2.2.2.1, ← Nat.succ_mul]; exact Nat.mul_le_mul_right _ hu
    have hxv : xsum (List.zipWith Gf.mul (rowL C xs u) vs) = ts.getD u 0 := by
      rw [← HTS.out.1]; exact Mx.timesL_row (h.1.len.trans h.2.2.2.2.2.2.1) h.1.byte h.2.1.len h.2.1.byte hu
    obtain ⟨z, hz⟩ : ∃ z, ts.getD u 0 = z := ⟨_, rfl⟩
    rw [hz] at hxv
    have hzl : z < 256 := hz ▸ HTS.out.2 u
    have KE := fdot_calls k B T C C C cv qr qv (rowL C xs u) vs (by omega) (by omega) (Nat.le_refl _) hcv W.drew hI.fd.drew hBr.drew hBv.drew hOr h.2.2.2.1
    rw [hxv] at KE
    have c1 := hI.bf.cell
    have c2 := hI.bl.cell
    have c3 := hI.bv.cell
    have hmx : Tryz.prog.follows .mixedOrders = true := by kernel_rfl
    have hd : 1 ≤ D - 1 - 1 := by omega
    have HI : Hid (DI A k B T base G n1 R1 R (.slice (some ⟨G, o, none⟩) R cl) (.slice qv C cv) w (dotF ts i M pre) W ∧ o = i * R) := ⟨hI, h.2.2.2.2.2.2.2.1⟩
    have HSN : Hid (Mx.Eq R1 R (upd (dotF ts i M pre) i u (GF.of z)) (dotF ts i M (pre ++ [⟨u, hu⟩]))) := by
      have e : ofL ts u = GF.of z := by unfold Pol.ofL; rw [hz]
      rw [e] at hsn; exact hsn
    clear hsn hI hqr hsB h hBr hBv hOr hxv hz
    gi_wp2
    refine wpIn_mono (Q := fun e _ W' => e = .normal ∧ Hid (DI A k B T base G n1 R1 R (.slice (some ⟨G, o, none⟩) R cl) (.slice qv C cv) w (dotF ts i M (pre ++ [⟨u, hu⟩])) W' ∧ But (fun k => k = T ∨ k = G) W W')) ?_ ?_
    · have hS : W.drew.cell? ⟨A, 0, none⟩ = some (.pointer (some ⟨B, 0, none⟩)) ∧ W.drew.cell? ⟨A + 1, 0, none⟩ = some (.slice (some ⟨G, o, none⟩) R cl) ∧ W.drew.cell? ⟨A + 3, 0, none⟩ = some (.slice qv C cv) := ⟨c1, c2, c3⟩
      refine region_held_round (S := fun w' => w'.cell? ⟨A, 0, none⟩ = some (.pointer (some ⟨B, 0, none⟩)) ∧ w'.cell? ⟨A + 1, 0, none⟩ = some (.slice (some ⟨G, o, none⟩) R cl) ∧ w'.cell? ⟨A + 3, 0, none⟩ = some (.slice qv C cv)) hmx (fun ⟨_, _, e, _⟩ => by cases e) (by kernel_rfl) hS (fun hS => ?_)
      refine wpAnyH_take (i := 0) (v := .slice (some ⟨G, o, none⟩) R cl) rfl (by kernel_rfl) (by kernel_rfl) (by kernel_rfl) (fun _ _ _ h => by cases h.1) (Or.inl ⟨by rfl, ?_⟩) hS ?_
      · intro w' ⟨_, h2, _⟩
        go_simp
      (try dsimp only [Act.put])
      refine wpAnyH_take (i := 1) (v := .int .i64 (u : Int)) rfl (by kernel_rfl) (by kernel_rfl) (by kernel_rfl) (fun _ _ _ h => by cases h.1) (Or.inl ⟨by rfl, ?_⟩) hS ?_
      · intro w' _
        go_simp
      (try dsimp only [Act.put])
      refine wpAnyH_take (i := 2) (v := .pointer (some ⟨B, 0, none⟩)) rfl (by kernel_rfl) (by kernel_rfl) (by kernel_rfl) (fun _ _ _ h => by cases h.1) (Or.inl ⟨by rfl, ?_⟩) hS ?_
      · intro w' ⟨h1, _, _⟩
        go_simp
      (try dsimp only [Act.put])
      refine wpAnyH_take (i := 3) (v := .slice qr C C) rfl (by kernel_rfl) (by kernel_rfl) (by kernel_rfl) (fun _ _ _ h => by cases h.1) (Or.inl ⟨by rfl, ?_⟩) hS ?_
      · intro w' _
        go_simp
      (try dsimp only [Act.put])
      refine wpAnyH_take (i := 4) (v := .slice qv C cv) rfl (by kernel_rfl) (by kernel_rfl) (by kernel_rfl) (fun _ _ _ h => by cases h.1) (Or.inl ⟨by rfl, ?_⟩) hS ?_
      · intro w' ⟨_, _, h3⟩
        go_simp
      (try dsimp only [Act.put])
      refine wpAnyH_ready (rs := [5]) (by kernel_rfl) (by simp) ?_
      refine AllReadyH.cons rfl (fun K hK => ?_) AllReadyH.nil
      go_simp
      refine KE.mono ?_
      rintro e' w1 ⟨rfl, hF1, hb1'⟩
      have hb1 : But (· = T) W w1 := ((But.refl (· = T) W).drew).trans hb1'
      have hDI1 : DI A k B T base G n1 R1 R (.slice (some ⟨G, o, none⟩) R cl) (.slice qv C cv) w (dotF ts i M pre) w1 := ⟨boxed_but HI.out.1.bf hb1 (by omega), boxed_but HI.out.1.bl hb1 (by omega), boxed_but HI.out.1.bv hb1 (by omega), HI.out.1.wk.but hb1 (fun e => hGT e.symm), hF1, HI.out.1.but.trans (hb1.mono fun _ h => .inl h)⟩
      refine hK.out _ _ ⟨hDI1.bf.cell, hDI1.bl.cell, hDI1.bv.cell⟩ (fun _ => ?_)
      clear hK K
      (try dsimp only [Act.put])
      obtain ⟨cg, fg⟩ := hDI1.wk.cell (j := u) hi hu HI.out.2
      obtain ⟨x0, hx0⟩ : ∃ x0, (dotF ts i M pre i u).val = x0 := ⟨_, rfl⟩
      rw [hx0] at cg
      refine wpAnyH_ready (rs := [6]) (by kernel_rfl) (by simp) ?_
      refine AllReadyH.cons rfl (fun K hK => ?_) AllReadyH.nil
      go_simp
      refine hK.out _ _ ⟨hDI1.bf.cell, hDI1.bl.cell, hDI1.bv.cell⟩ (fun _ => ?_)
      clear hK K
      (try dsimp only [Act.put])
      refine wpAnyH_ready (rs := [7]) (by kernel_rfl) (by simp) ?_
      refine AllReadyH.cons rfl (fun K hK => ?_) AllReadyH.nil
      go_simp
      have hb2 : But (· = G) w1 (w1.setCell ⟨G, o + u, none⟩ (.int .u8 (z : Nat))) := (But.refl (· = G) w1).setCell (p := ⟨G, o + u, none⟩) (.inl rfl) _
      have hDI2 : DI A k B T base G n1 R1 R (.slice (some ⟨G, o, none⟩) R cl) (.slice qv C cv) w (dotF ts i M (pre ++ [⟨u, hu⟩])) (w1.setCell ⟨G, o + u, none⟩ (.int .u8 (z : Nat))) := ⟨boxed_but hDI1.bf hb2 (by omega), boxed_but hDI1.bl hb2 (by omega), boxed_but hDI1.bv hb2 (by omega), (hDI1.wk.set hi hu HI.out.2 hzl).congr HSN.out, hDI1.fd.but hb2 hGB hGT, hDI1.but.trans (hb2.mono fun _ h => .inr h)⟩
      refine hK.out _ _ ⟨hDI2.bf.cell, hDI2.bl.cell, hDI2.bv.cell⟩ (fun _ => ?_)
      exact wpAnyH_done (by kernel_rfl) ⟨rfl, hDI2, (hb1.mono fun _ h => .inl h).trans (hb2.mono fun _ h => .inr h)⟩ _
    · rintro e a W' ⟨rfl, HQ⟩
      exact ⟨keepsFrom_but HQ.out.2 (fun k hk => by omega), keepsM_but HQ.out.2 (by omega), HQ.out.1⟩
  case done =>
    rintro D' ys' W hD' rfl hI hK
    gi_wp2
    refine ⟨by simp, .inl ⟨_, _, rfl, run_takeDeferred hK, ?_⟩⟩
    have hb1 := but_putObj W D' (.deferred none)
    refine ⟨_, results_none rfl _ _ _, ⟨_, rfl⟩, ?_, ?_, ?_⟩
    · exact (hI.wk.congr (dotF_end ts i M)).but hb1 (by omega)
    · exact hI.fd.but hb1 (by omega) (by omega)
    · exact hI.but.past hb1 (fun k hk => by omega)
  case stop =>
    rintro D' c' pre W _ _ h _
    exact h.elim
theorem mdots_calls (k B T base G n1 R1 i o cl R C n c cv : Nat) (ql q qv : Option Addr) (xs vs : List Nat) (M : Mat) (hi : i < R1) (ho : o = i * R) (hql : 0 < R → ql = some ⟨G, o, none⟩) (hn : n = R * C) (hnc : n ≤ c) (hcv : C ≤ cv) (hR : R ≤ 300) (hC : C ≤ 300) (hGB : ¬ B = G) (hGT : ¬ T = G) (w : World) (hF : Fd k B T w) (hW : Wk w base G n1 R1 R M) (hs : Bs w q n xs) (hv : Bs w qv C vs) (hqT : Off T n q) (hvT : Off T C qv) (hqG : Off G n q) (hvG : Off G C qv) :
    Calls Tryz.prog 40 #[.pointer (some ⟨B, 0, none⟩), .slice ql R cl, .agg #[.int .i64 (R : Nat), .int .i64 (C : Nat), .slice q n c], .slice qv C cv] w fun e w' => (∃ v, e = .returned v) ∧ Wk w' base G n1 R1 R (fun a b => if a = i then ofL (timesL R C xs vs) b else M a b) ∧ Fd k B T w' ∧ But (fun x => x = T ∨ x = G) w w' :=
  (callsIn_wide (n := 4)).1 (mdots_in 4 (by omega) k B T base G n1 R1 i o cl R C n c cv ql q qv xs vs M hi ho hql hn hnc hcv hR hC hGB hGT w hF hW hs hv hqT hvT hqG hvG)

set_option maxRecDepth 100000 in
set_option maxHeartbeats 4000000 in
theorem mtimes_calls (k B T R C n c cv : Nat) (q qv : Option Addr) (xs vs : List Nat) (hn : n = R * C) (hnc : n ≤ c) (hcv : C ≤ cv) (hR : R ≤ 300) (hC : C ≤ 300) (w : World) (hF : Fd k B T w) (hs : Bs w q n xs) (hv : Bs w qv C vs) (hqT : Off T n q) (hvT : Off T C qv) :
    Calls Tryz.prog 16 #[.pointer (some ⟨B, 0, none⟩), .agg #[.int .i64 (R : Nat), .int .i64 (C : Nat), .slice q n c], .slice qv C cv] w fun e w' => ∃ v, e = .returned (.tuple #[v, .bool true]) ∧ Ow w' w.heap.size v (timesL R C xs vs) ∧ Fd k B T w' ∧ But (· = T) w w' := by
  obtain ⟨A, hA⟩ : ∃ A, w.heap.size = A := ⟨_, rfl⟩
  obtain ⟨P1, hP1⟩ : ∃ P1, w.alloc (.cells #[.int .i64 (R : Nat), .int .i64 (C : Nat), .slice q n c] 24) = P1 := ⟨_, rfl⟩
  have HP : Hid (Mb P1 A (.int .i64 (R : Nat)) (.int .i64 (C : Nat)) (.slice q n c) ∧ Below w.heap.size w P1) := ⟨by rw [← hA, ← hP1]; exact mb_new w _ _ _, hP1 ▸ (Below.refl _ w).alloc (Nat.le_refl _) _⟩
  have K1 := mright_calls (R : Int) (C : Int) q n c true (right_nat hR hC hn) (by omega) (by omega) (by omega) (by omega) P1
  have hmk := make_bytes R (by omega)
  have HS : Hid (Bs w q n xs ∧ Bs w qv C vs ∧ Off T n q ∧ Off T C qv ∧ n = R * C ∧ Fd k B T w) := ⟨hs, hv, hqT, hvT, hn, hF⟩
  clear hs hv hqT hvT hn hF
  have b0 := (HP.out.1).c0
  have b1 := (HP.out.1).c1
  have b2 := (HP.out.1).c2
  go_enter Tryz.func16, Tryz.ntmps16
  go_wp2_with fail
  refine K1.mono ?_
  rintro e w1 ⟨rfl, hb1⟩
  clear K1
  clear b0 b1 b2
  obtain ⟨G, hG⟩ : ∃ G, w1.heap.size = G := ⟨_, rfl⟩
  obtain ⟨W2, hW2⟩ : ∃ W2, w1.alloc (.cells (madeCells #[.int .u8 0] R) 5) = W2 := ⟨_, rfl⟩
  have HT : Hid (Mb w1 A (.int .i64 (R : Nat)) (.int .i64 (C : Nat)) (.slice q n c) ∧ Mb W2 A (.int .i64 (R : Nat)) (.int .i64 (C : Nat)) (.slice q n c) ∧ Below w.heap.size w W2 ∧ Wk W2 w.heap.size G R 1 R (fun _ _ => 0) ∧ w.heap.size ≤ G) := by
    have h1 : Below w1.heap.size w1 W2 := hW2 ▸ (Below.refl _ w1).alloc (Nat.le_refl _) _
    have hb := HP.out.2.trans (hb1.mono HP.out.2.size)
    refine ⟨HP.out.1.below hb1, (HP.out.1.below hb1).below h1, hb.trans (h1.mono hb.size), ?_, hG ▸ hb.size⟩
    have := wk_made w1 (base := w.heap.size) hb.size 1 R R (Nat.one_mul R).symm (by omega)
    rw [hG, hW2] at this
    exact this
  clear hb1
  have hGl := HT.out.2.2.2.2
  have K2 := mdots_calls k B T w.heap.size G R 1 0 0 R R C n c cv (some ⟨G, 0, none⟩) q qv xs vs (fun _ _ => 0) (by decide) (Nat.zero_mul R).symm (fun _ => rfl) HS.out.2.2.2.2.1 hnc hcv hR hC (by have := HS.out.2.2.2.2.2.blt; omega) (by have := HS.out.2.2.2.2.2.lt; omega) W2 (HS.out.2.2.2.2.2.below HT.out.2.2.1) HT.out.2.2.2.1 (HS.out.1.below HT.out.2.2.1) (HS.out.2.1.below HT.out.2.2.1) HS.out.2.2.1 HS.out.2.2.2.1 (HS.out.1.off hGl) (HS.out.2.1.off hGl)
  have b0 := (HT.out.1).c0
  have b1 := (HT.out.1).c1
  have b2 := (HT.out.1).c2
  have d0 := (HT.out.2.1).c0
  have d1 := (HT.out.2.1).c1
  have d2 := (HT.out.2.1).c2
  go_wp2_with fail
  refine K2.mono ?_
  rintro e w3 ⟨⟨v3, rfl⟩, hW3, hF3, hb3⟩
  clear K2
  clear b0 b1 b2
  clear d0 d1 d2
  have HZ : Hid (Ow w3 w.heap.size (.slice (some ⟨G, 0, none⟩) R R) (timesL R C xs vs) ∧ Fd k B T w3 ∧ But (· = T) w w3) := by
    have h2 := HT.out.2.2.1
    refine ⟨?_, hF3, ⟨hb3.os.trans h2.os, hb3.tape.trans h2.tape, hb3.output.trans h2.output, Nat.le_trans h2.size hb3.size, fun i hi hs => (hb3.block i (Nat.lt_of_lt_of_le hi h2.size) (by omega)).trans (h2.block i hi)⟩⟩
    have e : cells 1 R (fun a b => if a = 0 then ofL (timesL R C xs vs) b else 0) = timesL R C xs vs := by
      refine (Mx.cells_ext (by rw [Mx.timesL_length, Nat.one_mul]) fun a b ha _ => ?_).symm
      obtain rfl : a = 0 := by omega
      rw [Nat.zero_mul, Nat.zero_add, if_pos rfl]
      exact (GF.of_val _ (Mx.timesL_byt _ _ _ _ _)).symm
    rw [← e]
    exact hW3.2
  clear hW3 hF3 hb3
  go_wp2
  go_ret2
  exact ⟨_, rfl, HZ.out⟩

set_option maxRecDepth 100000 in
set_option maxHeartbeats 4000000 in
theorem mtimes_none (k B T R C n c m cv : Nat) (q qv : Option Addr) (hn : n = R * C) (hR : R ≤ 300) (hC : C ≤ 300) (hm : ¬ m = C) (w : World) (hF : Fd k B T w) :
    Calls Tryz.prog 16 #[.pointer (some ⟨B, 0, none⟩), .agg #[.int .i64 (R : Nat), .int .i64 (C : Nat), .slice q n c], .slice qv m cv] w fun e w' => e = .returned (.tuple #[.slice none 0 0, .bool false]) ∧ Fd k B T w' ∧ But (· = T) w w' := by
  obtain ⟨A, hA⟩ : ∃ A, w.heap.size = A := ⟨_, rfl⟩
  obtain ⟨P1, hP1⟩ : ∃ P1, w.alloc (.cells #[.int .i64 (R : Nat), .int .i64 (C : Nat), .slice q n c] 24) = P1 := ⟨_, rfl⟩
  have HP : Hid (Mb P1 A (.int .i64 (R : Nat)) (.int .i64 (C : Nat)) (.slice q n c) ∧ Below w.heap.size w P1) := ⟨by rw [← hA, ← hP1]; exact mb_new w _ _ _, hP1 ▸ (Below.refl _ w).alloc (Nat.le_refl _) _⟩
  have K1 := mright_calls (R : Int) (C : Int) q n c true (right_nat hR hC hn) (by omega) (by omega) (by omega) (by omega) P1
  have HF : Hid (Fd k B T w) := hF
  have hne : ((m : Int) != (C : Int)) = true := by simp; omega
  have hne2 : (m != C) = true := by simpa using hm
  clear hn hF hm
  have b0 := (HP.out.1).c0
  have b1 := (HP.out.1).c1
  have b2 := (HP.out.1).c2
  go_enter Tryz.func16, Tryz.ntmps16
  go_wp2_with fail
  refine K1.mono ?_
  rintro e w1 ⟨rfl, hb1⟩
  clear K1
  clear b0 b1 b2
  have hM := HP.out.1.below hb1
  have HB : Hid (Below w.heap.size w w1) := HP.out.2.trans (hb1.mono HP.out.2.size)
  clear hb1
  have b0 := (hM).c0
  have b1 := (hM).c1
  have b2 := (hM).c2
  go_wp2
  go_ret2
  exact ⟨rfl, HF.out.below HB.out, But.of_below HB.out⟩
end Go.Proofs
/- The walks of matrix.allRight (of two right matrices), Same, Turn and Mul. Conditions: right matrices; a field that Of has made, in whose table they do not lie. -/
namespace Go.Proofs
open Go.RowKit Go.Shelf Go.ChangeShapes Go.WideShapes
open Mx (Mat cells upd prt lay mx rowL timesL turnL mulL)
open Pol (Byt ofL)
attribute [local go_sem] Oper.semAt_some

/-- Two matrices in a row. -/
structure Two (W : World) (H : Nat) (a0 a1 a2 b0 b1 b2 : Value) : Prop where
  c0 : W.cell? ⟨H, 0, none⟩ = some a0
  c1 : W.cell? ⟨H, 1, none⟩ = some a1
  c2 : W.cell? ⟨H, 2, none⟩ = some a2
  c3 : W.cell? ⟨H, 3, none⟩ = some b0
  c4 : W.cell? ⟨H, 4, none⟩ = some b1
  c5 : W.cell? ⟨H, 5, none⟩ = some b2
theorem Two.below {W W' : World} {H : Nat} {a0 a1 a2 b0 b1 b2 : Value} (h : Two W H a0 a1 a2 b0 b1 b2) (hb : Below W.heap.size W W') : Two W' H a0 a1 a2 b0 b1 b2 := by
  have hl : H < W.heap.size := World.block_lt_of_cell? _ _ h.c0
  exact ⟨(hb.cell (p := ⟨H, 0, none⟩) hl).trans h.c0, (hb.cell (p := ⟨H, 1, none⟩) hl).trans h.c1, (hb.cell (p := ⟨H, 2, none⟩) hl).trans h.c2, (hb.cell (p := ⟨H, 3, none⟩) hl).trans h.c3, (hb.cell (p := ⟨H, 4, none⟩) hl).trans h.c4, (hb.cell (p := ⟨H, 5, none⟩) hl).trans h.c5⟩
theorem two_new (w : World) (a0 a1 a2 b0 b1 b2 : Value) : Two (w.alloc (.cells #[a0, a1, a2, b0, b1, b2] 24)) w.heap.size a0 a1 a2 b0 b1 b2 := ⟨by simp [go_sem], by simp [go_sem], by simp [go_sem], by simp [go_sem], by simp [go_sem], by simp [go_sem]⟩

set_option maxRecDepth 100000 in
set_option maxHeartbeats 2000000 in
theorem mallRight_calls (H Ra Ca Rb Cb na ca nb cb : Nat) (qa qb : Option Addr) (hna : na = Ra * Ca) (hnb : nb = Rb * Cb) (h1 : Ra ≤ 300) (h2 : Ca ≤ 300) (h3 : Rb ≤ 300) (h4 : Cb ≤ 300) (w : World) (hT : Two w H (.int .i64 (Ra : Nat)) (.int .i64 (Ca : Nat)) (.slice qa na ca) (.int .i64 (Rb : Nat)) (.int .i64 (Cb : Nat)) (.slice qb nb cb)) :
    Calls Tryz.prog 44 #[.slice (some ⟨H, 0, none⟩) 2 2] w fun e w' => e = .returned (.bool true) ∧ Below w.heap.size w w' := by
  have K1 : Hid (∀ W, Calls Tryz.prog 39 #[.agg #[.int .i64 (Ra : Int), .int .i64 (Ca : Int), .slice qa na ca]] W fun e w' => e = .returned (.bool true) ∧ Below W.heap.size W w') := fun W => mright_calls (Ra : Int) (Ca : Int) qa na ca true (right_nat h1 h2 hna) (by omega) (by omega) (by omega) (by omega) W
  have K2 : Hid (∀ W, Calls Tryz.prog 39 #[.agg #[.int .i64 (Rb : Int), .int .i64 (Cb : Int), .slice qb nb cb]] W fun e w' => e = .returned (.bool true) ∧ Below W.heap.size W w') := fun W => mright_calls (Rb : Int) (Cb : Int) qb nb cb true (right_nat h3 h4 hnb) (by omega) (by omega) (by omega) (by omega) W
  have HT : Hid (Two w H (.int .i64 (Ra : Nat)) (.int .i64 (Ca : Nat)) (.slice qa na ca) (.int .i64 (Rb : Nat)) (.int .i64 (Cb : Nat)) (.slice qb nb cb)) := hT
  clear hT hna hnb h1 h2 h3 h4
  go_enter Tryz.func44, Tryz.ntmps44
  go_wp2
  go_loopw [7] (fun i wr => (i = .int .i64 0 ∨ i = .int .i64 1 ∨ i = .int .i64 2) ∧ Below w.heap.size w wr) (fun i _ => 2 - (intOf i).toNat)
  case atStart => exact ⟨.inl rfl, Below.refl _ _⟩
  case round =>
    obtain ⟨hi, hB⟩ := hrel
    have hM := HT.out.below hB
    have HB : Hid (Below w.heap.size w wr) := hB
    have c0 := (hM).c0
    have c1 := (hM).c1
    have c2 := (hM).c2
    have c3 := (hM).c3
    have c4 := (hM).c4
    have c5 := (hM).c5
    clear hM hB
    rcases hi with rfl | rfl | rfl
    · go_wp2_with fail
      refine (K1.out _).mono ?_
      rintro e w1 ⟨rfl, hb1⟩
      clear c0 c1 c2 c3 c4 c5
      have HN : Hid (Below w.heap.size w w1) := (HB.out.alloc HB.out.size _).trans (hb1.mono (by have := HB.out.size; simp; omega))
      clear hb1
      go_wp2
      go_roundw
      case rel => exact ⟨.inr (.inl rfl), HN.out⟩
      case measure => simp [intOf]
    · go_wp2_with fail
      refine (K2.out _).mono ?_
      rintro e w1 ⟨rfl, hb1⟩
      clear c0 c1 c2 c3 c4 c5
      have HN : Hid (Below w.heap.size w w1) := (HB.out.alloc HB.out.size _).trans (hb1.mono (by have := HB.out.size; simp; omega))
      clear hb1
      go_wp2
      go_roundw
      case rel => exact ⟨.inr (.inr rfl), HN.out⟩
      case measure => simp [intOf]
    · go_wp2
      go_ret
      exact ⟨rfl, HB.out⟩

set_option maxRecDepth 100000 in
set_option maxHeartbeats 2000000 in
theorem msame_calls (R C R' C' n c n' c' : Nat) (q q' : Option Addr) (xs ys : List Nat) (b : Bool) (hb : b = true ↔ (R = R' ∧ C = C' ∧ xs = ys)) (w : World) (hs : Bs w q n xs) (hs' : Bs w q' n' ys) :
    Calls Tryz.prog 23 #[.agg #[.int .i64 (R : Nat), .int .i64 (C : Nat), .slice q n c], .agg #[.int .i64 (R' : Nat), .int .i64 (C' : Nat), .slice q' n' c']] w fun e w' => e = .returned (.bool b) ∧ Below w.heap.size w w' := by
  obtain ⟨bb, hbb⟩ : ∃ bb : Bool, bb = true ↔ xs = ys := ⟨decide (xs = ys), by simp⟩
  have K : Hid (∀ W, Below w.heap.size w W → Calls Tryz.prog 48 #[.slice q n c, .slice q' n' c'] W fun e w' => e = .returned (.bool bb) ∧ w' = W) := fun W hW => bequal_calls q q' n c n' c' xs ys bb hbb W (hs.below hW) (hs'.below hW)
  have hb0 : Below w.heap.size w ((w.alloc (.cells #[.int .i64 (R : Nat), .int .i64 (C : Nat), .slice q n c] 24)).alloc (.cells #[.int .i64 (R' : Nat), .int .i64 (C' : Nat), .slice q' n' c'] 24)) := ((Below.refl _ w).alloc (Nat.le_refl _) _).alloc (by simp) _
  have HB : Hid (Below w.heap.size w ((w.alloc (.cells #[.int .i64 (R : Nat), .int .i64 (C : Nat), .slice q n c] 24)).alloc (.cells #[.int .i64 (R' : Nat), .int .i64 (C' : Nat), .slice q' n' c'] 24))) := hb0
  clear hs hs' hb0
  by_cases h1 : R = R'
  · by_cases h2 : C = C'
    · subst h1 h2
      obtain rfl : b = bb := by rw [Bool.eq_iff_iff, hb, hbb]; simp
      clear hb hbb
      go_enter Tryz.func23, Tryz.ntmps23
      go_wp2_with fail
      refine (K.out _ HB.out).mono ?_
      rintro e w1 ⟨rfl, rfl⟩
      go_wp2
      go_ret
      exact ⟨by first | rfl | simp, HB.out⟩
    · obtain rfl : b = false := by rw [Bool.eq_false_iff]; intro h; exact h2 (hb.1 h).2.1
      have e2 : ((C : Int) == (C' : Int)) = false := by simp; omega
      have e3 : ((C : Int) = (C' : Int)) = False := eq_false (by omega)
      have e4 : (C = C') = False := eq_false h2
      subst h1
      clear hb hbb h2
      go_enter Tryz.func23, Tryz.ntmps23
      go_wp2
      go_ret
      exact ⟨by first | rfl | simp, HB.out⟩
  · obtain rfl : b = false := by rw [Bool.eq_false_iff]; intro h; exact h1 (hb.1 h).1
    have e2 : ((R : Int) == (R' : Int)) = false := by simp; omega
    have e3 : ((R : Int) = (R' : Int)) = False := eq_false (by omega)
    have e4 : (R = R') = False := eq_false h1
    clear hb hbb h1
    go_enter Tryz.func23, Tryz.ntmps23
    go_wp2
    go_ret
    exact ⟨by first | rfl | simp, HB.out⟩

/-- What the rows that have come lay into the turned matrix. -/
def turnF {R : Nat} (C : Nat) (xs : List Nat) (pre : List (Rw R)) : Mat := fun a b => if hasR pre b = true then mx C xs b a else 0
/-- The same, and the first t cells of row u. -/
def turnG {R : Nat} (C : Nat) (xs : List Nat) (pre : List (Rw R)) (u t : Nat) : Mat := fun a b => if b = u ∧ a < t then mx C xs u a else turnF C xs pre a b
theorem turnG_zero {R : Nat} (C : Nat) (xs : List Nat) (pre : List (Rw R)) (u : Nat) : turnG C xs pre u 0 = turnF C xs pre := by funext a b; unfold turnG; rw [if_neg]; rintro ⟨_, h⟩; omega
theorem turnG_next {R N K : Nat} (C : Nat) (xs : List Nat) (pre : List (Rw R)) (u t : Nat) : Mx.Eq N K (upd (turnG C xs pre u t) t u (mx C xs u t)) (turnG C xs pre u (t + 1)) := fun a b _ _ => by
  unfold upd turnG
  by_cases e : a = t ∧ b = u
  · obtain ⟨rfl, rfl⟩ := e
    rw [if_pos ⟨rfl, rfl⟩, if_pos ⟨rfl, Nat.lt_succ_self _⟩]
  · rw [if_neg e]
    by_cases h : b = u ∧ a < t
    · rw [if_pos h, if_pos ⟨h.1, by omega⟩]
    · rw [if_neg h, if_neg]
      rintro ⟨h1, h2⟩
      by_cases h3 : a < t
      · exact h ⟨h1, h3⟩
      · exact e ⟨by omega, h1⟩
theorem turnG_end {R K : Nat} (C : Nat) (xs : List Nat) (pre : List (Rw R)) (x : Rw R) : Mx.Eq C K (turnG C xs pre x.1 C) (turnF C xs (pre ++ [x])) := fun a b ha _ => by
  unfold turnG turnF
  rw [hasR_snoc]
  by_cases e : b = x.1
  · rw [if_pos ⟨e, ha⟩, if_pos (by simp [e]), e]
  · rw [if_neg (fun h => e h.1)]
    have : (x.1 == b) = false := by simpa using fun h => e h.symm
    rw [this, Bool.or_false]
theorem turnF_end {R : Nat} (C : Nat) (xs : List Nat) : Mx.Eq C R (turnF C xs (upR R R)) (Mx.tr (mx C xs)) := fun a b _ hb => by
  unfold turnF; rw [hasR_up b R (Nat.le_refl _), decide_eq_true hb]; rfl

set_option maxRecDepth 100000 in
set_option maxHeartbeats 4000000 in
theorem mturn_in (D : Nat) (hD : 4 ≤ D) (R C n c : Nat) (q : Option Addr) (xs : List Nat) (hn : n = R * C) (hnc : n ≤ c) (hR : R ≤ 300) (hC : C ≤ 300) (w : World) (hs : Bs w q n xs) :
    CallsIn Fence.wide D Tryz.prog 27 #[.agg #[.int .i64 (R : Nat), .int .i64 (C : Nat), .slice q n c]] w fun e w' => ∃ v, e = .returned (.agg #[.int .i64 (C : Nat), .int .i64 (R : Nat), v]) ∧ Ow w' w.heap.size v (turnL R C xs) ∧ Below w.heap.size w w' := by
  refine callsIn_of_wp_marks Tryz.func27 rfl trivial ?_ rfl
  simp only [Tryz.ntmps27, List.size_toArray, List.length_cons, List.length_nil, Nat.reduceAdd, Nat.reduceSub, Array.replicate_succ, Array.replicate_zero, List.push_toArray, List.append_toArray, List.nil_append, List.cons_append]
  have hfn : ∀ f, Fence.wide.fn f := fun _ => trivial
  have hD1 : 1 ≤ D := by omega
  obtain ⟨A, hA⟩ : ∃ A, w.heap.size = A := ⟨_, rfl⟩
  obtain ⟨n', hn'⟩ : ∃ n', n' = C * R := ⟨_, rfl⟩
  obtain ⟨P2, hP2⟩ : ∃ P2, (w.alloc (.cells #[.int .i64 (R : Nat), .int .i64 (C : Nat), .slice q n c] 24)).alloc (.cells #[.int .i64 0, .int .i64 0, .slice none 0 0] 24) = P2 := ⟨_, rfl⟩
  have HP : Hid (Mb P2 A (.int .i64 (R : Nat)) (.int .i64 (C : Nat)) (.slice q n c) ∧ Z3 P2 (A + 1) ∧ Below A w P2 ∧ P2.heap.size = A + 2) := by
    have s1 : (w.alloc (.cells #[.int .i64 (R : Nat), .int .i64 (C : Nat), .slice q n c] 24)).heap.size = A + 1 := by rw [← hA]; simp
    have m1 := mb_new w (.int .i64 (R : Nat)) (.int .i64 (C : Nat)) (.slice q n c)
    have m3 := z3_new (w.alloc (.cells #[.int .i64 (R : Nat), .int .i64 (C : Nat), .slice q n c] 24))
    rw [hA] at m1
    rw [s1] at m3
    rw [← hP2]
    exact ⟨m1.below ((Below.refl _ _).alloc (Nat.le_refl _) _), m3, hA ▸ ((Below.refl _ w).alloc (Nat.le_refl _) _).alloc (by simp) _, by rw [← hA]; simp⟩
  have K1 := mright_calls (R : Int) (C : Int) q n c true (right_nat hR hC hn) (by omega) (by omega) (by omega) (by omega) P2
  have HS : Hid (Bs w q n xs ∧ n = R * C ∧ n' = C * R) := ⟨hs, hn, hn'⟩
  clear hs hn hn'
  have b0 := (HP.out.1).c0
  have b1 := (HP.out.1).c1
  have b2 := (HP.out.1).c2
  gi_wp2_with fail
  refine (callsIn_wide.2 K1).mono ?_
  rintro e w1 ⟨rfl, hb1⟩
  clear K1
  clear b0 b1 b2
  have HT1 : Hid (Mb w1 A (.int .i64 (R : Nat)) (.int .i64 (C : Nat)) (.slice q n c) ∧ Z3 w1 (A + 1) ∧ Below A w w1 ∧ A + 2 ≤ w1.heap.size) := by
    have hz := HP.out.2.2.2
    have hz1 := hb1.size
    exact ⟨HP.out.1.below hb1, HP.out.2.1.below hb1, HP.out.2.2.1.trans (hb1.mono (by omega)), by omega⟩
  clear hb1
  have K2 := mblank_calls C R n' HS.out.2.2 hC hR w1
  have b0 := (HT1.out.1).c0
  have b1 := (HT1.out.1).c1
  have b2 := (HT1.out.1).c2
  gi_wp2_with fail
  refine (callsIn_wide.2 K2).mono ?_
  rintro e w2 ⟨G, rfl, hW2, hb2⟩
  clear K2
  clear b0 b1 b2
  obtain ⟨X, hX⟩ : ∃ X, w2.heap.size = X := ⟨_, rfl⟩
  obtain ⟨W3, hW3⟩ : ∃ W3, w2.alloc (.cells #[.int .i64 (C : Nat), .int .i64 (R : Nat), .slice (some ⟨G, 0, none⟩) n' n'] 24) = W3 := ⟨_, rfl⟩
  have HT3 : Hid (Mb W3 A (.int .i64 (R : Nat)) (.int .i64 (C : Nat)) (.slice q n c) ∧ Z3 W3 (A + 1) ∧ Below A w W3 ∧ Mb W3 X (.int .i64 (C : Nat)) (.int .i64 (R : Nat)) (.slice (some ⟨G, 0, none⟩) n' n') ∧ Wk W3 (A + 2) G n' C R (fun _ _ => 0) ∧ A + 2 ≤ G ∧ G < X ∧ W3.heap.size = X + 1) := by
    have h1 : Below w2.heap.size w2 W3 := hW3 ▸ (Below.refl _ w2).alloc (Nat.le_refl _) _
    have hlt := hW2.lt
    have h2 := hb2.trans (h1.mono hb2.size)
    have h := HT1.out
    refine ⟨h.1.below h2, h.2.1.below h2, h.2.2.1.trans (h2.mono (by omega)), ?_, (hW2.below h1).mono h.2.2.2, by omega, hX ▸ hlt.2, ?_⟩
    · rw [← hX, ← hW3]; exact mb_new w2 _ _ _
    · rw [← hX, ← hW3]; simp
  clear hW2 hb2 HT1
  have K4 := rowsOf_calls (D - 1) R C q n c W3
  obtain ⟨W4, hW4⟩ : ∃ W4, W3.alloc (.cells #[.int .i64 (R : Nat), .int .i64 (C : Nat), .slice q n c] 24) = W4 := ⟨_, rfl⟩
  rw [hW4, HT3.out.2.2.2.2.2.2.2] at K4
  have b0 := (HT3.out.1).c0
  have b1 := (HT3.out.1).c1
  have b2 := (HT3.out.1).c2
  gi_wp2_with fail
  refine K4.mono ?_
  rintro e w5 ⟨rfl, rfl⟩
  clear K4
  clear b0 b1 b2
  gi_wp2
  have HT4 : Hid (Mb W4 A (.int .i64 (R : Nat)) (.int .i64 (C : Nat)) (.slice q n c) ∧ Z3 W4 (A + 1) ∧ Below A w W4 ∧ Mb W4 X (.int .i64 (C : Nat)) (.int .i64 (R : Nat)) (.slice (some ⟨G, 0, none⟩) n' n') ∧ Wk W4 (A + 2) G n' C R (fun _ _ => 0) ∧ A + 2 ≤ G ∧ G < X ∧ W4.heap.size = X + 2) := by
    have h1 : Below W3.heap.size W3 W4 := hW4 ▸ (Below.refl _ W3).alloc (Nat.le_refl _) _
    have h := HT3.out
    have hz := h.2.2.2.2.2.2.2
    exact ⟨h.1.below h1, h.2.1.below h1, h.2.2.1.trans (h1.mono (by omega)), h.2.2.2.1.below h1, h.2.2.2.2.1.below h1, h.2.2.2.2.2.1, h.2.2.2.2.2.2.1, by rw [← hW4]; simp [hz]⟩
  have hMb : Mb W4 (X + 1) (.int .i64 (R : Nat)) (.int .i64 (C : Nat)) (.slice q n c) := by
    have := mb_new W3 (.int .i64 (R : Nat)) (.int .i64 (C : Nat)) (.slice q n c)
    rw [hW4, HT3.out.2.2.2.2.2.2.2] at this
    exact this
  have hAG : A + 2 ≤ G := HT4.out.2.2.2.2.2.1
  have hGX : G < X := HT4.out.2.2.2.2.2.2.1
  have hsz : W4.heap.size = X + 2 := HT4.out.2.2.2.2.2.2.2
  clear HT3 HP
  refine wpIn_rangeFunc_ownG rfl hD1 (gf := 61) (lb := #[.pointer (some ⟨X + 1, 0, none⟩)]) rfl trivial (enters_of Tryz.func61 (by kernel_rfl) rfl)
    (rowsOf1_stops (D - 1) (by omega) (X + 1) R C q n c HS.out.2.1 hnc hR hC W4 hMb) keepsM_t (fun W l o o' _ h1 h2 _ => keepsM_b W l o o' h1 h2) (Below.refl _ _) (fun _ => rfl)
    (fun pre W => Wk W (A + 2) G n' C R (turnF C xs pre) ∧ But (· = G) W4 W)
    (fun _ _ _ => False)
    (own_and ((wk_own (turnF C xs)).from _) (ownFrom_but (Nat.le_refl _)))
    (fun _ _ _ _ _ hs _ _ => hs)
    ⟨HT4.out.2.2.2.2.1.congr (fun a b _ _ => by unfold turnF; rw [hasR_nil, if_neg (by decide)]), But.refl _ _⟩
    (fun t => { tmps := #[.agg #[.int .i64 (R : Nat), .int .i64 (C : Nat), .slice q n c], .pointer (some ⟨A, 0, none⟩), .pointer (some ⟨A + 1, 0, none⟩), .pointer (some ⟨X, 0, none⟩), .int .i64 ((t.1 : Nat) : Int), .slice (rowAt q C (t.1 * C)) C C, undef, undef, .agg #[.int .i64 (R : Nat), .int .i64 (C : Nat), .slice q n c], .bool true, .bool false, undef, .pointer (some ⟨A, 1, none⟩), .int .i64 (C : Nat), .pointer (some ⟨A, 0, none⟩), .int .i64 (R : Nat), .agg #[.int .i64 (C : Nat), .int .i64 (R : Nat), .slice (some ⟨G, 0, none⟩) n' n'], .agg #[.int .i64 (R : Nat), .int .i64 (C : Nat), .slice q n c], .func (.func 61) #[] #[.pointer (some ⟨X + 1, 0, none⟩)], .int .i64 ((t.1 : Nat) : Int), .slice (rowAt q C (t.1 * C)) C C, undef, undef, undef, undef, undef, undef, undef, undef, undef, undef, undef, undef, undef, undef, undef, undef, undef, undef, undef], defers := [] }) ?assign ?body ?done ?stop
  case assign =>
    intro l t W K hK
    obtain ⟨i, hi⟩ := t
    dsimp only [rwv] at hK ⊢
    obtain ⟨qr, hqr⟩ : ∃ qr, rowAt q C (i * C) = qr := ⟨_, rfl⟩
    rw [hqr] at hK ⊢
    gi_wp2
    exact hK
  case body =>
    rintro l pre t W ⟨hW, hB⟩ _
    have hte := turnG_end (K := R) C xs pre t
    obtain ⟨u, hu⟩ := t
    dsimp only at hte ⊢
    obtain ⟨qr, hqr⟩ : ∃ qr, rowAt q C (u * C) = qr := ⟨_, rfl⟩
    rw [hqr]
    have hui : (u : Int) < (R : Int) := by omega
    have hBr : ∀ W', But (· = G) W4 W' → Bs W' qr C (rowL C xs u) := fun W' hb => by
      have h1 := HS.out.1.below (hA.symm ▸ HT4.out.2.2.1)
      have h2 := h1.but hb (fun h0 a e e2 => by
        obtain ⟨a', e', hl, _⟩ := HS.out.1.cell 0 h0
        rw [e] at e'; cases e'
        omega)
      rw [← hqr]; exact rowAt_bs h2 HS.out.2.1 hu rfl
    have HBR : Hid (∀ W', But (· = G) W4 W' → Bs W' qr C (rowL C xs u) ∧ Mb W' A (.int .i64 (R : Nat)) (.int .i64 (C : Nat)) (.slice q n c) ∧ Mb W' X (.int .i64 (C : Nat)) (.int .i64 (R : Nat)) (.slice (some ⟨G, 0, none⟩) n' n')) := fun W' hb => ⟨hBr W' hb, HT4.out.1.but hb (by omega), HT4.out.2.2.2.1.but hb (by omega)⟩
    have HE : Hid (Mx.Eq C R (turnG C xs pre u C) (turnF C xs (pre ++ [⟨u, hu⟩])) ∧ Wk W (A + 2) G n' C R (turnG C xs pre u 0) ∧ But (· = G) W4 W) := ⟨hte, by rw [turnG_zero]; exact hW, hB⟩
    clear hte hW hB hBr hqr hMb
    gi_wp2
    gi_loopw [23] (fun i wr => ∃ t : Nat, t ≤ C ∧ i = .int .i64 (t : Int) ∧ Wk wr (A + 2) G n' C R (turnG C xs pre u t) ∧ But (· = G) W4 wr ∧ But (· = G) W wr) (fun i _ => C - (intOf i).toNat)
    case atStart => exact ⟨0, by omega, rfl, HE.out.2.1, HE.out.2.2, But.refl _ _⟩
    case round =>
      obtain ⟨t, ht, rfl, hW, hB4, hB⟩ := hrel
      have hBR := HBR.out _ hB4
      have HM : Hid (Mb wr A (.int .i64 (R : Nat)) (.int .i64 (C : Nat)) (.slice q n c) ∧ Mb wr X (.int .i64 (C : Nat)) (.int .i64 (R : Nat)) (.slice (some ⟨G, 0, none⟩) n' n')) := hBR.2
      by_cases h : t < C
      · obtain ⟨a, rfl, hla, hca⟩ := hBR.1.cell t h
        obtain ⟨y, hy⟩ : ∃ y, (rowL C xs u).getD t 0 = y := ⟨_, rfl⟩
        have hy2 : y < 256 := hy ▸ hBR.1.byte t
        have hmx : mx C xs u t = GF.of y := by rw [← hy, Mx.rowL_at C xs u t h]; rfl
        rw [hy] at hca
        obtain ⟨o, ho⟩ : ∃ o, o = t * R := ⟨_, rfl⟩
        have e1 : (t : Int) * (R : Int) = (o : Int) := by rw [ho]; exact (Int.natCast_mul t R).symm
        have ho2 : o ≤ 90000 := by rw [ho]; exact Nat.mul_le_mul (by omega : t ≤ 300) hR
        have hon : o + u < n' := by rw [HS.out.2.2, ho]; exact Mx.cell_lt h hu
        have hon' : (o : Int) + (u : Int) < (n' : Int) := by omega
        have hti : (t : Int) < (C : Int) := by omega
        obtain ⟨cx, cf⟩ := hW.cell h hu ho
        obtain ⟨x, hx⟩ : ∃ x, (turnG C xs pre u t t u).val = x := ⟨_, rfl⟩
        rw [hx] at cx
        have HN : Hid (Wk (wr.setCell ⟨G, o + u, none⟩ (.int .u8 (y : Nat))) (A + 2) G n' C R (turnG C xs pre u (t + 1)) ∧ But (· = G) W4 (wr.setCell ⟨G, o + u, none⟩ (.int .u8 (y : Nat))) ∧ But (· = G) W (wr.setCell ⟨G, o + u, none⟩ (.int .u8 (y : Nat)))) :=
          ⟨(hW.set (x := y) h hu ho hy2).congr (hmx ▸ turnG_next C xs pre u t), hB4.setCell (p := ⟨G, o + u, none⟩) (.inl rfl) _, hB.setCell (p := ⟨G, o + u, none⟩) (.inl rfl) _⟩
        clear hW hB4 hB hBR hx ho hy hmx
        have b0 := (HM.out.1).c0
        have b1 := (HM.out.1).c1
        have b2 := (HM.out.1).c2
        have z0 := (HM.out.2).c0
        have z1 := (HM.out.2).c1
        have z2 := (HM.out.2).c2
        gi_wp2
        go_roundw
        case rel => exact ⟨t + 1, h, rfl, HN.out.1, HN.out.2.1, HN.out.2.2⟩
        case measure => simp [intOf]; omega
      · obtain rfl : t = C := by omega
        have hE : Wk wr (A + 2) G n' t R (turnF t xs (pre ++ [⟨u, hu⟩])) := hW.congr HE.out.1
        have HN : Hid (Wk wr (A + 2) G n' t R (turnF t xs (pre ++ [⟨u, hu⟩])) ∧ But (· = G) W4 wr ∧ But (· = G) W wr) := ⟨hE, hB4, hB⟩
        clear hE hW hB4 hB hBR HE HM
        gi_wp2
        exact ⟨keepsFrom_but HN.out.2.2 (fun k hk => by omega), keepsM_but HN.out.2.2 (by omega), HN.out.1, HN.out.2.1⟩
  case done =>
    rintro D' ys' W hD' rfl ⟨hW, hB⟩ hK
    have HZ : Hid (Mb W X (.int .i64 (C : Nat)) (.int .i64 (R : Nat)) (.slice (some ⟨G, 0, none⟩) n' n') ∧ Z3 W (A + 1) ∧ Wk W (A + 2) G n' C R (Mx.tr (mx C xs)) ∧ Below A w W) := by
      have h := HT4.out
      exact ⟨h.2.2.2.1.but hB (by omega), h.2.1.but hB (by omega), hW.congr (turnF_end C xs), h.2.2.1.trans (hB.below (by omega) (fun k hk => by omega))⟩
    have hsW : W4.heap.size ≤ W.heap.size := hB.size
    clear hW hB
    have b0 := (HZ.out.1).c0
    have b1 := (HZ.out.1).c1
    have b2 := (HZ.out.1).c2
    have z0 := (HZ.out.2.1).c0
    have z1 := (HZ.out.2.1).c1
    have z2 := (HZ.out.2.1).c2
    have f0 := HZ.out.2.1.f0
    have f1 := HZ.out.2.1.f1
    have f2 := HZ.out.2.1.f2
    gi_wp2
    have hbt := but_set3 W (A + 1) (.int .i64 (C : Nat)) (.int .i64 (R : Nat)) (.slice (some ⟨G, 0, none⟩) n' n')
    have hm := mb_set3 HZ.out.2.1 (.int .i64 (C : Nat)) (.int .i64 (R : Nat)) (.slice (some ⟨G, 0, none⟩) n' n')
    obtain ⟨W6, hW6⟩ : ∃ W6, ((W.setCell ⟨A + 1, 0, none⟩ (.int .i64 (C : Nat))).setCell ⟨A + 1, 1, none⟩ (.int .i64 (R : Nat))).setCell ⟨A + 1, 2, none⟩ (.slice (some ⟨G, 0, none⟩) n' n') = W6 := ⟨_, rfl⟩
    rw [hW6] at hbt hm ⊢
    have hK6 : W6.heap[D']? = some (.deferred (some [])) := (hbt.block D' (Array.getElem?_eq_some_iff.1 hK).1 (by omega)).trans hK
    have hb7 := but_putObj W6 D' (.deferred none)
    refine ⟨by simp, .inl ⟨_, _, rfl, run_takeDeferred hK6, ?_⟩⟩
    refine ⟨_, results_cell Tryz.results27 rfl (hm.but hb7 (by omega)).load, _, rfl, ?_, ?_⟩
    · have h1 := (HZ.out.2.2.1.but hbt (by omega)).but hb7 (by omega)
      exact h1.2.mono (by omega)
    · rw [hA]
      exact (HZ.out.2.2.2.trans (hbt.below (by omega) (fun k hk => by omega))).trans (hb7.below (by have := hbt.size; omega) (fun k hk => by omega))
  case stop =>
    rintro D' c' pre W _ _ h _
    exact h.elim
theorem mturn_calls (R C n c : Nat) (q : Option Addr) (xs : List Nat) (hn : n = R * C) (hnc : n ≤ c) (hR : R ≤ 300) (hC : C ≤ 300) (w : World) (hs : Bs w q n xs) :
    Calls Tryz.prog 27 #[.agg #[.int .i64 (R : Nat), .int .i64 (C : Nat), .slice q n c]] w fun e w' => ∃ v, e = .returned (.agg #[.int .i64 (C : Nat), .int .i64 (R : Nat), v]) ∧ Ow w' w.heap.size v (turnL R C xs) ∧ Below w.heap.size w w' :=
  (callsIn_wide (n := 4)).1 (mturn_in 4 (by omega) R C n c q xs hn hnc hR hC w hs)
end Go.Proofs
