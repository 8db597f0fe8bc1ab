/- The walks of matrix.dots and Times. Conditions: a right matrix; a column of as many bytes as it has columns; a field that Of has made, in whose table none of them lies. -/
import Derived.Test.YtbikchgkglllkaaGreatNF
import Derived.Test.YtbikchgkglllkaaGreatMJ
import Derived.Test.YtbikchgkglllkaaGreatMG
namespace Go.Proofs
open Go.RowKit Go.Shelf Go.ChangeShapes Go.WideShapes
open Mx (Mat cells upd prt lay mx rowL timesL)
open Pol (Byt ofL)
attribute [local go_sem] Oper.semAt_some

/-- What the rows that have come lay into row i. -/
def dotF {R : Nat} (ts : List Nat) (i : Nat) (M : Mat) (pre : List (Rw R)) : Mat := fun a b => if a = i ∧ hasR pre b = true then ofL ts b else M a b
theorem dotF_nil {R : Nat} (ts : List Nat) (i : Nat) (M : Mat) : dotF (R := R) ts i M [] = M := by funext a b; unfold dotF; rw [hasR_nil, if_neg]; rintro ⟨_, h⟩; cases h
theorem dotF_snoc {R N K : Nat} (ts : List Nat) (i : Nat) (M : Mat) (pre : List (Rw R)) (x : Rw R) : Mx.Eq N K (upd (dotF ts i M pre) i x.1 (ofL ts x.1)) (dotF ts i M (pre ++ [x])) := fun a b _ _ => by
  unfold upd dotF
  rw [hasR_snoc]
  by_cases e : a = i ∧ b = x.1
  · obtain ⟨rfl, rfl⟩ := e
    rw [if_pos ⟨rfl, rfl⟩, if_pos ⟨rfl, by simp⟩]
  · rw [if_neg e]
    by_cases h : a = i ∧ hasR pre b = true
    · rw [if_pos h, if_pos ⟨h.1, by rw [h.2]; rfl⟩]
    · rw [if_neg h, if_neg]
      rintro ⟨h1, h2⟩
      simp only [Bool.or_eq_true, beq_iff_eq] at h2
      rcases h2 with h2 | h2
      · exact h ⟨h1, h2⟩
      · exact e ⟨h1, h2.symm⟩
theorem dotF_end {R N : Nat} (ts : List Nat) (i : Nat) (M : Mat) : Mx.Eq N R (dotF ts i M (upR R R)) (fun a b => if a = i then ofL ts b else M a b) := fun a b _ hb => by
  unfold dotF
  rw [hasR_up b R (Nat.le_refl _), decide_eq_true hb]
  simp
/-- What the boxes of dots hold between two rounds. -/
structure DI (A k B T base G n1 R1 R : Nat) (lv vv : Value) (w0 : World) (M : Mat) (W : World) : Prop where
  bf : Boxed W A 35 (.pointer (some ⟨B, 0, none⟩))
  bl : Boxed W (A + 1) 24 lv
  bv : Boxed W (A + 3) 24 vv
  wk : Wk W base G n1 R1 R M
  fd : Fd k B T W
  but : But (fun x => x = T ∨ x = G) w0 W
theorem di_own {β : Type} {A k B T base G n1 R1 R C : Nat} {lv vv : Value} {w0 : World} (f : β → Mat) (hw : w0.heap.size ≤ C) (hB : B < C) (hT : T < C) : OwnFrom C (fun (y : β) W => DI A k B T base G n1 R1 R lv vv w0 (f y) W) := fun y X Y row hs hg hr =>
  have hr' : ∀ r, row = some r → ∃ o : Obj, X.heap[r]? = some o ∧ o.isCells = false := fun r e => (hr r e).2
  ⟨boxed_own (β := Unit) A _ (fun _ => _) () X Y row hs.bf hg hr', boxed_own (β := Unit) (A + 1) _ (fun _ => _) () X Y row hs.bl hg hr', boxed_own (β := Unit) (A + 3) _ (fun _ => _) () X Y row hs.bv hg hr', wk_own (β := Unit) (fun _ => f y) () X Y row hs.wk hg hr', ownFrom_fd (β := Unit) hB hT () X Y row hs.fd hg hr, ownFrom_but (β := Unit) hw () X Y row hs.but hg hr⟩

set_option maxRecDepth 100000 in
set_option maxHeartbeats 4000000 in
theorem mdots_in (D : Nat) (hD : 4 ≤ D) (k B T base G n1 R1 i o cl R C n c cv : Nat) (ql q qv : Option Addr) (xs vs : List Nat) (M : Mat) (hi : i < R1) (ho : o = i * R) (hql : 0 < R → ql = some ⟨G, o, none⟩) (hn : n = R * C) (hnc : n ≤ c) (hcv : C ≤ cv) (hR : R ≤ 300) (hC : C ≤ 300) (hGB : ¬ B = G) (hGT : ¬ T = G) (w : World) (hF : Fd k B T w) (hW : Wk w base G n1 R1 R M) (hs : Bs w q n xs) (hv : Bs w qv C vs) (hqT : Off T n q) (hvT : Off T C qv) (hqG : Off G n q) (hvG : Off G C qv) :
    CallsIn Fence.wide D Tryz.prog 49 #[.pointer (some ⟨B, 0, none⟩), .slice ql R cl, .agg #[.int .i64 (R : Nat), .int .i64 (C : Nat), .slice q n c], .slice qv C cv] w fun e w' => (∃ v, e = .returned v) ∧ Wk w' base G n1 R1 R (fun a b => if a = i then ofL (timesL R C xs vs) b else M a b) ∧ Fd k B T w' ∧ But (fun x => x = T ∨ x = G) w w' := by
  obtain ⟨ts, hts⟩ : ∃ ts, timesL R C xs vs = ts := ⟨_, rfl⟩
  rw [hts]
  have HTS : Hid (timesL R C xs vs = ts ∧ Byt ts) := ⟨hts, hts ▸ Mx.timesL_byt _ _ _ _⟩
  clear hts
  refine callsIn_of_wp_marks Tryz.func49 rfl trivial ?_ rfl
  simp only [Tryz.ntmps49, List.size_toArray, List.length_cons, List.length_nil, Nat.reduceAdd, Nat.reduceSub, Array.replicate_succ, Array.replicate_zero, List.push_toArray, List.append_toArray, List.nil_append, List.cons_append]
  have hfn : ∀ f, Fence.wide.fn f := fun _ => trivial
  have hD1 : 1 ≤ D := by omega
  obtain ⟨A, hA⟩ : ∃ A, w.heap.size = A := ⟨_, rfl⟩
  obtain ⟨P4, hP4⟩ : ∃ P4, (((w.alloc (.cells #[.pointer (some ⟨B, 0, none⟩)] 35)).alloc (.cells #[.slice ql R cl] 24)).alloc (.cells #[.int .i64 (R : Nat), .int .i64 (C : Nat), .slice q n c] 43)).alloc (.cells #[.slice qv C cv] 24) = P4 := ⟨_, rfl⟩
  obtain ⟨P5, hP5⟩ : ∃ P5, P4.alloc (.cells #[.int .i64 (R : Nat), .int .i64 (C : Nat), .slice q n c] 43) = P5 := ⟨_, rfl⟩
  have hs4 : P4.heap.size = A + 4 := by rw [← hP4, ← hA]; simp
  have HP : Hid (Mb P4 (A + 2) (.int .i64 (R : Nat)) (.int .i64 (C : Nat)) (.slice q n c) ∧ Mb P5 (A + 4) (.int .i64 (R : Nat)) (.int .i64 (C : Nat)) (.slice q n c) ∧ DI A k B T base G n1 R1 R (.slice ql R cl) (.slice qv C cv) w M P5 ∧ P5.heap.size = A + 5 ∧ Below w.heap.size w P5) := by
    have hb4 : Below w.heap.size w P4 := by rw [← hP4]; exact ((((Below.refl _ w).alloc (Nat.le_refl _) _).alloc (by simp) _).alloc (by simp; omega) _).alloc (by simp; omega) _
    have h45 : Below P4.heap.size P4 P5 := hP5 ▸ (Below.refl _ P4).alloc (Nat.le_refl _) _
    have hb5 := hb4.trans (h45.mono hb4.size)
    have m1 := mb_new ((w.alloc (.cells #[.pointer (some ⟨B, 0, none⟩)] 35)).alloc (.cells #[.slice ql R cl] 24)) (.int .i64 (R : Nat)) (.int .i64 (C : Nat)) (.slice q n c)
    have m2 := m1.below ((Below.refl _ _).alloc (Nat.le_refl _) (.cells #[.slice qv C cv] 24))
    rw [hP4] at m2
    have s2 : ((w.alloc (.cells #[.pointer (some ⟨B, 0, none⟩)] 35)).alloc (.cells #[.slice ql R cl] 24)).heap.size = A + 2 := by rw [← hA]; simp
    rw [s2] at m2
    have m3 := mb_new P4 (.int .i64 (R : Nat)) (.int .i64 (C : Nat)) (.slice q n c)
    rw [hP5, hs4] at m3
    refine ⟨m2, m3, ⟨?_, ?_, ?_, hW.below hb5, hF.below hb5, But.of_below hb5⟩, by rw [← hP5]; simp [hs4], hb5⟩
    · rw [← hP5, ← hP4, ← hA]; exact ((((Boxed.new w _ _).alloc _).alloc _).alloc _).alloc _
    · rw [← hP5, ← hP4]
      have e := (((Boxed.new (w.alloc (.cells #[.pointer (some ⟨B, 0, none⟩)] 35)) 24 (.slice ql R cl)).alloc (.cells #[.int .i64 (R : Nat), .int .i64 (C : Nat), .slice q n c] 43)).alloc (.cells #[.slice qv C cv] 24)).alloc (.cells #[.int .i64 (R : Nat), .int .i64 (C : Nat), .slice q n c] 43)
      simpa [hA] using e
    · rw [← hP5, ← hP4]
      have e := (Boxed.new (((w.alloc (.cells #[.pointer (some ⟨B, 0, none⟩)] 35)).alloc (.cells #[.slice ql R cl] 24)).alloc (.cells #[.int .i64 (R : Nat), .int .i64 (C : Nat), .slice q n c] 43)) 24 (.slice qv C cv)).alloc (.cells #[.int .i64 (R : Nat), .int .i64 (C : Nat), .slice q n c] 43)
      simpa [hA] using e
  have HS : Hid (Bs w q n xs ∧ Bs w qv C vs ∧ Off T n q ∧ Off T C qv ∧ Off G n q ∧ Off G C qv ∧ n = R * C ∧ o = i * R ∧ (0 < R → ql = some ⟨G, o, none⟩) ∧ T < A ∧ B < A ∧ G < A) := ⟨hs, hv, hqT, hvT, hqG, hvG, hn, ho, hql, hA ▸ hF.lt, hA ▸ hF.blt, hA ▸ hW.lt.2⟩
  have K4 := rowsOf_calls (D - 1) R C q n c P4
  rw [hP5, hs4] at K4
  clear hs hv hqT hvT hqG hvG hn ho hql hF hW
  have b0 := (HP.out.1).c0
  have b1 := (HP.out.1).c1
  have b2 := (HP.out.1).c2
  gi_wp2_with fail
  refine K4.mono ?_
  rintro e w5 ⟨rfl, rfl⟩
  clear K4
  clear b0 b1 b2
  gi_wp2
  have hsz : P5.heap.size = A + 5 := HP.out.2.2.2.1
  have hN : T < A ∧ B < A ∧ G < A := HS.out.2.2.2.2.2.2.2.2.2
  obtain ⟨hTA, hBA, hGA⟩ := hN
  refine wpIn_rangeFunc_ownG rfl hD1 (gf := 67) (lb := #[.pointer (some ⟨A + 4, 0, none⟩)]) rfl trivial (enters_of Tryz.func67 (by kernel_rfl) rfl)
    (rowsOf1_stops (D - 1) (by omega) (A + 4) R C q n c HS.out.2.2.2.2.2.2.1 hnc hR hC P5 HP.out.2.1) keepsM_t (fun W l o o' _ h1 h2 _ => keepsM_b W l o o' h1 h2) (Below.refl _ _) (fun _ => rfl)
    (fun pre W => DI A k B T base G n1 R1 R (.slice ql R cl) (.slice qv C cv) w (dotF ts i M pre) W)
    (fun _ _ _ => False)
    (di_own _ (by omega) (by omega) (by omega))
    (fun _ _ _ _ _ hs _ _ => hs)
    (by rw [dotF_nil]; exact HP.out.2.2.1)
    (fun t => { tmps := #[.pointer (some ⟨B, 0, none⟩), .slice ql R cl, .agg #[.int .i64 (R : Nat), .int .i64 (C : Nat), .slice q n c], .slice qv C cv, .pointer (some ⟨A, 0, none⟩), .pointer (some ⟨A + 1, 0, none⟩), .pointer (some ⟨A + 1 + 1, 0, none⟩), .pointer (some ⟨A + 1 + 1 + 1, 0, none⟩), .int .i64 ((t.1 : Nat) : Int), .slice (rowAt q C (t.1 * C)) C C, .agg #[.int .i64 (R : Nat), .int .i64 (C : Nat), .slice q n c], .func (.func 67) #[] #[.pointer (some ⟨A + 4, 0, none⟩)], .int .i64 ((t.1 : Nat) : Int), .slice (rowAt q C (t.1 * C)) C C, undef, undef, undef, undef, undef, undef, undef], defers := [] }) ?assign ?body ?done ?stop
  case assign =>
    intro l t W K hK
    obtain ⟨i', hi'⟩ := t
    dsimp only [rwv] at hK ⊢
    obtain ⟨qr, hqr⟩ : ∃ qr, rowAt q C (i' * C) = qr := ⟨_, rfl⟩
    rw [hqr] at hK ⊢
    gi_wp2
    exact hK
  case body =>
    rintro l pre t W hI _
    have hsn := dotF_snoc (N := R1) (K := R) ts i M pre t
    obtain ⟨u, hu⟩ := t
    dsimp only at hsn ⊢
    obtain ⟨qr, hqr⟩ : ∃ qr, rowAt q C (u * C) = qr := ⟨_, rfl⟩
    rw [hqr]
    have hui : (u : Int) < (R : Int) := by omega
    obtain rfl : ql = some ⟨G, o, none⟩ := HS.out.2.2.2.2.2.2.2.2.1 (by omega)
    have hsB : ∀ {q' : Option Addr} {m' : Nat} {zs : List Nat}, Bs w q' m' zs → Off T m' q' → Off G m' q' → Bs W q' m' zs := fun {q' m' zs} h h1 h2 => by
      refine ⟨h.len, h.max, fun j hj => ?_, h.byte⟩
      obtain ⟨a, e, hl, hc⟩ := h.cell j hj
      refine ⟨a, e, Nat.lt_of_lt_of_le hl hI.but.size, (hI.but.cell (p := a.add j) (by rw [block_add]; exact hl) ?_).trans hc⟩
      rw [block_add]
      rintro (e2 | e2)
      · exact h1 (by omega) a e e2
      · exact h2 (by omega) a e e2
    have h := HS.out
    have hBr : Bs W qr C (rowL C xs u) := by rw [← hqr]; exact rowAt_bs (hsB h.1 h.2.2.1 h.2.2.2.2.1) h.2.2.2.2.2.2.1 hu rfl
    have hBv : Bs W qv C vs := hsB h.2.1 h.2.2.2.1 h.2.2.2.2.2.1
    have hOr : Off T C qr := by
      rw [← hqr]
      refine rowAt_off h.2.2.1 _ _ ?_
      rw [h.2.2.2.2.2.2.1, ← Nat.succ_mul]; exact Nat.mul_le_mul_right _ hu
    have hxv : xsum (List.zipWith Gf.mul (rowL C xs u) vs) = ts.getD u 0 := by
      rw [← HTS.out.1]; exact Mx.timesL_row (h.1.len.trans h.2.2.2.2.2.2.1) h.1.byte h.2.1.len h.2.1.byte hu
    obtain ⟨z, hz⟩ : ∃ z, ts.getD u 0 = z := ⟨_, rfl⟩
    rw [hz] at hxv
    have hzl : z < 256 := hz ▸ HTS.out.2 u
    have KE := fdot_calls k B T C C C cv qr qv (rowL C xs u) vs (by omega) (by omega) (Nat.le_refl _) hcv W.drew hI.fd.drew hBr.drew hBv.drew hOr h.2.2.2.1
    rw [hxv] at KE
    have c1 := hI.bf.cell
    have c2 := hI.bl.cell
    have c3 := hI.bv.cell
    have hmx : Tryz.prog.follows .mixedOrders = true := by kernel_rfl
    have hd : 1 ≤ D - 1 - 1 := by omega
    have HI : Hid (DI A k B T base G n1 R1 R (.slice (some ⟨G, o, none⟩) R cl) (.slice qv C cv) w (dotF ts i M pre) W ∧ o = i * R) := ⟨hI, h.2.2.2.2.2.2.2.1⟩
    have HSN : Hid (Mx.Eq R1 R (upd (dotF ts i M pre) i u (GF.of z)) (dotF ts i M (pre ++ [⟨u, hu⟩]))) := by
      have e : ofL ts u = GF.of z := by unfold Pol.ofL; rw [hz]
      rw [e] at hsn; exact hsn
    clear hsn hI hqr hsB h hBr hBv hOr hxv hz
    gi_wp2
    refine wpIn_mono (Q := fun e _ W' => e = .normal ∧ Hid (DI A k B T base G n1 R1 R (.slice (some ⟨G, o, none⟩) R cl) (.slice qv C cv) w (dotF ts i M (pre ++ [⟨u, hu⟩])) W' ∧ But (fun k => k = T ∨ k = G) W W')) ?_ ?_
    · have hS : W.drew.cell? ⟨A, 0, none⟩ = some (.pointer (some ⟨B, 0, none⟩)) ∧ W.drew.cell? ⟨A + 1, 0, none⟩ = some (.slice (some ⟨G, o, none⟩) R cl) ∧ W.drew.cell? ⟨A + 3, 0, none⟩ = some (.slice qv C cv) := ⟨c1, c2, c3⟩
      refine region_held_round (S := fun w' => w'.cell? ⟨A, 0, none⟩ = some (.pointer (some ⟨B, 0, none⟩)) ∧ w'.cell? ⟨A + 1, 0, none⟩ = some (.slice (some ⟨G, o, none⟩) R cl) ∧ w'.cell? ⟨A + 3, 0, none⟩ = some (.slice qv C cv)) hmx (fun ⟨_, _, e, _⟩ => by cases e) (by kernel_rfl) hS (fun hS => ?_)
      refine wpAnyH_take (i := 0) (v := .slice (some ⟨G, o, none⟩) R cl) rfl (by kernel_rfl) (by kernel_rfl) (by kernel_rfl) (fun _ _ _ h => by cases h.1) (Or.inl ⟨by rfl, ?_⟩) hS ?_
      · intro w' ⟨_, h2, _⟩
        go_simp
      (try dsimp only [Act.put])
      refine wpAnyH_take (i := 1) (v := .int .i64 (u : Int)) rfl (by kernel_rfl) (by kernel_rfl) (by kernel_rfl) (fun _ _ _ h => by cases h.1) (Or.inl ⟨by rfl, ?_⟩) hS ?_
      · intro w' _
        go_simp
      (try dsimp only [Act.put])
      refine wpAnyH_take (i := 2) (v := .pointer (some ⟨B, 0, none⟩)) rfl (by kernel_rfl) (by kernel_rfl) (by kernel_rfl) (fun _ _ _ h => by cases h.1) (Or.inl ⟨by rfl, ?_⟩) hS ?_
      · intro w' ⟨h1, _, _⟩
        go_simp
      (try dsimp only [Act.put])
      refine wpAnyH_take (i := 3) (v := .slice qr C C) rfl (by kernel_rfl) (by kernel_rfl) (by kernel_rfl) (fun _ _ _ h => by cases h.1) (Or.inl ⟨by rfl, ?_⟩) hS ?_
      · intro w' _
        go_simp
      (try dsimp only [Act.put])
      refine wpAnyH_take (i := 4) (v := .slice qv C cv) rfl (by kernel_rfl) (by kernel_rfl) (by kernel_rfl) (fun _ _ _ h => by cases h.1) (Or.inl ⟨by rfl, ?_⟩) hS ?_
      · intro w' ⟨_, _, h3⟩
        go_simp
      (try dsimp only [Act.put])
      refine wpAnyH_ready (rs := [5]) (by kernel_rfl) (by simp) ?_
      refine AllReadyH.cons rfl (fun K hK => ?_) AllReadyH.nil
      go_simp
      refine KE.mono ?_
      rintro e' w1 ⟨rfl, hF1, hb1'⟩
      have hb1 : But (· = T) W w1 := ((But.refl (· = T) W).drew).trans hb1'
      have hDI1 : DI A k B T base G n1 R1 R (.slice (some ⟨G, o, none⟩) R cl) (.slice qv C cv) w (dotF ts i M pre) w1 := ⟨boxed_but HI.out.1.bf hb1 (by omega), boxed_but HI.out.1.bl hb1 (by omega), boxed_but HI.out.1.bv hb1 (by omega), HI.out.1.wk.but hb1 (fun e => hGT e.symm), hF1, HI.out.1.but.trans (hb1.mono fun _ h => .inl h)⟩
      refine hK.out _ _ ⟨hDI1.bf.cell, hDI1.bl.cell, hDI1.bv.cell⟩ (fun _ => ?_)
      clear hK K
      (try dsimp only [Act.put])
      obtain ⟨cg, fg⟩ := hDI1.wk.cell (j := u) hi hu HI.out.2
      obtain ⟨x0, hx0⟩ : ∃ x0, (dotF ts i M pre i u).val = x0 := ⟨_, rfl⟩
      rw [hx0] at cg
      refine wpAnyH_ready (rs := [6]) (by kernel_rfl) (by simp) ?_
      refine AllReadyH.cons rfl (fun K hK => ?_) AllReadyH.nil
      go_simp
      refine hK.out _ _ ⟨hDI1.bf.cell, hDI1.bl.cell, hDI1.bv.cell⟩ (fun _ => ?_)
      clear hK K
      (try dsimp only [Act.put])
      refine wpAnyH_ready (rs := [7]) (by kernel_rfl) (by simp) ?_
      refine AllReadyH.cons rfl (fun K hK => ?_) AllReadyH.nil
      go_simp
      have hb2 : But (· = G) w1 (w1.setCell ⟨G, o + u, none⟩ (.int .u8 (z : Nat))) := (But.refl (· = G) w1).setCell (p := ⟨G, o + u, none⟩) (.inl rfl) _
      have hDI2 : DI A k B T base G n1 R1 R (.slice (some ⟨G, o, none⟩) R cl) (.slice qv C cv) w (dotF ts i M (pre ++ [⟨u, hu⟩])) (w1.setCell ⟨G, o + u, none⟩ (.int .u8 (z : Nat))) := ⟨boxed_but hDI1.bf hb2 (by omega), boxed_but hDI1.bl hb2 (by omega), boxed_but hDI1.bv hb2 (by omega), (hDI1.wk.set hi hu HI.out.2 hzl).congr HSN.out, hDI1.fd.but hb2 hGB hGT, hDI1.but.trans (hb2.mono fun _ h => .inr h)⟩
      refine hK.out _ _ ⟨hDI2.bf.cell, hDI2.bl.cell, hDI2.bv.cell⟩ (fun _ => ?_)
      exact wpAnyH_done (by kernel_rfl) ⟨rfl, hDI2, (hb1.mono fun _ h => .inl h).trans (hb2.mono fun _ h => .inr h)⟩ _
    · rintro e a W' ⟨rfl, HQ⟩
      exact ⟨keepsFrom_but HQ.out.2 (fun k hk => by omega), keepsM_but HQ.out.2 (by omega), HQ.out.1⟩
  case done =>
    rintro D' ys' W hD' rfl hI hK
    gi_wp2
    refine ⟨by simp, .inl ⟨_, _, rfl, run_takeDeferred hK, ?_⟩⟩
    have hb1 := but_putObj W D' (.deferred none)
    refine ⟨_, results_none rfl _ _ _, ⟨_, rfl⟩, ?_, ?_, ?_⟩
    · exact (hI.wk.congr (dotF_end ts i M)).but hb1 (by omega)
    · exact hI.fd.but hb1 (by omega) (by omega)
    · exact hI.but.past hb1 (fun k hk => by omega)
  case stop =>
    rintro D' c' pre W _ _ h _
    exact h.elim
theorem mdots_calls (k B T base G n1 R1 i o cl R C n c cv : Nat) (ql q qv : Option Addr) (xs vs : List Nat) (M : Mat) (hi : i < R1) (ho : o = i * R) (hql : 0 < R → ql = some ⟨G, o, none⟩) (hn : n = R * C) (hnc : n ≤ c) (hcv : C ≤ cv) (hR : R ≤ 300) (hC : C ≤ 300) (hGB : ¬ B = G) (hGT : ¬ T = G) (w : World) (hF : Fd k B T w) (hW : Wk w base G n1 R1 R M) (hs : Bs w q n xs) (hv : Bs w qv C vs) (hqT : Off T n q) (hvT : Off T C qv) (hqG : Off G n q) (hvG : Off G C qv) :
    Calls Tryz.prog 49 #[.pointer (some ⟨B, 0, none⟩), .slice ql R cl, .agg #[.int .i64 (R : Nat), .int .i64 (C : Nat), .slice q n c], .slice qv C cv] w fun e w' => (∃ v, e = .returned v) ∧ Wk w' base G n1 R1 R (fun a b => if a = i then ofL (timesL R C xs vs) b else M a b) ∧ Fd k B T w' ∧ But (fun x => x = T ∨ x = G) w w' :=
  (callsIn_wide (n := 4)).1 (mdots_in 4 (by omega) k B T base G n1 R1 i o cl R C n c cv ql q qv xs vs M hi ho hql hn hnc hcv hR hC hGB hGT w hF hW hs hv hqT hvT hqG hvG)

set_option maxRecDepth 100000 in
set_option maxHeartbeats 4000000 in
theorem mtimes_calls (k B T R C n c cv : Nat) (q qv : Option Addr) (xs vs : List Nat) (hn : n = R * C) (hnc : n ≤ c) (hcv : C ≤ cv) (hR : R ≤ 300) (hC : C ≤ 300) (w : World) (hF : Fd k B T w) (hs : Bs w q n xs) (hv : Bs w qv C vs) (hqT : Off T n q) (hvT : Off T C qv) :
    Calls Tryz.prog 22 #[.pointer (some ⟨B, 0, none⟩), .agg #[.int .i64 (R : Nat), .int .i64 (C : Nat), .slice q n c], .slice qv C cv] w fun e w' => ∃ v, e = .returned (.tuple #[v, .bool true]) ∧ Ow w' w.heap.size v (timesL R C xs vs) ∧ Fd k B T w' ∧ But (· = T) w w' := by
  obtain ⟨A, hA⟩ : ∃ A, w.heap.size = A := ⟨_, rfl⟩
  obtain ⟨P1, hP1⟩ : ∃ P1, w.alloc (.cells #[.int .i64 (R : Nat), .int .i64 (C : Nat), .slice q n c] 43) = P1 := ⟨_, rfl⟩
  have HP : Hid (Mb P1 A (.int .i64 (R : Nat)) (.int .i64 (C : Nat)) (.slice q n c) ∧ Below w.heap.size w P1) := ⟨by rw [← hA, ← hP1]; exact mb_new w _ _ _, hP1 ▸ (Below.refl _ w).alloc (Nat.le_refl _) _⟩
  have K1 := mright_calls (R : Int) (C : Int) q n c true (right_nat hR hC hn) (by omega) (by omega) (by omega) (by omega) P1
  have hmk := make_bytes R (by omega)
  have HS : Hid (Bs w q n xs ∧ Bs w qv C vs ∧ Off T n q ∧ Off T C qv ∧ n = R * C ∧ Fd k B T w) := ⟨hs, hv, hqT, hvT, hn, hF⟩
  clear hs hv hqT hvT hn hF
  have b0 := (HP.out.1).c0
  have b1 := (HP.out.1).c1
  have b2 := (HP.out.1).c2
  go_enter Tryz.func22, Tryz.ntmps22
  go_wp2_with fail
  refine K1.mono ?_
  rintro e w1 ⟨rfl, hb1⟩
  clear K1
  clear b0 b1 b2
  obtain ⟨G, hG⟩ : ∃ G, w1.heap.size = G := ⟨_, rfl⟩
  obtain ⟨W2, hW2⟩ : ∃ W2, w1.alloc (.cells (madeCells #[.int .u8 0] R) 5) = W2 := ⟨_, rfl⟩
  have HT : Hid (Mb w1 A (.int .i64 (R : Nat)) (.int .i64 (C : Nat)) (.slice q n c) ∧ Mb W2 A (.int .i64 (R : Nat)) (.int .i64 (C : Nat)) (.slice q n c) ∧ Below w.heap.size w W2 ∧ Wk W2 w.heap.size G R 1 R (fun _ _ => 0) ∧ w.heap.size ≤ G) := by
    have h1 : Below w1.heap.size w1 W2 := hW2 ▸ (Below.refl _ w1).alloc (Nat.le_refl _) _
    have hb := HP.out.2.trans (hb1.mono HP.out.2.size)
    refine ⟨HP.out.1.below hb1, (HP.out.1.below hb1).below h1, hb.trans (h1.mono hb.size), ?_, hG ▸ hb.size⟩
    have := wk_made w1 (base := w.heap.size) hb.size 1 R R (Nat.one_mul R).symm (by omega)
    rw [hG, hW2] at this
    exact this
  clear hb1
  have hGl := HT.out.2.2.2.2
  have K2 := mdots_calls k B T w.heap.size G R 1 0 0 R R C n c cv (some ⟨G, 0, none⟩) q qv xs vs (fun _ _ => 0) (by decide) (Nat.zero_mul R).symm (fun _ => rfl) HS.out.2.2.2.2.1 hnc hcv hR hC (by have := HS.out.2.2.2.2.2.blt; omega) (by have := HS.out.2.2.2.2.2.lt; omega) W2 (HS.out.2.2.2.2.2.below HT.out.2.2.1) HT.out.2.2.2.1 (HS.out.1.below HT.out.2.2.1) (HS.out.2.1.below HT.out.2.2.1) HS.out.2.2.1 HS.out.2.2.2.1 (HS.out.1.off hGl) (HS.out.2.1.off hGl)
  have b0 := (HT.out.1).c0
  have b1 := (HT.out.1).c1
  have b2 := (HT.out.1).c2
  have d0 := (HT.out.2.1).c0
  have d1 := (HT.out.2.1).c1
  have d2 := (HT.out.2.1).c2
  go_wp2_with fail
  refine K2.mono ?_
  rintro e w3 ⟨⟨v3, rfl⟩, hW3, hF3, hb3⟩
  clear K2
  clear b0 b1 b2
  clear d0 d1 d2
  have HZ : Hid (Ow w3 w.heap.size (.slice (some ⟨G, 0, none⟩) R R) (timesL R C xs vs) ∧ Fd k B T w3 ∧ But (· = T) w w3) := by
    have h2 := HT.out.2.2.1
    refine ⟨?_, hF3, ⟨hb3.os.trans h2.os, hb3.tape.trans h2.tape, hb3.output.trans h2.output, Nat.le_trans h2.size hb3.size, fun i hi hs => (hb3.block i (Nat.lt_of_lt_of_le hi h2.size) (by omega)).trans (h2.block i hi)⟩⟩
    have e : cells 1 R (fun a b => if a = 0 then ofL (timesL R C xs vs) b else 0) = timesL R C xs vs := by
      refine (Mx.cells_ext (by rw [Mx.timesL_length, Nat.one_mul]) fun a b ha _ => ?_).symm
      obtain rfl : a = 0 := by omega
      rw [Nat.zero_mul, Nat.zero_add, if_pos rfl]
      exact (GF.of_val _ (Mx.timesL_byt _ _ _ _ _)).symm
    rw [← e]
    exact hW3.2
  clear hW3 hF3 hb3
  go_wp2
  go_ret2
  exact ⟨_, rfl, HZ.out⟩

set_option maxRecDepth 100000 in
set_option maxHeartbeats 4000000 in
theorem mtimes_none (k B T R C n c m cv : Nat) (q qv : Option Addr) (hn : n = R * C) (hR : R ≤ 300) (hC : C ≤ 300) (hm : ¬ m = C) (w : World) (hF : Fd k B T w) :
    Calls Tryz.prog 22 #[.pointer (some ⟨B, 0, none⟩), .agg #[.int .i64 (R : Nat), .int .i64 (C : Nat), .slice q n c], .slice qv m cv] w fun e w' => e = .returned (.tuple #[.slice none 0 0, .bool false]) ∧ Fd k B T w' ∧ But (· = T) w w' := by
  obtain ⟨A, hA⟩ : ∃ A, w.heap.size = A := ⟨_, rfl⟩
  obtain ⟨P1, hP1⟩ : ∃ P1, w.alloc (.cells #[.int .i64 (R : Nat), .int .i64 (C : Nat), .slice q n c] 43) = P1 := ⟨_, rfl⟩
  have HP : Hid (Mb P1 A (.int .i64 (R : Nat)) (.int .i64 (C : Nat)) (.slice q n c) ∧ Below w.heap.size w P1) := ⟨by rw [← hA, ← hP1]; exact mb_new w _ _ _, hP1 ▸ (Below.refl _ w).alloc (Nat.le_refl _) _⟩
  have K1 := mright_calls (R : Int) (C : Int) q n c true (right_nat hR hC hn) (by omega) (by omega) (by omega) (by omega) P1
  have HF : Hid (Fd k B T w) := hF
  have hne : ((m : Int) != (C : Int)) = true := by simp; omega
  have hne2 : (m != C) = true := by simpa using hm
  clear hn hF hm
  have b0 := (HP.out.1).c0
  have b1 := (HP.out.1).c1
  have b2 := (HP.out.1).c2
  go_enter Tryz.func22, Tryz.ntmps22
  go_wp2_with fail
  refine K1.mono ?_
  rintro e w1 ⟨rfl, hb1⟩
  clear K1
  clear b0 b1 b2
  have hM := HP.out.1.below hb1
  have HB : Hid (Below w.heap.size w w1) := HP.out.2.trans (hb1.mono HP.out.2.size)
  clear hb1
  have b0 := (hM).c0
  have b1 := (hM).c1
  have b2 := (hM).c2
  go_wp2
  go_ret2
  exact ⟨rfl, HF.out.below HB.out, But.of_below HB.out⟩
end Go.Proofs
