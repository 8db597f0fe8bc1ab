/- The walk of euclid.rows.turned: a step of Euclid's. Conditions: a field that Of has made; lists of at most a hundred thousand bytes, apart from its table; the younger remainder is not 0. -/
import Derived.Test.YthnlcdfonbnjcaaGreatMK
import Derived.Test.YthnlcdfonbnjcaaGreatMG
namespace Go.Proofs
open Go.RowKit Go.ChangeShapes Go.WideShapes
open Pol (IsN Dg ofL Byt)

/-- Two rows, the elder one first, as a value. -/
def rwV (v1 v2 v3 v4 : Value) : Value := .agg #[v1, v2, v3, v4]
/-- Two rows in a block of their own. -/
structure RwB (R : Nat) (v0 v1 v2 v3 : Value) (W : World) : Prop where
  c0 : W.cell? ⟨R, 0, none⟩ = some v0
  c1 : W.cell? ⟨R, 1, none⟩ = some v1
  c2 : W.cell? ⟨R, 2, none⟩ = some v2
  c3 : W.cell? ⟨R, 3, none⟩ = some v3
  f0 : W.frozen? ⟨R, 0, none⟩ = false
  f1 : W.frozen? ⟨R, 1, none⟩ = false
  f2 : W.frozen? ⟨R, 2, none⟩ = false
  f3 : W.frozen? ⟨R, 3, none⟩ = false
theorem RwB.blt {R : Nat} {v0 v1 v2 v3 : Value} {W : World} (h : RwB R v0 v1 v2 v3 W) : R < W.heap.size := World.block_lt_of_cell? _ _ h.c0
theorem RwB.but {R : Nat} {v0 v1 v2 v3 : Value} {S : Nat → Prop} {W W' : World} (h : RwB R v0 v1 v2 v3 W) (hb : But S W W') (hs : ¬ S R) : RwB R v0 v1 v2 v3 W' :=
  ⟨(hb.cell (p := ⟨R, 0, none⟩) h.blt hs).trans h.c0, (hb.cell (p := ⟨R, 1, none⟩) h.blt hs).trans h.c1, (hb.cell (p := ⟨R, 2, none⟩) h.blt hs).trans h.c2, (hb.cell (p := ⟨R, 3, none⟩) h.blt hs).trans h.c3,
    (hb.frozen (p := ⟨R, 0, none⟩) h.blt hs).trans h.f0, (hb.frozen (p := ⟨R, 1, none⟩) h.blt hs).trans h.f1, (hb.frozen (p := ⟨R, 2, none⟩) h.blt hs).trans h.f2, (hb.frozen (p := ⟨R, 3, none⟩) h.blt hs).trans h.f3⟩
theorem RwB.below {R : Nat} {v0 v1 v2 v3 : Value} {W W' : World} (h : RwB R v0 v1 v2 v3 W) (hb : Below W.heap.size W W') : RwB R v0 v1 v2 v3 W' := h.but (But.of_below (S := fun _ => False) hb) id
theorem RwB.new (w : World) (v0 v1 v2 v3 : Value) (t : TypeId) : RwB w.heap.size v0 v1 v2 v3 (w.alloc (.cells #[v0, v1, v2, v3] t)) :=
  ⟨by simp [go_sem], by simp [go_sem], by simp [go_sem], by simp [go_sem], by simp [go_sem], by simp [go_sem], by simp [go_sem], by simp [go_sem]⟩
/-- All four are written. -/
def set4 (W : World) (R : Nat) (v0 v1 v2 v3 : Value) : World := (((W.setCell ⟨R, 0, none⟩ v0).setCell ⟨R, 1, none⟩ v1).setCell ⟨R, 2, none⟩ v2).setCell ⟨R, 3, none⟩ v3
theorem But.set4 (W : World) (R : Nat) (v0 v1 v2 v3 : Value) : But (· = R) W (set4 W R v0 v1 v2 v3) :=
  ((((But.refl (· = R) W).setCell (p := ⟨R, 0, none⟩) (.inl rfl) v0).setCell (p := ⟨R, 1, none⟩) (.inl rfl) v1).setCell (p := ⟨R, 2, none⟩) (.inl rfl) v2).setCell (p := ⟨R, 3, none⟩) (.inl rfl) v3
theorem RwB.set {R : Nat} {u0 u1 u2 u3 : Value} {W : World} (h : RwB R u0 u1 u2 u3 W) (v0 v1 v2 v3 : Value) : RwB R v0 v1 v2 v3 (set4 W R v0 v1 v2 v3) := by
  obtain ⟨h0, h1, h2, h3, g0, g1, g2, g3⟩ := h
  unfold Go.Proofs.set4
  refine ⟨?_, ?_, ?_, ?_, ?_, ?_, ?_, ?_⟩ <;> simp [go_sem, h0, h1, h2, h3, g0, g1, g2, g3]
theorem load4r {W : World} {B : Nat} {v0 v1 v2 v3 : Value} (h0 : W.cell? ⟨B, 0, none⟩ = some v0) (h1 : W.cell? ⟨B, 1, none⟩ = some v1) (h2 : W.cell? ⟨B, 2, none⟩ = some v2) (h3 : W.cell? ⟨B, 3, none⟩ = some v3) : (loadVar 67 ⟨B, 0, none⟩).run Tryz.prog W = .ok (.agg #[v0, v1, v2, v3]) W := by
  have hl := run_loadCells_list (P := Tryz.prog) W ⟨B, 0, none⟩ [v0, v1, v2, v3] (fun j v hj => by
    have hadd : (⟨B, 0, none⟩ : Addr).add j = ⟨B, j, none⟩ := by unfold Addr.add; split <;> simp_all
    rw [hadd]
    match j, hj with
    | 0, hj => rw [h0]; exact hj
    | 1, hj => rw [h1]; exact hj
    | 2, hj => rw [h2]; exact hj
    | 3, hj => rw [h3]; exact hj)
  have ha : (isAgg 67).run Tryz.prog W = .ok true W := Tryz.isAgg67 W
  have hl' : (loadCells ⟨B, 0, none⟩ 4).run Tryz.prog W = .ok #[v0, v1, v2, v3] W := hl
  simp [loadVar, Sem.run_bind, ha, hl']

set_option maxRecDepth 100000 in
set_option maxHeartbeats 1000000 in
theorem eturn_calls (k B T : Nat) (q1 q2 q3 q4 : Option Addr) (n1 c1 n2 c2 n3 c3 n4 c4 n5 n6 n7 n8 : Nat) (r s u v qs ts ms us : List Nat) (hD : IsDiv r s qs ts true) (hms : IsN ms (Pol.mul (ofL qs) (ofL v))) (hus : IsN us (Pol.add (ofL u) (ofL ms)))
    (l5 : qs.length = n5) (l6 : ts.length = n6) (l7 : ms.length = n7) (l8 : us.length = n8) (b1 : n1 ≤ 100000000) (b2 : n2 ≤ 100000000) (b3 : n3 ≤ 100000000) (b4 : n4 ≤ 100000000) (b5 : n5 ≤ 100000000) (b7 : n7 ≤ 100000000) (w : World) (h : Fd k B T w) (t1 : Tl w T q1 n1 c1 r) (t2 : Tl w T q2 n2 c2 s) (t3 : Tl w T q3 n3 c3 u) (t4 : Tl w T q4 n4 c4 v) :
    Calls Tryz.prog 53 #[rwV (.slice q1 n1 c1) (.slice q2 n2 c2) (.slice q3 n3 c3) (.slice q4 n4 c4), .pointer (some ⟨B, 0, none⟩)] w fun e w' => ∃ q6 c6 q8 c8, e = .returned (rwV (.slice q2 n2 c2) (.slice q6 n6 c6) (.slice q4 n4 c4) (.slice q8 n8 c8)) ∧ (Bs w' q6 n6 ts ∧ n6 ≤ c6 ∧ ∀ g, g < w.heap.size → Off g n6 q6) ∧ (Bs w' q8 n8 us ∧ n8 ≤ c8 ∧ ∀ g, g < w.heap.size → Off g n8 q8) ∧ Fd k B T w' ∧ But (· = T) w w' := by
  have hl := h.lt
  obtain ⟨R, hR⟩ : ∃ R, w.heap.size = R := ⟨_, rfl⟩
  obtain ⟨W0, hW0⟩ : ∃ W0, (w.alloc (.cells #[.slice q1 n1 c1, .slice q2 n2 c2, .slice q3 n3 c3, .slice q4 n4 c4] 67)).alloc (.cells #[.slice none 0 0, .slice none 0 0, .slice none 0 0, .slice none 0 0] 67) = W0 := ⟨_, rfl⟩
  have hb0 : Below R w W0 := by rw [← hW0, ← hR]; exact ((Below.refl _ w).alloc (Nat.le_refl _) _).alloc (by simp) _
  have hs0 : W0.heap.size = R + 1 + 1 := by rw [← hW0, ← hR]; simp
  have z : RwB R (.slice q1 n1 c1) (.slice q2 n2 c2) (.slice q3 n3 c3) (.slice q4 n4 c4) W0 := by
    rw [← hW0, ← hR]; exact (RwB.new w _ _ _ _ _).below ((Below.refl _ _).alloc (Nat.le_refl _) _)
  have u' : RwB (R + 1) (.slice none 0 0) (.slice none 0 0) (.slice none 0 0) (.slice none 0 0) W0 := by
    have := RwB.new (w.alloc (.cells #[.slice q1 n1 c1, .slice q2 n2 c2, .slice q3 n3 c3, .slice q4 n4 c4] 67)) (.slice none 0 0) (.slice none 0 0) (.slice none 0 0) (.slice none 0 0) 67
    rw [hW0] at this
    rw [← hR]
    simpa using this
  have hTR : ¬ R = T := by omega
  have hTR1 : ¬ R + 1 = T := by omega
  have hF0 := h.below (hR.symm ▸ hb0)
  have HBR : Hid (¬ B = R + 1) := by have := h.blt; show ¬ B = R + 1; omega
  have hTR' : ¬ T = R + 1 := by omega
  have K1 := qdiv_u k B T n1 c1 n2 c2 q1 q2 r s qs ts true hD (by omega) (by omega) t1.le t2.le W0 hF0 (t1.bs.below (hR.symm ▸ hb0)) (t2.bs.below (hR.symm ▸ hb0)) t1.off t2.off
  have HS : Hid (Below R w W0 ∧ W0.heap.size = R + 1 + 1 ∧ Tl W0 T q3 n3 c3 u ∧ Tl W0 T q4 n4 c4 v ∧ IsN ms (Pol.mul (ofL qs) (ofL v)) ∧ IsN us (Pol.add (ofL u) (ofL ms)) ∧ Byt qs ∧ Byt ts ∧ T < R) := ⟨hb0, hs0, t3.below (hR.symm ▸ hb0), t4.below (hR.symm ▸ hb0), hms, hus, hD.byt.1, hD.byt.2, by omega⟩
  clear hD hms hus h t1 t2 t3 t4 hb0 hs0 hF0 hl
  obtain ⟨z0, z1, -⟩ := id z
  unfold rwV
  go_enter Tryz.func53, Tryz.ntmps53
  rw [hR]
  go_wp2_with fail
  refine K1.mono ?_
  rintro e w1 ⟨v1, v2, rfl, hO5, hO6, hF1, hb1⟩
  clear K1 hW0 z0 z1
  obtain ⟨q5, c5, rfl, S5, C5, O5⟩ := hO5.tell HS.out.2.2.2.2.2.2.1 l5
  obtain ⟨q6, c6, rfl, S6, C6, O6⟩ := hO6.tell HS.out.2.2.2.2.2.2.2.1 l6
  have ht1 : T < w1.heap.size := hF1.lt
  have HC : Hid (∀ W, But (· = T) w1 W → RwB R (.slice q1 n1 c1) (.slice q2 n2 c2) (.slice q3 n3 c3) (.slice q4 n4 c4) W) := fun W hb => z.but (hb1.trans hb) hTR
  have HU : Hid (∀ W, But (· = T) w1 W → RwB (R + 1) (.slice none 0 0) (.slice none 0 0) (.slice none 0 0) (.slice none 0 0) W) := fun W hb => u'.but (hb1.trans hb) hTR1
  have hT1 : Tl w1 T q3 n3 c3 u ∧ Tl w1 T q4 n4 c4 v := ⟨HS.out.2.2.1.but hb1, HS.out.2.2.2.1.but hb1⟩
  have HB1 : Hid (But (· = T) W0 w1 ∧ Bs w1 q6 n6 ts ∧ n6 ≤ c6 ∧ (∀ g, g < W0.heap.size → Off g n6 q6)) := ⟨hb1, S6, C6, O6⟩
  have KM : Hid (∀ W, But (· = T) w1 W → Fd k B T W → Calls Tryz.prog 21 #[.pointer (some ⟨B, 0, none⟩), .slice q5 n5 c5, .slice q4 n4 c4] W fun e w' => ∃ q7 c7, e = .returned (.slice q7 n7 c7) ∧ Bs w' q7 n7 ms ∧ Fd k B T w' ∧ But (· = T) w1 w') := fun W hW hF => by
    have o5 : Off T n5 q5 := O5 T (by have := HS.out; omega)
    refine (pmul_calls k B T n5 c5 n4 c4 q5 q4 qs v ms HS.out.2.2.2.2.1 (by omega) (by omega) C5 hT1.2.le W hF (S5.but hW o5) (hT1.2.but hW).bs o5 hT1.2.off).mono ?_
    rintro e w' ⟨v7, rfl, hO7, hF7, hb7⟩
    obtain ⟨q7, c7, rfl, S7, C7, -⟩ := hO7.tell HS.out.2.2.2.2.1.byt l7
    exact ⟨q7, c7, rfl, S7, hF7, hW.trans hb7⟩
  have KA : Hid (∀ q7 c7 W, But (· = T) w1 W → Bs W q7 n7 ms → Calls Tryz.prog 58 #[.slice q3 n3 c3, .slice q7 n7 c7] W fun e w' => ∃ q8 c8, e = .returned (.slice q8 n8 c8) ∧ Hid (Bs w' q8 n8 us ∧ n8 ≤ c8 ∧ ∀ g, g < w1.heap.size → Off g n8 q8) ∧ Below W.heap.size W w') := fun q7 c7 W hW hS7 => by
    refine (padd_calls q3 q7 n3 c3 n7 c7 u ms us HS.out.2.2.2.2.2.1 (by omega) (by omega) W (hT1.1.but hW).bs hS7).mono ?_
    rintro e w' ⟨v8, rfl, hO8, hb8⟩
    obtain ⟨q8, c8, rfl, S8, C8, O8⟩ := hO8.tell HS.out.2.2.2.2.2.1.byt l8
    exact ⟨q8, c8, rfl, (⟨S8, C8, fun g hg => O8 g (by have := hW.size; omega)⟩ : _ ∧ _), hb8⟩
  have hB1 : But (· = T) w1 w1 := But.refl _ _
  obtain ⟨y0, y1, y2, y3, -⟩ := HC.out w1 hB1
  have hB1d : But (· = T) w1 w1.drew := hB1.drew
  have hF1d := hF1.drew
  clear hO5 hO6 hb1 S5 C5 O5 S6 C6 O6 z u' hT1
  go_wp2
  go_region_held3 (fun w' => w'.cell? ⟨R, 2, none⟩ = some (.slice q3 n3 c3) ∧ w'.cell? ⟨R, 3, none⟩ = some (.slice q4 n4 c4))
    (first | (with_reducible exact ⟨(HC.out _ hB8).c2, (HC.out _ hB8).c3⟩) | (with_reducible exact ⟨(HC.out _ hB7).c2, (HC.out _ hB7).c3⟩) | (with_reducible exact ⟨(HC.out _ hB1d).c2, (HC.out _ hB1d).c3⟩) | (go_keep; done))
    (first
      | (go_at_call 21; with_reducible refine (KM.out _ hB1d hF1d).mono ?_; rintro e w7 ⟨q7, c7, rfl, hS7, hF7, hB7⟩)
      | (go_at_call 58; with_reducible refine (KA.out q7 c7 _ hB7 hS7).mono ?_; rintro e w8 ⟨q8, c8, rfl, H8, hb8⟩; have hB8 := hB7.trans (But.of_below hb8); have hF8 := hF7.below hb8))
  obtain ⟨x0, x1, x2, x3, -⟩ := HC.out _ hB8
  have hu := HU.out _ hB8
  have hbS := But.set4 w8 (R + 1) (.slice q2 n2 c2) (.slice q6 n6 c6) (.slice q4 n4 c4) (.slice q8 n8 c8)
  obtain ⟨m0, m1, m2, m3, f0, f1, f2, f3⟩ := id hu
  obtain ⟨p0, p1, p2, p3, -⟩ := hu.set (.slice q2 n2 c2) (.slice q6 n6 c6) (.slice q4 n4 c4) (.slice q8 n8 c8)
  have HZ : Hid ((Bs (set4 w8 (R + 1) (.slice q2 n2 c2) (.slice q6 n6 c6) (.slice q4 n4 c4) (.slice q8 n8 c8)) q6 n6 ts ∧ n6 ≤ c6 ∧ ∀ g, g < R → Off g n6 q6) ∧ (Bs (set4 w8 (R + 1) (.slice q2 n2 c2) (.slice q6 n6 c6) (.slice q4 n4 c4) (.slice q8 n8 c8)) q8 n8 us ∧ n8 ≤ c8 ∧ ∀ g, g < R → Off g n8 q8) ∧ Fd k B T (set4 w8 (R + 1) (.slice q2 n2 c2) (.slice q6 n6 c6) (.slice q4 n4 c4) (.slice q8 n8 c8)) ∧ But (· = T) w (set4 w8 (R + 1) (.slice q2 n2 c2) (.slice q6 n6 c6) (.slice q4 n4 c4) (.slice q8 n8 c8))) := by
    have e0 := hR
    have e1 := HS.out.2.1
    have e2 := HB1.out.1.size
    have e5 := hB8.size
    have e6 := HS.out.2.2.2.2.2.2.2.2
    have e3 := HB1.out.2.2.2
    have e4 := H8.out.2.2
    have hfd := hF8.blt
    have hbw : But (· = T) w w8 := (But.of_below (hR.symm ▸ HS.out.1)).trans (HB1.out.1.trans hB8)
    refine ⟨⟨((HB1.out.2.1.but hB8 (e3 T (by omega)))).butS hbS (fun h0 a e => e3 (R + 1) (by omega) h0 a e), HB1.out.2.2.1, fun g hg => e3 g (by omega)⟩, ⟨H8.out.1.butS hbS (fun h0 a e => e4 (R + 1) (by omega) h0 a e), H8.out.2.1, fun g hg => e4 g (by omega)⟩, hF8.but hbS HBR.out hTR', hbw.past hbS fun i hi => by have : i = R + 1 := hi; omega⟩
  clear y0 y1 y2 y3 hbS hu HS HB1 H8
  unfold set4 at p0 p1 p2 p3 HZ
  go_wp2
  exact bodyPost_ret (results_cell Tryz.results53 rfl (load4r p0 p1 p2 p3)) rfl ⟨_, _, _, _, rfl, HZ.out⟩
end Go.Proofs
