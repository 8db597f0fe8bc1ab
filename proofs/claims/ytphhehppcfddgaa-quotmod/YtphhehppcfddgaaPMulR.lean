/- What the rounds of poly.Mul add up, and the two calls of a round. Conditions: bytes; a field that Of has made. -/
import Derived.Test.YtphhehppcfddgaaPAdd
namespace Go.Proofs
open Go.RowKit Go.Shelf Go.ChangeShapes Go.WideShapes
attribute [local go_sem] Oper.semAt_some
open Pol (IsN Dg ofL Byt)

/-! What the rounds add up. -/
def mlF (us vs s : List Nat) {n : Nat} (pre : List (Tm n)) : List Nat := pre.foldl (fun s x => addL x.1 s (vs.map (Gf.mul (us.getD x.1 0)))) s
theorem mlF_snoc (us vs s : List Nat) {n : Nat} (pre : List (Tm n)) (x : Tm n) : mlF us vs s (pre ++ [x]) = addL x.1 (mlF us vs s pre) (vs.map (Gf.mul (us.getD x.1 0))) := by simp [mlF]
theorem mlF_length (us vs s : List Nat) {n : Nat} (pre : List (Tm n)) : (mlF us vs s pre).length = s.length := by
  suffices h : ∀ (pre : List (Tm n)) (s : List Nat), (pre.foldl (fun s x => addL x.1 s (vs.map (Gf.mul (us.getD x.1 0)))) s).length = s.length from h pre s
  intro pre
  induction pre with
  | nil => exact fun s => rfl
  | cons x l ih => intro s; rw [List.foldl_cons, ih, addL_length]
theorem mlF_byt {us vs s : List Nat} (hu : Byt us) (hs : Byt s) {n : Nat} (pre : List (Tm n)) : Byt (mlF us vs s pre) := by
  suffices h : ∀ (pre : List (Tm n)) (s : List Nat), Byt s → Byt (pre.foldl (fun s x => addL x.1 s (vs.map (Gf.mul (us.getD x.1 0)))) s) from h pre s hs
  intro pre
  induction pre with
  | nil => exact fun s h => h
  | cons x l ih =>
    intro s h
    rw [List.foldl_cons]
    exact ih _ (addL_byt _ h (map_byte _ vs (hu _)))
theorem mlF_ofL {us vs : List Nat} {n L : Nat} (hu : Byt us) (hv : Byt vs) (hn : us.length = n) (hL : n + vs.length ≤ L + 1) : ∀ t j, j + t = n → ofL (mlF us vs (List.replicate L 0) (tmD us n j)) = Pol.add (Pol.mul (ofL us) (ofL vs)) (Pol.mul (Pol.cut j (ofL us)) (ofL vs)) := by
  intro t
  induction t with
  | zero =>
    intro j e
    obtain rfl : j = n := by omega
    rw [tmD_top, Pol.cut_bd (hn ▸ Pol.ofL_bd us), Pol.add_self]
    exact Pol.ofL_rep L
  | succ t ih =>
    intro j e
    have h := ih (j + 1) (by omega)
    rw [Pol.mul_cut_succ] at h
    by_cases hj : us.getD j 0 = 0
    · have e0 : ofL us j = 0 := by unfold ofL; rw [hj]; rfl
      rw [tmD_none us n j (by omega) hj, h, e0, Pol.zero_smul]
      congr 1
      funext i
      show _ + (if j ≤ i then (0 : GF) else 0) = _
      split <;> exact GF.add_zero _
    · rw [tmD_some us n j (by omega) hj, mlF_snoc]
      rw [addL_ofL j (mlF_byt hu (Pol.byt_rep L) _) (map_byte _ vs (hu _)) (by rw [mlF_length, List.length_replicate, List.length_map]; omega), h, Pol.ofL_map _ (hu _) hv]
      have e1 : GF.of (us.getD j 0) = ofL us j := rfl
      rw [e1, Pol.add_assoc, Pol.add_assoc, Pol.add_self, Pol.add_zero]
theorem mlF_all {us vs : List Nat} {n L : Nat} (hu : Byt us) (hv : Byt vs) (hn : us.length = n) (hL : n + vs.length ≤ L + 1) : ofL (mlF us vs (List.replicate L 0) (tmD us n 0)) = Pol.mul (ofL us) (ofL vs) := by
  rw [mlF_ofL hu hv hn hL n 0 (by omega), Pol.cut_zero, Pol.zero_mul, Pol.add_zero]
theorem mlF_nrm {us vs : List Nat} {n L : Nat} (hu : Byt us) (hv : Byt vs) (hn : us.length = n) (hL : n + vs.length = L + 1) (h1 : Pol.Nrm us) (h2 : Pol.Nrm vs) (hn0 : n ≠ 0) (hv0 : vs.length ≠ 0) : IsN (mlF us vs (List.replicate L 0) (tmD us n 0)) (Pol.mul (ofL us) (ofL vs)) := by
  refine ⟨fun _ e => ?_, mlF_byt hu (Pol.byt_rep L) _, mlF_all hu hv hn (by omega)⟩
  rw [mlF_length, List.length_replicate] at e
  have h3 := congrFun (mlF_all hu hv hn (show n + vs.length ≤ L + 1 by omega)) (L - 1)
  have h4 : ofL (mlF us vs (List.replicate L 0) (tmD us n 0)) (L - 1) = 0 := by unfold ofL; rw [e]; rfl
  have d1 := h1.dg hu
  have d2 := h2.dg hv
  obtain ⟨a, ha⟩ : ∃ a, us.length = a + 1 := ⟨us.length - 1, by omega⟩
  obtain ⟨b, hb⟩ : ∃ b, vs.length = b + 1 := ⟨vs.length - 1, by omega⟩
  rw [ha] at d1
  rw [hb] at d2
  have d3 := (d1.mul d2).top (by omega)
  rw [show a + b + 1 - 1 = L - 1 by omega, ← h3] at d3
  exact d3 h4

theorem keepsFrom_but {S : Nat → Prop} {B : Nat} {W W' : World} (h : But S W W') (hS : ∀ k, S k → k < B) : KeepsFrom B W W' :=
  ⟨h.size, fun k o hk h0 _ => (h.block k (Array.getElem?_eq_some_iff.1 h0).1 (fun s => by have := hS k s; omega)).trans h0⟩
theorem keepsP_but {S : Nat → Prop} {B n : Nat} {q : Option Addr} {W W' : World} (h : But S W W') (hB : ¬ S B) (hq : 0 < n → ∀ a, q = some a → ¬ S a.block) : KeepsP B q n W W' :=
  ⟨fun v e => (h.cell (p := ⟨B, 0, none⟩) (World.block_lt_of_cell? _ _ e) hB).trans e, fun a e i hi v hv => (h.cell (World.block_lt_of_cell? _ _ hv) (by rw [block_add]; exact hq (by omega) a e)).trans hv⟩
theorem ownFrom_fd {β : Type} {k B T C : Nat} (hB : B < C) (hT : T < C) : OwnFrom C (fun (_ : β) W => Fd k B T W) := fun _ X Y row hs hg hr =>
  Fd.but hs (S := fun i => some i = row) ⟨hg.os, hg.tape, hg.output, hg.size, fun i hi hn => hg.block i hi hn⟩ (fun e => by have := (hr B e.symm).1; omega) (fun e => by have := (hr T e.symm).1; omega)
theorem boxed_but {S : Nat → Prop} {W W' : World} {B : Nat} {t : TypeId} {v : Value} (h : Boxed W B t v) (hb : But S W W') (hs : ¬ S B) : Boxed W' B t v := (hb.block B h.lt hs).trans h

/-- What Mul's boxes hold between two rounds. -/
structure MI (R M k B T L : Nat) (w : World) (many : Value) (s : List Nat) (W : World) : Prop where
  bf : Boxed W R 24 (.pointer (some ⟨B, 0, none⟩))
  bm : Boxed W M 22 many
  bp : Boxed W (M + 1 + 1) 22 (.slice (some ⟨M + 1, 0, none⟩) L L)
  ow : Ow W R (.slice (some ⟨M + 1, 0, none⟩) L L) s
  fd : Fd k B T W
  but : But (· = T) w W
theorem mi_own {β : Type} {R M k B T L C : Nat} {w : World} {many : Value} (f : β → List Nat) (hw : w.heap.size ≤ C) (hB : B < C) (hT : T < C) : OwnFrom C (fun (x : β) W => MI R M k B T L w many (f x) W) := fun x X Y row hs hg hr =>
  have hr' : ∀ r, row = some r → ∃ o : Obj, X.heap[r]? = some o ∧ o.isCells = false := fun r e => (hr r e).2
  ⟨boxed_own (β := Unit) R _ (fun _ => _) () X Y row hs.bf hg hr', boxed_own (β := Unit) M _ (fun _ => _) () X Y row hs.bm hg hr', boxed_own (β := Unit) (M + 1 + 1) _ (fun _ => _) () X Y row hs.bp hg hr', ow_own (β := Unit) R _ (fun _ => f x) () X Y row hs.ow hg hr', ownFrom_fd (β := Unit) hB hT () X Y row hs.fd hg hr, ownFrom_but (β := Unit) hw () X Y row hs.but hg hr⟩
theorem mul_round (R M k B T L : Nat) (w : World) (qm : Option Addr) (nm cm : Nat) (s vs : List Nat) (W : World) (b i : Nat) (hR : w.heap.size = R) (hM : R < M) (hT : T < R) (hB : B < R) (h : MI R M k B T L w (.slice qm nm cm) s W) (hv : Bs w qm nm vs) (hq : Off T nm qm) (hb : b < 256) (hi : i + nm ≤ L) (hs : Byt s) (hl : s.length = L) (hn : nm ≤ 1000000000) (hc : nm ≤ cm) :
    Calls Try.prog 30 #[.pointer (some ⟨B, 0, none⟩), .int .u8 b, .slice qm nm cm] W.drew fun e w1 => ∃ qe ce, e = .returned (.slice qe nm ce) ∧ (w1.cell? ⟨R, 0, none⟩ = some (.pointer (some ⟨B, 0, none⟩)) ∧ w1.cell? ⟨M, 0, none⟩ = some (.slice qm nm cm) ∧ w1.cell? ⟨M + 1 + 1, 0, none⟩ = some (.slice (some ⟨M + 1, 0, none⟩) L L)) ∧
      Hid (Calls Try.prog 29 #[.slice (some ⟨M + 1, i, none⟩) (L - i) (L - i), .slice (some ⟨w1.heap.size, 0, none⟩) 1 1] (w1.alloc (.cells #[.slice qe nm ce] 22)) fun e w3 => (∃ v, e = .returned v) ∧ Hid (MI R M k B T L w (.slice qm nm cm) (addL i s (vs.map (Gf.mul b))) w3 ∧ But (fun k => k = T ∨ k = M + 1) W w3)) := by
  have hby := map_byte b vs hb
  have hlm : (vs.map (Gf.mul b)).length = nm := by rw [List.length_map]; exact hv.len
  have hsz := h.bp.lt
  refine (feach_calls k B T b nm cm qm vs hb hn hc W.drew h.fd.drew ((hv.but h.but hq).drew) hq).mono ?_
  rintro e w1 ⟨v, rfl, hO, hF, hB1⟩
  obtain ⟨qe, ce, rfl, hS, hC, hQ⟩ := hO.tell hby hlm
  have hB2 : But (· = T) W w1 := (But.refl _ W).drew.trans hB1
  have hbp : Boxed w1 (M + 1 + 1) 22 (.slice (some ⟨M + 1, 0, none⟩) L L) := boxed_but h.bp hB2 (by omega)
  refine ⟨qe, ce, rfl, ⟨(boxed_but h.bf hB2 (by omega)).cell, (boxed_but h.bm hB2 (by omega)).cell, hbp.cell⟩, ?_⟩
  have hw1 : W.heap.size ≤ w1.heap.size := hB2.size
  have hOw : Ow w1 R (.slice (some ⟨M + 1, 0, none⟩) L L) s := h.ow.block (fun k hk => by cases hk; exact hB2.block (M + 1) (by omega) (by omega))
  have K := paddTo_calls R (M + 1) i (L - i) (L - i) L L w1.heap.size 1 s [⟨qe, nm, ce, vs.map (Gf.mul b)⟩] [vs.map (Gf.mul b)] rfl 1 rfl hl.symm (by omega) hs (by omega) (by omega) (w1.alloc (.cells #[.slice qe nm ce] 22)) (by simp) (hOw.alloc _) (by
    intro j hj
    match j, hj with
    | 0, _ => exact ⟨(Boxed.new w1 _ _).cell, hS.alloc _, by show nm ≤ L - i; omega, hQ (M + 1) (by show M + 1 < W.heap.size; omega)⟩)
  refine K.mono ?_
  rintro e w3 ⟨hv3, hO3, hB3⟩
  have hB4 : But (· = M + 1) w1 w3 := ((But.refl _ w1).alloc _).trans hB3
  refine ⟨hv3, ⟨boxed_but (boxed_but h.bf hB2 (by omega)) hB4 (by omega), boxed_but (boxed_but h.bm hB2 (by omega)) hB4 (by omega), boxed_but hbp hB4 (by omega), hO3, hF.but hB4 (by omega) (by omega), (h.but.trans hB2).past hB4 (fun k hk => by omega)⟩, (hB2.mono (fun k hk => .inl hk)).trans (hB4.mono (fun k hk => .inr hk))⟩
end Go.Proofs
