/- Texts laid together: PMulR, RoundH, PMul. Each says its own conditions. -/
import Derived.RangeFuncCalls
import Derived.OrdersIn
import Derived.Deep.RegionHeld3
import Derived.TacticsInMore
import Derived.Test.YtddhefhabhgdfaaGreatMI
/- What the rounds of poly.Mul add up, and the two calls of a round. Conditions: bytes; a field that Of has made. -/
namespace Go.Proofs
open Go.RowKit Go.Shelf Go.ChangeShapes Go.WideShapes
attribute [local go_sem] Oper.semAt_some
open Pol (IsN Dg ofL Byt)

/-! What the rounds add up. -/
def mlF (us vs s : List Nat) {n : Nat} (pre : List (Tm n)) : List Nat := pre.foldl (fun s x => addL x.1 s (vs.map (Gf.mul (us.getD x.1 0)))) s
theorem mlF_snoc (us vs s : List Nat) {n : Nat} (pre : List (Tm n)) (x : Tm n) : mlF us vs s (pre ++ [x]) = addL x.1 (mlF us vs s pre) (vs.map (Gf.mul (us.getD x.1 0))) := by simp [mlF]
theorem mlF_length (us vs s : List Nat) {n : Nat} (pre : List (Tm n)) : (mlF us vs s pre).length = s.length := by
  suffices h : ∀ (pre : List (Tm n)) (s : List Nat), (pre.foldl (fun s x => addL x.1 s (vs.map (Gf.mul (us.getD x.1 0)))) s).length = s.length from h pre s
  intro pre
  induction pre with
  | nil => exact fun s => rfl
  | cons x l ih => intro s; rw [List.foldl_cons, ih, addL_length]
theorem mlF_byt {us vs s : List Nat} (hu : Byt us) (hs : Byt s) {n : Nat} (pre : List (Tm n)) : Byt (mlF us vs s pre) := by
  suffices h : ∀ (pre : List (Tm n)) (s : List Nat), Byt s → Byt (pre.foldl (fun s x => addL x.1 s (vs.map (Gf.mul (us.getD x.1 0)))) s) from h pre s hs
  intro pre
  induction pre with
  | nil => exact fun s h => h
  | cons x l ih =>
    intro s h
    rw [List.foldl_cons]
    exact ih _ (addL_byt _ h (map_byte _ vs (hu _)))
theorem mlF_ofL {us vs : List Nat} {n L : Nat} (hu : Byt us) (hv : Byt vs) (hn : us.length = n) (hL : n + vs.length ≤ L + 1) : ∀ t j, j + t = n → ofL (mlF us vs (List.replicate L 0) (tmD us n j)) = Pol.add (Pol.mul (ofL us) (ofL vs)) (Pol.mul (Pol.cut j (ofL us)) (ofL vs)) := by
  intro t
  induction t with
  | zero =>
    intro j e
    obtain rfl : j = n := by omega
    rw [tmD_top, Pol.cut_bd (hn ▸ Pol.ofL_bd us), Pol.add_self]
    exact Pol.ofL_rep L
  | succ t ih =>
    intro j e
    have h := ih (j + 1) (by omega)
    rw [Pol.mul_cut_succ] at h
    by_cases hj : us.getD j 0 = 0
    · have e0 : ofL us j = 0 := by unfold ofL; rw [hj]; rfl
      rw [tmD_none us n j (by omega) hj, h, e0, Pol.zero_smul]
      congr 1
      funext i
      show _ + (if j ≤ i then (0 : GF) else 0) = _
      split <;> exact GF.add_zero _
    · rw [tmD_some us n j (by omega) hj, mlF_snoc]
      rw [addL_ofL j (mlF_byt hu (Pol.byt_rep L) _) (map_byte _ vs (hu _)) (by rw [mlF_length, List.length_replicate, List.length_map]; omega), h, Pol.ofL_map _ (hu _) hv]
      have e1 : GF.of (us.getD j 0) = ofL us j := rfl
      rw [e1, Pol.add_assoc, Pol.add_assoc, Pol.add_self, Pol.add_zero]
theorem mlF_all {us vs : List Nat} {n L : Nat} (hu : Byt us) (hv : Byt vs) (hn : us.length = n) (hL : n + vs.length ≤ L + 1) : ofL (mlF us vs (List.replicate L 0) (tmD us n 0)) = Pol.mul (ofL us) (ofL vs) := by
  rw [mlF_ofL hu hv hn hL n 0 (by omega), Pol.cut_zero, Pol.zero_mul, Pol.add_zero]
theorem mlF_nrm {us vs : List Nat} {n L : Nat} (hu : Byt us) (hv : Byt vs) (hn : us.length = n) (hL : n + vs.length = L + 1) (h1 : Pol.Nrm us) (h2 : Pol.Nrm vs) (hn0 : n ≠ 0) (hv0 : vs.length ≠ 0) : IsN (mlF us vs (List.replicate L 0) (tmD us n 0)) (Pol.mul (ofL us) (ofL vs)) := by
  refine ⟨fun _ e => ?_, mlF_byt hu (Pol.byt_rep L) _, mlF_all hu hv hn (by omega)⟩
  rw [mlF_length, List.length_replicate] at e
  have h3 := congrFun (mlF_all hu hv hn (show n + vs.length ≤ L + 1 by omega)) (L - 1)
  have h4 : ofL (mlF us vs (List.replicate L 0) (tmD us n 0)) (L - 1) = 0 := by unfold ofL; rw [e]; rfl
  have d1 := h1.dg hu
  have d2 := h2.dg hv
  obtain ⟨a, ha⟩ : ∃ a, us.length = a + 1 := ⟨us.length - 1, by omega⟩
  obtain ⟨b, hb⟩ : ∃ b, vs.length = b + 1 := ⟨vs.length - 1, by omega⟩
  rw [ha] at d1
  rw [hb] at d2
  have d3 := (d1.mul d2).top (by omega)
  rw [show a + b + 1 - 1 = L - 1 by omega, ← h3] at d3
  exact d3 h4

theorem keepsP_but {S : Nat → Prop} {B n : Nat} {q : Option Addr} {W W' : World} (h : But S W W') (hB : ¬ S B) (hq : 0 < n → ∀ a, q = some a → ¬ S a.block) : KeepsP B q n W W' :=
  ⟨fun v e => (h.cell (p := ⟨B, 0, none⟩) (World.block_lt_of_cell? _ _ e) hB).trans e, fun a e i hi v hv => (h.cell (World.block_lt_of_cell? _ _ hv) (by rw [block_add]; exact hq (by omega) a e)).trans hv⟩

/-- What Mul's boxes hold between two rounds. -/
structure MI (R M k B T L : Nat) (w : World) (many : Value) (s : List Nat) (W : World) : Prop where
  bf : Boxed W R 32 (.pointer (some ⟨B, 0, none⟩))
  bm : Boxed W M 24 many
  bp : Boxed W (M + 1 + 1) 24 (.slice (some ⟨M + 1, 0, none⟩) L L)
  ow : Ow W R (.slice (some ⟨M + 1, 0, none⟩) L L) s
  fd : Fd k B T W
  but : But (· = T) w W
theorem mi_own {β : Type} {R M k B T L C : Nat} {w : World} {many : Value} (f : β → List Nat) (hw : w.heap.size ≤ C) (hB : B < C) (hT : T < C) : OwnFrom C (fun (x : β) W => MI R M k B T L w many (f x) W) := fun x X Y row hs hg hr =>
  have hr' : ∀ r, row = some r → ∃ o : Obj, X.heap[r]? = some o ∧ o.isCells = false := fun r e => (hr r e).2
  ⟨boxed_own (β := Unit) R _ (fun _ => _) () X Y row hs.bf hg hr', boxed_own (β := Unit) M _ (fun _ => _) () X Y row hs.bm hg hr', boxed_own (β := Unit) (M + 1 + 1) _ (fun _ => _) () X Y row hs.bp hg hr', ow_own (β := Unit) R _ (fun _ => f x) () X Y row hs.ow hg hr', ownFrom_fd (β := Unit) hB hT () X Y row hs.fd hg hr, ownFrom_but (β := Unit) hw () X Y row hs.but hg hr⟩
theorem mul_round (R M k B T L : Nat) (w : World) (qm : Option Addr) (nm cm : Nat) (s vs : List Nat) (W : World) (b i : Nat) (hR : w.heap.size = R) (hM : R < M) (hT : T < R) (hB : B < R) (h : MI R M k B T L w (.slice qm nm cm) s W) (hv : Bs w qm nm vs) (hq : Off T nm qm) (hb : b < 256) (hi : i + nm ≤ L) (hs : Byt s) (hl : s.length = L) (hn : nm ≤ 1000000000) (hc : nm ≤ cm) :
    Calls Tryz.prog 68 #[.pointer (some ⟨B, 0, none⟩), .int .u8 b, .slice qm nm cm] W.drew fun e w1 => ∃ qe ce, e = .returned (.slice qe nm ce) ∧ (w1.cell? ⟨R, 0, none⟩ = some (.pointer (some ⟨B, 0, none⟩)) ∧ w1.cell? ⟨M, 0, none⟩ = some (.slice qm nm cm) ∧ w1.cell? ⟨M + 1 + 1, 0, none⟩ = some (.slice (some ⟨M + 1, 0, none⟩) L L)) ∧
      Hid (Calls Tryz.prog 45 #[.slice (some ⟨M + 1, i, none⟩) (L - i) (L - i), .slice (some ⟨w1.heap.size, 0, none⟩) 1 1] (w1.alloc (.cells #[.slice qe nm ce] 24)) fun e w3 => (∃ v, e = .returned v) ∧ Hid (MI R M k B T L w (.slice qm nm cm) (addL i s (vs.map (Gf.mul b))) w3 ∧ But (fun k => k = T ∨ k = M + 1) W w3)) := by
  have hby := map_byte b vs hb
  have hlm : (vs.map (Gf.mul b)).length = nm := by rw [List.length_map]; exact hv.len
  have hsz := h.bp.lt
  refine (feach_calls k B T b nm cm qm vs hb hn hc W.drew h.fd.drew ((hv.but h.but hq).drew) hq).mono ?_
  rintro e w1 ⟨v, rfl, hO, hF, hB1⟩
  obtain ⟨qe, ce, rfl, hS, hC, hQ⟩ := hO.tell hby hlm
  have hB2 : But (· = T) W w1 := (But.refl _ W).drew.trans hB1
  have hbp : Boxed w1 (M + 1 + 1) 24 (.slice (some ⟨M + 1, 0, none⟩) L L) := boxed_but h.bp hB2 (by omega)
  refine ⟨qe, ce, rfl, ⟨(boxed_but h.bf hB2 (by omega)).cell, (boxed_but h.bm hB2 (by omega)).cell, hbp.cell⟩, ?_⟩
  have hw1 : W.heap.size ≤ w1.heap.size := hB2.size
  have hOw : Ow w1 R (.slice (some ⟨M + 1, 0, none⟩) L L) s := h.ow.block (fun k hk => by cases hk; exact hB2.block (M + 1) (by omega) (by omega))
  have K := paddTo_calls R (M + 1) i (L - i) (L - i) L L w1.heap.size 1 s [⟨qe, nm, ce, vs.map (Gf.mul b)⟩] [vs.map (Gf.mul b)] rfl 1 rfl hl.symm (by omega) hs (by omega) (by omega) (w1.alloc (.cells #[.slice qe nm ce] 24)) (by simp) (hOw.alloc _) (by
    intro j hj
    match j, hj with
    | 0, _ => exact ⟨(Boxed.new w1 _ _).cell, hS.alloc _, by show nm ≤ L - i; omega, hQ (M + 1) (by show M + 1 < W.heap.size; omega)⟩)
  refine K.mono ?_
  rintro e w3 ⟨hv3, hO3, hB3⟩
  have hB4 : But (· = M + 1) w1 w3 := ((But.refl _ w1).alloc _).trans hB3
  refine ⟨hv3, ⟨boxed_but (boxed_but h.bf hB2 (by omega)) hB4 (by omega), boxed_but (boxed_but h.bm hB2 (by omega)) hB4 (by omega), boxed_but hbp hB4 (by omega), hO3, hF.but hB4 (by omega) (by omega), (h.but.trans hB2).past hB4 (fun k hk => by omega)⟩, (hB2.mono (fun k hk => .inl hk)).trans (hB4.mono (fun k hk => .inr hk))⟩
end Go.Proofs
/- A region that draws its order, in a round of a range over a function: it may be walked as anywhere else. Nothing of the program. -/
namespace Go.Proofs
open Go.RowKit

/-- No operation is a defer statement. -/
def noDefer (ops : Array Oper) : Bool := ops.all fun o => match o.op with | .defer _ => false | _ => true
theorem noDefer_at {ops : Array Oper} (h : noDefer ops = true) {i : Nat} {o : Oper} (ho : ops[i]? = some o) : ∀ c, o.op ≠ .defer c := by
  intro c e
  obtain ⟨hi, rfl⟩ := Array.getElem?_eq_some_iff.1 ho
  have := Array.all_eq_true.1 h i hi
  simp only [e] at this
  cases this
theorem semAt_plain {o : Oper} (h : ∀ c, o.op ≠ .defer c) (l : Nat) (ρ : Operand → Value) : o.semAt (some l) ρ = execOp ρ o := by
  unfold Oper.semAt
  split
  · rename_i c _ e; exact absurd e (h c)
  · rfl
section
variable {P : Program} {ops : Array Oper} {Q : Exit → Act → World → Prop} {md : Region.Mode} {S : World → Prop} {l n : Nat}
theorem wpOp_round (hL : ¬ LetsOut Q) (hnd : noDefer ops = true) {i : Nat} {K K' : Act → World → Prop} (hK : ∀ a w, K a w → K' a w) {a : Act} {w : World} (h : wpOp P ops Q i K a w) : wpOpIn (Fence.wide.inRound l) n P ops Q i K' a w := by
  unfold wpOp at h
  unfold wpOpIn
  cases ho : ops[i]? with
  | none => rw [ho] at h; exact hK _ _ h
  | some o =>
    rw [ho] at h
    simp only at h ⊢
    by_cases hw : Region.wanted o (yielded ops a.tmps) = true
    · rw [if_pos hw] at h ⊢
      rcases h with h | h
      · refine ⟨fun _ _ => trivial, ?_⟩
        have e : o.semAt (Fence.wide.inRound l).round a.eval = execOp a.eval o := semAt_plain (noDefer_at hnd ho) l a.eval
        rw [e]
        unfold Oper.wp at h
        generalize (execOp a.eval o).run P w = r at h ⊢
        cases r with
        | ok x w' =>
          cases x with
          | value u => exact hK _ _ h
          | skip => exact hK _ _ h
          | defer d => exact hK _ _ h
          | enter f args =>
            refine ⟨(fun e => absurd (show false = true from e) Bool.false_ne_true), CallsIn.inRound l (callsIn_wide.2 (Calls.mono h ?_))⟩
            intro e w'' he
            cases e with
            | returned v => exact hK _ _ he
            | panicked c => exact he
            | outgrown => exact he
          | row row args => exact ⟨(fun e => absurd (show false = true from e) Bool.false_ne_true), fun c cs _ => let ⟨v, w', r, s⟩ := h c cs; ⟨v, w', hK _ _ r, stepsIn_wide.2 s⟩⟩
          | _ => exact h.elim
        | halt x w' =>
          cases x with
          | panic v => exact h
          | _ => exact h.elim
      · exact absurd h.2 hL
    · rw [if_neg hw] at h ⊢
      exact ⟨fun _ _ => trivial, hK _ _ h⟩
theorem wpAny_round (hL : ¬ LetsOut Q) (hnd : noDefer ops = true) : ∀ (fuel : Nat) (listed : Array Bool) (a : Act) (w : World), wpAny P md ops Q fuel listed a w → wpAnyIn (Fence.wide.inRound l) n P md ops Q fuel listed a w
  | 0, _, _, _, h => h
  | fuel + 1, _, _, _, h => ⟨h.1, fun i hi => wpOp_round hL hnd (fun a w k => wpAny_round hL hnd fuel _ a w k) (h.2 i hi)⟩
theorem region_held_round {id : Nat} {a : Act} {w : World} (hm : P.follows .mixedOrders = true) (hL : ¬ LetsOut Q) (hnd : noDefer ops = true) (hS : S w.drew)
    (h : S w.drew → wpAnyH P .any ops Q S ops.size (Array.replicate ops.size false) a w.drew) : (Code.region id ops true).wpIn (Fence.wide.inRound l) n P Q a w :=
  wpIn_region_any hm (wpAny_round hL hnd _ _ _ _ (wpAny_of_held _ _ _ _ (h hS)))
end
end Go.Proofs
/- The walk of poly.Mul. Conditions: lists of at most a hundred million bytes, no longer than their capacities; a field that Of has made, and lists that do not lie in its table. -/
namespace Go.Proofs
open Go.RowKit Go.Shelf Go.ChangeShapes Go.WideShapes
attribute [local go_sem] Oper.semAt_some
open Pol (IsN Dg ofL Byt)

set_option maxRecDepth 100000 in
set_option maxHeartbeats 4000000 in
theorem pmul_in (D : Nat) (hD : 3 ≤ D) (k B T n c m d : Nat) (q p : Option Addr) (xs ys zs : List Nat) (hz : IsN zs (Pol.mul (ofL xs) (ofL ys))) (hn : n ≤ 100000000) (hm : m ≤ 100000000) (hnc : n ≤ c) (hmd : m ≤ d) (w : World) (h : Fd k B T w) (hx : Bs w q n xs) (hy : Bs w p m ys) (hq : Off T n q) (hp : Off T m p) :
    CallsIn Fence.wide D Tryz.prog 51 #[.pointer (some ⟨B, 0, none⟩), .slice q n c, .slice p m d] w fun e w' => ∃ v, e = .returned v ∧ Ow w' w.heap.size v zs ∧ Fd k B T w' ∧ But (· = T) w w' := by
  obtain ⟨i, hi, hg⟩ := Pol.dg_list xs
  obtain ⟨j, hj, hk⟩ := Pol.dg_list ys
  rw [hx.len] at hi
  rw [hy.len] at hj
  have HN : Hid (IsN (xs.take i) (ofL xs) ∧ IsN (ys.take j) (ofL ys) ∧ (xs.take i).length = i ∧ (ys.take j).length = j) := ⟨Pol.isN_take hx.byt hg, Pol.isN_take hy.byt hk, by rw [List.length_take, hx.len]; omega, by rw [List.length_take, hy.len]; omega⟩
  have HZ : Hid (IsN zs (Pol.mul (ofL xs) (ofL ys))) := hz
  have K1 : Hid (∀ W, Below w.heap.size w W → Calls Tryz.prog 46 #[.slice q n c] W fun e w' => e = .returned (.slice q i c) ∧ Below W.heap.size W w') := fun W hW => pnormal_calls q n c xs i hg hnc W (hx.below hW)
  have K2 : Hid (∀ W, Below w.heap.size w W → Calls Tryz.prog 46 #[.slice p m d] W fun e w' => e = .returned (.slice p j d) ∧ Below W.heap.size W w') := fun W hW => pnormal_calls p m d ys j hk hmd W (hy.below hW)
  have HS : Hid (Bs w q i (xs.take i) ∧ Bs w p j (ys.take j) ∧ Off T i q ∧ Off T j p ∧ Fd k B T w) := ⟨bs_take hx i hi, bs_take hy j hj, hq.le hi, hp.le hj, h⟩
  obtain ⟨us, hus⟩ : ∃ us, xs.take i = us := ⟨_, rfl⟩
  obtain ⟨vs, hvs⟩ : ∃ vs, ys.take j = vs := ⟨_, rfl⟩
  rw [hus] at HN HS
  rw [hvs] at HN HS
  clear hz hg hk hx hy hq hp h hus hvs
  refine callsIn_of_wp_marks Tryz.func51 rfl trivial ?_ rfl
  simp only [Tryz.ntmps51, List.size_toArray, List.length_cons, List.length_nil, Nat.reduceAdd, Nat.reduceSub, Array.replicate_succ, Array.replicate_zero, List.push_toArray, List.append_toArray, List.nil_append, List.cons_append]
  have hfn : ∀ f, Fence.wide.fn f := fun _ => trivial
  have hD1 : 1 ≤ D := by omega
  obtain ⟨R, hR⟩ : ∃ R, w.heap.size = R := ⟨_, rfl⟩
  have hB0 : Below R w (w.alloc (.cells #[.pointer (some ⟨B, 0, none⟩)] 32)) := hR ▸ (Below.refl _ w).alloc (Nat.le_refl _) _
  have hs0 : (w.alloc (.cells #[.pointer (some ⟨B, 0, none⟩)] 32)).heap.size = R + 1 := by rw [← hR]; simp
  have hbx : Boxed (w.alloc (.cells #[.pointer (some ⟨B, 0, none⟩)] 32)) R 32 (.pointer (some ⟨B, 0, none⟩)) := hR ▸ Boxed.new w _ _
  have K3 : Hid (Calls Tryz.prog 46 #[.slice q n c] (w.alloc (.cells #[.pointer (some ⟨B, 0, none⟩)] 32)) fun e w' => e = .returned (.slice q i c) ∧ Hid (Below R w w' ∧ Boxed w' R 32 (.pointer (some ⟨B, 0, none⟩)))) := by
    refine (K1.out _ (hR.symm ▸ hB0)).mono ?_
    rintro e w1 ⟨rfl, hb⟩
    exact ⟨rfl, hB0.trans (hb.mono (by omega)), boxed_below hbx hb⟩
  have K4 : Hid (∀ W, Hid (Below R w W ∧ Boxed W R 32 (.pointer (some ⟨B, 0, none⟩))) → Calls Tryz.prog 46 #[.slice p m d] W fun e w' => e = .returned (.slice p j d) ∧ Hid (Below R w w' ∧ Boxed w' R 32 (.pointer (some ⟨B, 0, none⟩))) ∧ w'.cell? ⟨R, 0, none⟩ = some (.pointer (some ⟨B, 0, none⟩)) ∧ R < w'.heap.size) := fun W hW => by
    refine (K2.out _ (hR.symm ▸ hW.out.1)).mono ?_
    rintro e w1 ⟨rfl, hb⟩
    have hb3 := boxed_below hW.out.2 hb
    exact ⟨rfl, ⟨hW.out.1.trans (hb.mono (by have := hW.out.2.lt; omega)), hb3⟩, hb3.cell, hb3.lt⟩
  clear hB0 hs0 hbx K1 K2
  by_cases h0 : i = 0 ∨ j = 0
  · have e0 : zs = [] := by
      have hz0 := HZ.out
      rcases h0 with h | h
      · rw [(HN.out.1.nil_iff).1 (HN.out.2.2.1.trans h), Pol.zero_mul] at hz0
        exact Pol.isN_zero hz0
      · rw [(HN.out.2.1.nil_iff).1 (HN.out.2.2.2.trans h), Pol.mul_zero] at hz0
        exact Pol.isN_zero hz0
    subst e0
    have HX : Hid (∀ W, Hid (Below R w W ∧ Boxed W R 32 (.pointer (some ⟨B, 0, none⟩))) → ∀ o, Ow (W.alloc o) w.heap.size (.slice none 0 0) [] ∧ Fd k B T (W.alloc o) ∧ But (· = T) w (W.alloc o)) := fun W hW o =>
      ⟨ow_nil _ _, (HS.out.2.2.2.2.below (hR.symm ▸ hW.out.1)).alloc o, (But.of_below (hR.symm ▸ hW.out.1)).alloc o⟩
    rcases Nat.lt_or_ge j i with hij | hij
    · obtain rfl : j = 0 := by omega
      have hij' : (0 : Int) < (i : Int) := by omega
      gi_wp2_with (first
        | (gi_at_call 46; with_reducible refine (callsIn_wide.2 K3.out).mono ?_; rintro e w1 ⟨rfl, H1⟩; clear K3)
        | (gi_at_call 46; refine (callsIn_wide.2 (K4.out w1 H1)).mono ?_; rintro e w2 ⟨rfl, H2, cR, hRw⟩; clear K4))
      refine ⟨_, results_tmp rfl _ _ _, .slice none 0 0, rfl, HX.out w2 H2 _⟩
    · obtain rfl : i = 0 := by omega
      have hij' : ¬ (j : Int) < 0 := by omega
      gi_wp2_with (first
        | (gi_at_call 46; with_reducible refine (callsIn_wide.2 K3.out).mono ?_; rintro e w1 ⟨rfl, H1⟩; clear K3)
        | (gi_at_call 46; refine (callsIn_wide.2 (K4.out w1 H1)).mono ?_; rintro e w2 ⟨rfl, H2, cR, hRw⟩; clear K4))
      all_goals
        refine ⟨_, results_tmp rfl _ _ _, .slice none 0 0, rfl, HX.out w2 H2 _⟩
  · rcases Nat.lt_or_ge j i with hij | hij
    · have hij' : (j : Int) < (i : Int) := by omega
      obtain ⟨L, hL⟩ : ∃ L : Nat, i + j = L + 1 := ⟨i + j - 1, by omega⟩
      have hL1 : (j : Int) + (i : Int) - 1 = (L : Int) := by omega
      have hf0 : ((j : Int) == 0) = false := by simp; omega
      have hmk := make_bytes L (by omega)
      have HE : Hid (mlF vs us (List.replicate L 0) (tmD vs j 0) = zs) := by
        have e1 : Pol.mul (ofL vs) (ofL us) = Pol.mul (ofL xs) (ofL ys) := (HN.out.2.1.eq ▸ HN.out.1.eq ▸ Pol.mul_comm (ofL vs) (ofL us))
        have e2 := mlF_nrm (us := vs) (vs := us) (n := j) (L := L) HN.out.2.1.byt HN.out.1.byt (by have := HN.out.2.2; omega) (by have := HN.out.2.2; omega) HN.out.2.1.nrm HN.out.1.nrm (by omega) (by have := HN.out.2.2; omega)
        exact (e1 ▸ e2).unique HZ.out
      gi_wp2_with (first
        | (gi_at_call 46; with_reducible refine (callsIn_wide.2 K3.out).mono ?_; rintro e w1 ⟨rfl, H1⟩; clear K3)
        | (gi_at_call 46; refine (callsIn_wide.2 (K4.out w1 H1)).mono ?_; rintro e w2 ⟨rfl, H2, cR, hRw⟩; clear K4)
        | (gi_at_call 53; refine (terms_calls (D - 1) p j d _).mono ?_; rintro e w' ⟨rfl, rfl⟩))
      obtain ⟨M, hM⟩ : ∃ M, w2.heap.size = M := ⟨_, rfl⟩
      obtain ⟨W0, hW0⟩ : ∃ W0, ((((w2.alloc (.cells #[.slice q i c] 24)).alloc (.cells (madeCells #[.int .u8 0] L) 5)).alloc (.cells #[.slice (some ⟨M + 1, 0, none⟩) L L] 24)).alloc (.cells #[.slice p j d] 24)) = W0 := ⟨_, rfl⟩
      have hs0 : W0.heap.size = M + 1 + 1 + 1 + 1 := by rw [← hW0, ← hM]; simp
      have hb0 : Below w2.heap.size w2 W0 := by
        rw [← hW0]; exact ((((Below.refl _ w2).alloc (Nat.le_refl _) _).alloc (by simp) _).alloc (by simp; omega) _).alloc (by simp; omega) _
      have hFd := HS.out.2.2.2.2
      have hT : T < R := hR ▸ hFd.lt
      have hB : B < R := hR ▸ hFd.blt
      have i0 : MI R M k B T L w (.slice q i c) (List.replicate L 0) W0 := by
        refine ⟨boxed_below H2.out.2 hb0, ?_, ?_, ?_, (hFd.below (hR.symm ▸ H2.out.1)).below hb0, (But.of_below (hR.symm ▸ H2.out.1)).trans (But.of_below hb0)⟩
        · rw [← hW0, ← hM]; exact ((Boxed.new w2 _ _).alloc _).alloc _ |>.alloc _
        · rw [← hW0]
          have e := (Boxed.new ((w2.alloc (.cells #[.slice q i c] 24)).alloc (.cells (madeCells #[.int .u8 0] L) 5)) 24 (.slice (some ⟨M + 1, 0, none⟩) L L)).alloc (.cells #[.slice p j d] 24)
          simpa [hM] using e
        · rw [← hW0]
          have e := ((ow_made (w2.alloc (.cells #[.slice q i c] 24)) (base := R) (by simp; omega) L (by omega)).alloc (.cells #[.slice (some ⟨M + 1, 0, none⟩) L L] 24)).alloc (.cells #[.slice p j d] 24)
          simpa [hM] using e
      have i3 : W0.cell? ⟨M + 1 + 1 + 1, 0, none⟩ = some (.slice p j d) := by
        rw [← hW0]
        have e := (Boxed.new (((w2.alloc (.cells #[.slice q i c] 24)).alloc (.cells (madeCells #[.int .u8 0] L) 5)).alloc (.cells #[.slice (some ⟨M + 1, 0, none⟩) L L] 24)) 24 (.slice p j d)).cell
        simpa [hM] using e
      have HF : Hid (Bs w p j vs ∧ Off T j p ∧ Bs w q i us ∧ Off T i q) := ⟨HS.out.2.1, HS.out.2.2.2.1, HS.out.1, HS.out.2.2.1⟩
      have i4 : Bs W0 p j vs := (HF.out.1.below (hR.symm ▸ H2.out.1)).below hb0
      have hRM : R < M := by omega
      rw [hM, hW0]
      rename_i Q1 K' hK'
      refine wpIn_mono (Q := fun e a W => e = .normal ∧ ∃ D', W0.heap.size ≤ D' ∧ a = { tmps := #[.pointer (some ⟨B, 0, none⟩), .slice q n c, .slice p m d, .pointer (some ⟨R, 0, none⟩), undef, undef, .slice none 0 0, .slice p j d, .pointer (some ⟨M, 0, none⟩), .pointer (some ⟨M + 1 + 1, 0, none⟩), undef, undef, .slice q n c, .slice q i c, .slice p m d, .slice p j d, .slice q i c, .int .i64 (i : Int), .slice p j d, .int .i64 (j : Int), .bool true, .slice p j d, .slice q i c, .pointer (some ⟨B, 0, none⟩), .bool false, .bool false, .slice p j d, .int .i64 (j : Int), .bool false, .bool false, .slice p j d, .int .i64 (j : Int), .slice q i c, .int .i64 (i : Int), .int .i64 ((j : Int) + (i : Int)), .int .i64 (L : Int), .slice (some ⟨M + 1, 0, none⟩) L L, .slice p j d, .func (.func 71) #[] #[.pointer (some ⟨M + 1 + 1 + 1, 0, none⟩)], undef, undef, undef, undef, undef, undef, undef, undef, undef, undef, undef, undef], defers := [{ target := .collected D', args := #[] }] } ∧
          MI R M k B T L w (.slice q i c) (mlF vs us (List.replicate L 0) (tmD vs j 0)) W ∧ W.heap[D']? = some (.deferred (some []))) ?_ ?_
      · clear hK'
        clear K' Q1
        refine wpIn_rangeFunc_ownG rfl hD1 (gf := 71) (lb := #[.pointer (some ⟨M + 1 + 1 + 1, 0, none⟩)]) rfl trivial (enters_of Tryz.func71 (by kernel_rfl) rfl)
          (terms1_stops (D - 1) (by omega) (M + 1 + 1 + 1) p j d vs _ (by omega) i3 i4) keepsP_t (fun W l o o' _ h1 h2 _ => keepsP_b W l o o' h1 h2) (Below.refl _ _) (fun _ => rfl)
          (fun pre W => MI R M k B T L w (.slice q i c) (mlF vs us (List.replicate L 0) pre) W)
          (fun _ _ _ => False)
          (mi_own _ (by omega) (by omega) (by omega))
          (fun _ _ _ _ _ hs _ _ => hs)
          i0
          (fun x => { tmps := #[.pointer (some ⟨B, 0, none⟩), .slice q n c, .slice p m d, .pointer (some ⟨R, 0, none⟩), undef, undef, .slice none 0 0, .slice p j d, .pointer (some ⟨M, 0, none⟩), .pointer (some ⟨M + 1 + 1, 0, none⟩), .int .i64 ((x.1 : Nat) : Int), .int .u8 ((vs.getD x.1 0 : Nat) : Int), .slice q n c, .slice q i c, .slice p m d, .slice p j d, .slice q i c, .int .i64 (i : Int), .slice p j d, .int .i64 (j : Int), .bool true, .slice p j d, .slice q i c, .pointer (some ⟨B, 0, none⟩), .bool false, .bool false, .slice p j d, .int .i64 (j : Int), .bool false, .bool false, .slice p j d, .int .i64 (j : Int), .slice q i c, .int .i64 (i : Int), .int .i64 ((j : Int) + (i : Int)), .int .i64 (L : Int), .slice (some ⟨M + 1, 0, none⟩) L L, .slice p j d, .func (.func 71) #[] #[.pointer (some ⟨M + 1 + 1 + 1, 0, none⟩)], .int .i64 ((x.1 : Nat) : Int), .int .u8 ((vs.getD x.1 0 : Nat) : Int), undef, undef, undef, undef, undef, undef, undef, undef, undef, undef], defers := [] }) ?assign ?body ?done ?stop
        case assign =>
          intro l x W K hK
          obtain ⟨i', hi'⟩ := x
          dsimp only [tmv] at hK ⊢
          obtain ⟨b, hb⟩ : ∃ b, vs.getD i' 0 = b := ⟨_, rfl⟩
          rw [hb] at hK ⊢
          gi_wp2
          exact hK
        case body =>
          rintro l pre x W hI _
          clear i0 i3 i4 hb0
          obtain ⟨t, ht⟩ := x
          dsimp only
          have hbb : vs.getD t 0 < 256 := HF.out.1.byt t
          have hsn := mlF_snoc vs us (List.replicate L 0) pre ⟨t, ht⟩
          dsimp only at hsn
          have hAb := mlF_byt (vs := us) HF.out.1.byt (Pol.byt_rep L) pre
          have hAl : (mlF vs us (List.replicate L 0) pre).length = L := by rw [mlF_length, List.length_replicate]
          obtain ⟨A, hA⟩ : ∃ A, mlF vs us (List.replicate L 0) pre = A := ⟨_, rfl⟩
          obtain ⟨b, hb⟩ : ∃ b, vs.getD t 0 = b := ⟨_, rfl⟩
          rw [hA] at hI hsn hAb hAl
          rw [hb] at hsn hbb ⊢
          have KE := mul_round R M k B T L w q i c A us W b t hR hRM hT hB hI HF.out.2.2.1 HF.out.2.2.2 hbb (by omega) hAb hAl (by omega) (by omega)
          have c1 := hI.bf.cell
          have c2 := hI.bm.cell
          have c3 := hI.bp.cell
          have hne : ¬ L = t := by omega
          have hle : (t : Int) ≤ (L : Int) := by omega
          have HP : Hid (mlF vs us (List.replicate L 0) (pre ++ [⟨t, ht⟩]) = addL t A (us.map (Gf.mul b))) := hsn
          have hmx : Tryz.prog.follows .mixedOrders = true := by kernel_rfl
          have hd : 1 ≤ D - 1 - 1 := by omega
          clear hsn hI hA hb hAb hAl
          gi_wp2
          refine wpIn_mono (Q := fun e _ W' => e = .normal ∧ Hid (MI R M k B T L w (.slice q i c) (addL t A (us.map (Gf.mul b))) W' ∧ But (fun k => k = T ∨ k = M + 1) W W')) ?_ ?_
          · have hS : W.drew.cell? ⟨R, 0, none⟩ = some (.pointer (some ⟨B, 0, none⟩)) ∧ W.drew.cell? ⟨M, 0, none⟩ = some (.slice q i c) ∧ W.drew.cell? ⟨M + 1 + 1, 0, none⟩ = some (.slice (some ⟨M + 1, 0, none⟩) L L) := ⟨c1, c2, c3⟩
            refine region_held_round (S := fun w' => w'.cell? ⟨R, 0, none⟩ = some (.pointer (some ⟨B, 0, none⟩)) ∧ w'.cell? ⟨M, 0, none⟩ = some (.slice q i c) ∧ w'.cell? ⟨M + 1 + 1, 0, none⟩ = some (.slice (some ⟨M + 1, 0, none⟩) L L)) hmx (fun ⟨_, _, e, _⟩ => by cases e) (by kernel_rfl) hS (fun hS => ?_)
            refine wpAnyH_take (i := 0) (v := .slice (some ⟨M + 1, 0, none⟩) L L) rfl (by kernel_rfl) (by kernel_rfl) (by kernel_rfl) (fun _ _ _ h => by cases h.1) (Or.inl ⟨by rfl, ?_⟩) hS ?_
            · intro w' ⟨_, _, h3⟩
              go_simp
            (try dsimp only [Act.put])
            refine wpAnyH_take (i := 1) (v := .int .i64 (t : Int)) rfl (by kernel_rfl) (by kernel_rfl) (by kernel_rfl) (fun _ _ _ h => by cases h.1) (Or.inl ⟨by rfl, ?_⟩) hS ?_
            · intro w' _
              go_simp
            (try dsimp only [Act.put])
            refine wpAnyH_take (i := 2) (v := .slice (some ⟨M + 1, t, none⟩) (L - t) (L - t)) rfl (by kernel_rfl) (by kernel_rfl) (by kernel_rfl) (fun _ _ _ h => by cases h.1) (Or.inl ⟨by rfl, ?_⟩) hS ?_
            · intro w' _
              go_simp
            (try dsimp only [Act.put])
            refine wpAnyH_take (i := 3) (v := .pointer (some ⟨B, 0, none⟩)) rfl (by kernel_rfl) (by kernel_rfl) (by kernel_rfl) (fun _ _ _ h => by cases h.1) (Or.inl ⟨by rfl, ?_⟩) hS ?_
            · intro w' ⟨h1, _, _⟩
              go_simp
            (try dsimp only [Act.put])
            refine wpAnyH_take (i := 4) (v := .int .u8 (b : Int)) rfl (by kernel_rfl) (by kernel_rfl) (by kernel_rfl) (fun _ _ _ h => by cases h.1) (Or.inl ⟨by rfl, ?_⟩) hS ?_
            · intro w' _
              go_simp
            (try dsimp only [Act.put])
            refine wpAnyH_take (i := 5) (v := .slice q i c) rfl (by kernel_rfl) (by kernel_rfl) (by kernel_rfl) (fun _ _ _ h => by cases h.1) (Or.inl ⟨by rfl, ?_⟩) hS ?_
            · intro w' ⟨_, h2, _⟩
              go_simp
            (try dsimp only [Act.put])
            refine wpAnyH_ready (rs := [6]) (by kernel_rfl) (by simp) ?_
            refine AllReadyH.cons rfl (fun K hK => ?_) AllReadyH.nil
            go_simp
            refine KE.mono ?_
            rintro e' w1 ⟨qe, ce, rfl, c4, KA⟩
            refine hK.out _ _ c4 (fun _ => ?_)
            clear hK K
            (try dsimp only [Act.put])
            refine wpAnyH_ready (rs := [7]) (by kernel_rfl) (by simp) ?_
            refine AllReadyH.cons rfl (fun K hK => ?_) AllReadyH.nil
            go_simp
            refine hK.out _ _ ⟨cell_alloc_l _ c4.1, cell_alloc_l _ c4.2.1, cell_alloc_l _ c4.2.2⟩ (fun _ => ?_)
            clear hK K
            (try dsimp only [Act.put])
            refine wpAnyH_ready (rs := [8]) (by kernel_rfl) (by simp) ?_
            refine AllReadyH.cons rfl (fun K hK => ?_) AllReadyH.nil
            go_simp
            refine KA.out.mono ?_
            rintro e' w3 ⟨⟨v3, rfl⟩, HQ⟩
            refine hK.out _ _ ⟨HQ.out.1.bf.cell, HQ.out.1.bm.cell, HQ.out.1.bp.cell⟩ (fun _ => ?_)
            exact wpAnyH_done (by kernel_rfl) ⟨rfl, HQ⟩ _
          · rintro e a W' ⟨rfl, HQ⟩
            refine ⟨keepsFrom_but HQ.out.2 (fun k hk => by omega), keepsP_but HQ.out.2 (by omega) (fun h1 a e hk => ?_), ?_⟩
            · rcases hk with hk | hk
              · exact HF.out.2.1 h1 a e hk
              · obtain ⟨a', e', hl', _⟩ := HF.out.1.cell 0 h1
                obtain rfl : a' = a := Option.some.inj (e'.symm.trans e)
                omega
            · show MI R M k B T L w (.slice q i c) (mlF vs us (List.replicate L 0) (pre ++ [⟨t, ht⟩])) W'
              rw [HP.out]; exact HQ.out.1
        case done =>
          rintro D' ys' W hD' rfl hI hK
          exact ⟨rfl, D', hD', rfl, hI, hK⟩
        case stop =>
          rintro D' c' pre W _ _ h _
          exact h.elim
      · rintro e a W ⟨rfl, D', hD', rfl, hI, hK⟩
        rw [HE.out] at hI
        have cP := hI.bp.cell
        have hg := grownBy_putObj' W D' (.deferred none)
        have hb1 : But (· = D') W (W.putObj D' (.deferred none)) := ⟨hg.os, hg.tape, hg.output, hg.size, fun k hk hs => hg.block k hk (fun e => by cases e; exact hs rfl)⟩
        have HW : Hid (Ow (W.putObj D' (.deferred none)) R (.slice (some ⟨M + 1, 0, none⟩) L L) zs ∧ Fd k B T (W.putObj D' (.deferred none)) ∧ But (· = T) w (W.putObj D' (.deferred none))) :=
          ⟨hI.ow.block (fun k hk => by cases hk; exact hb1.block (M + 1) (by have := hI.bp.lt; omega) (by omega)), hI.fd.but hb1 (by omega) (by omega), hI.but.past hb1 (fun k hk => by omega)⟩
        clear hI hb1 hg
        refine hK' _ _ ?_
        clear hK'
        clear K'
        gi_wp2
        refine ⟨by simp, .inl ⟨_, _, rfl, run_takeDeferred hK, ?_⟩⟩
        rw [hR]
        exact ⟨_, results_tmp rfl _ _ _, .slice (some ⟨M + 1, 0, none⟩) L L, rfl, HW.out⟩
    · have hij' : (i : Int) ≤ (j : Int) := by omega
      obtain ⟨L, hL⟩ : ∃ L : Nat, i + j = L + 1 := ⟨i + j - 1, by omega⟩
      have hL1 : (i : Int) + (j : Int) - 1 = (L : Int) := by omega
      have hf0 : ((i : Int) == 0) = false := by simp; omega
      have hmk := make_bytes L (by omega)
      have HE : Hid (mlF us vs (List.replicate L 0) (tmD us i 0) = zs) := by
        have e1 : Pol.mul (ofL us) (ofL vs) = Pol.mul (ofL xs) (ofL ys) := (HN.out.2.1.eq ▸ HN.out.1.eq ▸ rfl)
        have e2 := mlF_nrm (us := us) (vs := vs) (n := i) (L := L) HN.out.1.byt HN.out.2.1.byt (by have := HN.out.2.2; omega) (by have := HN.out.2.2; omega) HN.out.1.nrm HN.out.2.1.nrm (by omega) (by have := HN.out.2.2; omega)
        exact (e1 ▸ e2).unique HZ.out
      gi_wp2_with (first
        | (gi_at_call 46; with_reducible refine (callsIn_wide.2 K3.out).mono ?_; rintro e w1 ⟨rfl, H1⟩; clear K3)
        | (gi_at_call 46; refine (callsIn_wide.2 (K4.out w1 H1)).mono ?_; rintro e w2 ⟨rfl, H2, cR, hRw⟩; clear K4)
        | (gi_at_call 53; refine (terms_calls (D - 1) q i c _).mono ?_; rintro e w' ⟨rfl, rfl⟩))
      obtain ⟨M, hM⟩ : ∃ M, w2.heap.size = M := ⟨_, rfl⟩
      obtain ⟨W0, hW0⟩ : ∃ W0, ((((w2.alloc (.cells #[.slice p j d] 24)).alloc (.cells (madeCells #[.int .u8 0] L) 5)).alloc (.cells #[.slice (some ⟨M + 1, 0, none⟩) L L] 24)).alloc (.cells #[.slice q i c] 24)) = W0 := ⟨_, rfl⟩
      have hs0 : W0.heap.size = M + 1 + 1 + 1 + 1 := by rw [← hW0, ← hM]; simp
      have hb0 : Below w2.heap.size w2 W0 := by
        rw [← hW0]; exact ((((Below.refl _ w2).alloc (Nat.le_refl _) _).alloc (by simp) _).alloc (by simp; omega) _).alloc (by simp; omega) _
      have hFd := HS.out.2.2.2.2
      have hT : T < R := hR ▸ hFd.lt
      have hB : B < R := hR ▸ hFd.blt
      have i0 : MI R M k B T L w (.slice p j d) (List.replicate L 0) W0 := by
        refine ⟨boxed_below H2.out.2 hb0, ?_, ?_, ?_, (hFd.below (hR.symm ▸ H2.out.1)).below hb0, (But.of_below (hR.symm ▸ H2.out.1)).trans (But.of_below hb0)⟩
        · rw [← hW0, ← hM]; exact ((Boxed.new w2 _ _).alloc _).alloc _ |>.alloc _
        · rw [← hW0]
          have e := (Boxed.new ((w2.alloc (.cells #[.slice p j d] 24)).alloc (.cells (madeCells #[.int .u8 0] L) 5)) 24 (.slice (some ⟨M + 1, 0, none⟩) L L)).alloc (.cells #[.slice q i c] 24)
          simpa [hM] using e
        · rw [← hW0]
          have e := ((ow_made (w2.alloc (.cells #[.slice p j d] 24)) (base := R) (by simp; omega) L (by omega)).alloc (.cells #[.slice (some ⟨M + 1, 0, none⟩) L L] 24)).alloc (.cells #[.slice q i c] 24)
          simpa [hM] using e
      have i3 : W0.cell? ⟨M + 1 + 1 + 1, 0, none⟩ = some (.slice q i c) := by
        rw [← hW0]
        have e := (Boxed.new (((w2.alloc (.cells #[.slice p j d] 24)).alloc (.cells (madeCells #[.int .u8 0] L) 5)).alloc (.cells #[.slice (some ⟨M + 1, 0, none⟩) L L] 24)) 24 (.slice q i c)).cell
        simpa [hM] using e
      have HF : Hid (Bs w q i us ∧ Off T i q ∧ Bs w p j vs ∧ Off T j p) := ⟨HS.out.1, HS.out.2.2.1, HS.out.2.1, HS.out.2.2.2.1⟩
      have i4 : Bs W0 q i us := (HF.out.1.below (hR.symm ▸ H2.out.1)).below hb0
      have hRM : R < M := by omega
      rw [hM, hW0]
      rename_i Q1 K' hK'
      refine wpIn_mono (Q := fun e a W => e = .normal ∧ ∃ D', W0.heap.size ≤ D' ∧ a = { tmps := #[.pointer (some ⟨B, 0, none⟩), .slice q n c, .slice p m d, .pointer (some ⟨R, 0, none⟩), undef, undef, .slice none 0 0, .slice q i c, .pointer (some ⟨M, 0, none⟩), .pointer (some ⟨M + 1 + 1, 0, none⟩), undef, undef, .slice q n c, .slice q i c, .slice p m d, .slice p j d, .slice q i c, .int .i64 (i : Int), .slice p j d, .int .i64 (j : Int), .bool false, undef, undef, .pointer (some ⟨B, 0, none⟩), .bool false, .bool false, .slice q i c, .int .i64 (i : Int), .bool false, .bool false, .slice q i c, .int .i64 (i : Int), .slice p j d, .int .i64 (j : Int), .int .i64 ((i : Int) + (j : Int)), .int .i64 (L : Int), .slice (some ⟨M + 1, 0, none⟩) L L, .slice q i c, .func (.func 71) #[] #[.pointer (some ⟨M + 1 + 1 + 1, 0, none⟩)], undef, undef, undef, undef, undef, undef, undef, undef, undef, undef, undef, undef], defers := [{ target := .collected D', args := #[] }] } ∧
          MI R M k B T L w (.slice p j d) (mlF us vs (List.replicate L 0) (tmD us i 0)) W ∧ W.heap[D']? = some (.deferred (some []))) ?_ ?_
      · clear hK'
        clear K' Q1
        refine wpIn_rangeFunc_ownG rfl hD1 (gf := 71) (lb := #[.pointer (some ⟨M + 1 + 1 + 1, 0, none⟩)]) rfl trivial (enters_of Tryz.func71 (by kernel_rfl) rfl)
          (terms1_stops (D - 1) (by omega) (M + 1 + 1 + 1) q i c us _ (by omega) i3 i4) keepsP_t (fun W l o o' _ h1 h2 _ => keepsP_b W l o o' h1 h2) (Below.refl _ _) (fun _ => rfl)
          (fun pre W => MI R M k B T L w (.slice p j d) (mlF us vs (List.replicate L 0) pre) W)
          (fun _ _ _ => False)
          (mi_own _ (by omega) (by omega) (by omega))
          (fun _ _ _ _ _ hs _ _ => hs)
          i0
          (fun x => { tmps := #[.pointer (some ⟨B, 0, none⟩), .slice q n c, .slice p m d, .pointer (some ⟨R, 0, none⟩), undef, undef, .slice none 0 0, .slice q i c, .pointer (some ⟨M, 0, none⟩), .pointer (some ⟨M + 1 + 1, 0, none⟩), .int .i64 ((x.1 : Nat) : Int), .int .u8 ((us.getD x.1 0 : Nat) : Int), .slice q n c, .slice q i c, .slice p m d, .slice p j d, .slice q i c, .int .i64 (i : Int), .slice p j d, .int .i64 (j : Int), .bool false, undef, undef, .pointer (some ⟨B, 0, none⟩), .bool false, .bool false, .slice q i c, .int .i64 (i : Int), .bool false, .bool false, .slice q i c, .int .i64 (i : Int), .slice p j d, .int .i64 (j : Int), .int .i64 ((i : Int) + (j : Int)), .int .i64 (L : Int), .slice (some ⟨M + 1, 0, none⟩) L L, .slice q i c, .func (.func 71) #[] #[.pointer (some ⟨M + 1 + 1 + 1, 0, none⟩)], .int .i64 ((x.1 : Nat) : Int), .int .u8 ((us.getD x.1 0 : Nat) : Int), undef, undef, undef, undef, undef, undef, undef, undef, undef, undef], defers := [] }) ?assign ?body ?done ?stop
        case assign =>
          intro l x W K hK
          obtain ⟨i', hi'⟩ := x
          dsimp only [tmv] at hK ⊢
          obtain ⟨b, hb⟩ : ∃ b, us.getD i' 0 = b := ⟨_, rfl⟩
          rw [hb] at hK ⊢
          gi_wp2
          exact hK
        case body =>
          rintro l pre x W hI _
          clear i0 i3 i4 hb0
          obtain ⟨t, ht⟩ := x
          dsimp only
          have hbb : us.getD t 0 < 256 := HF.out.1.byt t
          have hsn := mlF_snoc us vs (List.replicate L 0) pre ⟨t, ht⟩
          dsimp only at hsn
          have hAb := mlF_byt (vs := vs) HF.out.1.byt (Pol.byt_rep L) pre
          have hAl : (mlF us vs (List.replicate L 0) pre).length = L := by rw [mlF_length, List.length_replicate]
          obtain ⟨A, hA⟩ : ∃ A, mlF us vs (List.replicate L 0) pre = A := ⟨_, rfl⟩
          obtain ⟨b, hb⟩ : ∃ b, us.getD t 0 = b := ⟨_, rfl⟩
          rw [hA] at hI hsn hAb hAl
          rw [hb] at hsn hbb ⊢
          have KE := mul_round R M k B T L w p j d A vs W b t hR hRM hT hB hI HF.out.2.2.1 HF.out.2.2.2 hbb (by omega) hAb hAl (by omega) (by omega)
          have c1 := hI.bf.cell
          have c2 := hI.bm.cell
          have c3 := hI.bp.cell
          have hne : ¬ L = t := by omega
          have hle : (t : Int) ≤ (L : Int) := by omega
          have HP : Hid (mlF us vs (List.replicate L 0) (pre ++ [⟨t, ht⟩]) = addL t A (vs.map (Gf.mul b))) := hsn
          have hmx : Tryz.prog.follows .mixedOrders = true := by kernel_rfl
          have hd : 1 ≤ D - 1 - 1 := by omega
          clear hsn hI hA hb hAb hAl
          gi_wp2
          refine wpIn_mono (Q := fun e _ W' => e = .normal ∧ Hid (MI R M k B T L w (.slice p j d) (addL t A (vs.map (Gf.mul b))) W' ∧ But (fun k => k = T ∨ k = M + 1) W W')) ?_ ?_
          · have hS : W.drew.cell? ⟨R, 0, none⟩ = some (.pointer (some ⟨B, 0, none⟩)) ∧ W.drew.cell? ⟨M, 0, none⟩ = some (.slice p j d) ∧ W.drew.cell? ⟨M + 1 + 1, 0, none⟩ = some (.slice (some ⟨M + 1, 0, none⟩) L L) := ⟨c1, c2, c3⟩
            refine region_held_round (S := fun w' => w'.cell? ⟨R, 0, none⟩ = some (.pointer (some ⟨B, 0, none⟩)) ∧ w'.cell? ⟨M, 0, none⟩ = some (.slice p j d) ∧ w'.cell? ⟨M + 1 + 1, 0, none⟩ = some (.slice (some ⟨M + 1, 0, none⟩) L L)) hmx (fun ⟨_, _, e, _⟩ => by cases e) (by kernel_rfl) hS (fun hS => ?_)
            refine wpAnyH_take (i := 0) (v := .slice (some ⟨M + 1, 0, none⟩) L L) rfl (by kernel_rfl) (by kernel_rfl) (by kernel_rfl) (fun _ _ _ h => by cases h.1) (Or.inl ⟨by rfl, ?_⟩) hS ?_
            · intro w' ⟨_, _, h3⟩
              go_simp
            (try dsimp only [Act.put])
            refine wpAnyH_take (i := 1) (v := .int .i64 (t : Int)) rfl (by kernel_rfl) (by kernel_rfl) (by kernel_rfl) (fun _ _ _ h => by cases h.1) (Or.inl ⟨by rfl, ?_⟩) hS ?_
            · intro w' _
              go_simp
            (try dsimp only [Act.put])
            refine wpAnyH_take (i := 2) (v := .slice (some ⟨M + 1, t, none⟩) (L - t) (L - t)) rfl (by kernel_rfl) (by kernel_rfl) (by kernel_rfl) (fun _ _ _ h => by cases h.1) (Or.inl ⟨by rfl, ?_⟩) hS ?_
            · intro w' _
              go_simp
            (try dsimp only [Act.put])
            refine wpAnyH_take (i := 3) (v := .pointer (some ⟨B, 0, none⟩)) rfl (by kernel_rfl) (by kernel_rfl) (by kernel_rfl) (fun _ _ _ h => by cases h.1) (Or.inl ⟨by rfl, ?_⟩) hS ?_
            · intro w' ⟨h1, _, _⟩
              go_simp
            (try dsimp only [Act.put])
            refine wpAnyH_take (i := 4) (v := .int .u8 (b : Int)) rfl (by kernel_rfl) (by kernel_rfl) (by kernel_rfl) (fun _ _ _ h => by cases h.1) (Or.inl ⟨by rfl, ?_⟩) hS ?_
            · intro w' _
              go_simp
            (try dsimp only [Act.put])
            refine wpAnyH_take (i := 5) (v := .slice p j d) rfl (by kernel_rfl) (by kernel_rfl) (by kernel_rfl) (fun _ _ _ h => by cases h.1) (Or.inl ⟨by rfl, ?_⟩) hS ?_
            · intro w' ⟨_, h2, _⟩
              go_simp
            (try dsimp only [Act.put])
            refine wpAnyH_ready (rs := [6]) (by kernel_rfl) (by simp) ?_
            refine AllReadyH.cons rfl (fun K hK => ?_) AllReadyH.nil
            go_simp
            refine KE.mono ?_
            rintro e' w1 ⟨qe, ce, rfl, c4, KA⟩
            refine hK.out _ _ c4 (fun _ => ?_)
            clear hK K
            (try dsimp only [Act.put])
            refine wpAnyH_ready (rs := [7]) (by kernel_rfl) (by simp) ?_
            refine AllReadyH.cons rfl (fun K hK => ?_) AllReadyH.nil
            go_simp
            refine hK.out _ _ ⟨cell_alloc_l _ c4.1, cell_alloc_l _ c4.2.1, cell_alloc_l _ c4.2.2⟩ (fun _ => ?_)
            clear hK K
            (try dsimp only [Act.put])
            refine wpAnyH_ready (rs := [8]) (by kernel_rfl) (by simp) ?_
            refine AllReadyH.cons rfl (fun K hK => ?_) AllReadyH.nil
            go_simp
            refine KA.out.mono ?_
            rintro e' w3 ⟨⟨v3, rfl⟩, HQ⟩
            refine hK.out _ _ ⟨HQ.out.1.bf.cell, HQ.out.1.bm.cell, HQ.out.1.bp.cell⟩ (fun _ => ?_)
            exact wpAnyH_done (by kernel_rfl) ⟨rfl, HQ⟩ _
          · rintro e a W' ⟨rfl, HQ⟩
            refine ⟨keepsFrom_but HQ.out.2 (fun k hk => by omega), keepsP_but HQ.out.2 (by omega) (fun h1 a e hk => ?_), ?_⟩
            · rcases hk with hk | hk
              · exact HF.out.2.1 h1 a e hk
              · obtain ⟨a', e', hl', _⟩ := HF.out.1.cell 0 h1
                obtain rfl : a' = a := Option.some.inj (e'.symm.trans e)
                omega
            · show MI R M k B T L w (.slice p j d) (mlF us vs (List.replicate L 0) (pre ++ [⟨t, ht⟩])) W'
              rw [HP.out]; exact HQ.out.1
        case done =>
          rintro D' ys' W hD' rfl hI hK
          exact ⟨rfl, D', hD', rfl, hI, hK⟩
        case stop =>
          rintro D' c' pre W _ _ h _
          exact h.elim
      · rintro e a W ⟨rfl, D', hD', rfl, hI, hK⟩
        rw [HE.out] at hI
        have cP := hI.bp.cell
        have hg := grownBy_putObj' W D' (.deferred none)
        have hb1 : But (· = D') W (W.putObj D' (.deferred none)) := ⟨hg.os, hg.tape, hg.output, hg.size, fun k hk hs => hg.block k hk (fun e => by cases e; exact hs rfl)⟩
        have HW : Hid (Ow (W.putObj D' (.deferred none)) R (.slice (some ⟨M + 1, 0, none⟩) L L) zs ∧ Fd k B T (W.putObj D' (.deferred none)) ∧ But (· = T) w (W.putObj D' (.deferred none))) :=
          ⟨hI.ow.block (fun k hk => by cases hk; exact hb1.block (M + 1) (by have := hI.bp.lt; omega) (by omega)), hI.fd.but hb1 (by omega) (by omega), hI.but.past hb1 (fun k hk => by omega)⟩
        clear hI hb1 hg
        refine hK' _ _ ?_
        clear hK'
        clear K'
        gi_wp2
        refine ⟨by simp, .inl ⟨_, _, rfl, run_takeDeferred hK, ?_⟩⟩
        rw [hR]
        exact ⟨_, results_tmp rfl _ _ _, .slice (some ⟨M + 1, 0, none⟩) L L, rfl, HW.out⟩
theorem pmul_calls (k B T n c m d : Nat) (q p : Option Addr) (xs ys zs : List Nat) (hz : IsN zs (Pol.mul (ofL xs) (ofL ys))) (hn : n ≤ 100000000) (hm : m ≤ 100000000) (hnc : n ≤ c) (hmd : m ≤ d) (w : World) (h : Fd k B T w) (hx : Bs w q n xs) (hy : Bs w p m ys) (hq : Off T n q) (hp : Off T m p) :
    Calls Tryz.prog 51 #[.pointer (some ⟨B, 0, none⟩), .slice q n c, .slice p m d] w fun e w' => ∃ v, e = .returned v ∧ Ow w' w.heap.size v zs ∧ Fd k B T w' ∧ But (· = T) w w' :=
  (callsIn_wide (n := 3)).1 (pmul_in 3 (by omega) k B T n c m d q p xs ys zs hz hn hm hnc hmd w h hx hy hq hp)
end Go.Proofs
