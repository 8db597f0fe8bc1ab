/- The walks of poly.Add and poly.Shift. Conditions: lists of at most a thousand million bytes, no longer than their capacities. -/
import Derived.Test.YtphhehppcfddgaaPAddTo
import Derived.Test.YtphhehppcfddgaaTold
import Derived.RegionCalls
import Derived.Deep.RegionWith
import Derived.Deep.RegionHeldLaw
import Derived.Deep.DeepCutAuto
namespace Go.Proofs
open Go.RowKit Go.ChangeShapes Go.WideShapes
attribute [local go_sem ↓ high] builtin_ap
attribute [local go_sem] ap_sem
open Pol (IsN Dg ofL Byt)

theorem paddTo_calls (base g o m cm N cap h cK : Nat) (s : List Nat) (ls : List Sl) (ll : List (List Nat)) (hll : ls.map (·.xs) = ll) (K : Nat) (hKl : K = ls.length) (hN : N = s.length) (hom : o + m ≤ N) (hsb : Byt s) (hK : K ≤ 1000) (hgh : ¬ h = g) (w : World) (hhw : h < w.heap.size) (hO : Ow w base (.slice (some ⟨g, 0, none⟩) N cap) s) (hls : Sls w h g m ls) :
    Calls Try.prog 29 #[.slice (some ⟨g, o, none⟩) m cm, .slice (some ⟨h, 0, none⟩) K cK] w fun e w' => (∃ v, e = .returned v) ∧ Ow w' base (.slice (some ⟨g, 0, none⟩) N cap) (addAll o s ll) ∧ But (· = g) w w' := by
  subst hKl hll
  exact (callsIn_wide (n := 3)).1 (paddTo_in 3 (by omega) base g o m cm N cap h cK s ls hN hom hsb hK hgh w hhw hO hls)
theorem add_two {N : Nat} {xs ys : List Nat} (hx : Byt xs) (hy : Byt ys) (h1 : xs.length ≤ N) (h2 : ys.length ≤ N) : ofL (addAll 0 (List.replicate N 0) [xs, ys]) = Pol.add (ofL xs) (ofL ys) := by
  show ofL (addL 0 (addL 0 (List.replicate N 0) xs) ys) = _
  rw [addL_ofL 0 (addL_byt 0 (Pol.byt_rep N) hx) hy (by rw [addL_length, List.length_replicate]; omega), addL_ofL 0 (Pol.byt_rep N) hx (by rw [List.length_replicate]; omega), Pol.ofL_rep, Pol.up_zero, Pol.up_zero, Pol.zero_add]
set_option maxRecDepth 100000 in
set_option maxHeartbeats 1000000 in
theorem padd_calls (q p : Option Addr) (n c m d : Nat) (xs ys zs : List Nat) (hz : IsN zs (Pol.add (ofL xs) (ofL ys))) (hn : n ≤ 1000000000) (hm : m ≤ 1000000000) (w : World) (hx : Bs w q n xs) (hy : Bs w p m ys) :
    Calls Try.prog 13 #[.slice q n c, .slice p m d] w fun e w' => ∃ v, e = .returned v ∧ Ow w' w.heap.size v zs ∧ Below w.heap.size w w' := by
  obtain ⟨N, hN⟩ : ∃ N : Nat, max n m = N := ⟨_, rfl⟩
  have hmk := make_bytes N (by omega)
  have hcase : (N = n ∧ (m : Int) ≤ (n : Int)) ∨ (N = m ∧ (n : Int) < (m : Int)) := by omega
  obtain ⟨R, hR⟩ : ∃ R, w.heap.size = R := ⟨_, rfl⟩
  obtain ⟨W0, hW0⟩ : ∃ W0, (w.alloc (.cells (madeCells #[.int .u8 0] N) 5)).alloc (.cells #[.slice q n c, .slice p m d] 22) = W0 := ⟨_, rfl⟩
  have i1 : Ow W0 R (.slice (some ⟨R, 0, none⟩) N N) (List.replicate N 0) := by rw [← hW0, ← hR]; exact (ow_made w (Nat.le_refl _) N (by omega)).alloc _
  have i2 : But (fun _ => False) w W0 := by rw [← hW0]; exact ((But.refl _ w).alloc _).alloc _
  have i3 : Below R w W0 := hR ▸ i2.below (Nat.le_refl _) (fun _ => False.elim)
  have hs0 : W0.heap.size = R + 2 := by rw [← hW0, ← hR]; simp
  have i4 : W0.cell? ⟨R + 1, 0, none⟩ = some (.slice q n c) := by rw [← hW0, ← hR]; simp [go_sem]
  have i5 : W0.cell? ⟨R + 1, 1, none⟩ = some (.slice p m d) := by rw [← hW0, ← hR]; simp [go_sem]
  have i6 : Sls W0 (R + 1) R N [⟨q, n, c, xs⟩, ⟨p, m, d, ys⟩] := by
    intro j hj
    match j, hj with
    | 0, _ => exact ⟨i4, hx.below (hR.symm ▸ i3), by show n ≤ N; omega, hx.off (Nat.le_of_eq hR)⟩
    | 1, _ => exact ⟨i5, hy.below (hR.symm ▸ i3), by show m ≤ N; omega, hy.off (Nat.le_of_eq hR)⟩
  have K1 := paddTo_calls R R 0 N N N N (R + 1) 2 (List.replicate N 0) [⟨q, n, c, xs⟩, ⟨p, m, d, ys⟩] [xs, ys] rfl 2 rfl (by rw [List.length_replicate]) (by omega) (Pol.byt_rep N) (by omega) (by omega) W0 (by omega) i1 i6
  have hlx := hx.len
  have hly := hy.len
  have e1 : ofL (addAll 0 (List.replicate N 0) [xs, ys]) = Pol.add (ofL xs) (ofL ys) := add_two hx.byt hy.byt (by omega) (by omega)
  have hb : Byt (addAll 0 (List.replicate N 0) [xs, ys]) := addAll_byt 0 _ _ (Pol.byt_rep N) (fun l hl => by
    simp at hl
    rcases hl with rfl | rfl
    · exact hx.byt
    · exact hy.byt)
  have hl : (addAll 0 (List.replicate N 0) [xs, ys]).length = N := by rw [addAll_length, List.length_replicate]
  obtain ⟨us, hus⟩ : ∃ us, addAll 0 (List.replicate N 0) [xs, ys] = us := ⟨_, rfl⟩
  rw [hus] at K1 e1 hb hl
  obtain ⟨i, hi, hg⟩ := Pol.dg_list us
  rw [hl] at hi
  obtain rfl := hz.unique (e1 ▸ Pol.isN_take hb hg)
  have K2 : Hid (∀ W, Bs W (some ⟨R, 0, none⟩) N us → Calls Try.prog 28 #[.slice (some ⟨R, 0, none⟩) N N] W fun e w' => e = .returned (.slice (some ⟨R, 0, none⟩) i N) ∧ Below W.heap.size W w') := fun W hW => pnormal_calls _ N N us i hg (Nat.le_refl _) W hW
  have HB : Hid (Below R w W0) := i3
  clear hz e1 hg hx hy hus i1 i2 i3 i4 i5 i6 hs0
  clear hN
  go_enter Try.func13, Try.ntmps13
  rcases hcase with ⟨rfl, hc⟩ | ⟨rfl, hc⟩
  all_goals
    go_wp2_with fail
    refine K1.mono ?_
    rintro e w1 ⟨⟨v, rfl⟩, hO, hb1⟩
    have hb2 : Below R W0 w1 := hb1.below (by have := HB.out.size; omega) (fun k hk => Nat.le_of_eq hk.symm)
    have HB2 : Hid (Below R w w1 ∧ Ow w1 R (.slice (some ⟨R, 0, none⟩) N N) us) := ⟨HB.out.trans hb2, hO⟩
    obtain ⟨q1, c1, e1, hS, -, -⟩ := hO.tell hb hl
    cases e1
    clear hO hb1 hb2 K1 HB
    go_wp2_with fail
    refine (K2.out w1 hS).mono ?_
    rintro e w2 ⟨rfl, hb3⟩
    go_wp2
    go_ret
    subst hR
    exact ⟨_, rfl, (HB2.out.2.front rfl hi).below hb3, HB2.out.1.trans (hb3.mono HB2.out.1.size)⟩

/-- An append whose run is known, at a step of a region that draws its order. -/
theorem step_ap {ops : Array Oper} {o : Oper} {a : Act} {w : World} {K : Act → World → Prop} {Q : Exit → Act → World → Prop} {E : Prop} (hg : o.guard = none) (s x : Operand) (t : TypeId) (ho : o.op = .call { callee := .builtin .append, args := #[s, x], argTypes := #[t, t] }) (ht : o.type = t)
    {v u v' : Value} {W' : World} (hap : (Builtin.append_ #[t, t] t #[v, u]).run Try.prog w = .ok v' W') (hs : a.eval s = v) (hx : a.eval x = u) (hK : K (a.put o.dst v') W') : if Region.wanted o (yielded ops a.tmps) = true then Oper.wp Try.prog o a w K Q else E := by
  have hw : Region.wanted o (yielded ops a.tmps) = true := by simp [Region.wanted, hg]
  rw [if_pos hw]
  subst hs hx ht
  unfold Oper.wp
  simp only [execOp, ho, resolve, invoke, builtin, Sem.run_bind, Sem.run_pure, Result.andThen_ok, List.map_toArray, List.map_cons, List.map_nil, hap]
  exact hK
/-- The product with a power of x, or the quotient; nothing, if that had too great a degree. -/
def shP (k : Int) (d : Nat) (p : Pol) : Pol := if d = 0 ∨ 1001 - (d : Int) < k ∨ k < 1 - (d : Int) then Pol.zero else if k < 0 then Pol.down (-k).toNat p else Pol.up k.toNat p
theorem range_drop (xs : List Nat) (n t : Nat) (h : xs.length = n) : (List.range (n - t)).map (fun i => xs.getD (t + i) 0) = xs.drop t := by
  apply List.ext_getElem?
  intro i
  rw [List.getElem?_map, List.getElem?_drop]
  by_cases hi : i < n - t
  · rw [List.getElem?_range hi, List.getElem?_eq_getElem (show t + i < xs.length by omega)]
    simp [List.getD, List.getElem?_eq_getElem (show t + i < xs.length by omega)]
  · rw [List.getElem?_eq_none (by simpa using hi), List.getElem?_eq_none (by omega)]; rfl
end Go.Proofs
