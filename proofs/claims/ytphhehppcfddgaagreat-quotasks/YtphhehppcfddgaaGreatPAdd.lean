/- The walks of poly.Add and poly.Shift. Conditions: lists of at most a thousand million bytes, no longer than their capacities. -/
import Derived.Test.YtphhehppcfddgaaGreatPAddTo
import Derived.Test.YtphhehppcfddgaaGreatTold
import Derived.RegionCalls
import Derived.Deep.RegionWith
import Derived.Deep.RegionHeldLaw
import Derived.Deep.DeepCutAuto
namespace Go.Proofs
open Go.RowKit Go.ChangeShapes Go.WideShapes
attribute [local go_sem ↓ high] builtin_ap
attribute [local go_sem] ap_sem
open Pol (IsN Dg ofL Byt)

theorem add_two {N : Nat} {xs ys : List Nat} (hx : Byt xs) (hy : Byt ys) (h1 : xs.length ≤ N) (h2 : ys.length ≤ N) : ofL (addAll 0 (List.replicate N 0) [xs, ys]) = Pol.add (ofL xs) (ofL ys) := by
  show ofL (addL 0 (addL 0 (List.replicate N 0) xs) ys) = _
  rw [addL_ofL 0 (addL_byt 0 (Pol.byt_rep N) hx) hy (by rw [addL_length, List.length_replicate]; omega), addL_ofL 0 (Pol.byt_rep N) hx (by rw [List.length_replicate]; omega), Pol.ofL_rep, Pol.up_zero, Pol.up_zero, Pol.zero_add]

/-- An append whose run is known, at a step of a region that draws its order. -/
theorem step_ap {ops : Array Oper} {o : Oper} {a : Act} {w : World} {K : Act → World → Prop} {Q : Exit → Act → World → Prop} {E : Prop} (hg : o.guard = none) (s x : Operand) (t : TypeId) (ho : o.op = .call { callee := .builtin .append, args := #[s, x], argTypes := #[t, t] }) (ht : o.type = t)
    {v u v' : Value} {W' : World} (hap : (Builtin.append_ #[t, t] t #[v, u]).run Tryz.prog w = .ok v' W') (hs : a.eval s = v) (hx : a.eval x = u) (hK : K (a.put o.dst v') W') : if Region.wanted o (yielded ops a.tmps) = true then Oper.wp Tryz.prog o a w K Q else E := by
  have hw : Region.wanted o (yielded ops a.tmps) = true := by simp [Region.wanted, hg]
  rw [if_pos hw]
  subst hs hx ht
  unfold Oper.wp
  simp only [execOp, ho, resolve, invoke, builtin, Sem.run_bind, Sem.run_pure, Result.andThen_ok, List.map_toArray, List.map_cons, List.map_nil, hap]
  exact hK
/-- The product with a power of x, or the quotient; nothing, if that had too great a degree. -/
def shP (k : Int) (d : Nat) (p : Pol) : Pol := if d = 0 ∨ 1001 - (d : Int) < k ∨ k < 1 - (d : Int) then Pol.zero else if k < 0 then Pol.down (-k).toNat p else Pol.up k.toNat p
theorem range_drop (xs : List Nat) (n t : Nat) (h : xs.length = n) : (List.range (n - t)).map (fun i => xs.getD (t + i) 0) = xs.drop t := by
  apply List.ext_getElem?
  intro i
  rw [List.getElem?_map, List.getElem?_drop]
  by_cases hi : i < n - t
  · rw [List.getElem?_range hi, List.getElem?_eq_getElem (show t + i < xs.length by omega)]
    simp [List.getD, List.getElem?_eq_getElem (show t + i < xs.length by omega)]
  · rw [List.getElem?_eq_none (by simpa using hi), List.getElem?_eq_none (by omega)]; rfl
end Go.Proofs
