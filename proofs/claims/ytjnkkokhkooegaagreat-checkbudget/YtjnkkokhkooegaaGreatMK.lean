/- Texts laid together: QDown, QTop, QDiv, QMod, QGcd, QU. Each says its own conditions. -/
import Derived.Deep.LoopGhost
import Derived.Test.YtjnkkokhkooegaaGreatMG
import Derived.Test.YtjnkkokhkooegaaGreatMA
import Derived.Test.YtjnkkokhkooegaaGreatMF
/- The walk of quot.bringDown. Conditions: lists of at most a thousand million bytes; what is divided by is monic; what is divided was made by the caller and lies in no block of the field's or of the other list. -/
namespace Go.Proofs
open Go.RowKit Go.ChangeShapes Go.WideShapes
open Pol (IsN Dg ofL Byt Mon)

theorem Bs.butS {S : Nat → Prop} {W W' : World} {q : Option Addr} {n : Nat} {xs : List Nat} (h : Bs W q n xs) (hb : But S W W') (hs : 0 < n → ∀ a, q = some a → ¬ S a.block) : Bs W' q n xs :=
  ⟨h.len, h.max, fun i hi => by
    obtain ⟨a, e, hl, hc⟩ := h.cell i hi
    exact ⟨a, e, Nat.lt_of_lt_of_le hl hb.size, (hb.cell (p := a.add i) (by rw [block_add]; exact hl) (by rw [block_add]; exact hs (by omega) a e)).trans hc⟩, h.byte⟩
end Go.Proofs
/- The walks of quot.topInverse and quot.Monic. Conditions: lists of at most a thousand million bytes, no longer than their capacities; a field that Of has made, or none. -/
namespace Go.Proofs
open Go.RowKit Go.ChangeShapes Go.WideShapes
open Pol (IsN Dg ofL Byt Mon)

theorem cof_nat (xs : List Nat) (e : Nat) : cof xs (e : Int) = xs.getD e 0 := by unfold cof; rw [if_pos (by omega)]; rfl
end Go.Proofs
/- The walks of quot.Div, Mod and Exact. Conditions: lists of at most a thousand million bytes, no longer than their capacities; a field that Of has made, or none. -/
namespace Go.Proofs
open Go.RowKit Go.ChangeShapes Go.WideShapes
open Pol (IsN Dg ofL Byt Mon)

end Go.Proofs
/- The walks of quot.Div by nothing or without a field, of Mod and of Exact. Conditions: as Div's. -/
namespace Go.Proofs
open Go.RowKit Go.ChangeShapes Go.WideShapes
open Pol (IsN Dg ofL Byt Mon)

end Go.Proofs
/- The walk of quot.Gcd. Conditions: lists of at most a thousand million bytes, no longer than their capacities; a field that Of has made, or none. -/
namespace Go.Proofs
open Go.RowKit Go.ChangeShapes Go.WideShapes
open Pol (IsN Dg ofL Byt Mon)

namespace Pol
theorem IsGcd.back {g p q a r : Pol} (ha : Fin a) (e : p = add (mul a q) r) (h : IsGcd g p q) : IsGcd g q r := ⟨h.right, (dvd_rest ha e h.right).1 h.left, fun c hc h1 h2 => h.all c hc ((dvd_rest ha e h1).2 h2) h1⟩
theorem monic_of_gcd {d e : Nat} {g u : Pol} (hg : Mon e g) (hu : Dg (d + 1) u) (h : IsGcd g u zero) : smul (GF.inv (u d)) u = g :=
  IsGcd.unique hu.monic hg ((IsGcd.zero u).smul (GF.inv_ne_zero (hu.top (by omega)))) h
end Pol


end Go.Proofs
/- What Div, Mod, Exact, Monic and Gcd tell of any lists, in one word each. Conditions: as those of the walks. -/
namespace Go.Proofs
open Go.RowKit Go.ChangeShapes Go.WideShapes
open Pol (IsN Dg ofL Byt Mon)

/-- A division: zs times, rs is left; b: there was something to divide by. -/
def IsDiv (xs ys zs rs : List Nat) (b : Bool) : Prop := (b = false ∧ Dg 0 (ofL ys) ∧ zs = [] ∧ rs = []) ∨ (b = true ∧ ∃ e P1 P2, Dg (e + 1) (ofL ys) ∧ IsN zs P1 ∧ IsN rs P2 ∧ Pol.Bd e P2 ∧ ofL xs = Pol.add (Pol.mul P1 (ofL ys)) P2)
theorem IsDiv.byt {xs ys zs rs : List Nat} {b : Bool} (h : IsDiv xs ys zs rs b) : Byt zs ∧ Byt rs := by
  rcases h with ⟨_, _, rfl, rfl⟩ | ⟨_, e, P1, P2, _, h1, h2, _⟩
  · exact ⟨Pol.byt_nil, Pol.byt_nil⟩
  · exact ⟨h1.byt, h2.byt⟩
/-- A division without a rest: zs times; b: there is none. -/
def IsEx (xs ys zs : List Nat) (b : Bool) : Prop := (b = true ∧ ∃ e P1, Dg (e + 1) (ofL ys) ∧ IsN zs P1 ∧ ofL xs = Pol.mul P1 (ofL ys)) ∨ (b = false ∧ zs = [] ∧ Dg 0 (ofL ys)) ∨ (b = false ∧ zs = [] ∧ ∃ e P1 P2 l1 l2, Dg (e + 1) (ofL ys) ∧ IsN l1 P1 ∧ IsN l2 P2 ∧ P2 ≠ Pol.zero ∧ Pol.Bd e P2 ∧ ofL xs = Pol.add (Pol.mul P1 (ofL ys)) P2)
theorem IsEx.byt {xs ys zs : List Nat} {b : Bool} (h : IsEx xs ys zs b) : Byt zs := by
  rcases h with ⟨_, e, P1, _, h1, _⟩ | ⟨_, rfl, _⟩ | ⟨_, rfl, _⟩
  · exact h1.byt
  · exact Pol.byt_nil
  · exact Pol.byt_nil
/-- Made monic. -/
def IsMo (xs zs : List Nat) : Prop := (Dg 0 (ofL xs) ∧ zs = []) ∨ ∃ e, Dg (e + 1) (ofL xs) ∧ IsN zs (Pol.smul (GF.inv (ofL xs e)) (ofL xs))
theorem IsMo.byt {xs zs : List Nat} (h : IsMo xs zs) : Byt zs := by
  rcases h with ⟨_, rfl⟩ | ⟨_, _, h⟩
  · exact Pol.byt_nil
  · exact h.byt
/-- The greatest that divides both. -/
def IsGc (xs ys zs : List Nat) : Prop := (Dg 0 (ofL xs) ∧ Dg 0 (ofL ys) ∧ zs = []) ∨ ∃ e g, IsN zs g ∧ Mon e g ∧ Pol.IsGcd g (ofL xs) (ofL ys) ∧ (ofL xs ≠ Pol.zero ∨ ofL ys ≠ Pol.zero)
theorem IsGc.byt {xs ys zs : List Nat} (h : IsGc xs ys zs) : Byt zs := by
  rcases h with ⟨_, _, rfl⟩ | ⟨_, _, h, _⟩
  · exact Pol.byt_nil
  · exact h.byt
end Go.Proofs
