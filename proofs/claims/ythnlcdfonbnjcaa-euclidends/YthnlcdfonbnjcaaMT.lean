/- Texts laid together: Ref06, Ref06b. Each says its own conditions. -/
import Derived.BigQuiet
import Derived.Test.YthnlcdfonbnjcaaMS
import Derived.Test.YthnlcdfonbnjcaaMA
import Derived.Test.YthnlcdfonbnjcaaMK
/- The walks of the document's answers of layer 6 (erratumref06): Div; and of erratumref05.Up. Conditions: lists of at most a million bytes, no longer than their capacities. -/
namespace Go.Proofs
open Go.RowKit Go.ChangeShapes Go.WideShapes
open Pol (IsN Dg ofL Byt)

section
attribute [local go_sem ↓ high] builtin_ap
attribute [local go_sem] ap_sem
end

theorem Bs.drewN {W : World} {q : Option Addr} {n : Nat} {xs : List Nat} (h : Bs W q n xs) (k : Nat) : Bs (W.drewN k) q n xs := h.below ⟨rfl, rfl, rfl, Nat.le_refl _, fun _ _ => rfl⟩
end Go.Proofs
/- The walks of the document's answers of layer 6 (erratumref06): Div by nothing, Mod, Exact, Monic, Gcd. Conditions: lists of at most a million bytes, no longer than their capacities. -/
namespace Go.Proofs
open Go.RowKit Go.ChangeShapes Go.WideShapes
open Pol (IsN Dg ofL Byt Mon)

/-- Between two steps. -/
structure HI (R : Nat) (w : World) (i : Nat) (v u : Value) (us vs zs : List Nat) (W : World) : Prop where
  ou : Ow W R v us
  ov : Ow W R u vs
  bu : Byt us
  bv : Byt vs
  lu : us.length ≤ 1000000
  lv : vs.length ≤ 1000000
  nv : IsN vs (ofL vs)
  gc : IsGc us vs zs
  len : vs.length = i
  below : Below R w W
theorem IsGc.step {us vs zs ls rs : List Nat} (h : IsGc us vs zs) (hD : IsDiv us vs ls rs true) : IsGc vs rs zs := by
  rcases hD with ⟨h, _⟩ | ⟨_, e, P1, P2, hd, h1, h2, h3, he⟩
  · cases h
  · rcases h with ⟨_, h, _⟩ | ⟨e', g, a1, a2, a3, a4⟩
    · exact absurd (hd.unique h) (by omega)
    · exact .inr ⟨e', g, a1, a2, by rw [h2.eq]; exact a3.back h1.dg.fin he, .inl hd.ne_zero⟩
theorem IsGc.last {us zs : List Nat} (h : IsGc us [] zs) : IsMo us zs := by
  rcases h with ⟨h, _, rfl⟩ | ⟨e, g, a1, a2, a3, a4⟩
  · exact .inl ⟨h, rfl⟩
  · obtain ⟨d, hd⟩ := (Pol.Fin.ofL us).dg
    rw [Pol.ofL_nil] at a3 a4
    cases d with
    | zero => exact absurd hd.eq_zero (a4.elim id (fun h => absurd rfl h))
    | succ d => exact .inr ⟨d, hd, by rw [Pol.monic_of_gcd a2 hd a3]; exact a1⟩
end Go.Proofs
