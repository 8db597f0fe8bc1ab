/- The walks of the document's answer of layer 15 (erratumref15): Run and Key. Conditions: lists of at most a thousand bytes. -/
import Derived.OwnWalk
import Derived.Test.YthnlcdfonbnjcaaNU
import Derived.Test.YthnlcdfonbnjcaaMT
import Derived.Test.YthnlcdfonbnjcaaMS
import Derived.Test.YthnlcdfonbnjcaaMG
import Derived.Test.YthnlcdfonbnjcaaMO
import Derived.Test.YthnlcdfonbnjcaaNA
namespace Go.Proofs
open Go.RowKit Go.ChangeShapes Go.WideShapes
open Pol (IsN Dg ofL Byt)
open Eu (Er Gr IsRun IsKey)

/-- Euclid's rows in memory, t steps gone. -/
structure Est (w W : World) (xs ys : List Nat) (k C N t : Nat) (ss vs : List Nat) (q1 q2 q3 q4 : Option Addr) (n1 c1 n2 c2 n3 c3 n4 c4 : Nat) (r s u v : List Nat) : Prop where
  er : Er k (ofL r) (ofL s) (ofL u) (ofL v) (N - t) (ofL ss) (ofL vs)
  gr : ∃ a b c d, Gr C (ofL r) (ofL s) (ofL u) (ofL v) a b c d
  nr : IsN r (ofL r)
  ns : IsN s (ofL s)
  nu : IsN u (ofL u)
  nv : IsN v (ofL v)
  br : Bs W q1 n1 r
  cr : n1 ≤ c1
  os : Ow W w.heap.size (.slice q2 n2 c2) s
  bs : Bs W q2 n2 s
  cs : n2 ≤ c2
  bu : Bs W q3 n3 u
  cu : n3 ≤ c3
  ov : Ow W w.heap.size (.slice q4 n4 c4) v
  bv : Bs W q4 n4 v
  cv : n4 ≤ c4
  bl : Below w.heap.size w W
theorem Est.sizes {w W : World} {xs ys : List Nat} {k C N t : Nat} {ss vs : List Nat} {q1 q2 q3 q4 : Option Addr} {n1 c1 n2 c2 n3 c3 n4 c4 : Nat} {r s u v : List Nat} (h : Est w W xs ys k C N t ss vs q1 q2 q3 q4 n1 c1 n2 c2 n3 c3 n4 c4 r s u v) : n1 ≤ C ∧ n2 ≤ C ∧ n3 ≤ C ∧ n4 ≤ C ∧ Dg n2 (ofL s) := by
  obtain ⟨a, b, c, d, g⟩ := h.gr
  have h1 := h.nr.len g.dr
  have h2 := h.ns.len g.ds
  have h3 := h.nu.dg.le g.bu
  have h4 := h.nv.dg.le g.bv
  have e1 := h.br.len
  have e2 := h.bs.len
  have e3 := h.bu.len
  have e4 := h.bv.len
  have g1 := g.vr
  have g2 := g.us
  have g3 := g.vs
  refine ⟨by omega, by omega, by omega, by omega, ?_⟩
  have := g.ds
  rw [← h2, e2] at this
  exact this

end Go.Proofs
