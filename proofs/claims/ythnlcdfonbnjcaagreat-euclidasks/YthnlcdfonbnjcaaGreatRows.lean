/-
  No cell of these rows narrows 'for every input' (looked for: loops, veiled, ifaces, maps, wideKeys, modest, calm, conditions, laid).
  DERIVED. THE GIVEN ROWS OF THIS SEAT. 3 by the template 'for every input the law returns true; each argument reads behind the call as it read before'; 0 by the template 'total and deterministic' (their statements: YthnlcdfonbnjcaaGreatTotals.lean).
  GIVEN WITH THE SEED: the statements are not yours to turn. If you find one false, say at which input.
  Laid BY PROGRAM, IN A SANDBOX (cutbox-rows.mjs): the forced cells as the released guide's own fill.sh prints them over the translation 7134b7e333a2b461… (all of the seat's roots in one cut). By AI agents, Wed Nov 11 2026. No macro, syntax, notation, axiom, sorry.
-/
import Derived.Test.YthnlcdfonbnjcaaGreatChecked
import GoSem.Claim
import GoSem.ClaimJoined
import GoSem.ClaimMapViews
import Derived.JoinedTies
import Derived.KernelRfl
namespace Go.Proofs.YthnlcdfonbnjcaaGreat
/- THE CELL 'sum', in the pinned program and in every row, IS THE sha256 OF THE DUMP (.gsa) THAT YthnlcdfonbnjcaaGreatProg.lean LOADS. Nothing in Lean hashes anything: it is a label: what it is worth is what the hold of that sum in a sandbox is worth. -/
noncomputable def Tryz.pinned : Pinned := { name := "ythnlcdfonbnjcaagreat", sum := "7134b7e333a2b461ecd677915f8e5107f49333561c4f02112f712405cd2d5bdf", checked := Tryz.checked }
namespace Rows
def none {H : Type} : Left H := { results := [], args := [] }

/-- 'erratumlaw15.EuclidAsks': WHATEVER THE INPUT: true; the input reads as it did. -/
def euclidAsksSpec : ChangeSpec := { name := "euclidAsks", fn := fun _ => fun
  | [d1, d2, d3, d4, d5, d6, d7, d8] => { results := [.lit (.bool true)], args := [d1, d2, d3, d4, d5, d6, d7, d8] }
  | _ => none }
def euclidAsksRow : OpenClaim := { program := "ythnlcdfonbnjcaagreat", sum := "7134b7e333a2b461ecd677915f8e5107f49333561c4f02112f712405cd2d5bdf", func := "erratum/erratumlaw15.EuclidAsks", spec := "euclidAsks", unfollowed := true, recurses := true, apart := false }
def EuclidAsksSaid : Prop := euclidAsksRow.holds Tryz.pinned (OpenSpec.ofChange euclidAsksSpec)

/-- ITS FALSE NEIGHBOUR: 'it returns false'. Refute it at one input. -/
def euclidAsksWrong : ChangeSpec := { name := "euclidAsks", fn := fun _ => fun
  | [d1, d2, d3, d4, d5, d6, d7, d8] => { results := [.lit (.bool false)], args := [d1, d2, d3, d4, d5, d6, d7, d8] }
  | _ => none }
def EuclidAsksWrongFalsely : Prop := euclidAsksRow.holds Tryz.pinned (OpenSpec.ofChange euclidAsksWrong)

/-- 'erratumlaw15.EuclidGcd': WHATEVER THE INPUT: true; the input reads as it did. -/
def euclidGcdSpec : ChangeSpec := { name := "euclidGcd", fn := fun _ => fun
  | [d1, d2, d3] => { results := [.lit (.bool true)], args := [d1, d2, d3] }
  | _ => none }
def euclidGcdRow : OpenClaim := { program := "ythnlcdfonbnjcaagreat", sum := "7134b7e333a2b461ecd677915f8e5107f49333561c4f02112f712405cd2d5bdf", func := "erratum/erratumlaw15.EuclidGcd", spec := "euclidGcd", unfollowed := true, recurses := true, apart := false }
def EuclidGcdSaid : Prop := euclidGcdRow.holds Tryz.pinned (OpenSpec.ofChange euclidGcdSpec)

/-- ITS FALSE NEIGHBOUR: 'it returns false'. Refute it at one input. -/
def euclidGcdWrong : ChangeSpec := { name := "euclidGcd", fn := fun _ => fun
  | [d1, d2, d3] => { results := [.lit (.bool false)], args := [d1, d2, d3] }
  | _ => none }
def EuclidGcdWrongFalsely : Prop := euclidGcdRow.holds Tryz.pinned (OpenSpec.ofChange euclidGcdWrong)

/-- 'erratumlaw15.EuclidKey': WHATEVER THE INPUT: true; the input reads as it did. -/
def euclidKeySpec : ChangeSpec := { name := "euclidKey", fn := fun _ => fun
  | [d1, d2, d3, d4] => { results := [.lit (.bool true)], args := [d1, d2, d3, d4] }
  | _ => none }
def euclidKeyRow : OpenClaim := { program := "ythnlcdfonbnjcaagreat", sum := "7134b7e333a2b461ecd677915f8e5107f49333561c4f02112f712405cd2d5bdf", func := "erratum/erratumlaw15.EuclidKey", spec := "euclidKey", unfollowed := true, recurses := true, apart := false }
def EuclidKeySaid : Prop := euclidKeyRow.holds Tryz.pinned (OpenSpec.ofChange euclidKeySpec)

/-- ITS FALSE NEIGHBOUR: 'it returns false'. Refute it at one input. -/
def euclidKeyWrong : ChangeSpec := { name := "euclidKey", fn := fun _ => fun
  | [d1, d2, d3, d4] => { results := [.lit (.bool false)], args := [d1, d2, d3, d4] }
  | _ => none }
def EuclidKeyWrongFalsely : Prop := euclidKeyRow.holds Tryz.pinned (OpenSpec.ofChange euclidKeyWrong)

/- THE SECOND FORM. 'bulk': how many values and letters a reading holds, each counted each time it is reached (what is shared counts as often as it is met; a slice's spare places count too). A statement '..UptoSaid' is the law's where the arguments, and the package variables that the reading takes, are together of bulk at most 1048576: NARROWER than '..Said'. Prove '..Said' where nothing that the law and all that it calls make is longer than what came in: it says more and counts as full. Else prove '..UptoSaid'. A law counts once. -/
mutual
def uptoBulk {H : Type} : DataW H → Nat
  | .lit (.string bytes) => bytes.length + 1
  | .lit _ => 1
  | .nil => 1
  | .ptr d => uptoBulk d + 1
  | .slice elems spare => uptoBulkAll elems + uptoBulkAll spare + 1
  | .agg parts => uptoBulkAll parts + 1
  | .iface _ d => uptoBulk d + 1
  | .map entries => uptoBulkEntries entries + 1
  | .held _ => 1
def uptoBulkAll {H : Type} : List (DataW H) → Nat
  | [] => 0
  | d :: r => uptoBulk d + uptoBulkAll r
def uptoBulkEntries {H : Type} : List (Lit × DataW H) → Nat
  | [] => 0
  | x :: r => uptoBulkEntry x + uptoBulkEntries r
def uptoBulkEntry {H : Type} : Lit × DataW H → Nat
  | (.string bytes, d) => bytes.length + uptoBulk d + 1
  | (_, d) => uptoBulk d + 1
 end
def uptoSmall : (H : Type) → List (DataW H) → Bool := fun _ ds => decide (uptoBulkAll ds ≤ 1048576)
def OpenSpec.upto (s : _root_.Go.ChangeSpec) : _root_.Go.OpenSpec := { _root_.Go.OpenSpec.ofChange s with cond := some uptoSmall }

/-- 'erratumlaw15.EuclidAsks', WHERE WHAT IT READS IS OF BULK AT MOST 1048576: true; the input reads as it did. -/
def euclidAsksUptoRow : OpenClaim := { program := "ythnlcdfonbnjcaagreat", sum := "7134b7e333a2b461ecd677915f8e5107f49333561c4f02112f712405cd2d5bdf", func := "erratum/erratumlaw15.EuclidAsks", spec := "euclidAsks", unfollowed := true, recurses := true, apart := false, narrowed := true }
def EuclidAsksUptoSaid : Prop := euclidAsksUptoRow.holds Tryz.pinned (OpenSpec.upto euclidAsksSpec)

/-- 'erratumlaw15.EuclidGcd', WHERE WHAT IT READS IS OF BULK AT MOST 1048576: true; the input reads as it did. -/
def euclidGcdUptoRow : OpenClaim := { program := "ythnlcdfonbnjcaagreat", sum := "7134b7e333a2b461ecd677915f8e5107f49333561c4f02112f712405cd2d5bdf", func := "erratum/erratumlaw15.EuclidGcd", spec := "euclidGcd", unfollowed := true, recurses := true, apart := false, narrowed := true }
def EuclidGcdUptoSaid : Prop := euclidGcdUptoRow.holds Tryz.pinned (OpenSpec.upto euclidGcdSpec)

/-- 'erratumlaw15.EuclidKey', WHERE WHAT IT READS IS OF BULK AT MOST 1048576: true; the input reads as it did. -/
def euclidKeyUptoRow : OpenClaim := { program := "ythnlcdfonbnjcaagreat", sum := "7134b7e333a2b461ecd677915f8e5107f49333561c4f02112f712405cd2d5bdf", func := "erratum/erratumlaw15.EuclidKey", spec := "euclidKey", unfollowed := true, recurses := true, apart := false, narrowed := true }
def EuclidKeyUptoSaid : Prop := euclidKeyUptoRow.holds Tryz.pinned (OpenSpec.upto euclidKeySpec)

end Rows
end Go.Proofs.YthnlcdfonbnjcaaGreat
