/-
  No cell of these rows narrows 'for every input' (looked for: loops, veiled, ifaces, maps, wideKeys, modest, calm, conditions, laid).
  DERIVED. THE GIVEN ROWS OF THIS SEAT. 3 by the template 'for every input the law returns true; each argument reads behind the call as it read before'; 0 by the template 'total and deterministic' (their statements: YthnlcdfonbnjcaaTotals.lean).
  GIVEN WITH THE SEED: the statements are not yours to turn. If you find one false, say at which input.
  Laid BY PROGRAM, IN A SANDBOX (cutbox-rows.mjs): the forced cells as the released guide's own fill.sh prints them over the translation bc94eae56099a133… (all of the seat's roots in one cut). By AI agents, Wed Nov 11 2026. No macro, syntax, notation, axiom, sorry.
-/
import Derived.Test.YthnlcdfonbnjcaaChecked
import GoSem.Claim
import GoSem.ClaimJoined
import GoSem.ClaimMapViews
import Derived.JoinedTies
import Derived.KernelRfl
namespace Go.Proofs.Ythnlcdfonbnjcaa
/- THE CELL 'sum', in the pinned program and in every row, IS THE sha256 OF THE DUMP (.gsa) THAT YthnlcdfonbnjcaaProg.lean LOADS. Nothing in Lean hashes anything: it is a label: what it is worth is what the hold of that sum in a sandbox is worth. -/
noncomputable def Try.pinned : Pinned := { name := "ythnlcdfonbnjcaa", sum := "bc94eae56099a133bef4f6b18968c6352d31f45277cba9c5ad27738237b1ca0d", checked := Try.checked }
namespace Rows
def none {H : Type} : Left H := { results := [], args := [] }

/-- 'erratumlaw15.EuclidRest': WHATEVER THE INPUT: true; the input reads as it did. -/
def euclidRestSpec : ChangeSpec := { name := "euclidRest", fn := fun _ => fun
  | [d1, d2, d3, d4] => { results := [.lit (.bool true)], args := [d1, d2, d3, d4] }
  | _ => none }
def euclidRestRow : OpenClaim := { program := "ythnlcdfonbnjcaa", sum := "bc94eae56099a133bef4f6b18968c6352d31f45277cba9c5ad27738237b1ca0d", func := "erratum/erratumlaw15.EuclidRest", spec := "euclidRest", unfollowed := true, recurses := true, apart := false }
def EuclidRestSaid : Prop := euclidRestRow.holds Try.pinned (OpenSpec.ofChange euclidRestSpec)

/-- ITS FALSE NEIGHBOUR: 'it returns false'. Refute it at one input. -/
def euclidRestWrong : ChangeSpec := { name := "euclidRest", fn := fun _ => fun
  | [d1, d2, d3, d4] => { results := [.lit (.bool false)], args := [d1, d2, d3, d4] }
  | _ => none }
def EuclidRestWrongFalsely : Prop := euclidRestRow.holds Try.pinned (OpenSpec.ofChange euclidRestWrong)

/-- 'erratumlaw15.EuclidEnds': WHATEVER THE INPUT: true; the input reads as it did. -/
def euclidEndsSpec : ChangeSpec := { name := "euclidEnds", fn := fun _ => fun
  | [d1, d2, d3, d4, d5] => { results := [.lit (.bool true)], args := [d1, d2, d3, d4, d5] }
  | _ => none }
def euclidEndsRow : OpenClaim := { program := "ythnlcdfonbnjcaa", sum := "bc94eae56099a133bef4f6b18968c6352d31f45277cba9c5ad27738237b1ca0d", func := "erratum/erratumlaw15.EuclidEnds", spec := "euclidEnds", unfollowed := true, recurses := true, apart := false }
def EuclidEndsSaid : Prop := euclidEndsRow.holds Try.pinned (OpenSpec.ofChange euclidEndsSpec)

/-- ITS FALSE NEIGHBOUR: 'it returns false'. Refute it at one input. -/
def euclidEndsWrong : ChangeSpec := { name := "euclidEnds", fn := fun _ => fun
  | [d1, d2, d3, d4, d5] => { results := [.lit (.bool false)], args := [d1, d2, d3, d4, d5] }
  | _ => none }
def EuclidEndsWrongFalsely : Prop := euclidEndsRow.holds Try.pinned (OpenSpec.ofChange euclidEndsWrong)

/-- 'erratumlaw15.EuclidScaled': WHATEVER THE INPUT: true; the input reads as it did. -/
def euclidScaledSpec : ChangeSpec := { name := "euclidScaled", fn := fun _ => fun
  | [d1, d2, d3, d4, d5] => { results := [.lit (.bool true)], args := [d1, d2, d3, d4, d5] }
  | _ => none }
def euclidScaledRow : OpenClaim := { program := "ythnlcdfonbnjcaa", sum := "bc94eae56099a133bef4f6b18968c6352d31f45277cba9c5ad27738237b1ca0d", func := "erratum/erratumlaw15.EuclidScaled", spec := "euclidScaled", unfollowed := true, recurses := true, apart := false }
def EuclidScaledSaid : Prop := euclidScaledRow.holds Try.pinned (OpenSpec.ofChange euclidScaledSpec)

/-- ITS FALSE NEIGHBOUR: 'it returns false'. Refute it at one input. -/
def euclidScaledWrong : ChangeSpec := { name := "euclidScaled", fn := fun _ => fun
  | [d1, d2, d3, d4, d5] => { results := [.lit (.bool false)], args := [d1, d2, d3, d4, d5] }
  | _ => none }
def EuclidScaledWrongFalsely : Prop := euclidScaledRow.holds Try.pinned (OpenSpec.ofChange euclidScaledWrong)

/- THE SECOND FORM. 'bulk': how many values and letters a reading holds, each counted each time it is reached (what is shared counts as often as it is met; a slice's spare places count too). A statement '..UptoSaid' is the law's where the arguments, and the package variables that the reading takes, are together of bulk at most 1048576: NARROWER than '..Said'. Prove '..Said' where nothing that the law and all that it calls make is longer than what came in: it says more and counts as full. Else prove '..UptoSaid'. A law counts once. -/
mutual
def uptoBulk {H : Type} : DataW H → Nat
  | .lit (.string bytes) => bytes.length + 1
  | .lit _ => 1
  | .nil => 1
  | .ptr d => uptoBulk d + 1
  | .slice elems spare => uptoBulkAll elems + uptoBulkAll spare + 1
  | .agg parts => uptoBulkAll parts + 1
  | .iface _ d => uptoBulk d + 1
  | .map entries => uptoBulkEntries entries + 1
  | .held _ => 1
def uptoBulkAll {H : Type} : List (DataW H) → Nat
  | [] => 0
  | d :: r => uptoBulk d + uptoBulkAll r
def uptoBulkEntries {H : Type} : List (Lit × DataW H) → Nat
  | [] => 0
  | x :: r => uptoBulkEntry x + uptoBulkEntries r
def uptoBulkEntry {H : Type} : Lit × DataW H → Nat
  | (.string bytes, d) => bytes.length + uptoBulk d + 1
  | (_, d) => uptoBulk d + 1
 end
def uptoSmall : (H : Type) → List (DataW H) → Bool := fun _ ds => decide (uptoBulkAll ds ≤ 1048576)
def OpenSpec.upto (s : _root_.Go.ChangeSpec) : _root_.Go.OpenSpec := { _root_.Go.OpenSpec.ofChange s with cond := some uptoSmall }

/-- 'erratumlaw15.EuclidRest', WHERE WHAT IT READS IS OF BULK AT MOST 1048576: true; the input reads as it did. -/
def euclidRestUptoRow : OpenClaim := { program := "ythnlcdfonbnjcaa", sum := "bc94eae56099a133bef4f6b18968c6352d31f45277cba9c5ad27738237b1ca0d", func := "erratum/erratumlaw15.EuclidRest", spec := "euclidRest", unfollowed := true, recurses := true, apart := false, narrowed := true }
def EuclidRestUptoSaid : Prop := euclidRestUptoRow.holds Try.pinned (OpenSpec.upto euclidRestSpec)

/-- 'erratumlaw15.EuclidEnds', WHERE WHAT IT READS IS OF BULK AT MOST 1048576: true; the input reads as it did. -/
def euclidEndsUptoRow : OpenClaim := { program := "ythnlcdfonbnjcaa", sum := "bc94eae56099a133bef4f6b18968c6352d31f45277cba9c5ad27738237b1ca0d", func := "erratum/erratumlaw15.EuclidEnds", spec := "euclidEnds", unfollowed := true, recurses := true, apart := false, narrowed := true }
def EuclidEndsUptoSaid : Prop := euclidEndsUptoRow.holds Try.pinned (OpenSpec.upto euclidEndsSpec)

/-- 'erratumlaw15.EuclidScaled', WHERE WHAT IT READS IS OF BULK AT MOST 1048576: true; the input reads as it did. -/
def euclidScaledUptoRow : OpenClaim := { program := "ythnlcdfonbnjcaa", sum := "bc94eae56099a133bef4f6b18968c6352d31f45277cba9c5ad27738237b1ca0d", func := "erratum/erratumlaw15.EuclidScaled", spec := "euclidScaled", unfollowed := true, recurses := true, apart := false, narrowed := true }
def EuclidScaledUptoSaid : Prop := euclidScaledUptoRow.holds Try.pinned (OpenSpec.upto euclidScaledSpec)

end Rows
end Go.Proofs.Ythnlcdfonbnjcaa
