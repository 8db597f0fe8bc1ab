/-
  No cell of these rows narrows 'for every input' (looked for: loops, veiled, ifaces, maps, wideKeys, modest, calm, conditions, laid).
  DERIVED. THE GIVEN ROWS OF THIS SEAT. 7 by the template 'for every input the law returns true; each argument reads behind the call as it read before'; 0 by the template 'total and deterministic' (their statements: YtnphdldcfdpflaaGreatTotals.lean).
  GIVEN WITH THE SEED: the statements are not yours to turn. If you find one false, say at which input.
  Laid BY PROGRAM, IN A SANDBOX (cutbox-rows.mjs): the forced cells as the released guide's own fill.sh prints them over the translation a721a6772c06a1bd… (all of the seat's roots in one cut). By AI agents, Wed Nov 11 2026. No macro, syntax, notation, axiom, sorry.
-/
import Derived.Test.YtnphdldcfdpflaaGreatChecked
import GoSem.Claim
import GoSem.ClaimJoined
import GoSem.ClaimMapViews
import Derived.JoinedTies
import Derived.KernelRfl
namespace Go.Proofs.YtnphdldcfdpflaaGreat
/- THE CELL 'sum', in the pinned program and in every row, IS THE sha256 OF THE DUMP (.gsa) THAT YtnphdldcfdpflaaGreatProg.lean LOADS. Nothing in Lean hashes anything: it is a label: what it is worth is what the hold of that sum in a sandbox is worth. -/
noncomputable def Tryz.pinned : Pinned := { name := "ytnphdldcfdpflaagreat", sum := "a721a6772c06a1bdbccc8d6b250ed00eda34c6c24ffb79a38da9e2a32406657b", checked := Tryz.checked }
namespace Rows
def none {H : Type} : Left H := { results := [], args := [] }

/-- 'erratumlaw09.GaussAsks': WHATEVER THE INPUT: true; the input reads as it did. -/
def gaussAsksSpec : ChangeSpec := { name := "gaussAsks", fn := fun _ => fun
  | [d1, d2, d3, d4, d5, d6, d7] => { results := [.lit (.bool true)], args := [d1, d2, d3, d4, d5, d6, d7] }
  | _ => none }
def gaussAsksRow : OpenClaim := { program := "ytnphdldcfdpflaagreat", sum := "a721a6772c06a1bdbccc8d6b250ed00eda34c6c24ffb79a38da9e2a32406657b", func := "erratum/erratumlaw09.GaussAsks", spec := "gaussAsks", unfollowed := true, recurses := true, apart := false }
def GaussAsksSaid : Prop := gaussAsksRow.holds Tryz.pinned (OpenSpec.ofChange gaussAsksSpec)

/-- ITS FALSE NEIGHBOUR: 'it returns false'. Refute it at one input. -/
def gaussAsksWrong : ChangeSpec := { name := "gaussAsks", fn := fun _ => fun
  | [d1, d2, d3, d4, d5, d6, d7] => { results := [.lit (.bool false)], args := [d1, d2, d3, d4, d5, d6, d7] }
  | _ => none }
def GaussAsksWrongFalsely : Prop := gaussAsksRow.holds Tryz.pinned (OpenSpec.ofChange gaussAsksWrong)

/-- 'erratumlaw09.GaussSolves': WHATEVER THE INPUT: true; the input reads as it did. -/
def gaussSolvesSpec : ChangeSpec := { name := "gaussSolves", fn := fun _ => fun
  | [d1, d2, d3, d4, d5, d6, d7] => { results := [.lit (.bool true)], args := [d1, d2, d3, d4, d5, d6, d7] }
  | _ => none }
def gaussSolvesRow : OpenClaim := { program := "ytnphdldcfdpflaagreat", sum := "a721a6772c06a1bdbccc8d6b250ed00eda34c6c24ffb79a38da9e2a32406657b", func := "erratum/erratumlaw09.GaussSolves", spec := "gaussSolves", unfollowed := true, recurses := true, apart := false }
def GaussSolvesSaid : Prop := gaussSolvesRow.holds Tryz.pinned (OpenSpec.ofChange gaussSolvesSpec)

/-- ITS FALSE NEIGHBOUR: 'it returns false'. Refute it at one input. -/
def gaussSolvesWrong : ChangeSpec := { name := "gaussSolves", fn := fun _ => fun
  | [d1, d2, d3, d4, d5, d6, d7] => { results := [.lit (.bool false)], args := [d1, d2, d3, d4, d5, d6, d7] }
  | _ => none }
def GaussSolvesWrongFalsely : Prop := gaussSolvesRow.holds Tryz.pinned (OpenSpec.ofChange gaussSolvesWrong)

/-- 'erratumlaw09.GaussNull': WHATEVER THE INPUT: true; the input reads as it did. -/
def gaussNullSpec : ChangeSpec := { name := "gaussNull", fn := fun _ => fun
  | [d1, d2, d3, d4, d5, d6] => { results := [.lit (.bool true)], args := [d1, d2, d3, d4, d5, d6] }
  | _ => none }
def gaussNullRow : OpenClaim := { program := "ytnphdldcfdpflaagreat", sum := "a721a6772c06a1bdbccc8d6b250ed00eda34c6c24ffb79a38da9e2a32406657b", func := "erratum/erratumlaw09.GaussNull", spec := "gaussNull", unfollowed := true, recurses := true, apart := false }
def GaussNullSaid : Prop := gaussNullRow.holds Tryz.pinned (OpenSpec.ofChange gaussNullSpec)

/-- ITS FALSE NEIGHBOUR: 'it returns false'. Refute it at one input. -/
def gaussNullWrong : ChangeSpec := { name := "gaussNull", fn := fun _ => fun
  | [d1, d2, d3, d4, d5, d6] => { results := [.lit (.bool false)], args := [d1, d2, d3, d4, d5, d6] }
  | _ => none }
def GaussNullWrongFalsely : Prop := gaussNullRow.holds Tryz.pinned (OpenSpec.ofChange gaussNullWrong)

/-- 'erratumlaw09.GaussInverse': WHATEVER THE INPUT: true; the input reads as it did. -/
def gaussInverseSpec : ChangeSpec := { name := "gaussInverse", fn := fun _ => fun
  | [d1, d2, d3, d4] => { results := [.lit (.bool true)], args := [d1, d2, d3, d4] }
  | _ => none }
def gaussInverseRow : OpenClaim := { program := "ytnphdldcfdpflaagreat", sum := "a721a6772c06a1bdbccc8d6b250ed00eda34c6c24ffb79a38da9e2a32406657b", func := "erratum/erratumlaw09.GaussInverse", spec := "gaussInverse", unfollowed := true, recurses := true, apart := false }
def GaussInverseSaid : Prop := gaussInverseRow.holds Tryz.pinned (OpenSpec.ofChange gaussInverseSpec)

/-- ITS FALSE NEIGHBOUR: 'it returns false'. Refute it at one input. -/
def gaussInverseWrong : ChangeSpec := { name := "gaussInverse", fn := fun _ => fun
  | [d1, d2, d3, d4] => { results := [.lit (.bool false)], args := [d1, d2, d3, d4] }
  | _ => none }
def GaussInverseWrongFalsely : Prop := gaussInverseRow.holds Tryz.pinned (OpenSpec.ofChange gaussInverseWrong)

/-- 'erratumlaw09.GaussEchelon': WHATEVER THE INPUT: true; the input reads as it did. -/
def gaussEchelonSpec : ChangeSpec := { name := "gaussEchelon", fn := fun _ => fun
  | [d1, d2, d3, d4, d5, d6, d7, d8] => { results := [.lit (.bool true)], args := [d1, d2, d3, d4, d5, d6, d7, d8] }
  | _ => none }
def gaussEchelonRow : OpenClaim := { program := "ytnphdldcfdpflaagreat", sum := "a721a6772c06a1bdbccc8d6b250ed00eda34c6c24ffb79a38da9e2a32406657b", func := "erratum/erratumlaw09.GaussEchelon", spec := "gaussEchelon", unfollowed := true, recurses := true, apart := false }
def GaussEchelonSaid : Prop := gaussEchelonRow.holds Tryz.pinned (OpenSpec.ofChange gaussEchelonSpec)

/-- ITS FALSE NEIGHBOUR: 'it returns false'. Refute it at one input. -/
def gaussEchelonWrong : ChangeSpec := { name := "gaussEchelon", fn := fun _ => fun
  | [d1, d2, d3, d4, d5, d6, d7, d8] => { results := [.lit (.bool false)], args := [d1, d2, d3, d4, d5, d6, d7, d8] }
  | _ => none }
def GaussEchelonWrongFalsely : Prop := gaussEchelonRow.holds Tryz.pinned (OpenSpec.ofChange gaussEchelonWrong)

/-- 'erratumlaw09.GaussNone': WHATEVER THE INPUT: true; the input reads as it did. -/
def gaussNoneSpec : ChangeSpec := { name := "gaussNone", fn := fun _ => fun
  | [d1, d2, d3, d4, d5] => { results := [.lit (.bool true)], args := [d1, d2, d3, d4, d5] }
  | _ => none }
def gaussNoneRow : OpenClaim := { program := "ytnphdldcfdpflaagreat", sum := "a721a6772c06a1bdbccc8d6b250ed00eda34c6c24ffb79a38da9e2a32406657b", func := "erratum/erratumlaw09.GaussNone", spec := "gaussNone", unfollowed := true, recurses := true, apart := false }
def GaussNoneSaid : Prop := gaussNoneRow.holds Tryz.pinned (OpenSpec.ofChange gaussNoneSpec)

/-- ITS FALSE NEIGHBOUR: 'it returns false'. Refute it at one input. -/
def gaussNoneWrong : ChangeSpec := { name := "gaussNone", fn := fun _ => fun
  | [d1, d2, d3, d4, d5] => { results := [.lit (.bool false)], args := [d1, d2, d3, d4, d5] }
  | _ => none }
def GaussNoneWrongFalsely : Prop := gaussNoneRow.holds Tryz.pinned (OpenSpec.ofChange gaussNoneWrong)

/-- 'erratumlaw09.GaussRank': WHATEVER THE INPUT: true; the input reads as it did. -/
def gaussRankSpec : ChangeSpec := { name := "gaussRank", fn := fun _ => fun
  | [d1, d2, d3, d4, d5, d6, d7, d8] => { results := [.lit (.bool true)], args := [d1, d2, d3, d4, d5, d6, d7, d8] }
  | _ => none }
def gaussRankRow : OpenClaim := { program := "ytnphdldcfdpflaagreat", sum := "a721a6772c06a1bdbccc8d6b250ed00eda34c6c24ffb79a38da9e2a32406657b", func := "erratum/erratumlaw09.GaussRank", spec := "gaussRank", unfollowed := true, recurses := true, apart := false }
def GaussRankSaid : Prop := gaussRankRow.holds Tryz.pinned (OpenSpec.ofChange gaussRankSpec)

/-- ITS FALSE NEIGHBOUR: 'it returns false'. Refute it at one input. -/
def gaussRankWrong : ChangeSpec := { name := "gaussRank", fn := fun _ => fun
  | [d1, d2, d3, d4, d5, d6, d7, d8] => { results := [.lit (.bool false)], args := [d1, d2, d3, d4, d5, d6, d7, d8] }
  | _ => none }
def GaussRankWrongFalsely : Prop := gaussRankRow.holds Tryz.pinned (OpenSpec.ofChange gaussRankWrong)

/- THE SECOND FORM. 'bulk': how many values and letters a reading holds, each counted each time it is reached (what is shared counts as often as it is met; a slice's spare places count too). A statement '..UptoSaid' is the law's where the arguments, and the package variables that the reading takes, are together of bulk at most 1048576: NARROWER than '..Said'. Prove '..Said' where nothing that the law and all that it calls make is longer than what came in: it says more and counts as full. Else prove '..UptoSaid'. A law counts once. -/
mutual
def uptoBulk {H : Type} : DataW H → Nat
  | .lit (.string bytes) => bytes.length + 1
  | .lit _ => 1
  | .nil => 1
  | .ptr d => uptoBulk d + 1
  | .slice elems spare => uptoBulkAll elems + uptoBulkAll spare + 1
  | .agg parts => uptoBulkAll parts + 1
  | .iface _ d => uptoBulk d + 1
  | .map entries => uptoBulkEntries entries + 1
  | .held _ => 1
def uptoBulkAll {H : Type} : List (DataW H) → Nat
  | [] => 0
  | d :: r => uptoBulk d + uptoBulkAll r
def uptoBulkEntries {H : Type} : List (Lit × DataW H) → Nat
  | [] => 0
  | x :: r => uptoBulkEntry x + uptoBulkEntries r
def uptoBulkEntry {H : Type} : Lit × DataW H → Nat
  | (.string bytes, d) => bytes.length + uptoBulk d + 1
  | (_, d) => uptoBulk d + 1
 end
def uptoSmall : (H : Type) → List (DataW H) → Bool := fun _ ds => decide (uptoBulkAll ds ≤ 1048576)
def OpenSpec.upto (s : _root_.Go.ChangeSpec) : _root_.Go.OpenSpec := { _root_.Go.OpenSpec.ofChange s with cond := some uptoSmall }

/-- 'erratumlaw09.GaussAsks', WHERE WHAT IT READS IS OF BULK AT MOST 1048576: true; the input reads as it did. -/
def gaussAsksUptoRow : OpenClaim := { program := "ytnphdldcfdpflaagreat", sum := "a721a6772c06a1bdbccc8d6b250ed00eda34c6c24ffb79a38da9e2a32406657b", func := "erratum/erratumlaw09.GaussAsks", spec := "gaussAsks", unfollowed := true, recurses := true, apart := false, narrowed := true }
def GaussAsksUptoSaid : Prop := gaussAsksUptoRow.holds Tryz.pinned (OpenSpec.upto gaussAsksSpec)

/-- 'erratumlaw09.GaussSolves', WHERE WHAT IT READS IS OF BULK AT MOST 1048576: true; the input reads as it did. -/
def gaussSolvesUptoRow : OpenClaim := { program := "ytnphdldcfdpflaagreat", sum := "a721a6772c06a1bdbccc8d6b250ed00eda34c6c24ffb79a38da9e2a32406657b", func := "erratum/erratumlaw09.GaussSolves", spec := "gaussSolves", unfollowed := true, recurses := true, apart := false, narrowed := true }
def GaussSolvesUptoSaid : Prop := gaussSolvesUptoRow.holds Tryz.pinned (OpenSpec.upto gaussSolvesSpec)

/-- 'erratumlaw09.GaussNull', WHERE WHAT IT READS IS OF BULK AT MOST 1048576: true; the input reads as it did. -/
def gaussNullUptoRow : OpenClaim := { program := "ytnphdldcfdpflaagreat", sum := "a721a6772c06a1bdbccc8d6b250ed00eda34c6c24ffb79a38da9e2a32406657b", func := "erratum/erratumlaw09.GaussNull", spec := "gaussNull", unfollowed := true, recurses := true, apart := false, narrowed := true }
def GaussNullUptoSaid : Prop := gaussNullUptoRow.holds Tryz.pinned (OpenSpec.upto gaussNullSpec)

/-- 'erratumlaw09.GaussInverse', WHERE WHAT IT READS IS OF BULK AT MOST 1048576: true; the input reads as it did. -/
def gaussInverseUptoRow : OpenClaim := { program := "ytnphdldcfdpflaagreat", sum := "a721a6772c06a1bdbccc8d6b250ed00eda34c6c24ffb79a38da9e2a32406657b", func := "erratum/erratumlaw09.GaussInverse", spec := "gaussInverse", unfollowed := true, recurses := true, apart := false, narrowed := true }
def GaussInverseUptoSaid : Prop := gaussInverseUptoRow.holds Tryz.pinned (OpenSpec.upto gaussInverseSpec)

/-- 'erratumlaw09.GaussEchelon', WHERE WHAT IT READS IS OF BULK AT MOST 1048576: true; the input reads as it did. -/
def gaussEchelonUptoRow : OpenClaim := { program := "ytnphdldcfdpflaagreat", sum := "a721a6772c06a1bdbccc8d6b250ed00eda34c6c24ffb79a38da9e2a32406657b", func := "erratum/erratumlaw09.GaussEchelon", spec := "gaussEchelon", unfollowed := true, recurses := true, apart := false, narrowed := true }
def GaussEchelonUptoSaid : Prop := gaussEchelonUptoRow.holds Tryz.pinned (OpenSpec.upto gaussEchelonSpec)

/-- 'erratumlaw09.GaussNone', WHERE WHAT IT READS IS OF BULK AT MOST 1048576: true; the input reads as it did. -/
def gaussNoneUptoRow : OpenClaim := { program := "ytnphdldcfdpflaagreat", sum := "a721a6772c06a1bdbccc8d6b250ed00eda34c6c24ffb79a38da9e2a32406657b", func := "erratum/erratumlaw09.GaussNone", spec := "gaussNone", unfollowed := true, recurses := true, apart := false, narrowed := true }
def GaussNoneUptoSaid : Prop := gaussNoneUptoRow.holds Tryz.pinned (OpenSpec.upto gaussNoneSpec)

/-- 'erratumlaw09.GaussRank', WHERE WHAT IT READS IS OF BULK AT MOST 1048576: true; the input reads as it did. -/
def gaussRankUptoRow : OpenClaim := { program := "ytnphdldcfdpflaagreat", sum := "a721a6772c06a1bdbccc8d6b250ed00eda34c6c24ffb79a38da9e2a32406657b", func := "erratum/erratumlaw09.GaussRank", spec := "gaussRank", unfollowed := true, recurses := true, apart := false, narrowed := true }
def GaussRankUptoSaid : Prop := gaussRankUptoRow.holds Tryz.pinned (OpenSpec.upto gaussRankSpec)

end Rows
end Go.Proofs.YtnphdldcfdpflaaGreat
