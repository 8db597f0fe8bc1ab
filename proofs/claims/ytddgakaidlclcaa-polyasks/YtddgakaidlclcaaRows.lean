/-
  No cell of these rows narrows 'for every input' (looked for: loops, veiled, ifaces, maps, wideKeys, modest, calm, conditions, laid).
  DERIVED. THE GIVEN ROWS OF THIS SEAT. 6 by the template 'for every input the law returns true; each argument reads behind the call as it read before'; 0 by the template 'total and deterministic' (their statements: YtddgakaidlclcaaTotals.lean).
  GIVEN WITH THE SEED: the statements are not yours to turn. If you find one false, say at which input.
  Laid BY PROGRAM, IN A SANDBOX (cutbox-rows.mjs): the forced cells as the released guide's own fill.sh prints them over the translation bb315ea128a6c568… (all of the seat's roots in one cut). By AI agents, Wed Nov 11 2026. No macro, syntax, notation, axiom, sorry.
-/
import Derived.Test.YtddgakaidlclcaaChecked
import GoSem.Claim
import GoSem.ClaimJoined
import GoSem.ClaimMapViews
import Derived.JoinedTies
import Derived.KernelRfl
namespace Go.Proofs.Ytddgakaidlclcaa
/- THE CELL 'sum', in the pinned program and in every row, IS THE sha256 OF THE DUMP (.gsa) THAT YtddgakaidlclcaaProg.lean LOADS. Nothing in Lean hashes anything: it is a label: what it is worth is what the hold of that sum in a sandbox is worth. -/
noncomputable def Try.pinned : Pinned := { name := "ytddgakaidlclcaa", sum := "bb315ea128a6c5688044a06e1985e0ec2c13c84e52e85d8013900c369ccabcb2", checked := Try.checked }
namespace Rows
def none {H : Type} : Left H := { results := [], args := [] }

/-- 'erratumlaw05.PolyAsks': WHATEVER THE INPUT: true; the input reads as it did. -/
def polyAsksSpec : ChangeSpec := { name := "polyAsks", fn := fun _ => fun
  | [d1, d2, d3, d4, d5, d6] => { results := [.lit (.bool true)], args := [d1, d2, d3, d4, d5, d6] }
  | _ => none }
def polyAsksRow : OpenClaim := { program := "ytddgakaidlclcaa", sum := "bb315ea128a6c5688044a06e1985e0ec2c13c84e52e85d8013900c369ccabcb2", func := "erratum/erratumlaw05.PolyAsks", spec := "polyAsks", unfollowed := true, recurses := true, apart := false }
def PolyAsksSaid : Prop := polyAsksRow.holds Try.pinned (OpenSpec.ofChange polyAsksSpec)

/-- ITS FALSE NEIGHBOUR: 'it returns false'. Refute it at one input. -/
def polyAsksWrong : ChangeSpec := { name := "polyAsks", fn := fun _ => fun
  | [d1, d2, d3, d4, d5, d6] => { results := [.lit (.bool false)], args := [d1, d2, d3, d4, d5, d6] }
  | _ => none }
def PolyAsksWrongFalsely : Prop := polyAsksRow.holds Try.pinned (OpenSpec.ofChange polyAsksWrong)

/-- 'erratumlaw05.PolyRing': WHATEVER THE INPUT: true; the input reads as it did. -/
def polyRingSpec : ChangeSpec := { name := "polyRing", fn := fun _ => fun
  | [d1, d2, d3, d4] => { results := [.lit (.bool true)], args := [d1, d2, d3, d4] }
  | _ => none }
def polyRingRow : OpenClaim := { program := "ytddgakaidlclcaa", sum := "bb315ea128a6c5688044a06e1985e0ec2c13c84e52e85d8013900c369ccabcb2", func := "erratum/erratumlaw05.PolyRing", spec := "polyRing", unfollowed := true, recurses := true, apart := false }
def PolyRingSaid : Prop := polyRingRow.holds Try.pinned (OpenSpec.ofChange polyRingSpec)

/-- ITS FALSE NEIGHBOUR: 'it returns false'. Refute it at one input. -/
def polyRingWrong : ChangeSpec := { name := "polyRing", fn := fun _ => fun
  | [d1, d2, d3, d4] => { results := [.lit (.bool false)], args := [d1, d2, d3, d4] }
  | _ => none }
def PolyRingWrongFalsely : Prop := polyRingRow.holds Try.pinned (OpenSpec.ofChange polyRingWrong)

/-- 'erratumlaw05.PolyNorm': WHATEVER THE INPUT: true; the input reads as it did. -/
def polyNormSpec : ChangeSpec := { name := "polyNorm", fn := fun _ => fun
  | [d1, d2] => { results := [.lit (.bool true)], args := [d1, d2] }
  | _ => none }
def polyNormRow : OpenClaim := { program := "ytddgakaidlclcaa", sum := "bb315ea128a6c5688044a06e1985e0ec2c13c84e52e85d8013900c369ccabcb2", func := "erratum/erratumlaw05.PolyNorm", spec := "polyNorm", unfollowed := true, recurses := true, apart := false }
def PolyNormSaid : Prop := polyNormRow.holds Try.pinned (OpenSpec.ofChange polyNormSpec)

/-- ITS FALSE NEIGHBOUR: 'it returns false'. Refute it at one input. -/
def polyNormWrong : ChangeSpec := { name := "polyNorm", fn := fun _ => fun
  | [d1, d2] => { results := [.lit (.bool false)], args := [d1, d2] }
  | _ => none }
def PolyNormWrongFalsely : Prop := polyNormRow.holds Try.pinned (OpenSpec.ofChange polyNormWrong)

/-- 'erratumlaw05.PolyShift': WHATEVER THE INPUT: true; the input reads as it did. -/
def polyShiftSpec : ChangeSpec := { name := "polyShift", fn := fun _ => fun
  | [d1, d2, d3] => { results := [.lit (.bool true)], args := [d1, d2, d3] }
  | _ => none }
def polyShiftRow : OpenClaim := { program := "ytddgakaidlclcaa", sum := "bb315ea128a6c5688044a06e1985e0ec2c13c84e52e85d8013900c369ccabcb2", func := "erratum/erratumlaw05.PolyShift", spec := "polyShift", unfollowed := true, recurses := true, apart := false }
def PolyShiftSaid : Prop := polyShiftRow.holds Try.pinned (OpenSpec.ofChange polyShiftSpec)

/-- ITS FALSE NEIGHBOUR: 'it returns false'. Refute it at one input. -/
def polyShiftWrong : ChangeSpec := { name := "polyShift", fn := fun _ => fun
  | [d1, d2, d3] => { results := [.lit (.bool false)], args := [d1, d2, d3] }
  | _ => none }
def PolyShiftWrongFalsely : Prop := polyShiftRow.holds Try.pinned (OpenSpec.ofChange polyShiftWrong)

/-- 'erratumlaw05.PolyScale': WHATEVER THE INPUT: true; the input reads as it did. -/
def polyScaleSpec : ChangeSpec := { name := "polyScale", fn := fun _ => fun
  | [d1, d2, d3, d4] => { results := [.lit (.bool true)], args := [d1, d2, d3, d4] }
  | _ => none }
def polyScaleRow : OpenClaim := { program := "ytddgakaidlclcaa", sum := "bb315ea128a6c5688044a06e1985e0ec2c13c84e52e85d8013900c369ccabcb2", func := "erratum/erratumlaw05.PolyScale", spec := "polyScale", unfollowed := true, recurses := true, apart := false }
def PolyScaleSaid : Prop := polyScaleRow.holds Try.pinned (OpenSpec.ofChange polyScaleSpec)

/-- ITS FALSE NEIGHBOUR: 'it returns false'. Refute it at one input. -/
def polyScaleWrong : ChangeSpec := { name := "polyScale", fn := fun _ => fun
  | [d1, d2, d3, d4] => { results := [.lit (.bool false)], args := [d1, d2, d3, d4] }
  | _ => none }
def PolyScaleWrongFalsely : Prop := polyScaleRow.holds Try.pinned (OpenSpec.ofChange polyScaleWrong)

/-- 'erratumlaw05.PolyFresh': WHATEVER THE INPUT: true; the input reads as it did. -/
def polyFreshSpec : ChangeSpec := { name := "polyFresh", fn := fun _ => fun
  | [d1, d2, d3] => { results := [.lit (.bool true)], args := [d1, d2, d3] }
  | _ => none }
def polyFreshRow : OpenClaim := { program := "ytddgakaidlclcaa", sum := "bb315ea128a6c5688044a06e1985e0ec2c13c84e52e85d8013900c369ccabcb2", func := "erratum/erratumlaw05.PolyFresh", spec := "polyFresh", unfollowed := true, recurses := true, apart := false }
def PolyFreshSaid : Prop := polyFreshRow.holds Try.pinned (OpenSpec.ofChange polyFreshSpec)

/-- ITS FALSE NEIGHBOUR: 'it returns false'. Refute it at one input. -/
def polyFreshWrong : ChangeSpec := { name := "polyFresh", fn := fun _ => fun
  | [d1, d2, d3] => { results := [.lit (.bool false)], args := [d1, d2, d3] }
  | _ => none }
def PolyFreshWrongFalsely : Prop := polyFreshRow.holds Try.pinned (OpenSpec.ofChange polyFreshWrong)

/- THE SECOND FORM. 'bulk': how many values and letters a reading holds, each counted each time it is reached (what is shared counts as often as it is met; a slice's spare places count too). A statement '..UptoSaid' is the law's where the arguments, and the package variables that the reading takes, are together of bulk at most 1048576: NARROWER than '..Said'. Prove '..Said' where nothing that the law and all that it calls make is longer than what came in: it says more and counts as full. Else prove '..UptoSaid'. A law counts once. -/
mutual
def uptoBulk {H : Type} : DataW H → Nat
  | .lit (.string bytes) => bytes.length + 1
  | .lit _ => 1
  | .nil => 1
  | .ptr d => uptoBulk d + 1
  | .slice elems spare => uptoBulkAll elems + uptoBulkAll spare + 1
  | .agg parts => uptoBulkAll parts + 1
  | .iface _ d => uptoBulk d + 1
  | .map entries => uptoBulkEntries entries + 1
  | .held _ => 1
def uptoBulkAll {H : Type} : List (DataW H) → Nat
  | [] => 0
  | d :: r => uptoBulk d + uptoBulkAll r
def uptoBulkEntries {H : Type} : List (Lit × DataW H) → Nat
  | [] => 0
  | x :: r => uptoBulkEntry x + uptoBulkEntries r
def uptoBulkEntry {H : Type} : Lit × DataW H → Nat
  | (.string bytes, d) => bytes.length + uptoBulk d + 1
  | (_, d) => uptoBulk d + 1
 end
def uptoSmall : (H : Type) → List (DataW H) → Bool := fun _ ds => decide (uptoBulkAll ds ≤ 1048576)
def OpenSpec.upto (s : _root_.Go.ChangeSpec) : _root_.Go.OpenSpec := { _root_.Go.OpenSpec.ofChange s with cond := some uptoSmall }

/-- 'erratumlaw05.PolyAsks', WHERE WHAT IT READS IS OF BULK AT MOST 1048576: true; the input reads as it did. -/
def polyAsksUptoRow : OpenClaim := { program := "ytddgakaidlclcaa", sum := "bb315ea128a6c5688044a06e1985e0ec2c13c84e52e85d8013900c369ccabcb2", func := "erratum/erratumlaw05.PolyAsks", spec := "polyAsks", unfollowed := true, recurses := true, apart := false, narrowed := true }
def PolyAsksUptoSaid : Prop := polyAsksUptoRow.holds Try.pinned (OpenSpec.upto polyAsksSpec)

/-- 'erratumlaw05.PolyRing', WHERE WHAT IT READS IS OF BULK AT MOST 1048576: true; the input reads as it did. -/
def polyRingUptoRow : OpenClaim := { program := "ytddgakaidlclcaa", sum := "bb315ea128a6c5688044a06e1985e0ec2c13c84e52e85d8013900c369ccabcb2", func := "erratum/erratumlaw05.PolyRing", spec := "polyRing", unfollowed := true, recurses := true, apart := false, narrowed := true }
def PolyRingUptoSaid : Prop := polyRingUptoRow.holds Try.pinned (OpenSpec.upto polyRingSpec)

/-- 'erratumlaw05.PolyNorm', WHERE WHAT IT READS IS OF BULK AT MOST 1048576: true; the input reads as it did. -/
def polyNormUptoRow : OpenClaim := { program := "ytddgakaidlclcaa", sum := "bb315ea128a6c5688044a06e1985e0ec2c13c84e52e85d8013900c369ccabcb2", func := "erratum/erratumlaw05.PolyNorm", spec := "polyNorm", unfollowed := true, recurses := true, apart := false, narrowed := true }
def PolyNormUptoSaid : Prop := polyNormUptoRow.holds Try.pinned (OpenSpec.upto polyNormSpec)

/-- 'erratumlaw05.PolyShift', WHERE WHAT IT READS IS OF BULK AT MOST 1048576: true; the input reads as it did. -/
def polyShiftUptoRow : OpenClaim := { program := "ytddgakaidlclcaa", sum := "bb315ea128a6c5688044a06e1985e0ec2c13c84e52e85d8013900c369ccabcb2", func := "erratum/erratumlaw05.PolyShift", spec := "polyShift", unfollowed := true, recurses := true, apart := false, narrowed := true }
def PolyShiftUptoSaid : Prop := polyShiftUptoRow.holds Try.pinned (OpenSpec.upto polyShiftSpec)

/-- 'erratumlaw05.PolyScale', WHERE WHAT IT READS IS OF BULK AT MOST 1048576: true; the input reads as it did. -/
def polyScaleUptoRow : OpenClaim := { program := "ytddgakaidlclcaa", sum := "bb315ea128a6c5688044a06e1985e0ec2c13c84e52e85d8013900c369ccabcb2", func := "erratum/erratumlaw05.PolyScale", spec := "polyScale", unfollowed := true, recurses := true, apart := false, narrowed := true }
def PolyScaleUptoSaid : Prop := polyScaleUptoRow.holds Try.pinned (OpenSpec.upto polyScaleSpec)

/-- 'erratumlaw05.PolyFresh', WHERE WHAT IT READS IS OF BULK AT MOST 1048576: true; the input reads as it did. -/
def polyFreshUptoRow : OpenClaim := { program := "ytddgakaidlclcaa", sum := "bb315ea128a6c5688044a06e1985e0ec2c13c84e52e85d8013900c369ccabcb2", func := "erratum/erratumlaw05.PolyFresh", spec := "polyFresh", unfollowed := true, recurses := true, apart := false, narrowed := true }
def PolyFreshUptoSaid : Prop := polyFreshUptoRow.holds Try.pinned (OpenSpec.upto polyFreshSpec)

end Rows
end Go.Proofs.Ytddgakaidlclcaa
