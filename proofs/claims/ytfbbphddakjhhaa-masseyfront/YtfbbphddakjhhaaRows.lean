/-
  No cell of these rows narrows 'for every input' (looked for: loops, veiled, ifaces, maps, wideKeys, modest, calm, conditions, laid).
  DERIVED. THE GIVEN ROWS OF THIS SEAT. 4 by the template 'for every input the law returns true; each argument reads behind the call as it read before'; 0 by the template 'total and deterministic' (their statements: YtfbbphddakjhhaaTotals.lean).
  GIVEN WITH THE SEED: the statements are not yours to turn. If you find one false, say at which input.
  Laid BY PROGRAM, IN A SANDBOX (cutbox-rows.mjs): the forced cells as the released guide's own fill.sh prints them over the translation 846748a78e93a453… (all of the seat's roots in one cut). By AI agents, Wed Nov 11 2026. No macro, syntax, notation, axiom, sorry.
-/
import Derived.Test.YtfbbphddakjhhaaChecked
import GoSem.Claim
import GoSem.ClaimJoined
import GoSem.ClaimMapViews
import Derived.JoinedTies
import Derived.KernelRfl
namespace Go.Proofs.Ytfbbphddakjhhaa
/- THE CELL 'sum', in the pinned program and in every row, IS THE sha256 OF THE DUMP (.gsa) THAT YtfbbphddakjhhaaProg.lean LOADS. Nothing in Lean hashes anything: it is a label: what it is worth is what the hold of that sum in a sandbox is worth. -/
noncomputable def Try.pinned : Pinned := { name := "ytfbbphddakjhhaa", sum := "846748a78e93a453c1b3bec97b09ce9b72267644ffb6a5040b9beac39bee886a", checked := Try.checked }
namespace Rows
def none {H : Type} : Left H := { results := [], args := [] }

/-- 'erratumlaw14.MasseyMade': WHATEVER THE INPUT: true; the input reads as it did. -/
def masseyMadeSpec : ChangeSpec := { name := "masseyMade", fn := fun _ => fun
  | [d1, d2, d3, d4] => { results := [.lit (.bool true)], args := [d1, d2, d3, d4] }
  | _ => none }
def masseyMadeRow : OpenClaim := { program := "ytfbbphddakjhhaa", sum := "846748a78e93a453c1b3bec97b09ce9b72267644ffb6a5040b9beac39bee886a", func := "erratum/erratumlaw14.MasseyMade", spec := "masseyMade", unfollowed := true, recurses := true, apart := false }
def MasseyMadeSaid : Prop := masseyMadeRow.holds Try.pinned (OpenSpec.ofChange masseyMadeSpec)

/-- ITS FALSE NEIGHBOUR: 'it returns false'. Refute it at one input. -/
def masseyMadeWrong : ChangeSpec := { name := "masseyMade", fn := fun _ => fun
  | [d1, d2, d3, d4] => { results := [.lit (.bool false)], args := [d1, d2, d3, d4] }
  | _ => none }
def MasseyMadeWrongFalsely : Prop := masseyMadeRow.holds Try.pinned (OpenSpec.ofChange masseyMadeWrong)

/-- 'erratumlaw14.MasseyFront': WHATEVER THE INPUT: true; the input reads as it did. -/
def masseyFrontSpec : ChangeSpec := { name := "masseyFront", fn := fun _ => fun
  | [d1, d2, d3] => { results := [.lit (.bool true)], args := [d1, d2, d3] }
  | _ => none }
def masseyFrontRow : OpenClaim := { program := "ytfbbphddakjhhaa", sum := "846748a78e93a453c1b3bec97b09ce9b72267644ffb6a5040b9beac39bee886a", func := "erratum/erratumlaw14.MasseyFront", spec := "masseyFront", unfollowed := true, recurses := true, apart := false }
def MasseyFrontSaid : Prop := masseyFrontRow.holds Try.pinned (OpenSpec.ofChange masseyFrontSpec)

/-- ITS FALSE NEIGHBOUR: 'it returns false'. Refute it at one input. -/
def masseyFrontWrong : ChangeSpec := { name := "masseyFront", fn := fun _ => fun
  | [d1, d2, d3] => { results := [.lit (.bool false)], args := [d1, d2, d3] }
  | _ => none }
def MasseyFrontWrongFalsely : Prop := masseyFrontRow.holds Try.pinned (OpenSpec.ofChange masseyFrontWrong)

/-- 'erratumlaw14.MasseyScaled': WHATEVER THE INPUT: true; the input reads as it did. -/
def masseyScaledSpec : ChangeSpec := { name := "masseyScaled", fn := fun _ => fun
  | [d1, d2, d3, d4] => { results := [.lit (.bool true)], args := [d1, d2, d3, d4] }
  | _ => none }
def masseyScaledRow : OpenClaim := { program := "ytfbbphddakjhhaa", sum := "846748a78e93a453c1b3bec97b09ce9b72267644ffb6a5040b9beac39bee886a", func := "erratum/erratumlaw14.MasseyScaled", spec := "masseyScaled", unfollowed := true, recurses := true, apart := false }
def MasseyScaledSaid : Prop := masseyScaledRow.holds Try.pinned (OpenSpec.ofChange masseyScaledSpec)

/-- ITS FALSE NEIGHBOUR: 'it returns false'. Refute it at one input. -/
def masseyScaledWrong : ChangeSpec := { name := "masseyScaled", fn := fun _ => fun
  | [d1, d2, d3, d4] => { results := [.lit (.bool false)], args := [d1, d2, d3, d4] }
  | _ => none }
def MasseyScaledWrongFalsely : Prop := masseyScaledRow.holds Try.pinned (OpenSpec.ofChange masseyScaledWrong)

/-- 'erratumlaw14.MasseySum': WHATEVER THE INPUT: true; the input reads as it did. -/
def masseySumSpec : ChangeSpec := { name := "masseySum", fn := fun _ => fun
  | [d1, d2, d3, d4, d5] => { results := [.lit (.bool true)], args := [d1, d2, d3, d4, d5] }
  | _ => none }
def masseySumRow : OpenClaim := { program := "ytfbbphddakjhhaa", sum := "846748a78e93a453c1b3bec97b09ce9b72267644ffb6a5040b9beac39bee886a", func := "erratum/erratumlaw14.MasseySum", spec := "masseySum", unfollowed := true, recurses := true, apart := false }
def MasseySumSaid : Prop := masseySumRow.holds Try.pinned (OpenSpec.ofChange masseySumSpec)

/-- ITS FALSE NEIGHBOUR: 'it returns false'. Refute it at one input. -/
def masseySumWrong : ChangeSpec := { name := "masseySum", fn := fun _ => fun
  | [d1, d2, d3, d4, d5] => { results := [.lit (.bool false)], args := [d1, d2, d3, d4, d5] }
  | _ => none }
def MasseySumWrongFalsely : Prop := masseySumRow.holds Try.pinned (OpenSpec.ofChange masseySumWrong)

/- THE SECOND FORM. 'bulk': how many values and letters a reading holds, each counted each time it is reached (what is shared counts as often as it is met; a slice's spare places count too). A statement '..UptoSaid' is the law's where the arguments, and the package variables that the reading takes, are together of bulk at most 1048576: NARROWER than '..Said'. Prove '..Said' where nothing that the law and all that it calls make is longer than what came in: it says more and counts as full. Else prove '..UptoSaid'. A law counts once. -/
mutual
def uptoBulk {H : Type} : DataW H → Nat
  | .lit (.string bytes) => bytes.length + 1
  | .lit _ => 1
  | .nil => 1
  | .ptr d => uptoBulk d + 1
  | .slice elems spare => uptoBulkAll elems + uptoBulkAll spare + 1
  | .agg parts => uptoBulkAll parts + 1
  | .iface _ d => uptoBulk d + 1
  | .map entries => uptoBulkEntries entries + 1
  | .held _ => 1
def uptoBulkAll {H : Type} : List (DataW H) → Nat
  | [] => 0
  | d :: r => uptoBulk d + uptoBulkAll r
def uptoBulkEntries {H : Type} : List (Lit × DataW H) → Nat
  | [] => 0
  | x :: r => uptoBulkEntry x + uptoBulkEntries r
def uptoBulkEntry {H : Type} : Lit × DataW H → Nat
  | (.string bytes, d) => bytes.length + uptoBulk d + 1
  | (_, d) => uptoBulk d + 1
 end
def uptoSmall : (H : Type) → List (DataW H) → Bool := fun _ ds => decide (uptoBulkAll ds ≤ 1048576)
def OpenSpec.upto (s : _root_.Go.ChangeSpec) : _root_.Go.OpenSpec := { _root_.Go.OpenSpec.ofChange s with cond := some uptoSmall }

/-- 'erratumlaw14.MasseyMade', WHERE WHAT IT READS IS OF BULK AT MOST 1048576: true; the input reads as it did. -/
def masseyMadeUptoRow : OpenClaim := { program := "ytfbbphddakjhhaa", sum := "846748a78e93a453c1b3bec97b09ce9b72267644ffb6a5040b9beac39bee886a", func := "erratum/erratumlaw14.MasseyMade", spec := "masseyMade", unfollowed := true, recurses := true, apart := false, narrowed := true }
def MasseyMadeUptoSaid : Prop := masseyMadeUptoRow.holds Try.pinned (OpenSpec.upto masseyMadeSpec)

/-- 'erratumlaw14.MasseyFront', WHERE WHAT IT READS IS OF BULK AT MOST 1048576: true; the input reads as it did. -/
def masseyFrontUptoRow : OpenClaim := { program := "ytfbbphddakjhhaa", sum := "846748a78e93a453c1b3bec97b09ce9b72267644ffb6a5040b9beac39bee886a", func := "erratum/erratumlaw14.MasseyFront", spec := "masseyFront", unfollowed := true, recurses := true, apart := false, narrowed := true }
def MasseyFrontUptoSaid : Prop := masseyFrontUptoRow.holds Try.pinned (OpenSpec.upto masseyFrontSpec)

/-- 'erratumlaw14.MasseyScaled', WHERE WHAT IT READS IS OF BULK AT MOST 1048576: true; the input reads as it did. -/
def masseyScaledUptoRow : OpenClaim := { program := "ytfbbphddakjhhaa", sum := "846748a78e93a453c1b3bec97b09ce9b72267644ffb6a5040b9beac39bee886a", func := "erratum/erratumlaw14.MasseyScaled", spec := "masseyScaled", unfollowed := true, recurses := true, apart := false, narrowed := true }
def MasseyScaledUptoSaid : Prop := masseyScaledUptoRow.holds Try.pinned (OpenSpec.upto masseyScaledSpec)

/-- 'erratumlaw14.MasseySum', WHERE WHAT IT READS IS OF BULK AT MOST 1048576: true; the input reads as it did. -/
def masseySumUptoRow : OpenClaim := { program := "ytfbbphddakjhhaa", sum := "846748a78e93a453c1b3bec97b09ce9b72267644ffb6a5040b9beac39bee886a", func := "erratum/erratumlaw14.MasseySum", spec := "masseySum", unfollowed := true, recurses := true, apart := false, narrowed := true }
def MasseySumUptoSaid : Prop := masseySumUptoRow.holds Try.pinned (OpenSpec.upto masseySumSpec)

end Rows
end Go.Proofs.Ytfbbphddakjhhaa
