/-
  No cell of these rows narrows 'for every input' (looked for: loops, veiled, ifaces, maps, wideKeys, modest, calm, conditions, laid).
  DERIVED. THE GIVEN ROWS OF THIS SEAT. 6 by the template 'for every input the law returns true; each argument reads behind the call as it read before'; 0 by the template 'total and deterministic' (their statements: YtfpeabdgajpcjaaTotals.lean).
  GIVEN WITH THE SEED: the statements are not yours to turn. If you find one false, say at which input.
  Laid BY PROGRAM, IN A SANDBOX (cutbox-rows.mjs): the forced cells as the released guide's own fill.sh prints them over the translation c19a4f9faa849b50… (all of the seat's roots in one cut). By AI agents, Wed Nov 11 2026. No macro, syntax, notation, axiom, sorry.
-/
import Derived.Test.YtfpeabdgajpcjaaChecked
import GoSem.Claim
import GoSem.ClaimJoined
import GoSem.ClaimMapViews
import Derived.JoinedTies
import Derived.KernelRfl
namespace Go.Proofs.Ytfpeabdgajpcjaa
/- THE CELL 'sum', in the pinned program and in every row, IS THE sha256 OF THE DUMP (.gsa) THAT YtfpeabdgajpcjaaProg.lean LOADS. Nothing in Lean hashes anything: it is a label: what it is worth is what the hold of that sum in a sandbox is worth. -/
noncomputable def Try.pinned : Pinned := { name := "ytfpeabdgajpcjaa", sum := "c19a4f9faa849b50ffb4918cdc881fdaa7abe29fb0fb78beba613959bb1087eb", checked := Try.checked }
namespace Rows
def none {H : Type} : Left H := { results := [], args := [] }

/-- 'erratumlaw01.ShiftAsks': WHATEVER THE INPUT: true; the input reads as it did. -/
def shiftAsksSpec : ChangeSpec := { name := "shiftAsks", fn := fun _ => fun
  | [d1, d2, d3, d4, d5] => { results := [.lit (.bool true)], args := [d1, d2, d3, d4, d5] }
  | _ => none }
def shiftAsksRow : OpenClaim := { program := "ytfpeabdgajpcjaa", sum := "c19a4f9faa849b50ffb4918cdc881fdaa7abe29fb0fb78beba613959bb1087eb", func := "erratum/erratumlaw01.ShiftAsks", spec := "shiftAsks", unfollowed := true, recurses := true, apart := false }
def ShiftAsksSaid : Prop := shiftAsksRow.holds Try.pinned (OpenSpec.ofChange shiftAsksSpec)

/-- ITS FALSE NEIGHBOUR: 'it returns false'. Refute it at one input. -/
def shiftAsksWrong : ChangeSpec := { name := "shiftAsks", fn := fun _ => fun
  | [d1, d2, d3, d4, d5] => { results := [.lit (.bool false)], args := [d1, d2, d3, d4, d5] }
  | _ => none }
def ShiftAsksWrongFalsely : Prop := shiftAsksRow.holds Try.pinned (OpenSpec.ofChange shiftAsksWrong)

/-- 'erratumlaw01.ShiftRing': WHATEVER THE INPUT: true; the input reads as it did. -/
def shiftRingSpec : ChangeSpec := { name := "shiftRing", fn := fun _ => fun
  | [d1, d2, d3] => { results := [.lit (.bool true)], args := [d1, d2, d3] }
  | _ => none }
def shiftRingRow : OpenClaim := { program := "ytfpeabdgajpcjaa", sum := "c19a4f9faa849b50ffb4918cdc881fdaa7abe29fb0fb78beba613959bb1087eb", func := "erratum/erratumlaw01.ShiftRing", spec := "shiftRing", unfollowed := true, recurses := true, apart := false }
def ShiftRingSaid : Prop := shiftRingRow.holds Try.pinned (OpenSpec.ofChange shiftRingSpec)

/-- ITS FALSE NEIGHBOUR: 'it returns false'. Refute it at one input. -/
def shiftRingWrong : ChangeSpec := { name := "shiftRing", fn := fun _ => fun
  | [d1, d2, d3] => { results := [.lit (.bool false)], args := [d1, d2, d3] }
  | _ => none }
def ShiftRingWrongFalsely : Prop := shiftRingRow.holds Try.pinned (OpenSpec.ofChange shiftRingWrong)

/-- 'erratumlaw01.ShiftBack': WHATEVER THE INPUT: true; the input reads as it did. -/
def shiftBackSpec : ChangeSpec := { name := "shiftBack", fn := fun _ => fun
  | [d1, d2] => { results := [.lit (.bool true)], args := [d1, d2] }
  | _ => none }
def shiftBackRow : OpenClaim := { program := "ytfpeabdgajpcjaa", sum := "c19a4f9faa849b50ffb4918cdc881fdaa7abe29fb0fb78beba613959bb1087eb", func := "erratum/erratumlaw01.ShiftBack", spec := "shiftBack", unfollowed := true, recurses := true, apart := false }
def ShiftBackSaid : Prop := shiftBackRow.holds Try.pinned (OpenSpec.ofChange shiftBackSpec)

/-- ITS FALSE NEIGHBOUR: 'it returns false'. Refute it at one input. -/
def shiftBackWrong : ChangeSpec := { name := "shiftBack", fn := fun _ => fun
  | [d1, d2] => { results := [.lit (.bool false)], args := [d1, d2] }
  | _ => none }
def ShiftBackWrongFalsely : Prop := shiftBackRow.holds Try.pinned (OpenSpec.ofChange shiftBackWrong)

/-- 'erratumlaw01.ShiftPowers': WHATEVER THE INPUT: true; the input reads as it did. -/
def shiftPowersSpec : ChangeSpec := { name := "shiftPowers", fn := fun _ => fun
  | [d1, d2, d3, d4] => { results := [.lit (.bool true)], args := [d1, d2, d3, d4] }
  | _ => none }
def shiftPowersRow : OpenClaim := { program := "ytfpeabdgajpcjaa", sum := "c19a4f9faa849b50ffb4918cdc881fdaa7abe29fb0fb78beba613959bb1087eb", func := "erratum/erratumlaw01.ShiftPowers", spec := "shiftPowers", unfollowed := true, recurses := true, apart := false }
def ShiftPowersSaid : Prop := shiftPowersRow.holds Try.pinned (OpenSpec.ofChange shiftPowersSpec)

/-- ITS FALSE NEIGHBOUR: 'it returns false'. Refute it at one input. -/
def shiftPowersWrong : ChangeSpec := { name := "shiftPowers", fn := fun _ => fun
  | [d1, d2, d3, d4] => { results := [.lit (.bool false)], args := [d1, d2, d3, d4] }
  | _ => none }
def ShiftPowersWrongFalsely : Prop := shiftPowersRow.holds Try.pinned (OpenSpec.ofChange shiftPowersWrong)

/-- 'erratumlaw01.ShiftWide': WHATEVER THE INPUT: true; the input reads as it did. -/
def shiftWideSpec : ChangeSpec := { name := "shiftWide", fn := fun _ => fun
  | [d1, d2, d3, d4] => { results := [.lit (.bool true)], args := [d1, d2, d3, d4] }
  | _ => none }
def shiftWideRow : OpenClaim := { program := "ytfpeabdgajpcjaa", sum := "c19a4f9faa849b50ffb4918cdc881fdaa7abe29fb0fb78beba613959bb1087eb", func := "erratum/erratumlaw01.ShiftWide", spec := "shiftWide", unfollowed := true, recurses := true, apart := false }
def ShiftWideSaid : Prop := shiftWideRow.holds Try.pinned (OpenSpec.ofChange shiftWideSpec)

/-- ITS FALSE NEIGHBOUR: 'it returns false'. Refute it at one input. -/
def shiftWideWrong : ChangeSpec := { name := "shiftWide", fn := fun _ => fun
  | [d1, d2, d3, d4] => { results := [.lit (.bool false)], args := [d1, d2, d3, d4] }
  | _ => none }
def ShiftWideWrongFalsely : Prop := shiftWideRow.holds Try.pinned (OpenSpec.ofChange shiftWideWrong)

/-- 'erratumlaw01.ShiftAll': WHATEVER THE INPUT: true; the input reads as it did. -/
def shiftAllSpec : ChangeSpec := { name := "shiftAll", fn := fun _ => fun
  | [d1, d2] => { results := [.lit (.bool true)], args := [d1, d2] }
  | _ => none }
def shiftAllRow : OpenClaim := { program := "ytfpeabdgajpcjaa", sum := "c19a4f9faa849b50ffb4918cdc881fdaa7abe29fb0fb78beba613959bb1087eb", func := "erratum/erratumlaw01.ShiftAll", spec := "shiftAll", unfollowed := true, recurses := true, apart := false }
def ShiftAllSaid : Prop := shiftAllRow.holds Try.pinned (OpenSpec.ofChange shiftAllSpec)

/-- ITS FALSE NEIGHBOUR: 'it returns false'. Refute it at one input. -/
def shiftAllWrong : ChangeSpec := { name := "shiftAll", fn := fun _ => fun
  | [d1, d2] => { results := [.lit (.bool false)], args := [d1, d2] }
  | _ => none }
def ShiftAllWrongFalsely : Prop := shiftAllRow.holds Try.pinned (OpenSpec.ofChange shiftAllWrong)

/- THE SECOND FORM. 'bulk': how many values and letters a reading holds, each counted each time it is reached (what is shared counts as often as it is met; a slice's spare places count too). A statement '..UptoSaid' is the law's where the arguments, and the package variables that the reading takes, are together of bulk at most 1048576: NARROWER than '..Said'. Prove '..Said' where nothing that the law and all that it calls make is longer than what came in: it says more and counts as full. Else prove '..UptoSaid'. A law counts once. -/
mutual
def uptoBulk {H : Type} : DataW H → Nat
  | .lit (.string bytes) => bytes.length + 1
  | .lit _ => 1
  | .nil => 1
  | .ptr d => uptoBulk d + 1
  | .slice elems spare => uptoBulkAll elems + uptoBulkAll spare + 1
  | .agg parts => uptoBulkAll parts + 1
  | .iface _ d => uptoBulk d + 1
  | .map entries => uptoBulkEntries entries + 1
  | .held _ => 1
def uptoBulkAll {H : Type} : List (DataW H) → Nat
  | [] => 0
  | d :: r => uptoBulk d + uptoBulkAll r
def uptoBulkEntries {H : Type} : List (Lit × DataW H) → Nat
  | [] => 0
  | x :: r => uptoBulkEntry x + uptoBulkEntries r
def uptoBulkEntry {H : Type} : Lit × DataW H → Nat
  | (.string bytes, d) => bytes.length + uptoBulk d + 1
  | (_, d) => uptoBulk d + 1
 end
def uptoSmall : (H : Type) → List (DataW H) → Bool := fun _ ds => decide (uptoBulkAll ds ≤ 1048576)
def OpenSpec.upto (s : _root_.Go.ChangeSpec) : _root_.Go.OpenSpec := { _root_.Go.OpenSpec.ofChange s with cond := some uptoSmall }

/-- 'erratumlaw01.ShiftAsks', WHERE WHAT IT READS IS OF BULK AT MOST 1048576: true; the input reads as it did. -/
def shiftAsksUptoRow : OpenClaim := { program := "ytfpeabdgajpcjaa", sum := "c19a4f9faa849b50ffb4918cdc881fdaa7abe29fb0fb78beba613959bb1087eb", func := "erratum/erratumlaw01.ShiftAsks", spec := "shiftAsks", unfollowed := true, recurses := true, apart := false, narrowed := true }
def ShiftAsksUptoSaid : Prop := shiftAsksUptoRow.holds Try.pinned (OpenSpec.upto shiftAsksSpec)

/-- 'erratumlaw01.ShiftRing', WHERE WHAT IT READS IS OF BULK AT MOST 1048576: true; the input reads as it did. -/
def shiftRingUptoRow : OpenClaim := { program := "ytfpeabdgajpcjaa", sum := "c19a4f9faa849b50ffb4918cdc881fdaa7abe29fb0fb78beba613959bb1087eb", func := "erratum/erratumlaw01.ShiftRing", spec := "shiftRing", unfollowed := true, recurses := true, apart := false, narrowed := true }
def ShiftRingUptoSaid : Prop := shiftRingUptoRow.holds Try.pinned (OpenSpec.upto shiftRingSpec)

/-- 'erratumlaw01.ShiftBack', WHERE WHAT IT READS IS OF BULK AT MOST 1048576: true; the input reads as it did. -/
def shiftBackUptoRow : OpenClaim := { program := "ytfpeabdgajpcjaa", sum := "c19a4f9faa849b50ffb4918cdc881fdaa7abe29fb0fb78beba613959bb1087eb", func := "erratum/erratumlaw01.ShiftBack", spec := "shiftBack", unfollowed := true, recurses := true, apart := false, narrowed := true }
def ShiftBackUptoSaid : Prop := shiftBackUptoRow.holds Try.pinned (OpenSpec.upto shiftBackSpec)

/-- 'erratumlaw01.ShiftPowers', WHERE WHAT IT READS IS OF BULK AT MOST 1048576: true; the input reads as it did. -/
def shiftPowersUptoRow : OpenClaim := { program := "ytfpeabdgajpcjaa", sum := "c19a4f9faa849b50ffb4918cdc881fdaa7abe29fb0fb78beba613959bb1087eb", func := "erratum/erratumlaw01.ShiftPowers", spec := "shiftPowers", unfollowed := true, recurses := true, apart := false, narrowed := true }
def ShiftPowersUptoSaid : Prop := shiftPowersUptoRow.holds Try.pinned (OpenSpec.upto shiftPowersSpec)

/-- 'erratumlaw01.ShiftWide', WHERE WHAT IT READS IS OF BULK AT MOST 1048576: true; the input reads as it did. -/
def shiftWideUptoRow : OpenClaim := { program := "ytfpeabdgajpcjaa", sum := "c19a4f9faa849b50ffb4918cdc881fdaa7abe29fb0fb78beba613959bb1087eb", func := "erratum/erratumlaw01.ShiftWide", spec := "shiftWide", unfollowed := true, recurses := true, apart := false, narrowed := true }
def ShiftWideUptoSaid : Prop := shiftWideUptoRow.holds Try.pinned (OpenSpec.upto shiftWideSpec)

/-- 'erratumlaw01.ShiftAll', WHERE WHAT IT READS IS OF BULK AT MOST 1048576: true; the input reads as it did. -/
def shiftAllUptoRow : OpenClaim := { program := "ytfpeabdgajpcjaa", sum := "c19a4f9faa849b50ffb4918cdc881fdaa7abe29fb0fb78beba613959bb1087eb", func := "erratum/erratumlaw01.ShiftAll", spec := "shiftAll", unfollowed := true, recurses := true, apart := false, narrowed := true }
def ShiftAllUptoSaid : Prop := shiftAllUptoRow.holds Try.pinned (OpenSpec.upto shiftAllSpec)

end Rows
end Go.Proofs.Ytfpeabdgajpcjaa
