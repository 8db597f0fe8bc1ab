/-
  No cell of these rows narrows 'for every input' (looked for: loops, veiled, ifaces, maps, wideKeys, modest, calm, conditions, laid).
  DERIVED. THE GIVEN ROWS OF THIS SEAT. 5 by the template 'for every input the law returns true; each argument reads behind the call as it read before'; 0 by the template 'total and deterministic' (their statements: YtafjlbkcpjkojaaGreatTotals.lean).
  GIVEN WITH THE SEED: the statements are not yours to turn. If you find one false, say at which input.
  Laid BY PROGRAM, IN A SANDBOX (cutbox-rows.mjs): the forced cells as the released guide's own fill.sh prints them over the translation 0d3b862dd8f03d91… (all of the seat's roots in one cut). By AI agents, Wed Nov 11 2026. No macro, syntax, notation, axiom, sorry.
-/
import Derived.Test.YtafjlbkcpjkojaaGreatChecked
import GoSem.Claim
import GoSem.ClaimJoined
import GoSem.ClaimMapViews
import Derived.JoinedTies
import Derived.KernelRfl
namespace Go.Proofs.YtafjlbkcpjkojaaGreat
/- THE CELL 'sum', in the pinned program and in every row, IS THE sha256 OF THE DUMP (.gsa) THAT YtafjlbkcpjkojaaGreatProg.lean LOADS. Nothing in Lean hashes anything: it is a label: what it is worth is what the hold of that sum in a sandbox is worth. -/
noncomputable def Tryz.pinned : Pinned := { name := "ytafjlbkcpjkojaagreat", sum := "0d3b862dd8f03d91bc9aaf751f97a95259898ade779e14e088baea83bc0f4dc3", checked := Tryz.checked }
namespace Rows
def none {H : Type} : Left H := { results := [], args := [] }

/-- 'erratumlaw07.ValueAsks': WHATEVER THE INPUT: true; the input reads as it did. -/
def valueAsksSpec : ChangeSpec := { name := "valueAsks", fn := fun _ => fun
  | [d1, d2, d3, d4, d5] => { results := [.lit (.bool true)], args := [d1, d2, d3, d4, d5] }
  | _ => none }
def valueAsksRow : OpenClaim := { program := "ytafjlbkcpjkojaagreat", sum := "0d3b862dd8f03d91bc9aaf751f97a95259898ade779e14e088baea83bc0f4dc3", func := "erratum/erratumlaw07.ValueAsks", spec := "valueAsks", unfollowed := true, recurses := true, apart := false }
def ValueAsksSaid : Prop := valueAsksRow.holds Tryz.pinned (OpenSpec.ofChange valueAsksSpec)

/-- ITS FALSE NEIGHBOUR: 'it returns false'. Refute it at one input. -/
def valueAsksWrong : ChangeSpec := { name := "valueAsks", fn := fun _ => fun
  | [d1, d2, d3, d4, d5] => { results := [.lit (.bool false)], args := [d1, d2, d3, d4, d5] }
  | _ => none }
def ValueAsksWrongFalsely : Prop := valueAsksRow.holds Tryz.pinned (OpenSpec.ofChange valueAsksWrong)

/-- 'erratumlaw07.ValueZeros': WHATEVER THE INPUT: true; the input reads as it did. -/
def valueZerosSpec : ChangeSpec := { name := "valueZeros", fn := fun _ => fun
  | [d1, d2, d3] => { results := [.lit (.bool true)], args := [d1, d2, d3] }
  | _ => none }
def valueZerosRow : OpenClaim := { program := "ytafjlbkcpjkojaagreat", sum := "0d3b862dd8f03d91bc9aaf751f97a95259898ade779e14e088baea83bc0f4dc3", func := "erratum/erratumlaw07.ValueZeros", spec := "valueZeros", unfollowed := true, recurses := true, apart := false }
def ValueZerosSaid : Prop := valueZerosRow.holds Tryz.pinned (OpenSpec.ofChange valueZerosSpec)

/-- ITS FALSE NEIGHBOUR: 'it returns false'. Refute it at one input. -/
def valueZerosWrong : ChangeSpec := { name := "valueZeros", fn := fun _ => fun
  | [d1, d2, d3] => { results := [.lit (.bool false)], args := [d1, d2, d3] }
  | _ => none }
def ValueZerosWrongFalsely : Prop := valueZerosRow.holds Tryz.pinned (OpenSpec.ofChange valueZerosWrong)

/-- 'erratumlaw07.ValueRoot': WHATEVER THE INPUT: true; the input reads as it did. -/
def valueRootSpec : ChangeSpec := { name := "valueRoot", fn := fun _ => fun
  | [d1, d2, d3] => { results := [.lit (.bool true)], args := [d1, d2, d3] }
  | _ => none }
def valueRootRow : OpenClaim := { program := "ytafjlbkcpjkojaagreat", sum := "0d3b862dd8f03d91bc9aaf751f97a95259898ade779e14e088baea83bc0f4dc3", func := "erratum/erratumlaw07.ValueRoot", spec := "valueRoot", unfollowed := true, recurses := true, apart := false }
def ValueRootSaid : Prop := valueRootRow.holds Tryz.pinned (OpenSpec.ofChange valueRootSpec)

/-- ITS FALSE NEIGHBOUR: 'it returns false'. Refute it at one input. -/
def valueRootWrong : ChangeSpec := { name := "valueRoot", fn := fun _ => fun
  | [d1, d2, d3] => { results := [.lit (.bool false)], args := [d1, d2, d3] }
  | _ => none }
def ValueRootWrongFalsely : Prop := valueRootRow.holds Tryz.pinned (OpenSpec.ofChange valueRootWrong)

/-- 'erratumlaw07.ValueThrough': WHATEVER THE INPUT: true; the input reads as it did. -/
def valueThroughSpec : ChangeSpec := { name := "valueThrough", fn := fun _ => fun
  | [d1, d2, d3, d4] => { results := [.lit (.bool true)], args := [d1, d2, d3, d4] }
  | _ => none }
def valueThroughRow : OpenClaim := { program := "ytafjlbkcpjkojaagreat", sum := "0d3b862dd8f03d91bc9aaf751f97a95259898ade779e14e088baea83bc0f4dc3", func := "erratum/erratumlaw07.ValueThrough", spec := "valueThrough", unfollowed := true, recurses := true, apart := false }
def ValueThroughSaid : Prop := valueThroughRow.holds Tryz.pinned (OpenSpec.ofChange valueThroughSpec)

/-- ITS FALSE NEIGHBOUR: 'it returns false'. Refute it at one input. -/
def valueThroughWrong : ChangeSpec := { name := "valueThrough", fn := fun _ => fun
  | [d1, d2, d3, d4] => { results := [.lit (.bool false)], args := [d1, d2, d3, d4] }
  | _ => none }
def ValueThroughWrongFalsely : Prop := valueThroughRow.holds Tryz.pinned (OpenSpec.ofChange valueThroughWrong)

/-- 'erratumlaw07.ValueMany': WHATEVER THE INPUT: true; the input reads as it did. -/
def valueManySpec : ChangeSpec := { name := "valueMany", fn := fun _ => fun
  | [d1, d2] => { results := [.lit (.bool true)], args := [d1, d2] }
  | _ => none }
def valueManyRow : OpenClaim := { program := "ytafjlbkcpjkojaagreat", sum := "0d3b862dd8f03d91bc9aaf751f97a95259898ade779e14e088baea83bc0f4dc3", func := "erratum/erratumlaw07.ValueMany", spec := "valueMany", unfollowed := true, recurses := true, apart := false }
def ValueManySaid : Prop := valueManyRow.holds Tryz.pinned (OpenSpec.ofChange valueManySpec)

/-- ITS FALSE NEIGHBOUR: 'it returns false'. Refute it at one input. -/
def valueManyWrong : ChangeSpec := { name := "valueMany", fn := fun _ => fun
  | [d1, d2] => { results := [.lit (.bool false)], args := [d1, d2] }
  | _ => none }
def ValueManyWrongFalsely : Prop := valueManyRow.holds Tryz.pinned (OpenSpec.ofChange valueManyWrong)

/- THE SECOND FORM. 'bulk': how many values and letters a reading holds, each counted each time it is reached (what is shared counts as often as it is met; a slice's spare places count too). A statement '..UptoSaid' is the law's where the arguments, and the package variables that the reading takes, are together of bulk at most 1048576: NARROWER than '..Said'. Prove '..Said' where nothing that the law and all that it calls make is longer than what came in: it says more and counts as full. Else prove '..UptoSaid'. A law counts once. -/
mutual
def uptoBulk {H : Type} : DataW H → Nat
  | .lit (.string bytes) => bytes.length + 1
  | .lit _ => 1
  | .nil => 1
  | .ptr d => uptoBulk d + 1
  | .slice elems spare => uptoBulkAll elems + uptoBulkAll spare + 1
  | .agg parts => uptoBulkAll parts + 1
  | .iface _ d => uptoBulk d + 1
  | .map entries => uptoBulkEntries entries + 1
  | .held _ => 1
def uptoBulkAll {H : Type} : List (DataW H) → Nat
  | [] => 0
  | d :: r => uptoBulk d + uptoBulkAll r
def uptoBulkEntries {H : Type} : List (Lit × DataW H) → Nat
  | [] => 0
  | x :: r => uptoBulkEntry x + uptoBulkEntries r
def uptoBulkEntry {H : Type} : Lit × DataW H → Nat
  | (.string bytes, d) => bytes.length + uptoBulk d + 1
  | (_, d) => uptoBulk d + 1
 end
def uptoSmall : (H : Type) → List (DataW H) → Bool := fun _ ds => decide (uptoBulkAll ds ≤ 1048576)
def OpenSpec.upto (s : _root_.Go.ChangeSpec) : _root_.Go.OpenSpec := { _root_.Go.OpenSpec.ofChange s with cond := some uptoSmall }

/-- 'erratumlaw07.ValueAsks', WHERE WHAT IT READS IS OF BULK AT MOST 1048576: true; the input reads as it did. -/
def valueAsksUptoRow : OpenClaim := { program := "ytafjlbkcpjkojaagreat", sum := "0d3b862dd8f03d91bc9aaf751f97a95259898ade779e14e088baea83bc0f4dc3", func := "erratum/erratumlaw07.ValueAsks", spec := "valueAsks", unfollowed := true, recurses := true, apart := false, narrowed := true }
def ValueAsksUptoSaid : Prop := valueAsksUptoRow.holds Tryz.pinned (OpenSpec.upto valueAsksSpec)

/-- 'erratumlaw07.ValueZeros', WHERE WHAT IT READS IS OF BULK AT MOST 1048576: true; the input reads as it did. -/
def valueZerosUptoRow : OpenClaim := { program := "ytafjlbkcpjkojaagreat", sum := "0d3b862dd8f03d91bc9aaf751f97a95259898ade779e14e088baea83bc0f4dc3", func := "erratum/erratumlaw07.ValueZeros", spec := "valueZeros", unfollowed := true, recurses := true, apart := false, narrowed := true }
def ValueZerosUptoSaid : Prop := valueZerosUptoRow.holds Tryz.pinned (OpenSpec.upto valueZerosSpec)

/-- 'erratumlaw07.ValueRoot', WHERE WHAT IT READS IS OF BULK AT MOST 1048576: true; the input reads as it did. -/
def valueRootUptoRow : OpenClaim := { program := "ytafjlbkcpjkojaagreat", sum := "0d3b862dd8f03d91bc9aaf751f97a95259898ade779e14e088baea83bc0f4dc3", func := "erratum/erratumlaw07.ValueRoot", spec := "valueRoot", unfollowed := true, recurses := true, apart := false, narrowed := true }
def ValueRootUptoSaid : Prop := valueRootUptoRow.holds Tryz.pinned (OpenSpec.upto valueRootSpec)

/-- 'erratumlaw07.ValueThrough', WHERE WHAT IT READS IS OF BULK AT MOST 1048576: true; the input reads as it did. -/
def valueThroughUptoRow : OpenClaim := { program := "ytafjlbkcpjkojaagreat", sum := "0d3b862dd8f03d91bc9aaf751f97a95259898ade779e14e088baea83bc0f4dc3", func := "erratum/erratumlaw07.ValueThrough", spec := "valueThrough", unfollowed := true, recurses := true, apart := false, narrowed := true }
def ValueThroughUptoSaid : Prop := valueThroughUptoRow.holds Tryz.pinned (OpenSpec.upto valueThroughSpec)

/-- 'erratumlaw07.ValueMany', WHERE WHAT IT READS IS OF BULK AT MOST 1048576: true; the input reads as it did. -/
def valueManyUptoRow : OpenClaim := { program := "ytafjlbkcpjkojaagreat", sum := "0d3b862dd8f03d91bc9aaf751f97a95259898ade779e14e088baea83bc0f4dc3", func := "erratum/erratumlaw07.ValueMany", spec := "valueMany", unfollowed := true, recurses := true, apart := false, narrowed := true }
def ValueManyUptoSaid : Prop := valueManyUptoRow.holds Tryz.pinned (OpenSpec.upto valueManySpec)

end Rows
end Go.Proofs.YtafjlbkcpjkojaaGreat
