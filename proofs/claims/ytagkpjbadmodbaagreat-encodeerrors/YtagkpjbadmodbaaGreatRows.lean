/-
  No cell of these rows narrows 'for every input' (looked for: loops, veiled, ifaces, maps, wideKeys, modest, calm, conditions, laid).
  DERIVED. THE GIVEN ROWS OF THIS SEAT. 5 by the template 'for every input the law returns true; each argument reads behind the call as it read before'; 0 by the template 'total and deterministic' (their statements: YtagkpjbadmodbaaGreatTotals.lean).
  GIVEN WITH THE SEED: the statements are not yours to turn. If you find one false, say at which input.
  Laid BY PROGRAM, IN A SANDBOX (cutbox-rows.mjs): the forced cells as the released guide's own fill.sh prints them over the translation 87d657dc3b5862ca… (all of the seat's roots in one cut). By AI agents, Wed Nov 11 2026. No macro, syntax, notation, axiom, sorry.
-/
import Derived.Test.YtagkpjbadmodbaaGreatChecked
import GoSem.Claim
import GoSem.ClaimJoined
import GoSem.ClaimMapViews
import Derived.JoinedTies
import Derived.KernelRfl
namespace Go.Proofs.YtagkpjbadmodbaaGreat
/- THE CELL 'sum', in the pinned program and in every row, IS THE sha256 OF THE DUMP (.gsa) THAT YtagkpjbadmodbaaGreatProg.lean LOADS. Nothing in Lean hashes anything: it is a label: what it is worth is what the hold of that sum in a sandbox is worth. -/
noncomputable def Tryz.pinned : Pinned := { name := "ytagkpjbadmodbaagreat", sum := "87d657dc3b5862ca1a451f70d23e70aaeb61d85af149a3b39498a973af00f32f", checked := Tryz.checked }
namespace Rows
def none {H : Type} : Left H := { results := [], args := [] }

/-- 'erratumlaw11.EncodeAsks': WHATEVER THE INPUT: true; the input reads as it did. -/
def encodeAsksSpec : ChangeSpec := { name := "encodeAsks", fn := fun _ => fun
  | [d1, d2, d3, d4, d5, d6] => { results := [.lit (.bool true)], args := [d1, d2, d3, d4, d5, d6] }
  | _ => none }
def encodeAsksRow : OpenClaim := { program := "ytagkpjbadmodbaagreat", sum := "87d657dc3b5862ca1a451f70d23e70aaeb61d85af149a3b39498a973af00f32f", func := "erratum/erratumlaw11.EncodeAsks", spec := "encodeAsks", unfollowed := true, recurses := true, apart := false }
def EncodeAsksSaid : Prop := encodeAsksRow.holds Tryz.pinned (OpenSpec.ofChange encodeAsksSpec)

/-- ITS FALSE NEIGHBOUR: 'it returns false'. Refute it at one input. -/
def encodeAsksWrong : ChangeSpec := { name := "encodeAsks", fn := fun _ => fun
  | [d1, d2, d3, d4, d5, d6] => { results := [.lit (.bool false)], args := [d1, d2, d3, d4, d5, d6] }
  | _ => none }
def EncodeAsksWrongFalsely : Prop := encodeAsksRow.holds Tryz.pinned (OpenSpec.ofChange encodeAsksWrong)

/-- 'erratumlaw11.EncodeWords': WHATEVER THE INPUT: true; the input reads as it did. -/
def encodeWordsSpec : ChangeSpec := { name := "encodeWords", fn := fun _ => fun
  | [d1, d2, d3, d4, d5] => { results := [.lit (.bool true)], args := [d1, d2, d3, d4, d5] }
  | _ => none }
def encodeWordsRow : OpenClaim := { program := "ytagkpjbadmodbaagreat", sum := "87d657dc3b5862ca1a451f70d23e70aaeb61d85af149a3b39498a973af00f32f", func := "erratum/erratumlaw11.EncodeWords", spec := "encodeWords", unfollowed := true, recurses := true, apart := false }
def EncodeWordsSaid : Prop := encodeWordsRow.holds Tryz.pinned (OpenSpec.ofChange encodeWordsSpec)

/-- ITS FALSE NEIGHBOUR: 'it returns false'. Refute it at one input. -/
def encodeWordsWrong : ChangeSpec := { name := "encodeWords", fn := fun _ => fun
  | [d1, d2, d3, d4, d5] => { results := [.lit (.bool false)], args := [d1, d2, d3, d4, d5] }
  | _ => none }
def EncodeWordsWrongFalsely : Prop := encodeWordsRow.holds Tryz.pinned (OpenSpec.ofChange encodeWordsWrong)

/-- 'erratumlaw11.EncodeLinear': WHATEVER THE INPUT: true; the input reads as it did. -/
def encodeLinearSpec : ChangeSpec := { name := "encodeLinear", fn := fun _ => fun
  | [d1, d2, d3, d4, d5, d6] => { results := [.lit (.bool true)], args := [d1, d2, d3, d4, d5, d6] }
  | _ => none }
def encodeLinearRow : OpenClaim := { program := "ytagkpjbadmodbaagreat", sum := "87d657dc3b5862ca1a451f70d23e70aaeb61d85af149a3b39498a973af00f32f", func := "erratum/erratumlaw11.EncodeLinear", spec := "encodeLinear", unfollowed := true, recurses := true, apart := false }
def EncodeLinearSaid : Prop := encodeLinearRow.holds Tryz.pinned (OpenSpec.ofChange encodeLinearSpec)

/-- ITS FALSE NEIGHBOUR: 'it returns false'. Refute it at one input. -/
def encodeLinearWrong : ChangeSpec := { name := "encodeLinear", fn := fun _ => fun
  | [d1, d2, d3, d4, d5, d6] => { results := [.lit (.bool false)], args := [d1, d2, d3, d4, d5, d6] }
  | _ => none }
def EncodeLinearWrongFalsely : Prop := encodeLinearRow.holds Tryz.pinned (OpenSpec.ofChange encodeLinearWrong)

/-- 'erratumlaw11.EncodeOnly': WHATEVER THE INPUT: true; the input reads as it did. -/
def encodeOnlySpec : ChangeSpec := { name := "encodeOnly", fn := fun _ => fun
  | [d1, d2, d3, d4, d5, d6, d7] => { results := [.lit (.bool true)], args := [d1, d2, d3, d4, d5, d6, d7] }
  | _ => none }
def encodeOnlyRow : OpenClaim := { program := "ytagkpjbadmodbaagreat", sum := "87d657dc3b5862ca1a451f70d23e70aaeb61d85af149a3b39498a973af00f32f", func := "erratum/erratumlaw11.EncodeOnly", spec := "encodeOnly", unfollowed := true, recurses := true, apart := false }
def EncodeOnlySaid : Prop := encodeOnlyRow.holds Tryz.pinned (OpenSpec.ofChange encodeOnlySpec)

/-- ITS FALSE NEIGHBOUR: 'it returns false'. Refute it at one input. -/
def encodeOnlyWrong : ChangeSpec := { name := "encodeOnly", fn := fun _ => fun
  | [d1, d2, d3, d4, d5, d6, d7] => { results := [.lit (.bool false)], args := [d1, d2, d3, d4, d5, d6, d7] }
  | _ => none }
def EncodeOnlyWrongFalsely : Prop := encodeOnlyRow.holds Tryz.pinned (OpenSpec.ofChange encodeOnlyWrong)

/-- 'erratumlaw11.EncodeErrors': WHATEVER THE INPUT: true; the input reads as it did. -/
def encodeErrorsSpec : ChangeSpec := { name := "encodeErrors", fn := fun _ => fun
  | [d1, d2, d3, d4, d5] => { results := [.lit (.bool true)], args := [d1, d2, d3, d4, d5] }
  | _ => none }
def encodeErrorsRow : OpenClaim := { program := "ytagkpjbadmodbaagreat", sum := "87d657dc3b5862ca1a451f70d23e70aaeb61d85af149a3b39498a973af00f32f", func := "erratum/erratumlaw11.EncodeErrors", spec := "encodeErrors", unfollowed := true, recurses := true, apart := false }
def EncodeErrorsSaid : Prop := encodeErrorsRow.holds Tryz.pinned (OpenSpec.ofChange encodeErrorsSpec)

/-- ITS FALSE NEIGHBOUR: 'it returns false'. Refute it at one input. -/
def encodeErrorsWrong : ChangeSpec := { name := "encodeErrors", fn := fun _ => fun
  | [d1, d2, d3, d4, d5] => { results := [.lit (.bool false)], args := [d1, d2, d3, d4, d5] }
  | _ => none }
def EncodeErrorsWrongFalsely : Prop := encodeErrorsRow.holds Tryz.pinned (OpenSpec.ofChange encodeErrorsWrong)

/- THE SECOND FORM. 'bulk': how many values and letters a reading holds, each counted each time it is reached (what is shared counts as often as it is met; a slice's spare places count too). A statement '..UptoSaid' is the law's where the arguments, and the package variables that the reading takes, are together of bulk at most 1048576: NARROWER than '..Said'. Prove '..Said' where nothing that the law and all that it calls make is longer than what came in: it says more and counts as full. Else prove '..UptoSaid'. A law counts once. -/
mutual
def uptoBulk {H : Type} : DataW H → Nat
  | .lit (.string bytes) => bytes.length + 1
  | .lit _ => 1
  | .nil => 1
  | .ptr d => uptoBulk d + 1
  | .slice elems spare => uptoBulkAll elems + uptoBulkAll spare + 1
  | .agg parts => uptoBulkAll parts + 1
  | .iface _ d => uptoBulk d + 1
  | .map entries => uptoBulkEntries entries + 1
  | .held _ => 1
def uptoBulkAll {H : Type} : List (DataW H) → Nat
  | [] => 0
  | d :: r => uptoBulk d + uptoBulkAll r
def uptoBulkEntries {H : Type} : List (Lit × DataW H) → Nat
  | [] => 0
  | x :: r => uptoBulkEntry x + uptoBulkEntries r
def uptoBulkEntry {H : Type} : Lit × DataW H → Nat
  | (.string bytes, d) => bytes.length + uptoBulk d + 1
  | (_, d) => uptoBulk d + 1
 end
def uptoSmall : (H : Type) → List (DataW H) → Bool := fun _ ds => decide (uptoBulkAll ds ≤ 1048576)
def OpenSpec.upto (s : _root_.Go.ChangeSpec) : _root_.Go.OpenSpec := { _root_.Go.OpenSpec.ofChange s with cond := some uptoSmall }

/-- 'erratumlaw11.EncodeAsks', WHERE WHAT IT READS IS OF BULK AT MOST 1048576: true; the input reads as it did. -/
def encodeAsksUptoRow : OpenClaim := { program := "ytagkpjbadmodbaagreat", sum := "87d657dc3b5862ca1a451f70d23e70aaeb61d85af149a3b39498a973af00f32f", func := "erratum/erratumlaw11.EncodeAsks", spec := "encodeAsks", unfollowed := true, recurses := true, apart := false, narrowed := true }
def EncodeAsksUptoSaid : Prop := encodeAsksUptoRow.holds Tryz.pinned (OpenSpec.upto encodeAsksSpec)

/-- 'erratumlaw11.EncodeWords', WHERE WHAT IT READS IS OF BULK AT MOST 1048576: true; the input reads as it did. -/
def encodeWordsUptoRow : OpenClaim := { program := "ytagkpjbadmodbaagreat", sum := "87d657dc3b5862ca1a451f70d23e70aaeb61d85af149a3b39498a973af00f32f", func := "erratum/erratumlaw11.EncodeWords", spec := "encodeWords", unfollowed := true, recurses := true, apart := false, narrowed := true }
def EncodeWordsUptoSaid : Prop := encodeWordsUptoRow.holds Tryz.pinned (OpenSpec.upto encodeWordsSpec)

/-- 'erratumlaw11.EncodeLinear', WHERE WHAT IT READS IS OF BULK AT MOST 1048576: true; the input reads as it did. -/
def encodeLinearUptoRow : OpenClaim := { program := "ytagkpjbadmodbaagreat", sum := "87d657dc3b5862ca1a451f70d23e70aaeb61d85af149a3b39498a973af00f32f", func := "erratum/erratumlaw11.EncodeLinear", spec := "encodeLinear", unfollowed := true, recurses := true, apart := false, narrowed := true }
def EncodeLinearUptoSaid : Prop := encodeLinearUptoRow.holds Tryz.pinned (OpenSpec.upto encodeLinearSpec)

/-- 'erratumlaw11.EncodeOnly', WHERE WHAT IT READS IS OF BULK AT MOST 1048576: true; the input reads as it did. -/
def encodeOnlyUptoRow : OpenClaim := { program := "ytagkpjbadmodbaagreat", sum := "87d657dc3b5862ca1a451f70d23e70aaeb61d85af149a3b39498a973af00f32f", func := "erratum/erratumlaw11.EncodeOnly", spec := "encodeOnly", unfollowed := true, recurses := true, apart := false, narrowed := true }
def EncodeOnlyUptoSaid : Prop := encodeOnlyUptoRow.holds Tryz.pinned (OpenSpec.upto encodeOnlySpec)

/-- 'erratumlaw11.EncodeErrors', WHERE WHAT IT READS IS OF BULK AT MOST 1048576: true; the input reads as it did. -/
def encodeErrorsUptoRow : OpenClaim := { program := "ytagkpjbadmodbaagreat", sum := "87d657dc3b5862ca1a451f70d23e70aaeb61d85af149a3b39498a973af00f32f", func := "erratum/erratumlaw11.EncodeErrors", spec := "encodeErrors", unfollowed := true, recurses := true, apart := false, narrowed := true }
def EncodeErrorsUptoSaid : Prop := encodeErrorsUptoRow.holds Tryz.pinned (OpenSpec.upto encodeErrorsSpec)

end Rows
end Go.Proofs.YtagkpjbadmodbaaGreat
