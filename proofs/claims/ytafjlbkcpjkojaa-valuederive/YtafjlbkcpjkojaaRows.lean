/-
  No cell of these rows narrows 'for every input' (looked for: loops, veiled, ifaces, maps, wideKeys, modest, calm, conditions, laid).
  DERIVED. THE GIVEN ROWS OF THIS SEAT. 3 by the template 'for every input the law returns true; each argument reads behind the call as it read before'; 0 by the template 'total and deterministic' (their statements: YtafjlbkcpjkojaaTotals.lean).
  GIVEN WITH THE SEED: the statements are not yours to turn. If you find one false, say at which input.
  Laid BY PROGRAM, IN A SANDBOX (cutbox-rows.mjs): the forced cells as the released guide's own fill.sh prints them over the translation 05a79847786a4993… (all of the seat's roots in one cut). By AI agents, Wed Nov 11 2026. No macro, syntax, notation, axiom, sorry.
-/
import Derived.Test.YtafjlbkcpjkojaaChecked
import GoSem.Claim
import GoSem.ClaimJoined
import GoSem.ClaimMapViews
import Derived.JoinedTies
import Derived.KernelRfl
namespace Go.Proofs.Ytafjlbkcpjkojaa
/- THE CELL 'sum', in the pinned program and in every row, IS THE sha256 OF THE DUMP (.gsa) THAT YtafjlbkcpjkojaaProg.lean LOADS. Nothing in Lean hashes anything: it is a label: what it is worth is what the hold of that sum in a sandbox is worth. -/
noncomputable def Try.pinned : Pinned := { name := "ytafjlbkcpjkojaa", sum := "05a79847786a49930844e5f5fb2530f9c2e4f4d1853cf0722b5ae3e176d8c0fc", checked := Try.checked }
namespace Rows
def none {H : Type} : Left H := { results := [], args := [] }

/-- 'erratumlaw07.ValueHom': WHATEVER THE INPUT: true; the input reads as it did. -/
def valueHomSpec : ChangeSpec := { name := "valueHom", fn := fun _ => fun
  | [d1, d2, d3, d4] => { results := [.lit (.bool true)], args := [d1, d2, d3, d4] }
  | _ => none }
def valueHomRow : OpenClaim := { program := "ytafjlbkcpjkojaa", sum := "05a79847786a49930844e5f5fb2530f9c2e4f4d1853cf0722b5ae3e176d8c0fc", func := "erratum/erratumlaw07.ValueHom", spec := "valueHom", unfollowed := true, recurses := true, apart := false }
def ValueHomSaid : Prop := valueHomRow.holds Try.pinned (OpenSpec.ofChange valueHomSpec)

/-- ITS FALSE NEIGHBOUR: 'it returns false'. Refute it at one input. -/
def valueHomWrong : ChangeSpec := { name := "valueHom", fn := fun _ => fun
  | [d1, d2, d3, d4] => { results := [.lit (.bool false)], args := [d1, d2, d3, d4] }
  | _ => none }
def ValueHomWrongFalsely : Prop := valueHomRow.holds Try.pinned (OpenSpec.ofChange valueHomWrong)

/-- 'erratumlaw07.ValueDerive': WHATEVER THE INPUT: true; the input reads as it did. -/
def valueDeriveSpec : ChangeSpec := { name := "valueDerive", fn := fun _ => fun
  | [d1, d2, d3] => { results := [.lit (.bool true)], args := [d1, d2, d3] }
  | _ => none }
def valueDeriveRow : OpenClaim := { program := "ytafjlbkcpjkojaa", sum := "05a79847786a49930844e5f5fb2530f9c2e4f4d1853cf0722b5ae3e176d8c0fc", func := "erratum/erratumlaw07.ValueDerive", spec := "valueDerive", unfollowed := true, recurses := true, apart := false }
def ValueDeriveSaid : Prop := valueDeriveRow.holds Try.pinned (OpenSpec.ofChange valueDeriveSpec)

/-- ITS FALSE NEIGHBOUR: 'it returns false'. Refute it at one input. -/
def valueDeriveWrong : ChangeSpec := { name := "valueDerive", fn := fun _ => fun
  | [d1, d2, d3] => { results := [.lit (.bool false)], args := [d1, d2, d3] }
  | _ => none }
def ValueDeriveWrongFalsely : Prop := valueDeriveRow.holds Try.pinned (OpenSpec.ofChange valueDeriveWrong)

/-- 'erratumlaw07.ValueFrom': WHATEVER THE INPUT: true; the input reads as it did. -/
def valueFromSpec : ChangeSpec := { name := "valueFrom", fn := fun _ => fun
  | [d1, d2, d3] => { results := [.lit (.bool true)], args := [d1, d2, d3] }
  | _ => none }
def valueFromRow : OpenClaim := { program := "ytafjlbkcpjkojaa", sum := "05a79847786a49930844e5f5fb2530f9c2e4f4d1853cf0722b5ae3e176d8c0fc", func := "erratum/erratumlaw07.ValueFrom", spec := "valueFrom", unfollowed := true, recurses := true, apart := false }
def ValueFromSaid : Prop := valueFromRow.holds Try.pinned (OpenSpec.ofChange valueFromSpec)

/-- ITS FALSE NEIGHBOUR: 'it returns false'. Refute it at one input. -/
def valueFromWrong : ChangeSpec := { name := "valueFrom", fn := fun _ => fun
  | [d1, d2, d3] => { results := [.lit (.bool false)], args := [d1, d2, d3] }
  | _ => none }
def ValueFromWrongFalsely : Prop := valueFromRow.holds Try.pinned (OpenSpec.ofChange valueFromWrong)

/- THE SECOND FORM. 'bulk': how many values and letters a reading holds, each counted each time it is reached (what is shared counts as often as it is met; a slice's spare places count too). A statement '..UptoSaid' is the law's where the arguments, and the package variables that the reading takes, are together of bulk at most 1048576: NARROWER than '..Said'. Prove '..Said' where nothing that the law and all that it calls make is longer than what came in: it says more and counts as full. Else prove '..UptoSaid'. A law counts once. -/
mutual
def uptoBulk {H : Type} : DataW H → Nat
  | .lit (.string bytes) => bytes.length + 1
  | .lit _ => 1
  | .nil => 1
  | .ptr d => uptoBulk d + 1
  | .slice elems spare => uptoBulkAll elems + uptoBulkAll spare + 1
  | .agg parts => uptoBulkAll parts + 1
  | .iface _ d => uptoBulk d + 1
  | .map entries => uptoBulkEntries entries + 1
  | .held _ => 1
def uptoBulkAll {H : Type} : List (DataW H) → Nat
  | [] => 0
  | d :: r => uptoBulk d + uptoBulkAll r
def uptoBulkEntries {H : Type} : List (Lit × DataW H) → Nat
  | [] => 0
  | x :: r => uptoBulkEntry x + uptoBulkEntries r
def uptoBulkEntry {H : Type} : Lit × DataW H → Nat
  | (.string bytes, d) => bytes.length + uptoBulk d + 1
  | (_, d) => uptoBulk d + 1
 end
def uptoSmall : (H : Type) → List (DataW H) → Bool := fun _ ds => decide (uptoBulkAll ds ≤ 1048576)
def OpenSpec.upto (s : _root_.Go.ChangeSpec) : _root_.Go.OpenSpec := { _root_.Go.OpenSpec.ofChange s with cond := some uptoSmall }

/-- 'erratumlaw07.ValueHom', WHERE WHAT IT READS IS OF BULK AT MOST 1048576: true; the input reads as it did. -/
def valueHomUptoRow : OpenClaim := { program := "ytafjlbkcpjkojaa", sum := "05a79847786a49930844e5f5fb2530f9c2e4f4d1853cf0722b5ae3e176d8c0fc", func := "erratum/erratumlaw07.ValueHom", spec := "valueHom", unfollowed := true, recurses := true, apart := false, narrowed := true }
def ValueHomUptoSaid : Prop := valueHomUptoRow.holds Try.pinned (OpenSpec.upto valueHomSpec)

/-- 'erratumlaw07.ValueDerive', WHERE WHAT IT READS IS OF BULK AT MOST 1048576: true; the input reads as it did. -/
def valueDeriveUptoRow : OpenClaim := { program := "ytafjlbkcpjkojaa", sum := "05a79847786a49930844e5f5fb2530f9c2e4f4d1853cf0722b5ae3e176d8c0fc", func := "erratum/erratumlaw07.ValueDerive", spec := "valueDerive", unfollowed := true, recurses := true, apart := false, narrowed := true }
def ValueDeriveUptoSaid : Prop := valueDeriveUptoRow.holds Try.pinned (OpenSpec.upto valueDeriveSpec)

/-- 'erratumlaw07.ValueFrom', WHERE WHAT IT READS IS OF BULK AT MOST 1048576: true; the input reads as it did. -/
def valueFromUptoRow : OpenClaim := { program := "ytafjlbkcpjkojaa", sum := "05a79847786a49930844e5f5fb2530f9c2e4f4d1853cf0722b5ae3e176d8c0fc", func := "erratum/erratumlaw07.ValueFrom", spec := "valueFrom", unfollowed := true, recurses := true, apart := false, narrowed := true }
def ValueFromUptoSaid : Prop := valueFromUptoRow.holds Try.pinned (OpenSpec.upto valueFromSpec)

end Rows
end Go.Proofs.Ytafjlbkcpjkojaa
