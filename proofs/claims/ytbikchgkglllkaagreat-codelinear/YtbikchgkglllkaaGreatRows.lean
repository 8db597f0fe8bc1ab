/-
  No cell of these rows narrows 'for every input' (looked for: loops, veiled, ifaces, maps, wideKeys, modest, calm, conditions, laid).
  DERIVED. THE GIVEN ROWS OF THIS SEAT. 7 by the template 'for every input the law returns true; each argument reads behind the call as it read before'; 0 by the template 'total and deterministic' (their statements: YtbikchgkglllkaaGreatTotals.lean).
  GIVEN WITH THE SEED: the statements are not yours to turn. If you find one false, say at which input.
  Laid BY PROGRAM, IN A SANDBOX (cutbox-rows.mjs): the forced cells as the released guide's own fill.sh prints them over the translation 25f31e92881498c2… (all of the seat's roots in one cut). By AI agents, Wed Nov 11 2026. No macro, syntax, notation, axiom, sorry.
-/
import Derived.Test.YtbikchgkglllkaaGreatChecked
import GoSem.Claim
import GoSem.ClaimJoined
import GoSem.ClaimMapViews
import Derived.JoinedTies
import Derived.KernelRfl
namespace Go.Proofs.YtbikchgkglllkaaGreat
/- THE CELL 'sum', in the pinned program and in every row, IS THE sha256 OF THE DUMP (.gsa) THAT YtbikchgkglllkaaGreatProg.lean LOADS. Nothing in Lean hashes anything: it is a label: what it is worth is what the hold of that sum in a sandbox is worth. -/
noncomputable def Tryz.pinned : Pinned := { name := "ytbikchgkglllkaagreat", sum := "25f31e92881498c215941f4a793707f13dc2b667fa747d0fe8e50e9480c1493d", checked := Tryz.checked }
namespace Rows
def none {H : Type} : Left H := { results := [], args := [] }

/-- 'erratumlaw10.CodeAsks': WHATEVER THE INPUT: true; the input reads as it did. -/
def codeAsksSpec : ChangeSpec := { name := "codeAsks", fn := fun _ => fun
  | [d1, d2, d3, d4, d5, d6, d7] => { results := [.lit (.bool true)], args := [d1, d2, d3, d4, d5, d6, d7] }
  | _ => none }
def codeAsksRow : OpenClaim := { program := "ytbikchgkglllkaagreat", sum := "25f31e92881498c215941f4a793707f13dc2b667fa747d0fe8e50e9480c1493d", func := "erratum/erratumlaw10.CodeAsks", spec := "codeAsks", unfollowed := true, recurses := true, apart := false }
def CodeAsksSaid : Prop := codeAsksRow.holds Tryz.pinned (OpenSpec.ofChange codeAsksSpec)

/-- ITS FALSE NEIGHBOUR: 'it returns false'. Refute it at one input. -/
def codeAsksWrong : ChangeSpec := { name := "codeAsks", fn := fun _ => fun
  | [d1, d2, d3, d4, d5, d6, d7] => { results := [.lit (.bool false)], args := [d1, d2, d3, d4, d5, d6, d7] }
  | _ => none }
def CodeAsksWrongFalsely : Prop := codeAsksRow.holds Tryz.pinned (OpenSpec.ofChange codeAsksWrong)

/-- 'erratumlaw10.CodeBent': WHATEVER THE INPUT: true; the input reads as it did. -/
def codeBentSpec : ChangeSpec := { name := "codeBent", fn := fun _ => fun
  | [d1, d2, d3, d4, d5] => { results := [.lit (.bool true)], args := [d1, d2, d3, d4, d5] }
  | _ => none }
def codeBentRow : OpenClaim := { program := "ytbikchgkglllkaagreat", sum := "25f31e92881498c215941f4a793707f13dc2b667fa747d0fe8e50e9480c1493d", func := "erratum/erratumlaw10.CodeBent", spec := "codeBent", unfollowed := true, recurses := true, apart := false }
def CodeBentSaid : Prop := codeBentRow.holds Tryz.pinned (OpenSpec.ofChange codeBentSpec)

/-- ITS FALSE NEIGHBOUR: 'it returns false'. Refute it at one input. -/
def codeBentWrong : ChangeSpec := { name := "codeBent", fn := fun _ => fun
  | [d1, d2, d3, d4, d5] => { results := [.lit (.bool false)], args := [d1, d2, d3, d4, d5] }
  | _ => none }
def CodeBentWrongFalsely : Prop := codeBentRow.holds Tryz.pinned (OpenSpec.ofChange codeBentWrong)

/-- 'erratumlaw10.CodeWords': WHATEVER THE INPUT: true; the input reads as it did. -/
def codeWordsSpec : ChangeSpec := { name := "codeWords", fn := fun _ => fun
  | [d1, d2, d3, d4, d5, d6] => { results := [.lit (.bool true)], args := [d1, d2, d3, d4, d5, d6] }
  | _ => none }
def codeWordsRow : OpenClaim := { program := "ytbikchgkglllkaagreat", sum := "25f31e92881498c215941f4a793707f13dc2b667fa747d0fe8e50e9480c1493d", func := "erratum/erratumlaw10.CodeWords", spec := "codeWords", unfollowed := true, recurses := true, apart := false }
def CodeWordsSaid : Prop := codeWordsRow.holds Tryz.pinned (OpenSpec.ofChange codeWordsSpec)

/-- ITS FALSE NEIGHBOUR: 'it returns false'. Refute it at one input. -/
def codeWordsWrong : ChangeSpec := { name := "codeWords", fn := fun _ => fun
  | [d1, d2, d3, d4, d5, d6] => { results := [.lit (.bool false)], args := [d1, d2, d3, d4, d5, d6] }
  | _ => none }
def CodeWordsWrongFalsely : Prop := codeWordsRow.holds Tryz.pinned (OpenSpec.ofChange codeWordsWrong)

/-- 'erratumlaw10.CodeLinear': WHATEVER THE INPUT: true; the input reads as it did. -/
def codeLinearSpec : ChangeSpec := { name := "codeLinear", fn := fun _ => fun
  | [d1, d2, d3, d4, d5, d6, d7, d8, d9] => { results := [.lit (.bool true)], args := [d1, d2, d3, d4, d5, d6, d7, d8, d9] }
  | _ => none }
def codeLinearRow : OpenClaim := { program := "ytbikchgkglllkaagreat", sum := "25f31e92881498c215941f4a793707f13dc2b667fa747d0fe8e50e9480c1493d", func := "erratum/erratumlaw10.CodeLinear", spec := "codeLinear", unfollowed := true, recurses := true, apart := false }
def CodeLinearSaid : Prop := codeLinearRow.holds Tryz.pinned (OpenSpec.ofChange codeLinearSpec)

/-- ITS FALSE NEIGHBOUR: 'it returns false'. Refute it at one input. -/
def codeLinearWrong : ChangeSpec := { name := "codeLinear", fn := fun _ => fun
  | [d1, d2, d3, d4, d5, d6, d7, d8, d9] => { results := [.lit (.bool false)], args := [d1, d2, d3, d4, d5, d6, d7, d8, d9] }
  | _ => none }
def CodeLinearWrongFalsely : Prop := codeLinearRow.holds Tryz.pinned (OpenSpec.ofChange codeLinearWrong)

/-- 'erratumlaw10.CodeFar': WHATEVER THE INPUT: true; the input reads as it did. -/
def codeFarSpec : ChangeSpec := { name := "codeFar", fn := fun _ => fun
  | [d1, d2, d3, d4, d5] => { results := [.lit (.bool true)], args := [d1, d2, d3, d4, d5] }
  | _ => none }
def codeFarRow : OpenClaim := { program := "ytbikchgkglllkaagreat", sum := "25f31e92881498c215941f4a793707f13dc2b667fa747d0fe8e50e9480c1493d", func := "erratum/erratumlaw10.CodeFar", spec := "codeFar", unfollowed := true, recurses := true, apart := false }
def CodeFarSaid : Prop := codeFarRow.holds Tryz.pinned (OpenSpec.ofChange codeFarSpec)

/-- ITS FALSE NEIGHBOUR: 'it returns false'. Refute it at one input. -/
def codeFarWrong : ChangeSpec := { name := "codeFar", fn := fun _ => fun
  | [d1, d2, d3, d4, d5] => { results := [.lit (.bool false)], args := [d1, d2, d3, d4, d5] }
  | _ => none }
def CodeFarWrongFalsely : Prop := codeFarRow.holds Tryz.pinned (OpenSpec.ofChange codeFarWrong)

/-- 'erratumlaw10.CodeRoots': WHATEVER THE INPUT: true; the input reads as it did. -/
def codeRootsSpec : ChangeSpec := { name := "codeRoots", fn := fun _ => fun
  | [d1, d2, d3, d4, d5] => { results := [.lit (.bool true)], args := [d1, d2, d3, d4, d5] }
  | _ => none }
def codeRootsRow : OpenClaim := { program := "ytbikchgkglllkaagreat", sum := "25f31e92881498c215941f4a793707f13dc2b667fa747d0fe8e50e9480c1493d", func := "erratum/erratumlaw10.CodeRoots", spec := "codeRoots", unfollowed := true, recurses := true, apart := false }
def CodeRootsSaid : Prop := codeRootsRow.holds Tryz.pinned (OpenSpec.ofChange codeRootsSpec)

/-- ITS FALSE NEIGHBOUR: 'it returns false'. Refute it at one input. -/
def codeRootsWrong : ChangeSpec := { name := "codeRoots", fn := fun _ => fun
  | [d1, d2, d3, d4, d5] => { results := [.lit (.bool false)], args := [d1, d2, d3, d4, d5] }
  | _ => none }
def CodeRootsWrongFalsely : Prop := codeRootsRow.holds Tryz.pinned (OpenSpec.ofChange codeRootsWrong)

/-- 'erratumlaw10.CodeNested': WHATEVER THE INPUT: true; the input reads as it did. -/
def codeNestedSpec : ChangeSpec := { name := "codeNested", fn := fun _ => fun
  | [d1, d2, d3, d4, d5] => { results := [.lit (.bool true)], args := [d1, d2, d3, d4, d5] }
  | _ => none }
def codeNestedRow : OpenClaim := { program := "ytbikchgkglllkaagreat", sum := "25f31e92881498c215941f4a793707f13dc2b667fa747d0fe8e50e9480c1493d", func := "erratum/erratumlaw10.CodeNested", spec := "codeNested", unfollowed := true, recurses := true, apart := false }
def CodeNestedSaid : Prop := codeNestedRow.holds Tryz.pinned (OpenSpec.ofChange codeNestedSpec)

/-- ITS FALSE NEIGHBOUR: 'it returns false'. Refute it at one input. -/
def codeNestedWrong : ChangeSpec := { name := "codeNested", fn := fun _ => fun
  | [d1, d2, d3, d4, d5] => { results := [.lit (.bool false)], args := [d1, d2, d3, d4, d5] }
  | _ => none }
def CodeNestedWrongFalsely : Prop := codeNestedRow.holds Tryz.pinned (OpenSpec.ofChange codeNestedWrong)

/- THE SECOND FORM. 'bulk': how many values and letters a reading holds, each counted each time it is reached (what is shared counts as often as it is met; a slice's spare places count too). A statement '..UptoSaid' is the law's where the arguments, and the package variables that the reading takes, are together of bulk at most 1048576: NARROWER than '..Said'. Prove '..Said' where nothing that the law and all that it calls make is longer than what came in: it says more and counts as full. Else prove '..UptoSaid'. A law counts once. -/
mutual
def uptoBulk {H : Type} : DataW H → Nat
  | .lit (.string bytes) => bytes.length + 1
  | .lit _ => 1
  | .nil => 1
  | .ptr d => uptoBulk d + 1
  | .slice elems spare => uptoBulkAll elems + uptoBulkAll spare + 1
  | .agg parts => uptoBulkAll parts + 1
  | .iface _ d => uptoBulk d + 1
  | .map entries => uptoBulkEntries entries + 1
  | .held _ => 1
def uptoBulkAll {H : Type} : List (DataW H) → Nat
  | [] => 0
  | d :: r => uptoBulk d + uptoBulkAll r
def uptoBulkEntries {H : Type} : List (Lit × DataW H) → Nat
  | [] => 0
  | x :: r => uptoBulkEntry x + uptoBulkEntries r
def uptoBulkEntry {H : Type} : Lit × DataW H → Nat
  | (.string bytes, d) => bytes.length + uptoBulk d + 1
  | (_, d) => uptoBulk d + 1
 end
def uptoSmall : (H : Type) → List (DataW H) → Bool := fun _ ds => decide (uptoBulkAll ds ≤ 1048576)
def OpenSpec.upto (s : _root_.Go.ChangeSpec) : _root_.Go.OpenSpec := { _root_.Go.OpenSpec.ofChange s with cond := some uptoSmall }

/-- 'erratumlaw10.CodeAsks', WHERE WHAT IT READS IS OF BULK AT MOST 1048576: true; the input reads as it did. -/
def codeAsksUptoRow : OpenClaim := { program := "ytbikchgkglllkaagreat", sum := "25f31e92881498c215941f4a793707f13dc2b667fa747d0fe8e50e9480c1493d", func := "erratum/erratumlaw10.CodeAsks", spec := "codeAsks", unfollowed := true, recurses := true, apart := false, narrowed := true }
def CodeAsksUptoSaid : Prop := codeAsksUptoRow.holds Tryz.pinned (OpenSpec.upto codeAsksSpec)

/-- 'erratumlaw10.CodeBent', WHERE WHAT IT READS IS OF BULK AT MOST 1048576: true; the input reads as it did. -/
def codeBentUptoRow : OpenClaim := { program := "ytbikchgkglllkaagreat", sum := "25f31e92881498c215941f4a793707f13dc2b667fa747d0fe8e50e9480c1493d", func := "erratum/erratumlaw10.CodeBent", spec := "codeBent", unfollowed := true, recurses := true, apart := false, narrowed := true }
def CodeBentUptoSaid : Prop := codeBentUptoRow.holds Tryz.pinned (OpenSpec.upto codeBentSpec)

/-- 'erratumlaw10.CodeWords', WHERE WHAT IT READS IS OF BULK AT MOST 1048576: true; the input reads as it did. -/
def codeWordsUptoRow : OpenClaim := { program := "ytbikchgkglllkaagreat", sum := "25f31e92881498c215941f4a793707f13dc2b667fa747d0fe8e50e9480c1493d", func := "erratum/erratumlaw10.CodeWords", spec := "codeWords", unfollowed := true, recurses := true, apart := false, narrowed := true }
def CodeWordsUptoSaid : Prop := codeWordsUptoRow.holds Tryz.pinned (OpenSpec.upto codeWordsSpec)

/-- 'erratumlaw10.CodeLinear', WHERE WHAT IT READS IS OF BULK AT MOST 1048576: true; the input reads as it did. -/
def codeLinearUptoRow : OpenClaim := { program := "ytbikchgkglllkaagreat", sum := "25f31e92881498c215941f4a793707f13dc2b667fa747d0fe8e50e9480c1493d", func := "erratum/erratumlaw10.CodeLinear", spec := "codeLinear", unfollowed := true, recurses := true, apart := false, narrowed := true }
def CodeLinearUptoSaid : Prop := codeLinearUptoRow.holds Tryz.pinned (OpenSpec.upto codeLinearSpec)

/-- 'erratumlaw10.CodeFar', WHERE WHAT IT READS IS OF BULK AT MOST 1048576: true; the input reads as it did. -/
def codeFarUptoRow : OpenClaim := { program := "ytbikchgkglllkaagreat", sum := "25f31e92881498c215941f4a793707f13dc2b667fa747d0fe8e50e9480c1493d", func := "erratum/erratumlaw10.CodeFar", spec := "codeFar", unfollowed := true, recurses := true, apart := false, narrowed := true }
def CodeFarUptoSaid : Prop := codeFarUptoRow.holds Tryz.pinned (OpenSpec.upto codeFarSpec)

/-- 'erratumlaw10.CodeRoots', WHERE WHAT IT READS IS OF BULK AT MOST 1048576: true; the input reads as it did. -/
def codeRootsUptoRow : OpenClaim := { program := "ytbikchgkglllkaagreat", sum := "25f31e92881498c215941f4a793707f13dc2b667fa747d0fe8e50e9480c1493d", func := "erratum/erratumlaw10.CodeRoots", spec := "codeRoots", unfollowed := true, recurses := true, apart := false, narrowed := true }
def CodeRootsUptoSaid : Prop := codeRootsUptoRow.holds Tryz.pinned (OpenSpec.upto codeRootsSpec)

/-- 'erratumlaw10.CodeNested', WHERE WHAT IT READS IS OF BULK AT MOST 1048576: true; the input reads as it did. -/
def codeNestedUptoRow : OpenClaim := { program := "ytbikchgkglllkaagreat", sum := "25f31e92881498c215941f4a793707f13dc2b667fa747d0fe8e50e9480c1493d", func := "erratum/erratumlaw10.CodeNested", spec := "codeNested", unfollowed := true, recurses := true, apart := false, narrowed := true }
def CodeNestedUptoSaid : Prop := codeNestedUptoRow.holds Tryz.pinned (OpenSpec.upto codeNestedSpec)

end Rows
end Go.Proofs.YtbikchgkglllkaaGreat
