/-
  No cell of these rows narrows 'for every input' (looked for: loops, veiled, ifaces, maps, wideKeys, modest, calm, conditions, laid).
  DERIVED. THE GIVEN ROWS OF THIS SEAT. 5 by the template 'for every input the law returns true; each argument reads behind the call as it read before'; 0 by the template 'total and deterministic' (their statements: YtphhehppcfddgaaTotals.lean).
  GIVEN WITH THE SEED: the statements are not yours to turn. If you find one false, say at which input.
  Laid BY PROGRAM, IN A SANDBOX (cutbox-rows.mjs): the forced cells as the released guide's own fill.sh prints them over the translation 970174707db5d413… (all of the seat's roots in one cut). By AI agents, Wed Nov 11 2026. No macro, syntax, notation, axiom, sorry.
-/
import Derived.Test.YtphhehppcfddgaaChecked
import GoSem.Claim
import GoSem.ClaimJoined
import GoSem.ClaimMapViews
import Derived.JoinedTies
import Derived.KernelRfl
namespace Go.Proofs.Ytphhehppcfddgaa
/- THE CELL 'sum', in the pinned program and in every row, IS THE sha256 OF THE DUMP (.gsa) THAT YtphhehppcfddgaaProg.lean LOADS. Nothing in Lean hashes anything: it is a label: what it is worth is what the hold of that sum in a sandbox is worth. -/
noncomputable def Try.pinned : Pinned := { name := "ytphhehppcfddgaa", sum := "970174707db5d413eb79caa4b8ee4cc527c84df2afd0aaacc4c0e0ee3b2c047e", checked := Try.checked }
namespace Rows
def none {H : Type} : Left H := { results := [], args := [] }

/-- 'erratumlaw06.QuotBack': WHATEVER THE INPUT: true; the input reads as it did. -/
def quotBackSpec : ChangeSpec := { name := "quotBack", fn := fun _ => fun
  | [d1, d2, d3] => { results := [.lit (.bool true)], args := [d1, d2, d3] }
  | _ => none }
def quotBackRow : OpenClaim := { program := "ytphhehppcfddgaa", sum := "970174707db5d413eb79caa4b8ee4cc527c84df2afd0aaacc4c0e0ee3b2c047e", func := "erratum/erratumlaw06.QuotBack", spec := "quotBack", unfollowed := true, recurses := true, apart := false }
def QuotBackSaid : Prop := quotBackRow.holds Try.pinned (OpenSpec.ofChange quotBackSpec)

/-- ITS FALSE NEIGHBOUR: 'it returns false'. Refute it at one input. -/
def quotBackWrong : ChangeSpec := { name := "quotBack", fn := fun _ => fun
  | [d1, d2, d3] => { results := [.lit (.bool false)], args := [d1, d2, d3] }
  | _ => none }
def QuotBackWrongFalsely : Prop := quotBackRow.holds Try.pinned (OpenSpec.ofChange quotBackWrong)

/-- 'erratumlaw06.QuotExact': WHATEVER THE INPUT: true; the input reads as it did. -/
def quotExactSpec : ChangeSpec := { name := "quotExact", fn := fun _ => fun
  | [d1, d2, d3, d4] => { results := [.lit (.bool true)], args := [d1, d2, d3, d4] }
  | _ => none }
def quotExactRow : OpenClaim := { program := "ytphhehppcfddgaa", sum := "970174707db5d413eb79caa4b8ee4cc527c84df2afd0aaacc4c0e0ee3b2c047e", func := "erratum/erratumlaw06.QuotExact", spec := "quotExact", unfollowed := true, recurses := true, apart := false }
def QuotExactSaid : Prop := quotExactRow.holds Try.pinned (OpenSpec.ofChange quotExactSpec)

/-- ITS FALSE NEIGHBOUR: 'it returns false'. Refute it at one input. -/
def quotExactWrong : ChangeSpec := { name := "quotExact", fn := fun _ => fun
  | [d1, d2, d3, d4] => { results := [.lit (.bool false)], args := [d1, d2, d3, d4] }
  | _ => none }
def QuotExactWrongFalsely : Prop := quotExactRow.holds Try.pinned (OpenSpec.ofChange quotExactWrong)

/-- 'erratumlaw06.QuotGcd': WHATEVER THE INPUT: true; the input reads as it did. -/
def quotGcdSpec : ChangeSpec := { name := "quotGcd", fn := fun _ => fun
  | [d1, d2, d3, d4] => { results := [.lit (.bool true)], args := [d1, d2, d3, d4] }
  | _ => none }
def quotGcdRow : OpenClaim := { program := "ytphhehppcfddgaa", sum := "970174707db5d413eb79caa4b8ee4cc527c84df2afd0aaacc4c0e0ee3b2c047e", func := "erratum/erratumlaw06.QuotGcd", spec := "quotGcd", unfollowed := true, recurses := true, apart := false }
def QuotGcdSaid : Prop := quotGcdRow.holds Try.pinned (OpenSpec.ofChange quotGcdSpec)

/-- ITS FALSE NEIGHBOUR: 'it returns false'. Refute it at one input. -/
def quotGcdWrong : ChangeSpec := { name := "quotGcd", fn := fun _ => fun
  | [d1, d2, d3, d4] => { results := [.lit (.bool false)], args := [d1, d2, d3, d4] }
  | _ => none }
def QuotGcdWrongFalsely : Prop := quotGcdRow.holds Try.pinned (OpenSpec.ofChange quotGcdWrong)

/-- 'erratumlaw06.QuotMod': WHATEVER THE INPUT: true; the input reads as it did. -/
def quotModSpec : ChangeSpec := { name := "quotMod", fn := fun _ => fun
  | [d1, d2, d3, d4] => { results := [.lit (.bool true)], args := [d1, d2, d3, d4] }
  | _ => none }
def quotModRow : OpenClaim := { program := "ytphhehppcfddgaa", sum := "970174707db5d413eb79caa4b8ee4cc527c84df2afd0aaacc4c0e0ee3b2c047e", func := "erratum/erratumlaw06.QuotMod", spec := "quotMod", unfollowed := true, recurses := true, apart := false }
def QuotModSaid : Prop := quotModRow.holds Try.pinned (OpenSpec.ofChange quotModSpec)

/-- ITS FALSE NEIGHBOUR: 'it returns false'. Refute it at one input. -/
def quotModWrong : ChangeSpec := { name := "quotMod", fn := fun _ => fun
  | [d1, d2, d3, d4] => { results := [.lit (.bool false)], args := [d1, d2, d3, d4] }
  | _ => none }
def QuotModWrongFalsely : Prop := quotModRow.holds Try.pinned (OpenSpec.ofChange quotModWrong)

/-- 'erratumlaw06.QuotNone': WHATEVER THE INPUT: true; the input reads as it did. -/
def quotNoneSpec : ChangeSpec := { name := "quotNone", fn := fun _ => fun
  | [d1, d2, d3] => { results := [.lit (.bool true)], args := [d1, d2, d3] }
  | _ => none }
def quotNoneRow : OpenClaim := { program := "ytphhehppcfddgaa", sum := "970174707db5d413eb79caa4b8ee4cc527c84df2afd0aaacc4c0e0ee3b2c047e", func := "erratum/erratumlaw06.QuotNone", spec := "quotNone", unfollowed := true, recurses := true, apart := false }
def QuotNoneSaid : Prop := quotNoneRow.holds Try.pinned (OpenSpec.ofChange quotNoneSpec)

/-- ITS FALSE NEIGHBOUR: 'it returns false'. Refute it at one input. -/
def quotNoneWrong : ChangeSpec := { name := "quotNone", fn := fun _ => fun
  | [d1, d2, d3] => { results := [.lit (.bool false)], args := [d1, d2, d3] }
  | _ => none }
def QuotNoneWrongFalsely : Prop := quotNoneRow.holds Try.pinned (OpenSpec.ofChange quotNoneWrong)

/- THE SECOND FORM. 'bulk': how many values and letters a reading holds, each counted each time it is reached (what is shared counts as often as it is met; a slice's spare places count too). A statement '..UptoSaid' is the law's where the arguments, and the package variables that the reading takes, are together of bulk at most 1048576: NARROWER than '..Said'. Prove '..Said' where nothing that the law and all that it calls make is longer than what came in: it says more and counts as full. Else prove '..UptoSaid'. A law counts once. -/
mutual
def uptoBulk {H : Type} : DataW H → Nat
  | .lit (.string bytes) => bytes.length + 1
  | .lit _ => 1
  | .nil => 1
  | .ptr d => uptoBulk d + 1
  | .slice elems spare => uptoBulkAll elems + uptoBulkAll spare + 1
  | .agg parts => uptoBulkAll parts + 1
  | .iface _ d => uptoBulk d + 1
  | .map entries => uptoBulkEntries entries + 1
  | .held _ => 1
def uptoBulkAll {H : Type} : List (DataW H) → Nat
  | [] => 0
  | d :: r => uptoBulk d + uptoBulkAll r
def uptoBulkEntries {H : Type} : List (Lit × DataW H) → Nat
  | [] => 0
  | x :: r => uptoBulkEntry x + uptoBulkEntries r
def uptoBulkEntry {H : Type} : Lit × DataW H → Nat
  | (.string bytes, d) => bytes.length + uptoBulk d + 1
  | (_, d) => uptoBulk d + 1
 end
def uptoSmall : (H : Type) → List (DataW H) → Bool := fun _ ds => decide (uptoBulkAll ds ≤ 1048576)
def OpenSpec.upto (s : _root_.Go.ChangeSpec) : _root_.Go.OpenSpec := { _root_.Go.OpenSpec.ofChange s with cond := some uptoSmall }

/-- 'erratumlaw06.QuotBack', WHERE WHAT IT READS IS OF BULK AT MOST 1048576: true; the input reads as it did. -/
def quotBackUptoRow : OpenClaim := { program := "ytphhehppcfddgaa", sum := "970174707db5d413eb79caa4b8ee4cc527c84df2afd0aaacc4c0e0ee3b2c047e", func := "erratum/erratumlaw06.QuotBack", spec := "quotBack", unfollowed := true, recurses := true, apart := false, narrowed := true }
def QuotBackUptoSaid : Prop := quotBackUptoRow.holds Try.pinned (OpenSpec.upto quotBackSpec)

/-- 'erratumlaw06.QuotExact', WHERE WHAT IT READS IS OF BULK AT MOST 1048576: true; the input reads as it did. -/
def quotExactUptoRow : OpenClaim := { program := "ytphhehppcfddgaa", sum := "970174707db5d413eb79caa4b8ee4cc527c84df2afd0aaacc4c0e0ee3b2c047e", func := "erratum/erratumlaw06.QuotExact", spec := "quotExact", unfollowed := true, recurses := true, apart := false, narrowed := true }
def QuotExactUptoSaid : Prop := quotExactUptoRow.holds Try.pinned (OpenSpec.upto quotExactSpec)

/-- 'erratumlaw06.QuotGcd', WHERE WHAT IT READS IS OF BULK AT MOST 1048576: true; the input reads as it did. -/
def quotGcdUptoRow : OpenClaim := { program := "ytphhehppcfddgaa", sum := "970174707db5d413eb79caa4b8ee4cc527c84df2afd0aaacc4c0e0ee3b2c047e", func := "erratum/erratumlaw06.QuotGcd", spec := "quotGcd", unfollowed := true, recurses := true, apart := false, narrowed := true }
def QuotGcdUptoSaid : Prop := quotGcdUptoRow.holds Try.pinned (OpenSpec.upto quotGcdSpec)

/-- 'erratumlaw06.QuotMod', WHERE WHAT IT READS IS OF BULK AT MOST 1048576: true; the input reads as it did. -/
def quotModUptoRow : OpenClaim := { program := "ytphhehppcfddgaa", sum := "970174707db5d413eb79caa4b8ee4cc527c84df2afd0aaacc4c0e0ee3b2c047e", func := "erratum/erratumlaw06.QuotMod", spec := "quotMod", unfollowed := true, recurses := true, apart := false, narrowed := true }
def QuotModUptoSaid : Prop := quotModUptoRow.holds Try.pinned (OpenSpec.upto quotModSpec)

/-- 'erratumlaw06.QuotNone', WHERE WHAT IT READS IS OF BULK AT MOST 1048576: true; the input reads as it did. -/
def quotNoneUptoRow : OpenClaim := { program := "ytphhehppcfddgaa", sum := "970174707db5d413eb79caa4b8ee4cc527c84df2afd0aaacc4c0e0ee3b2c047e", func := "erratum/erratumlaw06.QuotNone", spec := "quotNone", unfollowed := true, recurses := true, apart := false, narrowed := true }
def QuotNoneUptoSaid : Prop := quotNoneUptoRow.holds Try.pinned (OpenSpec.upto quotNoneSpec)

end Rows
end Go.Proofs.Ytphhehppcfddgaa
