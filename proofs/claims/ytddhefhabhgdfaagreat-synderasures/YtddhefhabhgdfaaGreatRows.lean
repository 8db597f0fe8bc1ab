/-
  No cell of these rows narrows 'for every input' (looked for: loops, veiled, ifaces, maps, wideKeys, modest, calm, conditions, laid).
  DERIVED. THE GIVEN ROWS OF THIS SEAT. 6 by the template 'for every input the law returns true; each argument reads behind the call as it read before'; 0 by the template 'total and deterministic' (their statements: YtddhefhabhgdfaaGreatTotals.lean).
  GIVEN WITH THE SEED: the statements are not yours to turn. If you find one false, say at which input.
  Laid BY PROGRAM, IN A SANDBOX (cutbox-rows.mjs): the forced cells as the released guide's own fill.sh prints them over the translation d63a8ea66dbc69f8… (all of the seat's roots in one cut). By AI agents, Wed Nov 11 2026. No macro, syntax, notation, axiom, sorry.
-/
import Derived.Test.YtddhefhabhgdfaaGreatChecked
import GoSem.Claim
import GoSem.ClaimJoined
import GoSem.ClaimMapViews
import Derived.JoinedTies
import Derived.KernelRfl
namespace Go.Proofs.YtddhefhabhgdfaaGreat
/- THE CELL 'sum', in the pinned program and in every row, IS THE sha256 OF THE DUMP (.gsa) THAT YtddhefhabhgdfaaGreatProg.lean LOADS. Nothing in Lean hashes anything: it is a label: what it is worth is what the hold of that sum in a sandbox is worth. -/
noncomputable def Tryz.pinned : Pinned := { name := "ytddhefhabhgdfaagreat", sum := "d63a8ea66dbc69f889738cd1de476a9673baf4d0ea6f85f6690fc015a5c9cc50", checked := Tryz.checked }
namespace Rows
def none {H : Type} : Left H := { results := [], args := [] }

/-- 'erratumlaw12.SyndAsks': WHATEVER THE INPUT: true; the input reads as it did. -/
def syndAsksSpec : ChangeSpec := { name := "syndAsks", fn := fun _ => fun
  | [d1, d2, d3, d4, d5, d6, d7, d8, d9, d10] => { results := [.lit (.bool true)], args := [d1, d2, d3, d4, d5, d6, d7, d8, d9, d10] }
  | _ => none }
def syndAsksRow : OpenClaim := { program := "ytddhefhabhgdfaagreat", sum := "d63a8ea66dbc69f889738cd1de476a9673baf4d0ea6f85f6690fc015a5c9cc50", func := "erratum/erratumlaw12.SyndAsks", spec := "syndAsks", unfollowed := true, recurses := true, apart := false }
def SyndAsksSaid : Prop := syndAsksRow.holds Tryz.pinned (OpenSpec.ofChange syndAsksSpec)

/-- ITS FALSE NEIGHBOUR: 'it returns false'. Refute it at one input. -/
def syndAsksWrong : ChangeSpec := { name := "syndAsks", fn := fun _ => fun
  | [d1, d2, d3, d4, d5, d6, d7, d8, d9, d10] => { results := [.lit (.bool false)], args := [d1, d2, d3, d4, d5, d6, d7, d8, d9, d10] }
  | _ => none }
def SyndAsksWrongFalsely : Prop := syndAsksRow.holds Tryz.pinned (OpenSpec.ofChange syndAsksWrong)

/-- 'erratumlaw12.SyndWords': WHATEVER THE INPUT: true; the input reads as it did. -/
def syndWordsSpec : ChangeSpec := { name := "syndWords", fn := fun _ => fun
  | [d1, d2, d3, d4, d5, d6] => { results := [.lit (.bool true)], args := [d1, d2, d3, d4, d5, d6] }
  | _ => none }
def syndWordsRow : OpenClaim := { program := "ytddhefhabhgdfaagreat", sum := "d63a8ea66dbc69f889738cd1de476a9673baf4d0ea6f85f6690fc015a5c9cc50", func := "erratum/erratumlaw12.SyndWords", spec := "syndWords", unfollowed := true, recurses := true, apart := false }
def SyndWordsSaid : Prop := syndWordsRow.holds Tryz.pinned (OpenSpec.ofChange syndWordsSpec)

/-- ITS FALSE NEIGHBOUR: 'it returns false'. Refute it at one input. -/
def syndWordsWrong : ChangeSpec := { name := "syndWords", fn := fun _ => fun
  | [d1, d2, d3, d4, d5, d6] => { results := [.lit (.bool false)], args := [d1, d2, d3, d4, d5, d6] }
  | _ => none }
def SyndWordsWrongFalsely : Prop := syndWordsRow.holds Tryz.pinned (OpenSpec.ofChange syndWordsWrong)

/-- 'erratumlaw12.SyndLocator': WHATEVER THE INPUT: true; the input reads as it did. -/
def syndLocatorSpec : ChangeSpec := { name := "syndLocator", fn := fun _ => fun
  | [d1, d2, d3, d4, d5, d6] => { results := [.lit (.bool true)], args := [d1, d2, d3, d4, d5, d6] }
  | _ => none }
def syndLocatorRow : OpenClaim := { program := "ytddhefhabhgdfaagreat", sum := "d63a8ea66dbc69f889738cd1de476a9673baf4d0ea6f85f6690fc015a5c9cc50", func := "erratum/erratumlaw12.SyndLocator", spec := "syndLocator", unfollowed := true, recurses := true, apart := false }
def SyndLocatorSaid : Prop := syndLocatorRow.holds Tryz.pinned (OpenSpec.ofChange syndLocatorSpec)

/-- ITS FALSE NEIGHBOUR: 'it returns false'. Refute it at one input. -/
def syndLocatorWrong : ChangeSpec := { name := "syndLocator", fn := fun _ => fun
  | [d1, d2, d3, d4, d5, d6] => { results := [.lit (.bool false)], args := [d1, d2, d3, d4, d5, d6] }
  | _ => none }
def SyndLocatorWrongFalsely : Prop := syndLocatorRow.holds Tryz.pinned (OpenSpec.ofChange syndLocatorWrong)

/-- 'erratumlaw12.SyndOne': WHATEVER THE INPUT: true; the input reads as it did. -/
def syndOneSpec : ChangeSpec := { name := "syndOne", fn := fun _ => fun
  | [d1, d2, d3, d4, d5, d6] => { results := [.lit (.bool true)], args := [d1, d2, d3, d4, d5, d6] }
  | _ => none }
def syndOneRow : OpenClaim := { program := "ytddhefhabhgdfaagreat", sum := "d63a8ea66dbc69f889738cd1de476a9673baf4d0ea6f85f6690fc015a5c9cc50", func := "erratum/erratumlaw12.SyndOne", spec := "syndOne", unfollowed := true, recurses := true, apart := false }
def SyndOneSaid : Prop := syndOneRow.holds Tryz.pinned (OpenSpec.ofChange syndOneSpec)

/-- ITS FALSE NEIGHBOUR: 'it returns false'. Refute it at one input. -/
def syndOneWrong : ChangeSpec := { name := "syndOne", fn := fun _ => fun
  | [d1, d2, d3, d4, d5, d6] => { results := [.lit (.bool false)], args := [d1, d2, d3, d4, d5, d6] }
  | _ => none }
def SyndOneWrongFalsely : Prop := syndOneRow.holds Tryz.pinned (OpenSpec.ofChange syndOneWrong)

/-- 'erratumlaw12.SyndModified': WHATEVER THE INPUT: true; the input reads as it did. -/
def syndModifiedSpec : ChangeSpec := { name := "syndModified", fn := fun _ => fun
  | [d1, d2, d3, d4, d5, d6] => { results := [.lit (.bool true)], args := [d1, d2, d3, d4, d5, d6] }
  | _ => none }
def syndModifiedRow : OpenClaim := { program := "ytddhefhabhgdfaagreat", sum := "d63a8ea66dbc69f889738cd1de476a9673baf4d0ea6f85f6690fc015a5c9cc50", func := "erratum/erratumlaw12.SyndModified", spec := "syndModified", unfollowed := true, recurses := true, apart := false }
def SyndModifiedSaid : Prop := syndModifiedRow.holds Tryz.pinned (OpenSpec.ofChange syndModifiedSpec)

/-- ITS FALSE NEIGHBOUR: 'it returns false'. Refute it at one input. -/
def syndModifiedWrong : ChangeSpec := { name := "syndModified", fn := fun _ => fun
  | [d1, d2, d3, d4, d5, d6] => { results := [.lit (.bool false)], args := [d1, d2, d3, d4, d5, d6] }
  | _ => none }
def SyndModifiedWrongFalsely : Prop := syndModifiedRow.holds Tryz.pinned (OpenSpec.ofChange syndModifiedWrong)

/-- 'erratumlaw12.SyndErasures': WHATEVER THE INPUT: true; the input reads as it did. -/
def syndErasuresSpec : ChangeSpec := { name := "syndErasures", fn := fun _ => fun
  | [d1, d2, d3, d4, d5] => { results := [.lit (.bool true)], args := [d1, d2, d3, d4, d5] }
  | _ => none }
def syndErasuresRow : OpenClaim := { program := "ytddhefhabhgdfaagreat", sum := "d63a8ea66dbc69f889738cd1de476a9673baf4d0ea6f85f6690fc015a5c9cc50", func := "erratum/erratumlaw12.SyndErasures", spec := "syndErasures", unfollowed := true, recurses := true, apart := false }
def SyndErasuresSaid : Prop := syndErasuresRow.holds Tryz.pinned (OpenSpec.ofChange syndErasuresSpec)

/-- ITS FALSE NEIGHBOUR: 'it returns false'. Refute it at one input. -/
def syndErasuresWrong : ChangeSpec := { name := "syndErasures", fn := fun _ => fun
  | [d1, d2, d3, d4, d5] => { results := [.lit (.bool false)], args := [d1, d2, d3, d4, d5] }
  | _ => none }
def SyndErasuresWrongFalsely : Prop := syndErasuresRow.holds Tryz.pinned (OpenSpec.ofChange syndErasuresWrong)

/- THE SECOND FORM. 'bulk': how many values and letters a reading holds, each counted each time it is reached (what is shared counts as often as it is met; a slice's spare places count too). A statement '..UptoSaid' is the law's where the arguments, and the package variables that the reading takes, are together of bulk at most 1048576: NARROWER than '..Said'. Prove '..Said' where nothing that the law and all that it calls make is longer than what came in: it says more and counts as full. Else prove '..UptoSaid'. A law counts once. -/
mutual
def uptoBulk {H : Type} : DataW H → Nat
  | .lit (.string bytes) => bytes.length + 1
  | .lit _ => 1
  | .nil => 1
  | .ptr d => uptoBulk d + 1
  | .slice elems spare => uptoBulkAll elems + uptoBulkAll spare + 1
  | .agg parts => uptoBulkAll parts + 1
  | .iface _ d => uptoBulk d + 1
  | .map entries => uptoBulkEntries entries + 1
  | .held _ => 1
def uptoBulkAll {H : Type} : List (DataW H) → Nat
  | [] => 0
  | d :: r => uptoBulk d + uptoBulkAll r
def uptoBulkEntries {H : Type} : List (Lit × DataW H) → Nat
  | [] => 0
  | x :: r => uptoBulkEntry x + uptoBulkEntries r
def uptoBulkEntry {H : Type} : Lit × DataW H → Nat
  | (.string bytes, d) => bytes.length + uptoBulk d + 1
  | (_, d) => uptoBulk d + 1
 end
def uptoSmall : (H : Type) → List (DataW H) → Bool := fun _ ds => decide (uptoBulkAll ds ≤ 1048576)
def OpenSpec.upto (s : _root_.Go.ChangeSpec) : _root_.Go.OpenSpec := { _root_.Go.OpenSpec.ofChange s with cond := some uptoSmall }

/-- 'erratumlaw12.SyndAsks', WHERE WHAT IT READS IS OF BULK AT MOST 1048576: true; the input reads as it did. -/
def syndAsksUptoRow : OpenClaim := { program := "ytddhefhabhgdfaagreat", sum := "d63a8ea66dbc69f889738cd1de476a9673baf4d0ea6f85f6690fc015a5c9cc50", func := "erratum/erratumlaw12.SyndAsks", spec := "syndAsks", unfollowed := true, recurses := true, apart := false, narrowed := true }
def SyndAsksUptoSaid : Prop := syndAsksUptoRow.holds Tryz.pinned (OpenSpec.upto syndAsksSpec)

/-- 'erratumlaw12.SyndWords', WHERE WHAT IT READS IS OF BULK AT MOST 1048576: true; the input reads as it did. -/
def syndWordsUptoRow : OpenClaim := { program := "ytddhefhabhgdfaagreat", sum := "d63a8ea66dbc69f889738cd1de476a9673baf4d0ea6f85f6690fc015a5c9cc50", func := "erratum/erratumlaw12.SyndWords", spec := "syndWords", unfollowed := true, recurses := true, apart := false, narrowed := true }
def SyndWordsUptoSaid : Prop := syndWordsUptoRow.holds Tryz.pinned (OpenSpec.upto syndWordsSpec)

/-- 'erratumlaw12.SyndLocator', WHERE WHAT IT READS IS OF BULK AT MOST 1048576: true; the input reads as it did. -/
def syndLocatorUptoRow : OpenClaim := { program := "ytddhefhabhgdfaagreat", sum := "d63a8ea66dbc69f889738cd1de476a9673baf4d0ea6f85f6690fc015a5c9cc50", func := "erratum/erratumlaw12.SyndLocator", spec := "syndLocator", unfollowed := true, recurses := true, apart := false, narrowed := true }
def SyndLocatorUptoSaid : Prop := syndLocatorUptoRow.holds Tryz.pinned (OpenSpec.upto syndLocatorSpec)

/-- 'erratumlaw12.SyndOne', WHERE WHAT IT READS IS OF BULK AT MOST 1048576: true; the input reads as it did. -/
def syndOneUptoRow : OpenClaim := { program := "ytddhefhabhgdfaagreat", sum := "d63a8ea66dbc69f889738cd1de476a9673baf4d0ea6f85f6690fc015a5c9cc50", func := "erratum/erratumlaw12.SyndOne", spec := "syndOne", unfollowed := true, recurses := true, apart := false, narrowed := true }
def SyndOneUptoSaid : Prop := syndOneUptoRow.holds Tryz.pinned (OpenSpec.upto syndOneSpec)

/-- 'erratumlaw12.SyndModified', WHERE WHAT IT READS IS OF BULK AT MOST 1048576: true; the input reads as it did. -/
def syndModifiedUptoRow : OpenClaim := { program := "ytddhefhabhgdfaagreat", sum := "d63a8ea66dbc69f889738cd1de476a9673baf4d0ea6f85f6690fc015a5c9cc50", func := "erratum/erratumlaw12.SyndModified", spec := "syndModified", unfollowed := true, recurses := true, apart := false, narrowed := true }
def SyndModifiedUptoSaid : Prop := syndModifiedUptoRow.holds Tryz.pinned (OpenSpec.upto syndModifiedSpec)

/-- 'erratumlaw12.SyndErasures', WHERE WHAT IT READS IS OF BULK AT MOST 1048576: true; the input reads as it did. -/
def syndErasuresUptoRow : OpenClaim := { program := "ytddhefhabhgdfaagreat", sum := "d63a8ea66dbc69f889738cd1de476a9673baf4d0ea6f85f6690fc015a5c9cc50", func := "erratum/erratumlaw12.SyndErasures", spec := "syndErasures", unfollowed := true, recurses := true, apart := false, narrowed := true }
def SyndErasuresUptoSaid : Prop := syndErasuresUptoRow.holds Tryz.pinned (OpenSpec.upto syndErasuresSpec)

end Rows
end Go.Proofs.YtddhefhabhgdfaaGreat
