/-
  No cell of these rows narrows 'for every input' (looked for: loops, veiled, ifaces, maps, wideKeys, modest, calm, conditions, laid).
  DERIVED. THE GIVEN ROWS OF THIS SEAT. 5 by the template 'for every input the law returns true; each argument reads behind the call as it read before'; 0 by the template 'total and deterministic' (their statements: YtjnkkokhkooegaaGreatTotals.lean).
  GIVEN WITH THE SEED: the statements are not yours to turn. If you find one false, say at which input.
  Laid BY PROGRAM, IN A SANDBOX (cutbox-rows.mjs): the forced cells as the released guide's own fill.sh prints them over the translation 7c184625b73d25b1… (all of the seat's roots in one cut). By AI agents, Wed Nov 11 2026. No macro, syntax, notation, axiom, sorry.
-/
import Derived.Test.YtjnkkokhkooegaaGreatChecked
import GoSem.Claim
import GoSem.ClaimJoined
import GoSem.ClaimMapViews
import Derived.JoinedTies
import Derived.KernelRfl
namespace Go.Proofs.YtjnkkokhkooegaaGreat
/- THE CELL 'sum', in the pinned program and in every row, IS THE sha256 OF THE DUMP (.gsa) THAT YtjnkkokhkooegaaGreatProg.lean LOADS. Nothing in Lean hashes anything: it is a label: what it is worth is what the hold of that sum in a sandbox is worth. -/
noncomputable def Tryz.pinned : Pinned := { name := "ytjnkkokhkooegaagreat", sum := "7c184625b73d25b1080abe32b94d2b3fc75a23e2b60db67cad50aceefca09a6d", checked := Tryz.checked }
namespace Rows
def none {H : Type} : Left H := { results := [], args := [] }

/-- 'erratumlaw13.CheckOnly': WHATEVER THE INPUT: true; the input reads as it did. -/
def checkOnlySpec : ChangeSpec := { name := "checkOnly", fn := fun _ => fun
  | [d1, d2, d3, d4, d5, d6, d7, d8, d9, d10] => { results := [.lit (.bool true)], args := [d1, d2, d3, d4, d5, d6, d7, d8, d9, d10] }
  | _ => none }
def checkOnlyRow : OpenClaim := { program := "ytjnkkokhkooegaagreat", sum := "7c184625b73d25b1080abe32b94d2b3fc75a23e2b60db67cad50aceefca09a6d", func := "erratum/erratumlaw13.CheckOnly", spec := "checkOnly", unfollowed := true, recurses := true, apart := false }
def CheckOnlySaid : Prop := checkOnlyRow.holds Tryz.pinned (OpenSpec.ofChange checkOnlySpec)

/-- ITS FALSE NEIGHBOUR: 'it returns false'. Refute it at one input. -/
def checkOnlyWrong : ChangeSpec := { name := "checkOnly", fn := fun _ => fun
  | [d1, d2, d3, d4, d5, d6, d7, d8, d9, d10] => { results := [.lit (.bool false)], args := [d1, d2, d3, d4, d5, d6, d7, d8, d9, d10] }
  | _ => none }
def CheckOnlyWrongFalsely : Prop := checkOnlyRow.holds Tryz.pinned (OpenSpec.ofChange checkOnlyWrong)

/-- 'erratumlaw13.CheckCounts': WHATEVER THE INPUT: true; the input reads as it did. -/
def checkCountsSpec : ChangeSpec := { name := "checkCounts", fn := fun _ => fun
  | [d1, d2, d3] => { results := [.lit (.bool true)], args := [d1, d2, d3] }
  | _ => none }
def checkCountsRow : OpenClaim := { program := "ytjnkkokhkooegaagreat", sum := "7c184625b73d25b1080abe32b94d2b3fc75a23e2b60db67cad50aceefca09a6d", func := "erratum/erratumlaw13.CheckCounts", spec := "checkCounts", unfollowed := true, recurses := true, apart := false }
def CheckCountsSaid : Prop := checkCountsRow.holds Tryz.pinned (OpenSpec.ofChange checkCountsSpec)

/-- ITS FALSE NEIGHBOUR: 'it returns false'. Refute it at one input. -/
def checkCountsWrong : ChangeSpec := { name := "checkCounts", fn := fun _ => fun
  | [d1, d2, d3] => { results := [.lit (.bool false)], args := [d1, d2, d3] }
  | _ => none }
def CheckCountsWrongFalsely : Prop := checkCountsRow.holds Tryz.pinned (OpenSpec.ofChange checkCountsWrong)

/-- 'erratumlaw13.CheckBudget': WHATEVER THE INPUT: true; the input reads as it did. -/
def checkBudgetSpec : ChangeSpec := { name := "checkBudget", fn := fun _ => fun
  | [d1, d2, d3, d4, d5] => { results := [.lit (.bool true)], args := [d1, d2, d3, d4, d5] }
  | _ => none }
def checkBudgetRow : OpenClaim := { program := "ytjnkkokhkooegaagreat", sum := "7c184625b73d25b1080abe32b94d2b3fc75a23e2b60db67cad50aceefca09a6d", func := "erratum/erratumlaw13.CheckBudget", spec := "checkBudget", unfollowed := true, recurses := true, apart := false }
def CheckBudgetSaid : Prop := checkBudgetRow.holds Tryz.pinned (OpenSpec.ofChange checkBudgetSpec)

/-- ITS FALSE NEIGHBOUR: 'it returns false'. Refute it at one input. -/
def checkBudgetWrong : ChangeSpec := { name := "checkBudget", fn := fun _ => fun
  | [d1, d2, d3, d4, d5] => { results := [.lit (.bool false)], args := [d1, d2, d3, d4, d5] }
  | _ => none }
def CheckBudgetWrongFalsely : Prop := checkBudgetRow.holds Tryz.pinned (OpenSpec.ofChange checkBudgetWrong)

/-- 'erratumlaw13.CheckAnswer': WHATEVER THE INPUT: true; the input reads as it did. -/
def checkAnswerSpec : ChangeSpec := { name := "checkAnswer", fn := fun _ => fun
  | [d1, d2, d3, d4, d5, d6] => { results := [.lit (.bool true)], args := [d1, d2, d3, d4, d5, d6] }
  | _ => none }
def checkAnswerRow : OpenClaim := { program := "ytjnkkokhkooegaagreat", sum := "7c184625b73d25b1080abe32b94d2b3fc75a23e2b60db67cad50aceefca09a6d", func := "erratum/erratumlaw13.CheckAnswer", spec := "checkAnswer", unfollowed := true, recurses := true, apart := false }
def CheckAnswerSaid : Prop := checkAnswerRow.holds Tryz.pinned (OpenSpec.ofChange checkAnswerSpec)

/-- ITS FALSE NEIGHBOUR: 'it returns false'. Refute it at one input. -/
def checkAnswerWrong : ChangeSpec := { name := "checkAnswer", fn := fun _ => fun
  | [d1, d2, d3, d4, d5, d6] => { results := [.lit (.bool false)], args := [d1, d2, d3, d4, d5, d6] }
  | _ => none }
def CheckAnswerWrongFalsely : Prop := checkAnswerRow.holds Tryz.pinned (OpenSpec.ofChange checkAnswerWrong)

/-- 'erratumlaw13.CheckNear': WHATEVER THE INPUT: true; the input reads as it did. -/
def checkNearSpec : ChangeSpec := { name := "checkNear", fn := fun _ => fun
  | [d1, d2, d3, d4, d5, d6, d7, d8, d9] => { results := [.lit (.bool true)], args := [d1, d2, d3, d4, d5, d6, d7, d8, d9] }
  | _ => none }
def checkNearRow : OpenClaim := { program := "ytjnkkokhkooegaagreat", sum := "7c184625b73d25b1080abe32b94d2b3fc75a23e2b60db67cad50aceefca09a6d", func := "erratum/erratumlaw13.CheckNear", spec := "checkNear", unfollowed := true, recurses := true, apart := false }
def CheckNearSaid : Prop := checkNearRow.holds Tryz.pinned (OpenSpec.ofChange checkNearSpec)

/-- ITS FALSE NEIGHBOUR: 'it returns false'. Refute it at one input. -/
def checkNearWrong : ChangeSpec := { name := "checkNear", fn := fun _ => fun
  | [d1, d2, d3, d4, d5, d6, d7, d8, d9] => { results := [.lit (.bool false)], args := [d1, d2, d3, d4, d5, d6, d7, d8, d9] }
  | _ => none }
def CheckNearWrongFalsely : Prop := checkNearRow.holds Tryz.pinned (OpenSpec.ofChange checkNearWrong)

/- THE SECOND FORM. 'bulk': how many values and letters a reading holds, each counted each time it is reached (what is shared counts as often as it is met; a slice's spare places count too). A statement '..UptoSaid' is the law's where the arguments, and the package variables that the reading takes, are together of bulk at most 1048576: NARROWER than '..Said'. Prove '..Said' where nothing that the law and all that it calls make is longer than what came in: it says more and counts as full. Else prove '..UptoSaid'. A law counts once. -/
mutual
def uptoBulk {H : Type} : DataW H → Nat
  | .lit (.string bytes) => bytes.length + 1
  | .lit _ => 1
  | .nil => 1
  | .ptr d => uptoBulk d + 1
  | .slice elems spare => uptoBulkAll elems + uptoBulkAll spare + 1
  | .agg parts => uptoBulkAll parts + 1
  | .iface _ d => uptoBulk d + 1
  | .map entries => uptoBulkEntries entries + 1
  | .held _ => 1
def uptoBulkAll {H : Type} : List (DataW H) → Nat
  | [] => 0
  | d :: r => uptoBulk d + uptoBulkAll r
def uptoBulkEntries {H : Type} : List (Lit × DataW H) → Nat
  | [] => 0
  | x :: r => uptoBulkEntry x + uptoBulkEntries r
def uptoBulkEntry {H : Type} : Lit × DataW H → Nat
  | (.string bytes, d) => bytes.length + uptoBulk d + 1
  | (_, d) => uptoBulk d + 1
 end
def uptoSmall : (H : Type) → List (DataW H) → Bool := fun _ ds => decide (uptoBulkAll ds ≤ 1048576)
def OpenSpec.upto (s : _root_.Go.ChangeSpec) : _root_.Go.OpenSpec := { _root_.Go.OpenSpec.ofChange s with cond := some uptoSmall }

/-- 'erratumlaw13.CheckOnly', WHERE WHAT IT READS IS OF BULK AT MOST 1048576: true; the input reads as it did. -/
def checkOnlyUptoRow : OpenClaim := { program := "ytjnkkokhkooegaagreat", sum := "7c184625b73d25b1080abe32b94d2b3fc75a23e2b60db67cad50aceefca09a6d", func := "erratum/erratumlaw13.CheckOnly", spec := "checkOnly", unfollowed := true, recurses := true, apart := false, narrowed := true }
def CheckOnlyUptoSaid : Prop := checkOnlyUptoRow.holds Tryz.pinned (OpenSpec.upto checkOnlySpec)

/-- 'erratumlaw13.CheckCounts', WHERE WHAT IT READS IS OF BULK AT MOST 1048576: true; the input reads as it did. -/
def checkCountsUptoRow : OpenClaim := { program := "ytjnkkokhkooegaagreat", sum := "7c184625b73d25b1080abe32b94d2b3fc75a23e2b60db67cad50aceefca09a6d", func := "erratum/erratumlaw13.CheckCounts", spec := "checkCounts", unfollowed := true, recurses := true, apart := false, narrowed := true }
def CheckCountsUptoSaid : Prop := checkCountsUptoRow.holds Tryz.pinned (OpenSpec.upto checkCountsSpec)

/-- 'erratumlaw13.CheckBudget', WHERE WHAT IT READS IS OF BULK AT MOST 1048576: true; the input reads as it did. -/
def checkBudgetUptoRow : OpenClaim := { program := "ytjnkkokhkooegaagreat", sum := "7c184625b73d25b1080abe32b94d2b3fc75a23e2b60db67cad50aceefca09a6d", func := "erratum/erratumlaw13.CheckBudget", spec := "checkBudget", unfollowed := true, recurses := true, apart := false, narrowed := true }
def CheckBudgetUptoSaid : Prop := checkBudgetUptoRow.holds Tryz.pinned (OpenSpec.upto checkBudgetSpec)

/-- 'erratumlaw13.CheckAnswer', WHERE WHAT IT READS IS OF BULK AT MOST 1048576: true; the input reads as it did. -/
def checkAnswerUptoRow : OpenClaim := { program := "ytjnkkokhkooegaagreat", sum := "7c184625b73d25b1080abe32b94d2b3fc75a23e2b60db67cad50aceefca09a6d", func := "erratum/erratumlaw13.CheckAnswer", spec := "checkAnswer", unfollowed := true, recurses := true, apart := false, narrowed := true }
def CheckAnswerUptoSaid : Prop := checkAnswerUptoRow.holds Tryz.pinned (OpenSpec.upto checkAnswerSpec)

/-- 'erratumlaw13.CheckNear', WHERE WHAT IT READS IS OF BULK AT MOST 1048576: true; the input reads as it did. -/
def checkNearUptoRow : OpenClaim := { program := "ytjnkkokhkooegaagreat", sum := "7c184625b73d25b1080abe32b94d2b3fc75a23e2b60db67cad50aceefca09a6d", func := "erratum/erratumlaw13.CheckNear", spec := "checkNear", unfollowed := true, recurses := true, apart := false, narrowed := true }
def CheckNearUptoSaid : Prop := checkNearUptoRow.holds Tryz.pinned (OpenSpec.upto checkNearSpec)

end Rows
end Go.Proofs.YtjnkkokhkooegaaGreat
