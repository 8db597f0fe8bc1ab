/- A code that comes in as an argument: three numbers. Nothing of the program but the types' numbers. -/
import Derived.WalkKit
import Derived.ProofKit
import Derived.OpenShut
import Derived.Carry
import Derived.ChangeSame
import Derived.ChangeSlices
namespace Go.Proofs
open Go.RowKit Go.ChangeShapes Go.WideShapes

theorem three_ofC {α : Type} (l : List α) (h : l.length = 3) : ∃ a0 a1 a2, l = [a0, a1, a2] := by
  match l, h with
  | [a0, a1, a2], _ => exact ⟨a0, a1, a2, rfl⟩
theorem open_code {H : Type} {enc : TypeId × Value → H} {P : Program} {W : World} {r : Reach} {b0 : Nat} {t ti : TypeId} {v : Value} {d : DataW H} {ps : List MemPlace} {f0 f1 f2 : Field}
    (ht : P.underlying t = some (.struct #[f0, f1, f2])) (h0 : f0.type = ti ∧ f0.offset = 0) (h1 : f1.type = ti ∧ f1.offset = 1) (h2 : f2.type = ti ∧ f2.offset = 2)
    (hi : P.underlying ti = some (.int .i64)) (hci : P.cellsOf ti = 1) (hct : P.cellsOf t = 3)
    (hval : Value.okWide P W r b0 t v) (hd : DataW.Trod enc P W 0 (fun _ => true) true t v d ps) :
    ∃ (N K B : Int), v = .agg #[.int .i64 N, .int .i64 K, .int .i64 B] ∧ (-9223372036854775808 ≤ N ∧ N < 9223372036854775808) ∧ (-9223372036854775808 ≤ K ∧ K < 9223372036854775808) ∧ (-9223372036854775808 ≤ B ∧ B < 9223372036854775808) := by
  obtain ⟨cs, rfl, hsz⟩ := okWide_struct ht hval
  rw [hct] at hsz
  obtain ⟨l⟩ := cs
  obtain ⟨a0, a1, a2, rfl⟩ := three_ofC l (by simpa using hsz)
  obtain ⟨fuel, hf⟩ := hd
  obtain ⟨xs, m, _, _, hl, hlen, hfd⟩ := DataW.trod_struct ht hf
  obtain ⟨y0, y1, y2, rfl⟩ := three_ofC xs (by simpa using hlen)
  have g0 := hfd 0 f0 rfl
  have g1 := hfd 1 f1 rfl
  have g2 := hfd 2 f2 rfl
  rw [h0.1, h0.2, hci] at g0
  rw [h1.1, h1.2, hci] at g1
  rw [h2.1, h2.2, hci] at g2
  obtain ⟨N, eN, _, wN⟩ := DataW.trod_int hi g0
  obtain ⟨K, eK, _, wK⟩ := DataW.trod_int hi g1
  obtain ⟨B, eB, _, wB⟩ := DataW.trod_int hi g2
  simp [Value.cells] at eN eK eB
  subst eN eK eB
  have bN := bounds_i64 wN
  have bK := bounds_i64 wK
  have bB := bounds_i64 wB
  exact ⟨N, K, B, rfl, by omega, by omega, by omega⟩
end Go.Proofs
