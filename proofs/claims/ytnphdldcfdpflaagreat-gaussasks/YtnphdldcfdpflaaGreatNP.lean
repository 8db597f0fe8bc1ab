/- A matrix that comes in as an argument: two numbers and bytes. Nothing of the program but the types' numbers. -/
import Derived.WalkKit
import Derived.ProofKit
import Derived.OpenShut
import Derived.Carry
import Derived.ChangeSame
import Derived.Test.YtnphdldcfdpflaaGreatMB
namespace Go.Proofs
open Go.RowKit Go.ChangeShapes Go.WideShapes

theorem three_of {α : Type} (l : List α) (h : l.length = 3) : ∃ a0 a1 a2, l = [a0, a1, a2] := by
  match l, h with
  | [a0, a1, a2], _ => exact ⟨a0, a1, a2, rfl⟩
theorem open_matrix {H : Type} {enc : TypeId × Value → H} {P : Program} {W : World} {r : Reach} {b0 : Nat} {t ti ts e : TypeId} {v : Value} {d : DataW H} {ps : List MemPlace} {f0 f1 f2 : Field}
    (ht : P.underlying t = some (.struct #[f0, f1, f2])) (h0 : f0.type = ti ∧ f0.offset = 0) (h1 : f1.type = ti ∧ f1.offset = 1) (h2 : f2.type = ts ∧ f2.offset = 2)
    (hi : P.underlying ti = some (.int .i64)) (hci : P.cellsOf ti = 1) (hs : P.underlying ts = some (.slice e)) (hcs : P.cellsOf ts = 1) (he : P.underlying e = some (.int .u8)) (hce : P.cellsOf e = 1) (hct : P.cellsOf t = 3)
    (hval : Value.okWide P W r b0 t v) (hd : DataW.Trod enc P W 0 (fun _ => true) true t v d ps) :
    ∃ (R C : Int) (q : Option Addr) (n c : Nat) (xs : List Nat), v = .agg #[.int .i64 R, .int .i64 C, .slice q n c] ∧ (-9223372036854775808 ≤ R ∧ R < 9223372036854775808) ∧ (-9223372036854775808 ≤ C ∧ C < 9223372036854775808) ∧ Bs W q n xs ∧ n ≤ c := by
  obtain ⟨cs, rfl, hsz⟩ := okWide_struct ht hval
  rw [hct] at hsz
  obtain ⟨l⟩ := cs
  obtain ⟨a0, a1, a2, rfl⟩ := three_of l (by simpa using hsz)
  obtain ⟨fuel, hf⟩ := hd
  obtain ⟨xs, m, _, _, hl, hlen, hfd⟩ := DataW.trod_struct ht hf
  obtain ⟨y0, y1, y2, rfl⟩ := three_of xs (by simpa using hlen)
  have g0 := hfd 0 f0 rfl
  have g1 := hfd 1 f1 rfl
  have g2 := hfd 2 f2 rfl
  rw [h0.1, h0.2, hci] at g0
  rw [h1.1, h1.2, hci] at g1
  rw [h2.1, h2.2, hcs] at g2
  obtain ⟨R, eR, _, wR⟩ := DataW.trod_int hi g0
  obtain ⟨C, eC, _, wC⟩ := DataW.trod_int hi g1
  simp [Value.cells] at eR eC
  subst eR eC
  have bR : -9223372036854775808 ≤ R ∧ R < 9223372036854775808 := by have := bounds_i64 wR; omega
  have bC : -9223372036854775808 ≤ C ∧ C < 9223372036854775808 := by have := bounds_i64 wC; omega
  rcases open_ints hs he hce g2 with ⟨hcs, _⟩ | ⟨a, len, cap, zs, hcs, _, hl', hm, hz, _, hcell, hwz⟩
  · simp [Value.cells] at hcs
    subst hcs
    exact ⟨R, C, none, 0, 0, [], rfl, bR, bC, ⟨rfl, by omega, fun i hi => absurd hi (Nat.not_lt_zero i), fun i => by simp⟩, Nat.le_refl _⟩
  · simp [Value.cells] at hcs
    subst hcs
    simp only [if_true] at hz
    have bd : ∀ z ∈ zs, 0 ≤ z ∧ z < 256 := fun z hz => by have := bounds_u8 (hwz z hz); omega
    have gb : ∀ i, 0 ≤ zs.getD i 0 ∧ zs.getD i 0 < 256 := by
      intro i
      simp only [List.getD]
      cases hz : zs[i]? with
      | none => simp
      | some z => simpa using bd z (List.mem_of_getElem? hz)
    refine ⟨R, C, some a, len, cap, (List.range len).map fun i => (zs.getD i 0).toNat, rfl, bR, bC, ⟨by simp, by unfold maxLen at hm; omega, fun i hi => ?_, fun i => ?_⟩, hl'⟩
    · have h := hcell i (by omega)
      refine ⟨a, rfl, ?_, ?_⟩
      · have := World.block_lt_of_cell? _ _ h
        rwa [block_add] at this
      · rw [h]
        have e1 : ((List.range len).map fun i => (zs.getD i 0).toNat).getD i 0 = (zs.getD i 0).toNat := by simp [List.getD, hi]
        rw [e1, Int.toNat_of_nonneg (gb i).1]
    · by_cases hi : i < len
      · have e1 : ((List.range len).map fun i => (zs.getD i 0).toNat).getD i 0 = (zs.getD i 0).toNat := by simp [List.getD, hi]
        rw [e1]; have := gb i; omega
      · have e1 : ((List.range len).map fun i => (zs.getD i 0).toNat).getD i 0 = 0 := by simp [List.getD, hi]
        rw [e1]; omega
end Go.Proofs
