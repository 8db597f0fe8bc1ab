/- 'append(xs, make([]byte, z)...)' of a slice that is owned: noughts behind it. Conditions: bounds on lengths. -/
import Derived.Test.YtddgakaidlclcaaPNorm
import Derived.Lib.AppendStr
namespace Go.Proofs
open Go.RowKit

theorem strB_size (xs : List Nat) : (strB xs).size = xs.length := by simp [strB, ByteArray.size]
theorem strB_cells {xs : List Nat} (h : Pol.Byt xs) : Lib.strCells (strB xs) = ob xs := by
  unfold Lib.strCells strB ob
  apply List.ext_getElem?
  intro i
  simp only [List.getElem?_map]
  by_cases hi : i < xs.length
  · have h1 := h i
    simp only [List.getD, List.getElem?_eq_getElem hi, Option.getD_some] at h1
    simp [hi]
    omega
  · simp [hi]
theorem zeroCells_ob (z : Nat) : Builtin.zeroCells (Value.int .u8 0).cells z = (ob (List.replicate z 0)).toArray := by
  apply Array.ext'
  simp [Builtin.zeroCells, ob, Value.cells]
  apply List.ext_getElem?
  intro i
  by_cases hi : i < z
  · have e : i % 1 = 0 := Nat.mod_one i
    simp [hi, e]
  · simp [hi]
theorem run_zeros (W : World) (ad : Option Addr) (n cap z : Nat) (hz : z ≤ 200) (hn : n ≤ 1000) (hnc : n ≤ cap) :
    (Builtin.append_ #[22, 5] 22 #[.slice ad n cap, .int .u8 (z : Int)]).run Try.prog W = (Builtin.append_ #[22, 9] 22 #[.slice ad n cap, .string (strB (List.replicate z 0))]).run Try.prog W := by
  obtain ⟨i, hi, hzz, hsz, hby⟩ := info_parts info_u8
  have ht := Try.underlying22
  have hu := Try.underlying5
  have hstr := Try.underlying9
  have hs := strB_size (List.replicate z 0)
  rw [List.length_replicate] at hs
  have hw : IntKind.i64.wrap (z : Int) = (z : Int) := by rw [IntKind.wrap_i64]; omega
  have h0 : ¬ (z : Int) < 0 := by omega
  have h48 : ¬ (281474976710656 : Int) < (z : Int) := by omega
  have h63 : ¬ (9223372036854775807 < (n : Int) + (z : Int)) := by omega
  have hcz := zeroCells_ob z
  have hai : ∀ W, (asInt (.int .u8 (z : Int))).run Try.prog W = .ok (z : Int) W := fun W => by simp [asInt, asIntOf]
  have hw0 : IntKind.i64.wrap 0 = 0 := by decide
  have hf : ∀ W, (Builtin.firstCells 1 z (.string (strB (List.replicate z 0)))).run Try.prog W = .ok (ob (List.replicate z 0)).toArray W := fun W => by
    have := Lib.run_firstCells_string (P := Try.prog) W 1 (strB (List.replicate z 0))
    rw [hs, strB_cells (Pol.byt_rep z)] at this
    exact this
  by_cases hroom : n + z ≤ cap
  · by_cases hz0 : z = 0
    · have hai0 : ∀ W, (asInt (.int .u8 0)).run Try.prog W = .ok (0 : Int) W := fun W => by simp [asInt, asIntOf]
      subst hz0
      have hs0 : (strB []).size = 0 := by rw [strB_size]; rfl
      have hf0 : ∀ W, (Builtin.firstCells 1 0 (.string (strB []))).run Try.prog W = .ok #[] W := fun W => by simpa [ob] using hf W
      simp [hnc, Builtin.append_, run_underlying ht, run_underlying hu, run_underlying hstr, sizeOf, typeInfo, zeroValue, hi, hzz, hsz, hby, Builtin.lenOf, hai0, hw0, hs0, hf0]
    · simp [Builtin.append_, run_underlying ht, run_underlying hu, run_underlying hstr, sizeOf, typeInfo, zeroValue, hi, hzz, hsz, hby, Builtin.lenOf, hai, hw, h0, h48, hs, hf, hcz, hroom, hz0]
  · have h4 : ¬ (281474976710656 < Builtin.nextslicecap (n + z) cap) := by
      have := growslice_fits (need := n + z) (old := cap) (bytes := 1) (by omega) (by omega)
      omega
    have hz0 : ¬ z = 0 := by omega
    simp [Builtin.append_, run_underlying ht, run_underlying hu, run_underlying hstr, sizeOf, typeInfo, zeroValue, hi, hzz, hsz, hby, Builtin.lenOf, hai, hw, h0, h48, hs, hf, hcz, hroom, hz0, h63, h4]
theorem run_append_zeros (W : World) (base : Nat) (v : Value) (xs : List Nat) (z : Nat) (hown : Ow W base v xs) (hz : z ≤ 200) (hn : xs.length ≤ 1000) (hb : base ≤ W.heap.size) :
    ∃ v' W', (Builtin.append_ #[22, 5] 22 #[v, .int .u8 (z : Int)]).run Try.prog W = .ok v' W' ∧ Ow W' base v' (xs ++ List.replicate z 0) ∧ W.grownBy W' v.ownBlock := by
  obtain ⟨i, hi, hzz, hsz, hby⟩ := info_parts info_u8
  have hs : (strB (List.replicate z 0)).size = z := by rw [strB_size, List.length_replicate]
  obtain ⟨v', W', h1, h2, h3, _⟩ := Lib.run_append_own_string (P := Try.prog) W base 22 9 22 5 i Try.underlying22 Try.underlying9 hi hzz hsz hby v xs.length (ob xs) hown (strB (List.replicate z 0)) (by rw [hs]; unfold maxLen; omega) (by rw [hs]; omega) hb
  refine ⟨v', W', ?_, ?_, h3⟩
  · rcases hown.2 with ⟨rfl, _⟩ | ⟨g, cap, cur, rfl, _, _, hle, _⟩
    · rw [run_zeros W _ _ _ z hz (by omega) (Nat.le_refl _)]; exact h1
    · rw [run_zeros W _ _ _ z hz hn hle]; exact h1
  · unfold Ow
    rw [hs, strB_cells (Pol.byt_rep z)] at h2
    have e : ob (xs ++ List.replicate z 0) = ob xs ++ ob (List.replicate z 0) := by simp [ob]
    rw [e, List.length_append, List.length_replicate]
    exact h2
end Go.Proofs
