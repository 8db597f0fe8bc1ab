/- Planes that come in as an argument: they are those of their lanes. Nothing of the program but the type's number. -/
import Derived.Test.YtpldddapokdakaaLnWalk
import Derived.WalkKit
import Derived.ProofKit
import Derived.OpenShut
import Derived.Carry
import Derived.ChangeSame
namespace Go.Proofs
open Go.RowKit Go.ChangeShapes Go.WideShapes

theorem mapM_ints {H : Type} {enc : TypeId × Value → H} {P : Program} {W : World} {base : Nat} {sp : Nat → Bool} {held : Bool} {e : TypeId} {q : IntKind} (he : P.underlying e = some (.int q)) {m : Nat} {cs : List Value} : ∀ (L : List Nat) (xs : List (DataW H × List MemPlace)),
    L.mapM (fun i => DataW.trod enc P W base sp held m e ((cs.drop (i * 1)).take 1)) = some xs → ∀ i ∈ L, ∃ z : Int, (cs.drop i).take 1 = [.int q z] ∧ (Lit.int q z).wf = true
  | [], _, _ => fun i hi => by simp at hi
  | j :: L, xs, h => by
    rw [List.mapM_cons] at h
    simp only [bind, Option.bind_eq_some_iff, pure, Option.some.injEq] at h
    obtain ⟨y, hy, ys, hys, rfl⟩ := h
    have ih := mapM_ints he L ys hys
    intro i hi
    rcases List.mem_cons.1 hi with rfl | hi
    · obtain ⟨a, ea, _, wa⟩ := DataW.trod_int he hy
      rw [Nat.mul_one] at ea
      exact ⟨a, ea, wa⟩
    · exact ih i hi
theorem eight_of {α : Type} (l : List α) (h : l.length = 8) : ∃ a0 a1 a2 a3 a4 a5 a6 a7, l = [a0, a1, a2, a3, a4, a5, a6, a7] := by
  match l, h with
  | [a0, a1, a2, a3, a4, a5, a6, a7], _ => exact ⟨a0, a1, a2, a3, a4, a5, a6, a7, rfl⟩
theorem open_planes {H : Type} {enc : TypeId × Value → H} {P : Program} {W : World} {r : Reach} {b0 : Nat} {t e : TypeId} {v : Value} {d : DataW H} {ps : List MemPlace}
    (ht : P.underlying t = some (.array 8 e)) (he : P.underlying e = some (.int .u64)) (hc : P.cellsOf e = 1) (hct : P.cellsOf t = 8)
    (hval : Value.okWide P W r b0 t v) (hd : DataW.Trod enc P W 0 (fun _ => true) true t v d ps) : ∃ l : Nat → Nat, (∀ n, l n < 256) ∧ v = V8 l := by
  obtain ⟨cs, rfl, hsz⟩ : ∃ cs, v = .agg cs ∧ cs.size = 8 := by
    simp only [Value.okWide, ht] at hval
    obtain ⟨cs, h1, h2, _⟩ := hval
    exact ⟨cs, h1, by rw [h2, hct]⟩
  obtain ⟨fuel, hf⟩ := hd
  cases fuel with
  | zero => simp [DataW.trod] at hf
  | succ m =>
    rw [DataW.trod_step] at hf
    unfold DataW.trodStep at hf
    simp only [ht, Value.cells, hc] at hf
    rw [if_pos (by rw [hct]; simpa using hsz)] at hf
    simp only [Option.map_eq_some_iff] at hf
    obtain ⟨ys, hy, _⟩ := hf
    have hi := mapM_ints he _ ys hy
    obtain ⟨l⟩ := cs
    obtain ⟨a0, a1, a2, a3, a4, a5, a6, a7, rfl⟩ := eight_of l (by simpa using hsz)
    clear hy hsz hval
    obtain ⟨z0, e0, w0⟩ := hi 0 (by simp)
    obtain ⟨z1, e1, w1⟩ := hi 1 (by simp)
    obtain ⟨z2, e2, w2⟩ := hi 2 (by simp)
    obtain ⟨z3, e3, w3⟩ := hi 3 (by simp)
    obtain ⟨z4, e4, w4⟩ := hi 4 (by simp)
    obtain ⟨z5, e5, w5⟩ := hi 5 (by simp)
    obtain ⟨z6, e6, w6⟩ := hi 6 (by simp)
    obtain ⟨z7, e7, w7⟩ := hi 7 (by simp)
    simp at e0 e1 e2 e3 e4 e5 e6 e7
    subst e0 e1 e2 e3 e4 e5 e6 e7
    have k0 := bounds_u64 w0
    have k1 := bounds_u64 w1
    have k2 := bounds_u64 w2
    have k3 := bounds_u64 w3
    have k4 := bounds_u64 w4
    have k5 := bounds_u64 w5
    have k6 := bounds_u64 w6
    have k7 := bounds_u64 w7
    let p : Nat → Nat := fun i => match i with | 0 => z0.toNat | 1 => z1.toNat | 2 => z2.toNat | 3 => z3.toNat | 4 => z4.toNat | 5 => z5.toNat | 6 => z6.toNat | _ => z7.toNat
    have hp : ∀ i, i < 8 → p i < 18446744073709551616 := eight (by show z0.toNat < _; omega) (by show z1.toNat < _; omega) (by show z2.toNat < _; omega) (by show z3.toNat < _; omega) (by show z4.toNat < _; omega) (by show z5.toNat < _; omega) (by show z6.toNat < _; omega) (by show z7.toNat < _; omega)
    have g := Ln.pk_lane p hp
    refine ⟨Ln.lane p, Ln.lane_lt p, ?_⟩
    unfold V8
    rw [g 0 (by decide), g 1 (by decide), g 2 (by decide), g 3 (by decide), g 4 (by decide), g 5 (by decide), g 6 (by decide), g 7 (by decide)]
    show Value.agg #[.int .u64 z0, .int .u64 z1, .int .u64 z2, .int .u64 z3, .int .u64 z4, .int .u64 z5, .int .u64 z6, .int .u64 z7] = Value.agg #[.int .u64 (z0.toNat : Int), .int .u64 (z1.toNat : Int), .int .u64 (z2.toNat : Int), .int .u64 (z3.toNat : Int), .int .u64 (z4.toNat : Int), .int .u64 (z5.toNat : Int), .int .u64 (z6.toNat : Int), .int .u64 (z7.toNat : Int)]
    rw [Int.toNat_of_nonneg (by omega), Int.toNat_of_nonneg (by omega), Int.toNat_of_nonneg (by omega), Int.toNat_of_nonneg (by omega), Int.toNat_of_nonneg (by omega), Int.toNat_of_nonneg (by omega), Int.toNat_of_nonneg (by omega), Int.toNat_of_nonneg (by omega)]
end Go.Proofs
