/- Arrays are compared: where all elements are equal they are. Of the program: the number of the type of planes. -/
import Derived.Test.YtpldddapokdakaaLnWalk
import Derived.Laws.StructEq
namespace Go.Proofs
open Go.RowKit
theorem run_equalIn_array {P : Program} (d : Nat) (t elem : TypeId) (len n : Nat) (xs ys : Array Value) (w : World) (ht : P.underlying t = some (.array len elem)) (hs : (sizeOf elem).run P w = .ok n w)
    (h : ∀ i, i < len → ∃ a b, (part elem xs (i * n)).run P w = .ok a w ∧ (part elem ys (i * n)).run P w = .ok b w ∧ (Op.equalIn d elem a b).run P w = .ok true w) :
    (Op.equalIn (d + 1) t (.agg xs) (.agg ys)).run P w = .ok true w := by
  simp only [Op.equalIn, Sem.run_bind, run_underlying ht, Result.andThen_ok, hs]
  simp only [Std.Legacy.Range.forIn_eq_forIn_range', Std.Legacy.Range.size, Nat.sub_zero, Nat.add_sub_cancel, Nat.div_one]
  have hL : ∀ i ∈ List.range' 0 len, i < len := fun i hi => by
    have := List.mem_range'_1.1 hi
    omega
  revert hL
  generalize List.range' 0 len = L
  intro hL
  induction L with
  | nil => simp
  | cons i L ih =>
    obtain ⟨a, b, h1, h2, h3⟩ := h i (hL i (by simp))
    simp only [List.forIn_cons, Sem.run_bind, h1, h2, h3, Result.andThen_ok, Bool.not_true, Bool.false_eq_true, if_false, Sem.run_pure]
    exact ih (fun j hj => hL j (by simp [hj]))
theorem part_int (xs : Array Value) (o : Nat) (x : Int) (w : World) (h : xs[o]? = some (.int .u64 x)) : (part 22 xs o).run Try.prog w = .ok (.int .u64 x) w := by
  have ha : (isAgg 22).run Try.prog w = .ok false w := Try.isAgg22 w
  simp [part, ha, h]
theorem eq8 (x0 x1 x2 x3 x4 x5 x6 x7 : Int) (w : World) :
    (Op.equalIn 10000 24 (.agg #[.int .u64 x0, .int .u64 x1, .int .u64 x2, .int .u64 x3, .int .u64 x4, .int .u64 x5, .int .u64 x6, .int .u64 x7]) (.agg #[.int .u64 x0, .int .u64 x1, .int .u64 x2, .int .u64 x3, .int .u64 x4, .int .u64 x5, .int .u64 x6, .int .u64 x7])).run Try.prog w = .ok true w := by
  refine run_equalIn_array 9999 _ 22 8 1 _ _ w Try.underlying24 (Try.sizeOf22 w) (fun i hi => ?_)
  rw [Nat.mul_one]
  have e : ∀ a, (Op.equalIn 9999 22 (.int .u64 a) (.int .u64 a)).run Try.prog w = .ok true w := fun a => by
    rw [run_equalIn_int w 9998 _ .u64 .u64 a a Try.underlying22]; simp
  revert i
  exact eight ⟨_, _, part_int _ _ x0 w rfl, part_int _ _ x0 w rfl, e _⟩ ⟨_, _, part_int _ _ x1 w rfl, part_int _ _ x1 w rfl, e _⟩ ⟨_, _, part_int _ _ x2 w rfl, part_int _ _ x2 w rfl, e _⟩ ⟨_, _, part_int _ _ x3 w rfl, part_int _ _ x3 w rfl, e _⟩ ⟨_, _, part_int _ _ x4 w rfl, part_int _ _ x4 w rfl, e _⟩ ⟨_, _, part_int _ _ x5 w rfl, part_int _ _ x5 w rfl, e _⟩ ⟨_, _, part_int _ _ x6 w rfl, part_int _ _ x6 w rfl, e _⟩ ⟨_, _, part_int _ _ x7 w rfl, part_int _ _ x7 w rfl, e _⟩
end Go.Proofs
