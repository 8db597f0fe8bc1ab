/- append of a list that is read, whether it is nil or not; parts of lists that are read. Conditions: bounds on lengths. -/
import Derived.Test.YtphhehppcfddgaaGreatApp
import Derived.Test.YtphhehppcfddgaaGreatFdLnL
namespace Go.Proofs
open Go.RowKit Go.ChangeShapes Go.WideShapes
/-- A part of a list that is read, however it came. -/
theorem bs_sub {W : World} {q : Option Addr} {n : Nat} {xs : List Nat} (h : Bs W q n xs) (c K N : Nat) (hK : K ≤ N) (hN : N ≤ n) (hc : n ≤ c) : Bs W (if c = K then q else q.map (fun x => x.add K)) (N - K) ((List.range (N - K)).map fun i => xs.getD (K + i) 0) := by
  by_cases h0 : N - K = 0
  · rw [h0]
    exact ⟨rfl, by omega, fun i hi => absurd hi (Nat.not_lt_zero i), fun i => by simp⟩
  · rw [if_neg (by omega)]
    obtain ⟨a, rfl, _⟩ := h.cell 0 (by omega)
    exact bs_part h a rfl K (N - K) (by omega)
theorem off_sub {T n : Nat} {q : Option Addr} (h : Off T n q) (c K N : Nat) (hN : N ≤ n) : Off T (N - K) (if c = K then q else q.map (fun x => x.add K)) := by
  intro h0 a e
  split at e
  · exact h (by omega) a e
  · cases q with
    | none => cases e
    | some b =>
      cases e
      rw [block_add]
      exact h (by omega) b rfl

theorem run_append_none (W : World) (base : Nat) (v : Value) (xs : List Nat) (c : Nat) (hown : Ow W base v xs) :
    (Builtin.append_ #[22, 22] 22 #[v, .slice none 0 c]).run Tryz.prog W = .ok v W := by
  obtain ⟨i, hi, hz, hsz, hby⟩ := info_parts info_u8
  have ht := Tryz.underlying22
  rcases hown.2 with ⟨rfl, _⟩ | ⟨g, cap, cur, rfl, _, hgb, hle, _⟩
  · simp [Builtin.append_, run_underlying ht, sizeOf, typeInfo, hi, Builtin.lenOf, Builtin.firstCells]
  · simp [Builtin.append_, run_underlying ht, sizeOf, typeInfo, hi, Builtin.lenOf, Builtin.firstCells, hle, storeCells]
theorem run_append_list (W : World) (base : Nat) (v : Value) (xs : List Nat) (q : Option Addr) (n c : Nat) (ys : List Nat) (hown : Ow W base v xs) (hs : Bs W q n ys) (hn : xs.length + n ≤ 10000000000) (hb : base ≤ W.heap.size) :
    ∃ v' W', (Builtin.append_ #[22, 22] 22 #[v, .slice q n c]).run Tryz.prog W = .ok v' W' ∧ Ow W' base v' (xs ++ ys) ∧ W.grownBy W' v.ownBlock := by
  have hl := hs.len
  cases q with
  | none =>
    have h0 : n = 0 := by
      rcases Nat.eq_zero_or_pos n with h | h
      · exact h
      · obtain ⟨_, e, _⟩ := hs.cell 0 h; cases e
    subst h0
    obtain rfl : ys = [] := List.length_eq_zero_iff.1 hl
    exact ⟨v, W, run_append_none W base v xs c hown, by rw [List.append_nil]; exact hown, ⟨rfl, rfl, rfl, Nat.le_refl _, fun _ _ _ => rfl⟩⟩
  | some ad =>
    subst hl
    exact run_append_bytes W base v xs ad c ys hown (fun j hj => by
      obtain ⟨a, e, _, hc⟩ := hs.cell j hj
      cases e
      exact hc) hn hb

theorem bs_at {W : World} {ad : Addr} {n : Nat} {xs : List Nat} (h : Bs W (some ad) n xs) (i x : Nat) (hi : i < n) (hx : xs.getD i 0 = x) : W.cell? (ad.add i) = some (.int .u8 (x : Nat)) := by
  obtain ⟨a, e, _, hc⟩ := h.cell i hi
  cases e
  rw [hc, hx]
end Go.Proofs
