/- 'append(xs, b)' of a slice that is owned. Conditions: bounds on lengths. -/
import Derived.Test.YtphhehppcfddgaaGreatApp
namespace Go.Proofs
open Go.RowKit
/-- 'append(xs, b)' of a slice that is owned, b in a new block of its own. -/
theorem run_append_one (W : World) (base : Nat) (v : Value) (xs : List Nat) (b : Nat) (hown : Ow W base v xs) (hn : xs.length ≤ 1000000000) (hb : base ≤ W.heap.size) :
    ∃ g c W', (Builtin.append_ #[22, 22] 22 #[v, .slice (some ⟨W.heap.size, 0, none⟩) 1 1]).run Tryz.prog (W.alloc (.cells #[.int .u8 (b : Nat)] 5)) = .ok (.slice (some ⟨g, 0, none⟩) (xs ++ [b]).length c) W' ∧ Ow W' base (.slice (some ⟨g, 0, none⟩) (xs ++ [b]).length c) (xs ++ [b]) ∧ ∀ n, n ≤ base → Below n W W' := by
  obtain ⟨v', W', h1, h2, h3⟩ := run_append_bytes (W.alloc (.cells #[.int .u8 (b : Nat)] 5)) base v xs ⟨W.heap.size, 0, none⟩ 1 [b] (hown.alloc _) (fun j hj => by
    have hj1 : j < 1 := hj
    obtain rfl : j = 0 := by omega
    show (W.alloc _).cell? ⟨W.heap.size, 0, none⟩ = _
    rw [World.cell?_alloc_at _ _ _ _ rfl]; rfl) (by simp; omega) (by simp; omega)
  rcases h2.shape with ⟨_, h0⟩ | ⟨g, c, rfl, _⟩
  · exact absurd (congrArg List.length h0) (by simp)
  · exact ⟨g, c, W', h1, h2, fun n hn' => ((Below.refl n W).alloc (by omega) _).grown h3 (by simp; omega) (fun k hk => Nat.le_trans hn' (hown.lt k hk).1)⟩
end Go.Proofs
