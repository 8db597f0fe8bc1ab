/- A matrix in a box whose cells are grown by append. Conditions: bounds on lengths. -/
import Derived.Test.YtjnkkokhkooegaaGreatNA
import Derived.Test.YtjnkkokhkooegaaGreatMO
namespace Go.Proofs
open Go.RowKit Go.ChangeShapes Go.WideShapes

/-- A matrix in the box X whose cells, xs, lie behind it. -/
structure Gm (W : World) (X : Nat) (v0 v1 v : Value) (xs : List Nat) : Prop where
  mb : Mb W X v0 v1 v
  fz : W.frozen? ⟨X, 2, none⟩ = false
  ow : Ow W (X + 1) v xs
  sz : X + 1 ≤ W.heap.size
section
variable {W W' : World} {X : Nat} {v0 v1 v : Value} {xs : List Nat}
theorem Gm.below (h : Gm W X v0 v1 v xs) (hb : Below W.heap.size W W') : Gm W' X v0 v1 v xs := ⟨h.mb.below hb, (hb.frozen (p := ⟨X, 2, none⟩) h.mb.blt).trans h.fz, h.ow.below hb, Nat.le_trans h.sz hb.size⟩
theorem Gm.drew (h : Gm W X v0 v1 v xs) : Gm W.drew X v0 v1 v xs := h.below (Below.refl _ W).drew
theorem Gm.push (h : Gm W X v0 v1 v xs) {v' : Value} {ys : List Nat} (hO : Ow W' (X + 1) v' ys) (hb : Below (X + 1) W W') : W'.cell? ⟨X, 2, none⟩ = some v ∧ W'.frozen? ⟨X, 2, none⟩ = false ∧ Gm (W'.setCell ⟨X, 2, none⟩ v') X v0 v1 v' ys ∧ Below X W (W'.setCell ⟨X, 2, none⟩ v') := by
  have hk : But (fun k => X + 1 ≤ k) W W' := ⟨hb.os, hb.tape, hb.output, hb.size, fun k _ hs => hb.block k (by omega)⟩
  have hM := h.mb.but hk (by omega)
  have hf : W'.frozen? ⟨X, 2, none⟩ = false := (hk.frozen (p := ⟨X, 2, none⟩) h.mb.blt (by show ¬ X + 1 ≤ X; omega)).trans h.fz
  have hset : But (· = X) W' (W'.setCell ⟨X, 2, none⟩ v') := (But.refl (· = X) W').setCell (p := ⟨X, 2, none⟩) (.inl rfl) _
  have c2 := hM.c2
  refine ⟨c2, hf, ⟨⟨?_, ?_, ?_⟩, ?_, ?_, ?_⟩, ?_⟩
  · exact (World.cell?_setCell_other _ _ _ _ (by intro c; cases c)).trans hM.c0
  · exact (World.cell?_setCell_other _ _ _ _ (by intro c; cases c)).trans hM.c1
  · simp [go_sem, c2]
  · rw [World.frozen?_setCell]; exact hf
  · exact hO.block fun i hi => hset.block i (hO.lt i hi).2 (by have := (hO.lt i hi).1; omega)
  · have h1 := hset.size; have h2 := hb.size; have h3 := h.sz; omega
  · exact (hb.mono (by omega)).trans (hset.below (by have h2 := hb.size; have h3 := h.sz; omega) (fun k hk => by omega))
theorem Gm.list (h : Gm W X v0 v1 v xs) {q : Option Addr} {n : Nat} (c : Nat) {ys : List Nat} (hs : Bs W q n ys) (hn : xs.length + n ≤ 10000000) :
    ∃ v' W', (Builtin.append_ #[22, 22] 22 #[v, .slice q n c]).run Tryz.prog W = .ok v' W' ∧ W'.cell? ⟨X, 2, none⟩ = some v ∧ W'.frozen? ⟨X, 2, none⟩ = false ∧ Gm (W'.setCell ⟨X, 2, none⟩ v') X v0 v1 v' (xs ++ ys) ∧ Below X W (W'.setCell ⟨X, 2, none⟩ v') ∧ Below X W W' := by
  obtain ⟨v', W', hap, hO, hg⟩ := run_append_list W (X + 1) v xs q n c ys h.ow hs (by omega) h.sz
  have hb := (Below.refl _ W).grown hg h.sz fun k hk => (h.ow.lt k hk).1
  obtain ⟨a1, a2, a3, a4⟩ := h.push hO hb
  exact ⟨v', W', hap, a1, a2, a3, a4, hb.mono (by omega)⟩
theorem Gm.one (h : Gm W X v0 v1 v xs) (x : Nat) (hn : xs.length ≤ 10000000) :
    ∃ g c' W', (Builtin.append_ #[22, 22] 22 #[v, .slice (some ⟨W.heap.size, 0, none⟩) 1 1]).run Tryz.prog (W.alloc (.cells #[.int .u8 (x : Nat)] 5)) = .ok (.slice (some ⟨g, 0, none⟩) (xs ++ [x]).length c') W' ∧ W'.cell? ⟨X, 2, none⟩ = some v ∧ W'.frozen? ⟨X, 2, none⟩ = false ∧ Gm (W'.setCell ⟨X, 2, none⟩ (.slice (some ⟨g, 0, none⟩) (xs ++ [x]).length c')) X v0 v1 (.slice (some ⟨g, 0, none⟩) (xs ++ [x]).length c') (xs ++ [x]) ∧ Below X W (W'.setCell ⟨X, 2, none⟩ (.slice (some ⟨g, 0, none⟩) (xs ++ [x]).length c')) := by
  obtain ⟨g, c', W', hap, hO, hb⟩ := run_append_one W (X + 1) v xs x h.ow (by omega) h.sz
  exact ⟨g, c', W', hap, h.push hO (hb _ (Nat.le_refl _))⟩
end
end Go.Proofs
