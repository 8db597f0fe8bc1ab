/- What rounds of a range over a function keep: boxes, fields, lists that are owned. Nothing of the program. -/
import Derived.Test.YtnphdldcfdpflaaGreatMG
import Derived.Test.YtnphdldcfdpflaaGreatMC
namespace Go.Proofs
open Go.RowKit Go.Shelf Go.ChangeShapes Go.WideShapes
theorem But.past {S T : Nat → Prop} {a b c : World} (h : But S a b) (k : But T b c) (hT : ∀ i, T i → a.heap.size ≤ i) : But S a c :=
  ⟨k.os.trans h.os, k.tape.trans h.tape, k.output.trans h.output, Nat.le_trans h.size k.size, fun i hi hs => (k.block i (Nat.lt_of_lt_of_le hi h.size) (fun t => by have := hT i t; omega)).trans (h.block i hi hs)⟩
theorem ownFrom_but {β : Type} {S : Nat → Prop} {B : Nat} {w : World} (hB : w.heap.size ≤ B) : OwnFrom B (fun (_ : β) W => But S w W) := fun _ X Y row hs hg hr =>
  ⟨hg.os.trans hs.os, hg.tape.trans hs.tape, hg.output.trans hs.output, Nat.le_trans hs.size hg.size, fun k hk hS => (hg.block k (Nat.lt_of_lt_of_le hk hs.size) (fun e => by have := (hr k e.symm).1; omega)).trans (hs.block k hk hS)⟩
theorem ow_own {β : Type} (base : Nat) (v : Value) (f : β → List Nat) : Own (fun s W => Ow W base v (f s)) := fun s X Y row hs hg hrow => by
  have hs' : Ow X base v (f s) := hs
  refine hs'.block (fun k hk => hg.block k (hs'.lt k hk).2 (fun e => ?_))
  obtain ⟨o, ho, hc⟩ := hrow k e.symm
  rcases hs'.2 with ⟨e1, _⟩ | ⟨g, cap, cur, e1, _, hg', _⟩
  · rw [e1] at hk; cases hk
  · rw [e1] at hk
    cases hk
    rw [hg'] at ho
    cases ho
    cases hc
theorem boxed_set {W : World} {B : Nat} {t : TypeId} {v : Value} (h : Boxed W B t v) {p : Addr} (hp : ¬ B = p.block) (u : Value) : Boxed (W.setCell p u) B t v := (Below.heap_setCell _ _ _ _ (fun e => hp (by first | exact e | exact e.symm))).trans h
theorem keepsFrom_but {S : Nat → Prop} {B : Nat} {W W' : World} (h : But S W W') (hS : ∀ k, S k → k < B) : KeepsFrom B W W' :=
  ⟨h.size, fun k o hk h0 _ => (h.block k (Array.getElem?_eq_some_iff.1 h0).1 (fun s => by have := hS k s; omega)).trans h0⟩
theorem ownFrom_fd {β : Type} {k B T C : Nat} (hB : B < C) (hT : T < C) : OwnFrom C (fun (_ : β) W => Fd k B T W) := fun _ X Y row hs hg hr =>
  Fd.but hs (S := fun i => some i = row) ⟨hg.os, hg.tape, hg.output, hg.size, fun i hi hn => hg.block i hi hn⟩ (fun e => by have := (hr B e.symm).1; omega) (fun e => by have := (hr T e.symm).1; omega)
theorem boxed_but {S : Nat → Prop} {W W' : World} {B : Nat} {t : TypeId} {v : Value} (h : Boxed W B t v) (hb : But S W W') (hs : ¬ S B) : Boxed W' B t v := (hb.block B h.lt hs).trans h
end Go.Proofs
