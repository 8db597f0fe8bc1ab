/- Texts laid together: RfH, PAddTo, PAdd. Each says its own conditions. -/
import Derived.RegionCalls
import Derived.Deep.RegionWith
import Derived.Deep.RegionHeldLaw
import Derived.Deep.DeepCutAuto
import Derived.Test.YtjnkkokhkooegaaGreatMG
import Derived.Test.YtjnkkokhkooegaaGreatMC
import Derived.Test.YtjnkkokhkooegaaGreatMH
/- What rounds of a range over a function keep: boxes, fields, lists that are owned. Nothing of the program. -/
namespace Go.Proofs
open Go.RowKit Go.Shelf Go.ChangeShapes Go.WideShapes
theorem But.past {S T : Nat → Prop} {a b c : World} (h : But S a b) (k : But T b c) (hT : ∀ i, T i → a.heap.size ≤ i) : But S a c :=
  ⟨k.os.trans h.os, k.tape.trans h.tape, k.output.trans h.output, Nat.le_trans h.size k.size, fun i hi hs => (k.block i (Nat.lt_of_lt_of_le hi h.size) (fun t => by have := hT i t; omega)).trans (h.block i hi hs)⟩
theorem ownFrom_but {β : Type} {S : Nat → Prop} {B : Nat} {w : World} (hB : w.heap.size ≤ B) : OwnFrom B (fun (_ : β) W => But S w W) := fun _ X Y row hs hg hr =>
  ⟨hg.os.trans hs.os, hg.tape.trans hs.tape, hg.output.trans hs.output, Nat.le_trans hs.size hg.size, fun k hk hS => (hg.block k (Nat.lt_of_lt_of_le hk hs.size) (fun e => by have := (hr k e.symm).1; omega)).trans (hs.block k hk hS)⟩
theorem keepsFrom_but {S : Nat → Prop} {B : Nat} {W W' : World} (h : But S W W') (hS : ∀ k, S k → k < B) : KeepsFrom B W W' :=
  ⟨h.size, fun k o hk h0 _ => (h.block k (Array.getElem?_eq_some_iff.1 h0).1 (fun s => by have := hS k s; omega)).trans h0⟩
theorem ownFrom_fd {β : Type} {k B T C : Nat} (hB : B < C) (hT : T < C) : OwnFrom C (fun (_ : β) W => Fd k B T W) := fun _ X Y row hs hg hr =>
  Fd.but hs (S := fun i => some i = row) ⟨hg.os, hg.tape, hg.output, hg.size, fun i hi hn => hg.block i hi hn⟩ (fun e => by have := (hr B e.symm).1; omega) (fun e => by have := (hr T e.symm).1; omega)
theorem boxed_but {S : Nat → Prop} {W W' : World} {B : Nat} {t : TypeId} {v : Value} (h : Boxed W B t v) (hb : But S W W') (hs : ¬ S B) : Boxed W' B t v := (hb.block B h.lt hs).trans h
end Go.Proofs
/- The walk of poly.addTo: polynomials are added to a part of a list of the caller's own. Conditions: each is no longer than the part, and lies in another block. -/
namespace Go.Proofs
open Go.RowKit Go.Shelf Go.ChangeShapes Go.WideShapes
attribute [local go_sem] Oper.semAt_some
open Pol (IsN Dg ofL Byt)

/-! What the rounds add up. -/
theorem getD_set (s : List Nat) (i v k : Nat) : (s.set i v).getD k 0 = if i = k ∧ k < s.length then v else s.getD k 0 := by
  simp only [List.getD, List.getElem?_set]
  by_cases h : i = k
  · subst h
    by_cases h2 : i < s.length
    · rw [if_pos rfl, if_pos h2, if_pos ⟨rfl, h2⟩]; rfl
    · rw [if_pos rfl, if_neg h2, if_neg (fun c => h2 c.2), List.getElem?_eq_none (by omega)]
  · rw [if_neg h, if_neg (fun c => h c.1)]
/-! The marks that ranges over functions leave for the function's return. -/
def Marks (n : Nat) (W : World) : Nat → List Deferred → Prop
  | _, [] => True
  | b, d :: ds => ∃ D, d = { target := .collected D, args := #[] } ∧ n ≤ D ∧ D < b ∧ W.heap[D]? = some (.deferred (some [])) ∧ Marks n W D ds
theorem Marks.mono {n : Nat} {W : World} : ∀ {ds : List Deferred} {b b' : Nat}, Marks n W b ds → b ≤ b' → Marks n W b' ds
  | [], _, _, _, _ => trivial
  | _ :: _, _, _, ⟨D, e, h1, h2, h3⟩, hb => ⟨D, e, h1, by omega, h3⟩
theorem Marks.kept {n : Nat} {W W' : World} : ∀ {ds : List Deferred} {b : Nat}, Marks n W b ds → (∀ D, n ≤ D → D < b → W.heap[D]? = some (.deferred (some [])) → W'.heap[D]? = some (.deferred (some []))) → Marks n W' b ds
  | [], _, _, _ => trivial
  | _ :: _, _, ⟨D, e, h1, h2, h3, h4⟩, h => ⟨D, e, h1, h2, h D h1 h2 h3, h4.kept (fun D' a b c => h D' a (by omega) c)⟩
theorem KeepsP.setCell {B n g o : Nat} {q : Option Addr} {W W' : World} (h : KeepsP B q n W W') (hB : g ≠ B) (hq : Off g n q) (v : Value) : KeepsP B q n W (W'.setCell ⟨g, o, none⟩ v) :=
  ⟨h.1.setCell hB v, fun a e i hi u hu => (World.cell?_setCell_other _ _ _ _ (fun c => hq (by omega) a e (by rw [← block_add a i, ← c]))).trans (h.2 a e i hi u hu)⟩

end Go.Proofs
/- The walks of poly.Add and poly.Shift. Conditions: lists of at most a thousand million bytes, no longer than their capacities. -/
namespace Go.Proofs
open Go.RowKit Go.ChangeShapes Go.WideShapes
attribute [local go_sem ↓ high] builtin_ap
attribute [local go_sem] ap_sem
open Pol (IsN Dg ofL Byt)

end Go.Proofs
