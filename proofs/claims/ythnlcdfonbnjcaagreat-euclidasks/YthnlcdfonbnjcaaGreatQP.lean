/- A range over a function whose rounds tell what lies in memory then: the iterator says so at each yield, may write block T and one of its own between two of them, and is told that a round writes block A alone. Nothing of the program is walked. -/
import Derived.RangeFuncNested
import Derived.RangeFuncBound
import Derived.RangeFuncCalls
import Derived.RangeFuncLeaves
import Derived.Test.YthnlcdfonbnjcaaGreatME
namespace Go.Proofs
open Go.RowKit
section
variable {α : Type} {F : Fence} {n : Nat} {P : Program}

/-- What such an iterator promises: it returns, and some with Sp have come, each of which was so in memory as Gv says, and lay in no block of the iterator's own that it wrote (Cl); a round writes block A and its loop's record. -/
def SeqRows (F : Fence) (n : Nat) (P : Program) (g : Nat) (lb : Array Value) (encs : α → Array Value) (A T : Nat) (Gv : α → World → Prop) (Cl : α → Nat → Prop) (Sp : List α → Prop) (Ef : World → Prop) (w : World) : Prop :=
  ∀ (l : Nat) (J : List α → World → Prop) (W : World), Below w.heap.size w W → w.heap.size ≤ l → l < W.heap.size →
    (∀ s X Y Z, J s X → W.heap.size ≤ Z → (∀ x, s.getLast? = some x → Cl x Z) → But (fun k => k = T ∨ k = Z) X Y → J s Y) →
    (∀ pre x X, J pre X → Gv x X → YieldAt F (n - 1) P l (encs x) X fun e Y => e = .returned (.bool true) ∧ J (pre ++ [x]) Y ∧ But (fun k => k = A ∨ k = l) X Y) →
    J [] W → CallsIn F n P g (#[.func (.yield l) #[] #[]] ++ lb) W fun e Y => (∃ v, e = .returned v) ∧ ∃ xs, Sp xs ∧ J xs Y ∧ Ef Y

/-- How a round is left: it goes on. -/
def rowPost (A : Nat) (I : List α → World → Prop) (xs : List α) (W : World) : Exit → Act → World → Prop
  | .normal, _, Y => But (· = A) W Y ∧ I xs Y
  | _, _, _ => False

/-- The loop's record, in a state. -/
def rowRec (fn : FuncId) (a : Act) (ps : Array Tmp) (assign body : Code) (D : Nat) (s : LoopState) (p : Option Code) : Loop :=
  { state := s, pending := p, fn, tmps := a.tmps, params := ps, assign, body, defers := D }
theorem But.putObj (S : Nat → Prop) (W : World) (l : Nat) (o : Obj) (hS : S l) : But S W (W.putObj l o) := by
  have hg := grownBy_putObj' W l o
  exact ⟨hg.os, hg.tape, hg.output, hg.size, fun k hk hs => hg.block k hk (fun e => by cases e; exact hs hS)⟩

theorem wpIn_rangeFunc_rows {g : Operand} {ps : Array Tmp} {assign body : Code} {Q : Exit → Act → World → Prop} {a : Act} {w : World}
    (hro : F.round = none) (h1 : 1 ≤ n) {gf : Nat} {lb : Array Value} (hg : a.eval g = .func (.func gf) #[] lb) (hFg : F.fn gf) (eg : ∀ args w, (callFunc gf args).run P w = .ok (.enter gf args) w)
    {encs : α → Array Value} (hps : ∀ x, (encs x).size = ps.size) (A T : Nat) (hA : A < w.heap.size) (hT : T < w.heap.size) {Gv : α → World → Prop} {Cl : α → Nat → Prop} {Sp : List α → Prop} {Ef : World → Prop} (hseq : SeqRows F (n - 1) P gf lb encs A T Gv Cl Sp Ef w)
    (I : List α → World → Prop) (hI : OwnFrom w.heap.size I) (hIT : ∀ s X Y Z, I s X → w.heap.size ≤ Z → (∀ x, s.getLast? = some x → Cl x Z) → But (fun k => k = T ∨ k = Z) X Y → I s Y) (hIB : ∀ s X Y, I s X → But (fun _ => False) X Y → I s Y)
    (hG : OwnFrom w.heap.size Gv) (hGB : ∀ x X Y, Gv x X → But (fun _ => False) X Y → Gv x Y) (hE : OwnFrom w.heap.size (fun (_ : Unit) W => Ef W)) (h0 : I [] w) (Ax : α → Act → World → Prop) (hAx : ∀ x a', OwnFrom w.heap.size (fun (_ : Unit) W => Ax x a' W))
    (hassign : ∀ (l : Nat) (x : α) (W : World) (K : Act → World → Prop), w.heap.size ≤ W.heap.size → (∀ a' W', But (fun _ => False) W W' → Ax x a' W' → K a' W') →
      assign.wpIn (F.inRound l) (n - 1 - 1) P (Exit.then K (fun _ _ _ => False)) { tmps := (ps.zip (encs x)).foldl (fun t (p, v) => t.setIfInBounds p v) a.tmps, defers := [] } W)
    (hbody : ∀ (l : Nat) (pre : List α) (x : α) (a' : Act) (W : World), I pre W → Gv x W → Ax x a' W → body.wpIn (F.inRound l) (n - 1 - 1) P (rowPost A I (pre ++ [x]) W) a' W)
    (hdone : ∀ (D : Nat) (xs : List α) (W : World), w.heap.size ≤ D → Sp xs → I xs W → Ef W → W.heap[D]? = some (.deferred (some [])) → Q .normal { a with defers := { target := .collected D, args := #[] } :: a.defers } W) :
    (Code.rangeFunc g ps assign body).wpIn F n P Q a w := by
  refine wpIn_rangeFunc fun fn hfn => ?_
  obtain ⟨D, hD⟩ : ∃ D, w.heap.size = D := ⟨_, rfl⟩
  obtain ⟨L, hL⟩ : ∃ L, D + 1 = L := ⟨_, rfl⟩
  obtain ⟨r, hr⟩ : ∃ r, rowRec fn a ps assign body D = r := ⟨_, rfl⟩
  obtain ⟨X, hX⟩ : ∃ X, (w.alloc (.deferred (some []))).alloc (.loop (r .ready none)) = X := ⟨_, rfl⟩
  have hrs : ∀ s p, (r s p).state = s ∧ (r s p).pending = p ∧ (r s p).params = ps := fun s p => by rw [← hr]; exact ⟨rfl, rfl, rfl⟩
  have hru : ∀ s p s' p', { r s p with state := s', pending := p' } = r s' p' := fun s p s' p' => by rw [← hr]; rfl
  have hrb : ∀ s p s', { r s p with state := s' } = r s' p := fun s p s' => by rw [← hr]; rfl
  have e1 : (w.alloc (.deferred (some []))).heap.size = L := by rw [World.size_alloc, hD, hL]
  have hXL : X.heap[L]? = some (.loop (r .ready none)) := by rw [← hX, ← e1]; exact World.alloc_heap_new _ _
  have hXD : X.heap[D]? = some (.deferred (some [])) := by rw [← hX, ← hD]; exact (Below.heap_alloc _ _ _ (by simp)).trans (World.alloc_heap_new w _)
  have hXs : X.heap.size = L + 1 := by rw [← hX, World.size_alloc, e1]
  have hXb : Below w.heap.size w X := by rw [← hX]; exact ((Below.refl _ w).alloc (Nat.le_refl _) _).alloc (by simp) _
  have hX0 : I [] X := by rw [← hX]; exact hI.alloc _ (hI.alloc _ h0)
  rw [hD] at hI hG hE hAx hA hT hIT hassign
  refine ⟨L, [{ target := .collected D, args := #[] }], X, { target := .fn (.func gf) lb, args := #[.func (.yield L) #[] #[]] }, X, gf, #[.func (.yield L) #[] #[]] ++ lb, X, ?_, ?_, fun f' hf' => ?_, by simp [invoke, go_sem, eg], fun _ => h1, ?_⟩
  · have he := run_enterLoop_outer (P := P) (w := w) fn a.tmps ps assign body
    rw [hro, he, hD, hL, ← hX, ← hr]; rfl
  · simp only [resolve, hg]; simp [go_sem]
  · simp [Target.leads] at hf'; subst hf'; exact hFg
  refine (hseq L (fun pre Y => I pre Y ∧ Y.heap[L]? = some (.loop (r .ready none)) ∧ Y.heap[D]? = some (.deferred (some []))) X hXb (by omega) (by omega)
    (fun s Y Y' Z hs hZ hc hb => ⟨hIT s Y Y' Z hs.1 (by omega) hc hb, (hb.block L (Array.getElem?_eq_some_iff.1 hs.2.1).1 (by omega)).trans hs.2.1, (hb.block D (Array.getElem?_eq_some_iff.1 hs.2.2).1 (by omega)).trans hs.2.2⟩)
    ?_ ⟨hX0, hXL, hXD⟩).mono ?_
  · rintro pre x W ⟨hi, hl, hk⟩ hgx
    have hlt : L < W.heap.size := (Array.getElem?_eq_some_iff.1 hl).1
    have hy := run_yield (P := P) (args := encs x) hl (by rw [(hrs _ _).2.2]; exact hps x)
    rw [← hr] at hy
    refine ⟨fn, _, assign, body, hy, roundIn_of_wpIn hfn (hassign L x W _ (by omega) fun a' Wa hba hax => ?_)⟩
    replace hi := hIB _ _ _ hi hba
    replace hgx := hGB _ _ _ hgx hba
    replace hl := (hba.block L (Array.getElem?_eq_some_iff.1 hl).1 id).trans hl
    replace hk := (hba.block D (Array.getElem?_eq_some_iff.1 hk).1 id).trans hk
    replace hlt := (Array.getElem?_eq_some_iff.1 hl).1
    refine ⟨_, run_beginRound hl (hrs _ _).1, ?_⟩
    rw [hrb]
    obtain ⟨V, hV⟩ : ∃ V, Wa.putObj L (.loop (r .busy none)) = V := ⟨_, rfl⟩
    have hVL : V.heap[L]? = some (.loop (r .busy none)) := by rw [← hV]; exact World.putObj_heap_same hlt
    have hVD : V.heap[D]? = some (.deferred (some [])) := by rw [← hV]; exact (World.putObj_heap_other (by omega)).trans hk
    have hVI : I pre V := by rw [← hV]; exact hI.putObj _ hi (by omega) hl rfl
    have hVG : Gv x V := by rw [← hV]; exact hG.putObj _ hgx (by omega) hl rfl
    have hVA : Ax x a' V := by rw [← hV]; exact (hAx x a').putObj (s := ()) _ hax (by omega) hl rfl
    have hVb : But (fun k => k = A ∨ k = L) W V := by rw [← hV]; exact (hba.mono fun _ h => h.elim).trans (But.putObj _ _ _ _ (.inr rfl))
    rw [hV]
    refine wpIn_mono (hbody L pre x a' V hVI hVG hVA) fun e a3 Y hp => ?_
    cases e with
    | normal =>
      obtain ⟨hb3, hi3⟩ := hp
      have hl3 : Y.heap[L]? = some (.loop (r .busy none)) := (hb3.block L (Array.getElem?_eq_some_iff.1 hVL).1 (by omega)).trans hVL
      have hk3 : Y.heap[D]? = some (.deferred (some [])) := (hb3.block D (Array.getElem?_eq_some_iff.1 hVD).1 (by omega)).trans hVD
      have he := run_endRound (P := P) none hl3
      rw [hru] at he
      have hlt3 := (Array.getElem?_eq_some_iff.1 hl3).1
      exact ⟨_, _, he, rfl, ⟨hI.putObj _ hi3 (by omega) hl3 rfl, World.putObj_heap_same hlt3, (World.putObj_heap_other (by omega)).trans hk3⟩, hVb.trans ((hb3.mono fun k e => .inl e).trans (But.putObj _ _ _ _ (.inr rfl)))⟩
    | _ => exact hp.elim
  · rintro e Y ⟨⟨v, rfl⟩, xs, hSp, ⟨hi, hl, hk⟩, hef⟩
    have he := run_endLoop (P := P) hl (by rw [(hrs _ _).1]; simp)
    rw [(hrs _ _).2.1] at he
    exact ⟨none, _, he, hdone D xs _ (by omega) hSp (hI.putObj _ hi (by omega) hl rfl) (hE.putObj (s := ()) _ hef (by omega) hl rfl) ((World.putObj_heap_other (by omega)).trans hk)⟩
end
end Go.Proofs
