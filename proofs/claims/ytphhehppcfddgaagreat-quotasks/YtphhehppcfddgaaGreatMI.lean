/- Texts laid together: PAddTo, PAdd. Each says its own conditions. -/
import Derived.RegionCalls
import Derived.Deep.RegionWith
import Derived.Deep.RegionHeldLaw
import Derived.Deep.DeepCutAuto
import Derived.Test.YtphhehppcfddgaaGreatMH
import Derived.Test.YtphhehppcfddgaaGreatMG
/- The walk of poly.addTo: polynomials are added to a part of a list of the caller's own. Conditions: each is no longer than the part, and lies in another block. -/
namespace Go.Proofs
open Go.RowKit Go.Shelf Go.ChangeShapes Go.WideShapes
attribute [local go_sem] Oper.semAt_some
open Pol (IsN Dg ofL Byt)

/-! What the rounds add up. -/
def adF (o : Nat) (xs s : List Nat) {n : Nat} (pre : List (Tm n)) : List Nat := pre.foldl (fun s x => s.set (o + x.1) (s.getD (o + x.1) 0 ^^^ xs.getD x.1 0)) s
theorem adF_snoc (o : Nat) (xs s : List Nat) {n : Nat} (pre : List (Tm n)) (x : Tm n) : adF o xs s (pre ++ [x]) = (adF o xs s pre).set (o + x.1) ((adF o xs s pre).getD (o + x.1) 0 ^^^ xs.getD x.1 0) := by simp [adF]
theorem adF_length (o : Nat) (xs s : List Nat) {n : Nat} (pre : List (Tm n)) : (adF o xs s pre).length = s.length := by
  suffices h : ∀ (pre : List (Tm n)) (s : List Nat), (pre.foldl (fun s x => s.set (o + x.1) (s.getD (o + x.1) 0 ^^^ xs.getD x.1 0)) s).length = s.length from h pre s
  intro pre
  induction pre with
  | nil => exact fun s => rfl
  | cons x l ih => intro s; rw [List.foldl_cons, ih, List.length_set]
theorem getD_set (s : List Nat) (i v k : Nat) : (s.set i v).getD k 0 = if i = k ∧ k < s.length then v else s.getD k 0 := by
  simp only [List.getD, List.getElem?_set]
  by_cases h : i = k
  · subst h
    by_cases h2 : i < s.length
    · rw [if_pos rfl, if_pos h2, if_pos ⟨rfl, h2⟩]; rfl
    · rw [if_pos rfl, if_neg h2, if_neg (fun c => h2 c.2), List.getElem?_eq_none (by omega)]
  · rw [if_neg h, if_neg (fun c => h c.1)]
theorem adF_byt (o : Nat) {xs s : List Nat} (hx : Byt xs) (hs : Byt s) {n : Nat} (pre : List (Tm n)) : Byt (adF o xs s pre) := by
  suffices h : ∀ (pre : List (Tm n)) (s : List Nat), Byt s → Byt (pre.foldl (fun s x => s.set (o + x.1) (s.getD (o + x.1) 0 ^^^ xs.getD x.1 0)) s) from h pre s hs
  intro pre
  induction pre with
  | nil => exact fun s h => h
  | cons x l ih =>
    intro s h
    rw [List.foldl_cons]
    refine ih _ (fun i => ?_)
    rw [getD_set]
    split
    · exact Gf.xor_lt8 (h _) (hx _)
    · exact h i
theorem adF_at (o : Nat) (xs s : List Nat) (n : Nat) (hl : o + n ≤ s.length) (k : Nat) : ∀ t j, j + t = n → (adF o xs s (tmD xs n j)).getD k 0 = if o + j ≤ k ∧ k < o + n then s.getD k 0 ^^^ xs.getD (k - o) 0 else s.getD k 0 := by
  intro t
  induction t with
  | zero =>
    intro j e
    obtain rfl : j = n := by omega
    rw [tmD_top, if_neg (by omega)]; rfl
  | succ t ih =>
    intro j e
    have h := ih (j + 1) (by omega)
    by_cases hj : xs.getD j 0 = 0
    · rw [tmD_none xs n j (by omega) hj, h]
      by_cases h1 : o + (j + 1) ≤ k ∧ k < o + n
      · rw [if_pos h1, if_pos (by omega)]
      · rw [if_neg h1]
        by_cases h2 : k = o + j
        · rw [if_pos (by omega), show k - o = j by omega, hj, Nat.xor_zero]
        · rw [if_neg (by omega)]
    · rw [tmD_some xs n j (by omega) hj, adF_snoc, getD_set, adF_length]
      by_cases h2 : o + j = k
      · have h3 := h
        rw [if_neg (by omega)] at h3
        rw [if_pos ⟨h2, by omega⟩, if_pos (by omega)]
        show (adF o xs s (tmD xs n (j + 1))).getD (o + j) 0 ^^^ xs.getD j 0 = _
        rw [h2, h3, show k - o = j by omega]
      · rw [if_neg (fun c => h2 c.1), h]
        by_cases h1 : o + (j + 1) ≤ k ∧ k < o + n
        · rw [if_pos h1, if_pos (by omega)]
        · rw [if_neg h1, if_neg (by omega)]
/-- A list with a polynomial added from place o on. -/
def addL (o : Nat) (s xs : List Nat) : List Nat := adF o xs s (tmD xs xs.length 0)
theorem addL_length (o : Nat) (s xs : List Nat) : (addL o s xs).length = s.length := adF_length _ _ _ _
theorem addL_byt (o : Nat) {s xs : List Nat} (hs : Byt s) (hx : Byt xs) : Byt (addL o s xs) := adF_byt o hx hs _
theorem addL_ofL (o : Nat) {s xs : List Nat} (hs : Byt s) (hx : Byt xs) (hl : o + xs.length ≤ s.length) : ofL (addL o s xs) = Pol.add (ofL s) (Pol.up o (ofL xs)) := by
  funext k
  show GF.of ((addL o s xs).getD k 0) = GF.of (s.getD k 0) + (if o ≤ k then GF.of (xs.getD (k - o) 0) else 0)
  unfold addL
  rw [adF_at o xs s xs.length hl k xs.length 0 (by omega)]
  by_cases h1 : o ≤ k
  · rw [if_pos h1]
    by_cases h2 : k < o + xs.length
    · rw [if_pos ⟨by omega, h2⟩, GF.of_xor _ _ (hs _) (hx _)]
    · have e : xs.getD (k - o) 0 = 0 := by simp [List.getD, List.getElem?_eq_none (show xs.length ≤ k - o by omega)]
      rw [if_neg (fun c => h2 c.2), e, GF.of_zero, GF.add_zero]
  · rw [if_neg (by omega), if_neg h1, GF.add_zero]
def addAll (o : Nat) (s : List Nat) (ls : List (List Nat)) : List Nat := ls.foldl (addL o) s
theorem addAll_length (o : Nat) (ls : List (List Nat)) : ∀ s, (addAll o s ls).length = s.length := by
  induction ls with
  | nil => exact fun s => rfl
  | cons x l ih => intro s; show (addAll o (addL o s x) l).length = _; rw [ih, addL_length]

theorem addAll_byt (o : Nat) (ls : List (List Nat)) : ∀ s, Byt s → (∀ l ∈ ls, Byt l) → Byt (addAll o s ls) := by
  induction ls with
  | nil => exact fun s h _ => h
  | cons x l ih => exact fun s h hl => ih _ (addL_byt o h (hl x (List.mem_cons_self ..))) (fun y hy => hl y (List.mem_cons_of_mem _ hy))
theorem addAll_snoc (o : Nat) (ls : List (List Nat)) (x s : List Nat) : addAll o s (ls ++ [x]) = addL o (addAll o s ls) x := by simp [addAll]
theorem But.past {S T : Nat → Prop} {a b c : World} (h : But S a b) (k : But T b c) (hT : ∀ i, T i → a.heap.size ≤ i) : But S a c :=
  ⟨k.os.trans h.os, k.tape.trans h.tape, k.output.trans h.output, Nat.le_trans h.size k.size, fun i hi hs => (k.block i (Nat.lt_of_lt_of_le hi h.size) (fun t => by have := hT i t; omega)).trans (h.block i hi hs)⟩

/-! The marks that ranges over functions leave for the function's return. -/
def Marks (n : Nat) (W : World) : Nat → List Deferred → Prop
  | _, [] => True
  | b, d :: ds => ∃ D, d = { target := .collected D, args := #[] } ∧ n ≤ D ∧ D < b ∧ W.heap[D]? = some (.deferred (some [])) ∧ Marks n W D ds
theorem Marks.mono {n : Nat} {W : World} : ∀ {ds : List Deferred} {b b' : Nat}, Marks n W b ds → b ≤ b' → Marks n W b' ds
  | [], _, _, _, _ => trivial
  | _ :: _, _, _, ⟨D, e, h1, h2, h3⟩, hb => ⟨D, e, h1, by omega, h3⟩
theorem Marks.kept {n : Nat} {W W' : World} : ∀ {ds : List Deferred} {b : Nat}, Marks n W b ds → (∀ D, n ≤ D → D < b → W.heap[D]? = some (.deferred (some [])) → W'.heap[D]? = some (.deferred (some []))) → Marks n W' b ds
  | [], _, _, _ => trivial
  | _ :: _, _, ⟨D, e, h1, h2, h3, h4⟩, h => ⟨D, e, h1, h2, h D h1 h2 h3, h4.kept (fun D' a b c => h D' a (by omega) c)⟩
/-- All marks are taken: what was no mark lies as it lay. -/
theorem leaves_marks {F : Fence} {m : Nat} {P : Program} {fn : Func} {tmps : Array Value} {R : Ending → World → Prop} {n : Nat} : ∀ (ds : List Deferred) (b : Nat) (W : World), Marks n W b ds →
    (∀ W', But (fun k => n ≤ k ∧ W.heap[k]? = some (.deferred (some []))) W W' → LeavesIn F m P fn tmps R [] .returning W') → LeavesInM F m P fn tmps R ds .returning W
  | [], _, W, _, h => h W (But.refl _ _)
  | _ :: ds, b, W, ⟨D, e, h1, h2, h3, h4⟩, h => by
    subst e
    have hlt : D < W.heap.size := (Array.getElem?_eq_some_iff.1 h3).1
    have hg := grownBy_putObj' W D (.deferred none)
    have hb1 : But (fun k => n ≤ k ∧ W.heap[k]? = some (.deferred (some []))) W (W.putObj D (.deferred none)) :=
      ⟨hg.os, hg.tape, hg.output, hg.size, fun k hk hs => hg.block k hk (fun e => by cases e; exact hs ⟨h1, h3⟩)⟩
    have hD : ∀ k, k ≠ D → (W.putObj D (.deferred none)).heap[k]? = some (.deferred (some [])) → W.heap[k]? = some (.deferred (some [])) := fun k hk e => by
      by_cases hl : k < W.heap.size
      · rw [← hg.block k hl (fun e' => hk (by cases e'; rfl))]; exact e
      · have : (W.putObj D (.deferred none)).heap.size = W.heap.size := by simp [World.putObj]
        have := (Array.getElem?_eq_some_iff.1 e).1
        omega
    refine ⟨by simp, .inl ⟨D, _, rfl, run_takeDeferred h3, ?_⟩⟩
    refine leaves_marks ds D _ (h4.kept (fun D' _ h6 h7 => (hg.block D' (by omega) (fun e => by cases e; omega)).trans h7)) (fun W' hW' => h W' (hb1.trans (hW'.mono (fun k ⟨hk1, hk2⟩ => ?_))))
    by_cases e : k = D
    · subst e; exact ⟨h1, h3⟩
    · exact ⟨hk1, hD k e hk2⟩

theorem ownFrom_but {β : Type} {S : Nat → Prop} {B : Nat} {w : World} (hB : w.heap.size ≤ B) : OwnFrom B (fun (_ : β) W => But S w W) := fun _ X Y row hs hg hr =>
  ⟨hg.os.trans hs.os, hg.tape.trans hs.tape, hg.output.trans hs.output, Nat.le_trans hs.size hg.size, fun k hk hS => (hg.block k (Nat.lt_of_lt_of_le hk hs.size) (fun e => by have := (hr k e.symm).1; omega)).trans (hs.block k hk hS)⟩
theorem ow_own {β : Type} (base : Nat) (v : Value) (f : β → List Nat) : Own (fun s W => Ow W base v (f s)) := fun s X Y row hs hg hrow => by
  have hs' : Ow X base v (f s) := hs
  refine hs'.block (fun k hk => hg.block k (hs'.lt k hk).2 (fun e => ?_))
  obtain ⟨o, ho, hc⟩ := hrow k e.symm
  rcases hs'.2 with ⟨e1, _⟩ | ⟨g, cap, cur, e1, _, hg', _⟩
  · rw [e1] at hk; cases hk
  · rw [e1] at hk
    cases hk
    rw [hg'] at ho
    cases ho
    cases hc
theorem ownFrom_marks {β : Type} {B n b : Nat} (hb : b ≤ B) (ds : List Deferred) : OwnFrom B (fun (_ : β) W => Marks n W b ds) := fun _ X Y row hs hg hr =>
  Marks.kept hs (fun D _ h2 h3 => (hg.block D (Array.getElem?_eq_some_iff.1 h3).1 (fun e => by have := (hr D e.symm).1; omega)).trans h3)
theorem KeepsP.setCell {B n g o : Nat} {q : Option Addr} {W W' : World} (h : KeepsP B q n W W') (hB : g ≠ B) (hq : Off g n q) (v : Value) : KeepsP B q n W (W'.setCell ⟨g, o, none⟩ v) :=
  ⟨h.1.setCell hB v, fun a e i hi u hu => (World.cell?_setCell_other _ _ _ _ (fun c => hq (by omega) a e (by rw [← block_add a i, ← c]))).trans (h.2 a e i hi u hu)⟩

theorem boxed_set {W : World} {B : Nat} {t : TypeId} {v : Value} (h : Boxed W B t v) {p : Addr} (hp : ¬ B = p.block) (u : Value) : Boxed (W.setCell p u) B t v := (Below.heap_setCell _ _ _ _ (fun e => hp (by first | exact e | exact e.symm))).trans h
/-- A slice, and the bytes that it holds. -/
structure Sl where
  q : Option Addr
  n : Nat
  c : Nat
  xs : List Nat
/-- A list of slices in memory, each to be read, none longer than m, none in block g. -/
def Sls (w : World) (h g m : Nat) (ls : List Sl) : Prop := ∀ j (hj : j < ls.length), w.cell? ⟨h, j, none⟩ = some (.slice ls[j].q ls[j].n ls[j].c) ∧ Bs w ls[j].q ls[j].n ls[j].xs ∧ ls[j].n ≤ m ∧ Off g ls[j].n ls[j].q
theorem sub_succ_lt (K r : Nat) (h : r < K) : K - ((r + 1 : Nat) : Int).toNat < K - ((r : Nat) : Int).toNat := by omega
end Go.Proofs
/- The walks of poly.Add and poly.Shift. Conditions: lists of at most a thousand million bytes, no longer than their capacities. -/
namespace Go.Proofs
open Go.RowKit Go.ChangeShapes Go.WideShapes
attribute [local go_sem ↓ high] builtin_ap
attribute [local go_sem] ap_sem
open Pol (IsN Dg ofL Byt)

theorem add_two {N : Nat} {xs ys : List Nat} (hx : Byt xs) (hy : Byt ys) (h1 : xs.length ≤ N) (h2 : ys.length ≤ N) : ofL (addAll 0 (List.replicate N 0) [xs, ys]) = Pol.add (ofL xs) (ofL ys) := by
  show ofL (addL 0 (addL 0 (List.replicate N 0) xs) ys) = _
  rw [addL_ofL 0 (addL_byt 0 (Pol.byt_rep N) hx) hy (by rw [addL_length, List.length_replicate]; omega), addL_ofL 0 (Pol.byt_rep N) hx (by rw [List.length_replicate]; omega), Pol.ofL_rep, Pol.up_zero, Pol.up_zero, Pol.zero_add]

/-- An append whose run is known, at a step of a region that draws its order. -/
theorem step_ap {ops : Array Oper} {o : Oper} {a : Act} {w : World} {K : Act → World → Prop} {Q : Exit → Act → World → Prop} {E : Prop} (hg : o.guard = none) (s x : Operand) (t : TypeId) (ho : o.op = .call { callee := .builtin .append, args := #[s, x], argTypes := #[t, t] }) (ht : o.type = t)
    {v u v' : Value} {W' : World} (hap : (Builtin.append_ #[t, t] t #[v, u]).run Tryz.prog w = .ok v' W') (hs : a.eval s = v) (hx : a.eval x = u) (hK : K (a.put o.dst v') W') : if Region.wanted o (yielded ops a.tmps) = true then Oper.wp Tryz.prog o a w K Q else E := by
  have hw : Region.wanted o (yielded ops a.tmps) = true := by simp [Region.wanted, hg]
  rw [if_pos hw]
  subst hs hx ht
  unfold Oper.wp
  simp only [execOp, ho, resolve, invoke, builtin, Sem.run_bind, Sem.run_pure, Result.andThen_ok, List.map_toArray, List.map_cons, List.map_nil, hap]
  exact hK
/-- The product with a power of x, or the quotient; nothing, if that had too great a degree. -/
def shP (k : Int) (d : Nat) (p : Pol) : Pol := if d = 0 ∨ 1001 - (d : Int) < k ∨ k < 1 - (d : Int) then Pol.zero else if k < 0 then Pol.down (-k).toNat p else Pol.up k.toNat p
theorem range_drop (xs : List Nat) (n t : Nat) (h : xs.length = n) : (List.range (n - t)).map (fun i => xs.getD (t + i) 0) = xs.drop t := by
  apply List.ext_getElem?
  intro i
  rw [List.getElem?_map, List.getElem?_drop]
  by_cases hi : i < n - t
  · rw [List.getElem?_range hi, List.getElem?_eq_getElem (show t + i < xs.length by omega)]
    simp [List.getD, List.getElem?_eq_getElem (show t + i < xs.length by omega)]
  · rw [List.getElem?_eq_none (by simpa using hi), List.getElem?_eq_none (by omega)]; rfl
end Go.Proofs
