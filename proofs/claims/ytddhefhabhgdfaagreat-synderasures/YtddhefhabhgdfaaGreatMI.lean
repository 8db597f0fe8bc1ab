/- Texts laid together: RfH, PAddTo, PAdd. Each says its own conditions. -/
import Derived.RegionCalls
import Derived.Deep.RegionWith
import Derived.Deep.RegionHeldLaw
import Derived.Deep.DeepCutAuto
import Derived.Test.YtddhefhabhgdfaaGreatMG
import Derived.Test.YtddhefhabhgdfaaGreatMC
import Derived.Test.YtddhefhabhgdfaaGreatMH
/- What rounds of a range over a function keep: boxes, fields, lists that are owned. Nothing of the program. -/
namespace Go.Proofs
open Go.RowKit Go.Shelf Go.ChangeShapes Go.WideShapes
theorem But.past {S T : Nat → Prop} {a b c : World} (h : But S a b) (k : But T b c) (hT : ∀ i, T i → a.heap.size ≤ i) : But S a c :=
  ⟨k.os.trans h.os, k.tape.trans h.tape, k.output.trans h.output, Nat.le_trans h.size k.size, fun i hi hs => (k.block i (Nat.lt_of_lt_of_le hi h.size) (fun t => by have := hT i t; omega)).trans (h.block i hi hs)⟩
theorem ownFrom_but {β : Type} {S : Nat → Prop} {B : Nat} {w : World} (hB : w.heap.size ≤ B) : OwnFrom B (fun (_ : β) W => But S w W) := fun _ X Y row hs hg hr =>
  ⟨hg.os.trans hs.os, hg.tape.trans hs.tape, hg.output.trans hs.output, Nat.le_trans hs.size hg.size, fun k hk hS => (hg.block k (Nat.lt_of_lt_of_le hk hs.size) (fun e => by have := (hr k e.symm).1; omega)).trans (hs.block k hk hS)⟩
theorem ow_own {β : Type} (base : Nat) (v : Value) (f : β → List Nat) : Own (fun s W => Ow W base v (f s)) := fun s X Y row hs hg hrow => by
  have hs' : Ow X base v (f s) := hs
  refine hs'.block (fun k hk => hg.block k (hs'.lt k hk).2 (fun e => ?_))
  obtain ⟨o, ho, hc⟩ := hrow k e.symm
  rcases hs'.2 with ⟨e1, _⟩ | ⟨g, cap, cur, e1, _, hg', _⟩
  · rw [e1] at hk; cases hk
  · rw [e1] at hk
    cases hk
    rw [hg'] at ho
    cases ho
    cases hc
theorem boxed_set {W : World} {B : Nat} {t : TypeId} {v : Value} (h : Boxed W B t v) {p : Addr} (hp : ¬ B = p.block) (u : Value) : Boxed (W.setCell p u) B t v := (Below.heap_setCell _ _ _ _ (fun e => hp (by first | exact e | exact e.symm))).trans h
theorem keepsFrom_but {S : Nat → Prop} {B : Nat} {W W' : World} (h : But S W W') (hS : ∀ k, S k → k < B) : KeepsFrom B W W' :=
  ⟨h.size, fun k o hk h0 _ => (h.block k (Array.getElem?_eq_some_iff.1 h0).1 (fun s => by have := hS k s; omega)).trans h0⟩
theorem ownFrom_fd {β : Type} {k B T C : Nat} (hB : B < C) (hT : T < C) : OwnFrom C (fun (_ : β) W => Fd k B T W) := fun _ X Y row hs hg hr =>
  Fd.but hs (S := fun i => some i = row) ⟨hg.os, hg.tape, hg.output, hg.size, fun i hi hn => hg.block i hi hn⟩ (fun e => by have := (hr B e.symm).1; omega) (fun e => by have := (hr T e.symm).1; omega)
theorem boxed_but {S : Nat → Prop} {W W' : World} {B : Nat} {t : TypeId} {v : Value} (h : Boxed W B t v) (hb : But S W W') (hs : ¬ S B) : Boxed W' B t v := (hb.block B h.lt hs).trans h
end Go.Proofs
/- The walk of poly.addTo: polynomials are added to a part of a list of the caller's own. Conditions: each is no longer than the part, and lies in another block. -/
namespace Go.Proofs
open Go.RowKit Go.Shelf Go.ChangeShapes Go.WideShapes
attribute [local go_sem] Oper.semAt_some
open Pol (IsN Dg ofL Byt)

/-! What the rounds add up. -/
def adF (o : Nat) (xs s : List Nat) {n : Nat} (pre : List (Tm n)) : List Nat := pre.foldl (fun s x => s.set (o + x.1) (s.getD (o + x.1) 0 ^^^ xs.getD x.1 0)) s
theorem adF_snoc (o : Nat) (xs s : List Nat) {n : Nat} (pre : List (Tm n)) (x : Tm n) : adF o xs s (pre ++ [x]) = (adF o xs s pre).set (o + x.1) ((adF o xs s pre).getD (o + x.1) 0 ^^^ xs.getD x.1 0) := by simp [adF]
theorem adF_length (o : Nat) (xs s : List Nat) {n : Nat} (pre : List (Tm n)) : (adF o xs s pre).length = s.length := by
  suffices h : ∀ (pre : List (Tm n)) (s : List Nat), (pre.foldl (fun s x => s.set (o + x.1) (s.getD (o + x.1) 0 ^^^ xs.getD x.1 0)) s).length = s.length from h pre s
  intro pre
  induction pre with
  | nil => exact fun s => rfl
  | cons x l ih => intro s; rw [List.foldl_cons, ih, List.length_set]
theorem getD_set (s : List Nat) (i v k : Nat) : (s.set i v).getD k 0 = if i = k ∧ k < s.length then v else s.getD k 0 := by
  simp only [List.getD, List.getElem?_set]
  by_cases h : i = k
  · subst h
    by_cases h2 : i < s.length
    · rw [if_pos rfl, if_pos h2, if_pos ⟨rfl, h2⟩]; rfl
    · rw [if_pos rfl, if_neg h2, if_neg (fun c => h2 c.2), List.getElem?_eq_none (by omega)]
  · rw [if_neg h, if_neg (fun c => h c.1)]
theorem adF_byt (o : Nat) {xs s : List Nat} (hx : Byt xs) (hs : Byt s) {n : Nat} (pre : List (Tm n)) : Byt (adF o xs s pre) := by
  suffices h : ∀ (pre : List (Tm n)) (s : List Nat), Byt s → Byt (pre.foldl (fun s x => s.set (o + x.1) (s.getD (o + x.1) 0 ^^^ xs.getD x.1 0)) s) from h pre s hs
  intro pre
  induction pre with
  | nil => exact fun s h => h
  | cons x l ih =>
    intro s h
    rw [List.foldl_cons]
    refine ih _ (fun i => ?_)
    rw [getD_set]
    split
    · exact Gf.xor_lt8 (h _) (hx _)
    · exact h i
theorem adF_at (o : Nat) (xs s : List Nat) (n : Nat) (hl : o + n ≤ s.length) (k : Nat) : ∀ t j, j + t = n → (adF o xs s (tmD xs n j)).getD k 0 = if o + j ≤ k ∧ k < o + n then s.getD k 0 ^^^ xs.getD (k - o) 0 else s.getD k 0 := by
  intro t
  induction t with
  | zero =>
    intro j e
    obtain rfl : j = n := by omega
    rw [tmD_top, if_neg (by omega)]; rfl
  | succ t ih =>
    intro j e
    have h := ih (j + 1) (by omega)
    by_cases hj : xs.getD j 0 = 0
    · rw [tmD_none xs n j (by omega) hj, h]
      by_cases h1 : o + (j + 1) ≤ k ∧ k < o + n
      · rw [if_pos h1, if_pos (by omega)]
      · rw [if_neg h1]
        by_cases h2 : k = o + j
        · rw [if_pos (by omega), show k - o = j by omega, hj, Nat.xor_zero]
        · rw [if_neg (by omega)]
    · rw [tmD_some xs n j (by omega) hj, adF_snoc, getD_set, adF_length]
      by_cases h2 : o + j = k
      · have h3 := h
        rw [if_neg (by omega)] at h3
        rw [if_pos ⟨h2, by omega⟩, if_pos (by omega)]
        show (adF o xs s (tmD xs n (j + 1))).getD (o + j) 0 ^^^ xs.getD j 0 = _
        rw [h2, h3, show k - o = j by omega]
      · rw [if_neg (fun c => h2 c.1), h]
        by_cases h1 : o + (j + 1) ≤ k ∧ k < o + n
        · rw [if_pos h1, if_pos (by omega)]
        · rw [if_neg h1, if_neg (by omega)]
/-- A list with a polynomial added from place o on. -/
def addL (o : Nat) (s xs : List Nat) : List Nat := adF o xs s (tmD xs xs.length 0)
theorem addL_length (o : Nat) (s xs : List Nat) : (addL o s xs).length = s.length := adF_length _ _ _ _
theorem addL_byt (o : Nat) {s xs : List Nat} (hs : Byt s) (hx : Byt xs) : Byt (addL o s xs) := adF_byt o hx hs _
theorem addL_ofL (o : Nat) {s xs : List Nat} (hs : Byt s) (hx : Byt xs) (hl : o + xs.length ≤ s.length) : ofL (addL o s xs) = Pol.add (ofL s) (Pol.up o (ofL xs)) := by
  funext k
  show GF.of ((addL o s xs).getD k 0) = GF.of (s.getD k 0) + (if o ≤ k then GF.of (xs.getD (k - o) 0) else 0)
  unfold addL
  rw [adF_at o xs s xs.length hl k xs.length 0 (by omega)]
  by_cases h1 : o ≤ k
  · rw [if_pos h1]
    by_cases h2 : k < o + xs.length
    · rw [if_pos ⟨by omega, h2⟩, GF.of_xor _ _ (hs _) (hx _)]
    · have e : xs.getD (k - o) 0 = 0 := by simp [List.getD, List.getElem?_eq_none (show xs.length ≤ k - o by omega)]
      rw [if_neg (fun c => h2 c.2), e, GF.of_zero, GF.add_zero]
  · rw [if_neg (by omega), if_neg h1, GF.add_zero]
def addAll (o : Nat) (s : List Nat) (ls : List (List Nat)) : List Nat := ls.foldl (addL o) s
theorem addAll_length (o : Nat) (ls : List (List Nat)) : ∀ s, (addAll o s ls).length = s.length := by
  induction ls with
  | nil => exact fun s => rfl
  | cons x l ih => intro s; show (addAll o (addL o s x) l).length = _; rw [ih, addL_length]

theorem addAll_byt (o : Nat) (ls : List (List Nat)) : ∀ s, Byt s → (∀ l ∈ ls, Byt l) → Byt (addAll o s ls) := by
  induction ls with
  | nil => exact fun s h _ => h
  | cons x l ih => exact fun s h hl => ih _ (addL_byt o h (hl x (List.mem_cons_self ..))) (fun y hy => hl y (List.mem_cons_of_mem _ hy))
theorem addAll_snoc (o : Nat) (ls : List (List Nat)) (x s : List Nat) : addAll o s (ls ++ [x]) = addL o (addAll o s ls) x := by simp [addAll]

/-! The marks that ranges over functions leave for the function's return. -/
def Marks (n : Nat) (W : World) : Nat → List Deferred → Prop
  | _, [] => True
  | b, d :: ds => ∃ D, d = { target := .collected D, args := #[] } ∧ n ≤ D ∧ D < b ∧ W.heap[D]? = some (.deferred (some [])) ∧ Marks n W D ds
theorem Marks.mono {n : Nat} {W : World} : ∀ {ds : List Deferred} {b b' : Nat}, Marks n W b ds → b ≤ b' → Marks n W b' ds
  | [], _, _, _, _ => trivial
  | _ :: _, _, _, ⟨D, e, h1, h2, h3⟩, hb => ⟨D, e, h1, by omega, h3⟩
theorem Marks.kept {n : Nat} {W W' : World} : ∀ {ds : List Deferred} {b : Nat}, Marks n W b ds → (∀ D, n ≤ D → D < b → W.heap[D]? = some (.deferred (some [])) → W'.heap[D]? = some (.deferred (some []))) → Marks n W' b ds
  | [], _, _, _ => trivial
  | _ :: _, _, ⟨D, e, h1, h2, h3, h4⟩, h => ⟨D, e, h1, h2, h D h1 h2 h3, h4.kept (fun D' a b c => h D' a (by omega) c)⟩
/-- All marks are taken: what was no mark lies as it lay. -/
theorem leaves_marks {F : Fence} {m : Nat} {P : Program} {fn : Func} {tmps : Array Value} {R : Ending → World → Prop} {n : Nat} : ∀ (ds : List Deferred) (b : Nat) (W : World), Marks n W b ds →
    (∀ W', But (fun k => n ≤ k ∧ W.heap[k]? = some (.deferred (some []))) W W' → LeavesIn F m P fn tmps R [] .returning W') → LeavesInM F m P fn tmps R ds .returning W
  | [], _, W, _, h => h W (But.refl _ _)
  | _ :: ds, b, W, ⟨D, e, h1, h2, h3, h4⟩, h => by
    subst e
    have hlt : D < W.heap.size := (Array.getElem?_eq_some_iff.1 h3).1
    have hg := grownBy_putObj' W D (.deferred none)
    have hb1 : But (fun k => n ≤ k ∧ W.heap[k]? = some (.deferred (some []))) W (W.putObj D (.deferred none)) :=
      ⟨hg.os, hg.tape, hg.output, hg.size, fun k hk hs => hg.block k hk (fun e => by cases e; exact hs ⟨h1, h3⟩)⟩
    have hD : ∀ k, k ≠ D → (W.putObj D (.deferred none)).heap[k]? = some (.deferred (some [])) → W.heap[k]? = some (.deferred (some [])) := fun k hk e => by
      by_cases hl : k < W.heap.size
      · rw [← hg.block k hl (fun e' => hk (by cases e'; rfl))]; exact e
      · have : (W.putObj D (.deferred none)).heap.size = W.heap.size := by simp [World.putObj]
        have := (Array.getElem?_eq_some_iff.1 e).1
        omega
    refine ⟨by simp, .inl ⟨D, _, rfl, run_takeDeferred h3, ?_⟩⟩
    refine leaves_marks ds D _ (h4.kept (fun D' _ h6 h7 => (hg.block D' (by omega) (fun e => by cases e; omega)).trans h7)) (fun W' hW' => h W' (hb1.trans (hW'.mono (fun k ⟨hk1, hk2⟩ => ?_))))
    by_cases e : k = D
    · subst e; exact ⟨h1, h3⟩
    · exact ⟨hk1, hD k e hk2⟩

theorem ownFrom_marks {β : Type} {B n b : Nat} (hb : b ≤ B) (ds : List Deferred) : OwnFrom B (fun (_ : β) W => Marks n W b ds) := fun _ X Y row hs hg hr =>
  Marks.kept hs (fun D _ h2 h3 => (hg.block D (Array.getElem?_eq_some_iff.1 h3).1 (fun e => by have := (hr D e.symm).1; omega)).trans h3)
theorem KeepsP.setCell {B n g o : Nat} {q : Option Addr} {W W' : World} (h : KeepsP B q n W W') (hB : g ≠ B) (hq : Off g n q) (v : Value) : KeepsP B q n W (W'.setCell ⟨g, o, none⟩ v) :=
  ⟨h.1.setCell hB v, fun a e i hi u hu => (World.cell?_setCell_other _ _ _ _ (fun c => hq (by omega) a e (by rw [← block_add a i, ← c]))).trans (h.2 a e i hi u hu)⟩

/-- A slice, and the bytes that it holds. -/
structure Sl where
  q : Option Addr
  n : Nat
  c : Nat
  xs : List Nat
/-- A list of slices in memory, each to be read, none longer than m, none in block g. -/
def Sls (w : World) (h g m : Nat) (ls : List Sl) : Prop := ∀ j (hj : j < ls.length), w.cell? ⟨h, j, none⟩ = some (.slice ls[j].q ls[j].n ls[j].c) ∧ Bs w ls[j].q ls[j].n ls[j].xs ∧ ls[j].n ≤ m ∧ Off g ls[j].n ls[j].q
theorem sub_succ_lt (K r : Nat) (h : r < K) : K - ((r + 1 : Nat) : Int).toNat < K - ((r : Nat) : Int).toNat := by omega
set_option maxRecDepth 100000 in
set_option maxHeartbeats 4000000 in
theorem paddTo_in (d : Nat) (hd : 3 ≤ d) (base g o m cm N cap h cK : Nat) (s : List Nat) (ls : List Sl) (hN : N = s.length) (hom : o + m ≤ N) (hsb : Byt s) (hK : ls.length ≤ 1000) (hgh : ¬ h = g) (w : World) (hhw : h < w.heap.size) (hO : Ow w base (.slice (some ⟨g, 0, none⟩) N cap) s) (hls : Sls w h g m ls) :
    CallsIn Fence.wide d Tryz.prog 45 #[.slice (some ⟨g, o, none⟩) m cm, .slice (some ⟨h, 0, none⟩) ls.length cK] w fun e w' => (∃ v, e = .returned v) ∧ Ow w' base (.slice (some ⟨g, 0, none⟩) N cap) (addAll o s (ls.map (·.xs))) ∧ But (· = g) w w' := by
  refine callsIn_of_wp_marks Tryz.func45 rfl trivial ?_ rfl
  simp only [Tryz.ntmps45, List.size_toArray, List.length_cons, List.length_nil, Nat.reduceAdd, Nat.reduceSub, Array.replicate_succ, Array.replicate_zero, List.push_toArray, List.append_toArray, List.nil_append, List.cons_append]
  have hfn : ∀ f, Fence.wide.fn f := fun _ => trivial
  have hd1 : 1 ≤ d := by omega
  obtain ⟨K, hKe⟩ : ∃ K, ls.length = K := ⟨_, rfl⟩
  rw [hKe]
  have HE : Hid (ls.length = K) := hKe
  have HO : Hid (Ow w base (.slice (some ⟨g, 0, none⟩) N cap) s) := hO
  have hgw : g < w.heap.size := (hO.lt g rfl).2
  have HL : Hid (Sls w h g m ls) := hls
  have HBy : Hid (Byt s) := hsb
  rw [hKe] at hK
  clear hO hls hsb hKe
  obtain ⟨R, hR⟩ : ∃ R, w.heap.size = R := ⟨_, rfl⟩
  gi_wp2
  rw [hR] at hgw hhw
  refine wpIn_loop (fun a' wr => ∃ (r : Nat) (u5 u11 u12 u13 u14 u15 u25 : Value) (ds : List Deferred), r ≤ K ∧ a' = { tmps := #[.slice (some ⟨g, o, none⟩) m cm, .slice (some ⟨h, 0, none⟩) K cK, .pointer (some ⟨R, 0, none⟩), undef, undef, u5, undef, undef, .slice (some ⟨h, 0, none⟩) K cK, .int .i64 (K : Int), .int .i64 (r : Int), u11, u12, u13, u14, u15, undef, undef, undef, undef, undef, undef, undef, undef, undef, u25], defers := ds } ∧
      Ow wr base (.slice (some ⟨g, 0, none⟩) N cap) (addAll o s ((ls.take r).map (·.xs))) ∧ Boxed wr R 24 (.slice (some ⟨g, o, none⟩) m cm) ∧ But (· = g) w wr ∧ Marks R wr wr.heap.size ds)
    (fun a' _ => K - (intOf (a'.tmps.getD 10 undef)).toNat) ?_ ?_
  · refine ⟨0, _, _, _, _, _, _, _, [], Nat.zero_le _, rfl, ?_, ?_, ?_, trivial⟩
    · exact HO.out.alloc _
    · rw [← hR]; exact Boxed.new w _ _
    · exact (But.refl _ w).alloc _
  · rintro a' wr ⟨r, u5, u11, u12, u13, u14, u15, u25, ds, hr, rfl, hOr, hBx, hBut, hMk⟩
    have hsz := hBx.lt
    have hlsb : ∀ l ∈ ls.map (·.xs), Byt l := fun l hl => by
      obtain ⟨x, hx, rfl⟩ := List.mem_map.1 hl
      obtain ⟨j, hj, rfl⟩ := List.mem_iff_getElem.1 hx
      exact (HL.out j hj).2.1.byt
    by_cases hlt : r < K
    · have hi : (r : Int) < (K : Int) := by omega
      have hrl : r < ls.length := by rw [HE.out]; exact hlt
      obtain ⟨hc0, hS0, hle, hoff⟩ := HL.out r hrl
      have HT : Hid (addAll o s ((ls.take (r + 1)).map (·.xs)) = addL o (addAll o s ((ls.take r).map (·.xs))) ls[r].xs) := by
        show _ = _
        have e : ls.take (r + 1) = ls.take r ++ [ls[r]] := by rw [List.take_add_one, List.getElem?_eq_getElem hrl]; rfl
        rw [e, List.map_append, ← addAll_snoc]; rfl
      have hcb : Byt (addAll o s ((ls.take r).map (·.xs))) := addAll_byt o _ s HBy.out (fun l hl => hlsb l (by
        obtain ⟨x, hx, rfl⟩ := List.mem_map.1 hl
        exact List.mem_map.2 ⟨x, List.mem_of_mem_take hx, rfl⟩))
      have hcl := addAll_length o ((ls.take r).map (·.xs)) s
      obtain ⟨cur, hcur⟩ : ∃ cur, addAll o s ((ls.take r).map (·.xs)) = cur := ⟨_, rfl⟩
      obtain ⟨⟨q, n, c, xs⟩, hL⟩ : ∃ l, ls[r] = l := ⟨_, rfl⟩
      rw [hL] at hc0 hS0 hle hoff HT
      rw [hcur] at hOr HT hcb hcl
      rw [← hN] at hcl
      dsimp only at hc0 hS0 hle hoff HT
      have hc1 : wr.cell? ⟨h, r, none⟩ = some (.slice q n c) := (hBut.cell (p := ⟨h, r, none⟩) (hR.symm ▸ hhw) hgh).trans hc0
      have hS1 : Bs wr q n xs := hS0.but hBut hoff
      clear hlsb hc0 hS0 hL hcur
      have HS : Hid (Bs wr q n xs ∧ Off g n q ∧ Byt cur ∧ Ow wr base (.slice (some ⟨g, 0, none⟩) N cap) cur ∧ But (· = g) w wr ∧ Marks R wr wr.heap.size ds) := ⟨hS1, hoff, hcb, hOr, hBut, hMk⟩
      clear hS1 hoff hcb hOr hBut hMk
      gi_wp2_with (gi_at_call 53; refine (terms_calls (d - 1) q n c _).mono ?_; rintro e w' ⟨rfl, rfl⟩)
      obtain ⟨Q, hQ⟩ : ∃ Q, wr.heap.size = Q := ⟨_, rfl⟩
      obtain ⟨W0, hW0⟩ : ∃ W0, wr.alloc (.cells #[.slice q n c] 24) = W0 := ⟨_, rfl⟩
      have i1 : Ow W0 base (.slice (some ⟨g, 0, none⟩) N cap) cur := by rw [← hW0]; exact HS.out.2.2.2.1.alloc _
      have i2 : Boxed W0 R 24 (.slice (some ⟨g, o, none⟩) m cm) := by rw [← hW0]; exact hBx.alloc _
      have i3 : W0.cell? ⟨Q, 0, none⟩ = some (.slice q n c) := by rw [← hW0, ← hQ]; exact (Boxed.new wr _ _).cell
      have i4 : But (· = g) w W0 := by rw [← hW0]; exact HS.out.2.2.2.2.1.alloc _
      have i5 : Marks R W0 Q ds := by rw [← hW0, ← hQ]; exact HS.out.2.2.2.2.2.kept (fun D _ h2 h3 => (Below.heap_alloc _ _ _ h2).trans h3)
      have i6 : Bs W0 q n xs := by rw [← hW0]; exact HS.out.1.alloc _
      have hs0 : W0.heap.size = Q + 1 := by rw [← hW0, ← hQ]; simp
      rw [hW0, hQ]
      have hRQ : R < Q := by omega
      have hgQ : ¬ g = Q := by omega
      have hRs : w.heap.size ≤ Q + 1 := by omega
      have HX : Hid (Byt xs ∧ xs.length = n) := ⟨HS.out.1.byt, HS.out.1.len⟩
      have HY : Hid (Byt cur ∧ Off g n q) := ⟨HS.out.2.2.1, HS.out.2.1⟩
      clear hW0 HS hc1 hBx
      rename_i Q1 Q2 K' hK'
      refine wpIn_mono (Q := fun e a W => e = .normal ∧ ∃ D, Q + 1 ≤ D ∧ a = { tmps := #[.slice (some ⟨g, o, none⟩) m cm, .slice (some ⟨h, 0, none⟩) K cK, .pointer (some ⟨R, 0, none⟩), undef, undef, .slice q n c, undef, undef, .slice (some ⟨h, 0, none⟩) K cK, .int .i64 (K : Int), .int .i64 (r : Int), .bool true, .pointer (some ⟨h, r, none⟩), .slice q n c, .slice q n c, .func (.func 71) #[] #[.pointer (some ⟨Q, 0, none⟩)], undef, undef, undef, undef, undef, undef, undef, undef, undef, u25], defers := { target := .collected D, args := #[] } :: ds } ∧
          Ow W base (.slice (some ⟨g, 0, none⟩) N cap) (adF o xs cur (tmD xs n 0)) ∧ Boxed W R 24 (.slice (some ⟨g, o, none⟩) m cm) ∧ But (· = g) w W ∧ Marks R W Q ds ∧ W.heap[D]? = some (.deferred (some []))) ?_ ?_
      · clear hK'
        clear K' Q2 Q1
        refine wpIn_rangeFunc_ownF rfl hd1 (gf := 71) (lb := #[.pointer (some ⟨Q, 0, none⟩)]) rfl trivial (enters_of Tryz.func71 (by kernel_rfl) rfl)
          (terms1_stops (d - 1) (by omega) Q q n c xs _ (by omega) i3 i6) keepsP_t (fun W l o o' _ h1 h2 _ => keepsP_b W l o o' h1 h2) (Below.refl _ _) (fun _ => rfl)
          (fun pre W => ((Ow W base (.slice (some ⟨g, 0, none⟩) N cap) (adF o xs cur pre) ∧ Boxed W R 24 (.slice (some ⟨g, o, none⟩) m cm)) ∧ But (· = g) w W) ∧ Marks R W Q ds)
          (fun _ _ _ => False)
          (OwnFrom.and (OwnFrom.and (OwnFrom.and (Own.from (ow_own _ _ _) _) (Own.from (boxed_own _ _ _) _)) (ownFrom_but (by omega))) (ownFrom_marks (by omega) _))
          (fun _ _ _ _ _ hs _ _ => hs)
          ⟨⟨⟨i1, i2⟩, i4⟩, i5⟩
          (fun x => { tmps := #[.slice (some ⟨g, o, none⟩) m cm, .slice (some ⟨h, 0, none⟩) K cK, .pointer (some ⟨R, 0, none⟩), undef, undef, .slice q n c, .int .i64 ((x.1 : Nat) : Int), .int .u8 ((xs.getD x.1 0 : Nat) : Int), .slice (some ⟨h, 0, none⟩) K cK, .int .i64 (K : Int), .int .i64 (r : Int), .bool true, .pointer (some ⟨h, r, none⟩), .slice q n c, .slice q n c, .func (.func 71) #[] #[.pointer (some ⟨Q, 0, none⟩)], .int .i64 ((x.1 : Nat) : Int), .int .u8 ((xs.getD x.1 0 : Nat) : Int), undef, undef, undef, undef, undef, undef, undef, u25], defers := [] }) ?assign ?body ?done ?stop
        case assign =>
          intro l x W K hK
          obtain ⟨i, hi⟩ := x
          dsimp only [tmv] at hK ⊢
          obtain ⟨b, hb⟩ : ∃ b, xs.getD i 0 = b := ⟨_, rfl⟩
          rw [hb] at hK ⊢
          gi_wp2
          exact hK
        case body =>
          rintro l pre x W ⟨⟨⟨hOw, hBx⟩, hBut⟩, hMk⟩ _
          clear i1 i2 i3 i4 i5 i6
          obtain ⟨i, hin⟩ := x
          dsimp only
          have hAl := adF_length o xs cur pre
          have hAb := adF_byt o HX.out.1 HY.out.1 pre (o + i)
          have hxb := HX.out.1 i
          have hsn := adF_snoc o xs cur pre ⟨i, hin⟩
          dsimp only at hsn
          obtain ⟨A, hA⟩ : ∃ A, adF o xs cur pre = A := ⟨_, rfl⟩
          rw [hA] at hAl hAb hOw hsn
          obtain ⟨hc, hf⟩ := hOw.at (by omega) (o + i) (by omega)
          obtain ⟨b, hb⟩ : ∃ b, xs.getD i 0 = b := ⟨_, rfl⟩
          obtain ⟨y, hy⟩ : ∃ y, A.getD (o + i) 0 = y := ⟨_, rfl⟩
          rw [hb] at hxb hsn ⊢
          rw [hy] at hAb hc hsn
          have hxor := u8_xor_nat y b hAb hxb
          have hii : (i : Int) < (m : Int) := by omega
          have hcB := hBx.cell
          have HZ : Hid (adF o xs cur (pre ++ [⟨i, hin⟩]) = A.set (o + i) (y ^^^ b)) := hsn
          have HW : Hid (Ow W base (.slice (some ⟨g, 0, none⟩) N cap) A ∧ Boxed W R 24 (.slice (some ⟨g, o, none⟩) m cm) ∧ But (· = g) w W ∧ Marks R W Q ds ∧ A.length = N) := ⟨hOw, hBx, hBut, hMk, by omega⟩
          clear hsn hOw hBx hBut hMk hA hAl hb hy
          gi_wp2
          refine ⟨KeepsOthers.setCell _ _ _, (KeepsP.refl _ _ _ W).setCell hgQ HY.out.2 _, ⟨⟨?_, boxed_set HW.out.2.1 (by show ¬ R = g; omega) _⟩, HW.out.2.2.1.setCell (.inl rfl) _⟩, HW.out.2.2.2.1.kept (fun D _ _ h3 => (KeepsOthers.setCell W ⟨g, o + i, none⟩ _).same D _ h3 rfl)⟩
          rw [HZ.out]
          exact HW.out.1.set HW.out.2.2.2.2.symm (o + i) _
        case done =>
          rintro D ys W hD rfl ⟨⟨⟨hOw, hBx⟩, hBut⟩, hMk⟩ hK
          exact ⟨rfl, D, hs0 ▸ hD, rfl, hOw, hBx, hBut, hMk, hK⟩
        case stop =>
          rintro D c pre W _ _ h _
          exact h.elim
      · rintro e a W ⟨rfl, D, hD, rfl, hOw, hBx, hBut, hMk, hK⟩
        clear i1 i2 i3 i4 i5 i6
        have HW : Hid (Ow W base (.slice (some ⟨g, 0, none⟩) N cap) (adF o xs cur (tmD xs n 0)) ∧ Boxed W R 24 (.slice (some ⟨g, o, none⟩) m cm) ∧ But (· = g) w W ∧ Marks R W Q ds ∧ W.heap[D]? = some (.deferred (some []))) := ⟨hOw, hBx, hBut, hMk, hK⟩
        clear hOw hBx hBut hMk
        have hQD : Q ≤ D := Nat.le_of_succ_le hD
        have hRD : R ≤ D := Nat.le_trans (Nat.le_of_lt hRQ) hQD
        have HF : Q2 .normal { tmps := #[.slice (some ⟨g, o, none⟩) m cm, .slice (some ⟨h, 0, none⟩) K cK, .pointer (some ⟨R, 0, none⟩), undef, undef, .slice q n c, undef, undef, .slice (some ⟨h, 0, none⟩) K cK, .int .i64 (K : Int), .int .i64 ((r + 1 : Nat) : Int), .bool true, .pointer (some ⟨h, r, none⟩), .slice q n c, .slice q n c, .func (.func 71) #[] #[.pointer (some ⟨Q, 0, none⟩)], undef, undef, undef, undef, undef, undef, undef, undef, undef, .int .i64 ((r + 1 : Nat) : Int)], defers := { target := .collected D, args := #[] } :: ds } W := by
          refine ⟨⟨r + 1, _, _, _, _, _, _, _, _, hlt, rfl, ?_, HW.out.2.1, HW.out.2.2.1, ⟨D, rfl, hRD, (Array.getElem?_eq_some_iff.1 HW.out.2.2.2.2).1, HW.out.2.2.2.2, HW.out.2.2.2.1.mono hQD⟩⟩, ?_⟩
          · rw [HT.out]
            unfold addL
            rw [HX.out.2]
            exact HW.out.1
          · exact sub_succ_lt K r hlt
        rw [Int.natCast_succ r] at HF
        refine hK' _ _ ?_
        clear hK' HW HT HX HY
        clear_value Q2
        clear K' hK
        gi_wp2
        exact HF
    · have e8 : r = K := by omega
      subst e8
      have ht : ls.take r = ls := List.take_of_length_le (by rw [HE.out]; exact Nat.le_refl _)
      rw [ht] at hOr
      have HW : Hid (Ow wr base (.slice (some ⟨g, 0, none⟩) N cap) (addAll o s (ls.map (·.xs))) ∧ But (· = g) w wr ∧ Marks R wr wr.heap.size ds) := ⟨hOr, hBut, hMk⟩
      clear hOr hBut hMk hBx ht hlsb
      gi_wp2
      refine leaves_marks ds _ wr HW.out.2.2 (fun W' hW' => ?_)
      exact ⟨_, results_none rfl _ _ _, ⟨_, rfl⟩, HW.out.1.block (fun k hk => by
        cases hk
        exact hW'.block g (Nat.lt_trans hgw hsz) (fun c => Nat.not_lt.2 c.1 hgw)), HW.out.2.1.past hW' (fun i hi => Nat.le_trans (Nat.le_of_eq hR) hi.1)⟩
end Go.Proofs
/- The walks of poly.Add and poly.Shift. Conditions: lists of at most a thousand million bytes, no longer than their capacities. -/
namespace Go.Proofs
open Go.RowKit Go.ChangeShapes Go.WideShapes
attribute [local go_sem ↓ high] builtin_ap
attribute [local go_sem] ap_sem
open Pol (IsN Dg ofL Byt)

theorem paddTo_calls (base g o m cm N cap h cK : Nat) (s : List Nat) (ls : List Sl) (ll : List (List Nat)) (hll : ls.map (·.xs) = ll) (K : Nat) (hKl : K = ls.length) (hN : N = s.length) (hom : o + m ≤ N) (hsb : Byt s) (hK : K ≤ 1000) (hgh : ¬ h = g) (w : World) (hhw : h < w.heap.size) (hO : Ow w base (.slice (some ⟨g, 0, none⟩) N cap) s) (hls : Sls w h g m ls) :
    Calls Tryz.prog 45 #[.slice (some ⟨g, o, none⟩) m cm, .slice (some ⟨h, 0, none⟩) K cK] w fun e w' => (∃ v, e = .returned v) ∧ Ow w' base (.slice (some ⟨g, 0, none⟩) N cap) (addAll o s ll) ∧ But (· = g) w w' := by
  subst hKl hll
  exact (callsIn_wide (n := 3)).1 (paddTo_in 3 (by omega) base g o m cm N cap h cK s ls hN hom hsb hK hgh w hhw hO hls)
theorem add_two {N : Nat} {xs ys : List Nat} (hx : Byt xs) (hy : Byt ys) (h1 : xs.length ≤ N) (h2 : ys.length ≤ N) : ofL (addAll 0 (List.replicate N 0) [xs, ys]) = Pol.add (ofL xs) (ofL ys) := by
  show ofL (addL 0 (addL 0 (List.replicate N 0) xs) ys) = _
  rw [addL_ofL 0 (addL_byt 0 (Pol.byt_rep N) hx) hy (by rw [addL_length, List.length_replicate]; omega), addL_ofL 0 (Pol.byt_rep N) hx (by rw [List.length_replicate]; omega), Pol.ofL_rep, Pol.up_zero, Pol.up_zero, Pol.zero_add]
set_option maxRecDepth 100000 in
set_option maxHeartbeats 1000000 in
theorem padd_calls (q p : Option Addr) (n c m d : Nat) (xs ys zs : List Nat) (hz : IsN zs (Pol.add (ofL xs) (ofL ys))) (hn : n ≤ 1000000000) (hm : m ≤ 1000000000) (w : World) (hx : Bs w q n xs) (hy : Bs w p m ys) :
    Calls Tryz.prog 16 #[.slice q n c, .slice p m d] w fun e w' => ∃ v, e = .returned v ∧ Ow w' w.heap.size v zs ∧ Below w.heap.size w w' := by
  obtain ⟨N, hN⟩ : ∃ N : Nat, max n m = N := ⟨_, rfl⟩
  have hmk := make_bytes N (by omega)
  have hcase : (N = n ∧ (m : Int) ≤ (n : Int)) ∨ (N = m ∧ (n : Int) < (m : Int)) := by omega
  obtain ⟨R, hR⟩ : ∃ R, w.heap.size = R := ⟨_, rfl⟩
  obtain ⟨W0, hW0⟩ : ∃ W0, (w.alloc (.cells (madeCells #[.int .u8 0] N) 5)).alloc (.cells #[.slice q n c, .slice p m d] 24) = W0 := ⟨_, rfl⟩
  have i1 : Ow W0 R (.slice (some ⟨R, 0, none⟩) N N) (List.replicate N 0) := by rw [← hW0, ← hR]; exact (ow_made w (Nat.le_refl _) N (by omega)).alloc _
  have i2 : But (fun _ => False) w W0 := by rw [← hW0]; exact ((But.refl _ w).alloc _).alloc _
  have i3 : Below R w W0 := hR ▸ i2.below (Nat.le_refl _) (fun _ => False.elim)
  have hs0 : W0.heap.size = R + 2 := by rw [← hW0, ← hR]; simp
  have i4 : W0.cell? ⟨R + 1, 0, none⟩ = some (.slice q n c) := by rw [← hW0, ← hR]; simp [go_sem]
  have i5 : W0.cell? ⟨R + 1, 1, none⟩ = some (.slice p m d) := by rw [← hW0, ← hR]; simp [go_sem]
  have i6 : Sls W0 (R + 1) R N [⟨q, n, c, xs⟩, ⟨p, m, d, ys⟩] := by
    intro j hj
    match j, hj with
    | 0, _ => exact ⟨i4, hx.below (hR.symm ▸ i3), by show n ≤ N; omega, hx.off (Nat.le_of_eq hR)⟩
    | 1, _ => exact ⟨i5, hy.below (hR.symm ▸ i3), by show m ≤ N; omega, hy.off (Nat.le_of_eq hR)⟩
  have K1 := paddTo_calls R R 0 N N N N (R + 1) 2 (List.replicate N 0) [⟨q, n, c, xs⟩, ⟨p, m, d, ys⟩] [xs, ys] rfl 2 rfl (by rw [List.length_replicate]) (by omega) (Pol.byt_rep N) (by omega) (by omega) W0 (by omega) i1 i6
  have hlx := hx.len
  have hly := hy.len
  have e1 : ofL (addAll 0 (List.replicate N 0) [xs, ys]) = Pol.add (ofL xs) (ofL ys) := add_two hx.byt hy.byt (by omega) (by omega)
  have hb : Byt (addAll 0 (List.replicate N 0) [xs, ys]) := addAll_byt 0 _ _ (Pol.byt_rep N) (fun l hl => by
    simp at hl
    rcases hl with rfl | rfl
    · exact hx.byt
    · exact hy.byt)
  have hl : (addAll 0 (List.replicate N 0) [xs, ys]).length = N := by rw [addAll_length, List.length_replicate]
  obtain ⟨us, hus⟩ : ∃ us, addAll 0 (List.replicate N 0) [xs, ys] = us := ⟨_, rfl⟩
  rw [hus] at K1 e1 hb hl
  obtain ⟨i, hi, hg⟩ := Pol.dg_list us
  rw [hl] at hi
  obtain rfl := hz.unique (e1 ▸ Pol.isN_take hb hg)
  have K2 : Hid (∀ W, Bs W (some ⟨R, 0, none⟩) N us → Calls Tryz.prog 46 #[.slice (some ⟨R, 0, none⟩) N N] W fun e w' => e = .returned (.slice (some ⟨R, 0, none⟩) i N) ∧ Below W.heap.size W w') := fun W hW => pnormal_calls _ N N us i hg (Nat.le_refl _) W hW
  have HB : Hid (Below R w W0) := i3
  clear hz e1 hg hx hy hus i1 i2 i3 i4 i5 i6 hs0
  clear hN
  go_enter Tryz.func16, Tryz.ntmps16
  rcases hcase with ⟨rfl, hc⟩ | ⟨rfl, hc⟩
  all_goals
    go_wp2_with fail
    refine K1.mono ?_
    rintro e w1 ⟨⟨v, rfl⟩, hO, hb1⟩
    have hb2 : Below R W0 w1 := hb1.below (by have := HB.out.size; omega) (fun k hk => Nat.le_of_eq hk.symm)
    have HB2 : Hid (Below R w w1 ∧ Ow w1 R (.slice (some ⟨R, 0, none⟩) N N) us) := ⟨HB.out.trans hb2, hO⟩
    obtain ⟨q1, c1, e1, hS, -, -⟩ := hO.tell hb hl
    cases e1
    clear hO hb1 hb2 K1 HB
    go_wp2_with fail
    refine (K2.out w1 hS).mono ?_
    rintro e w2 ⟨rfl, hb3⟩
    go_wp2
    go_ret
    subst hR
    exact ⟨_, rfl, (HB2.out.2.front rfl hi).below hb3, HB2.out.1.trans (hb3.mono HB2.out.1.size)⟩

end Go.Proofs
