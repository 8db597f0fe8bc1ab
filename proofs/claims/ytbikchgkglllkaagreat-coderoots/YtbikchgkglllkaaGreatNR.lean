/- Texts laid together: BoxG, OwnR, RRed, Ref08. Each says its own conditions. -/
import Derived.Test.YtbikchgkglllkaaGreatNC
import Derived.Test.YtbikchgkglllkaaGreatMO
import Derived.Test.YtbikchgkglllkaaGreatNA
import Derived.Test.YtbikchgkglllkaaGreatMN
import Derived.Test.YtbikchgkglllkaaGreatNQ
import Derived.Test.YtbikchgkglllkaaGreatMR
/- A matrix in a box whose cells are grown by append. Conditions: bounds on lengths. -/
namespace Go.Proofs
open Go.RowKit Go.ChangeShapes Go.WideShapes

/-- A matrix in the box X whose cells, xs, lie behind it. -/
structure Gm (W : World) (X : Nat) (v0 v1 v : Value) (xs : List Nat) : Prop where
  mb : Mb W X v0 v1 v
  fz : W.frozen? ⟨X, 2, none⟩ = false
  ow : Ow W (X + 1) v xs
  sz : X + 1 ≤ W.heap.size
theorem gm_new (w : World) (v0 v1 : Value) : Gm (w.alloc (.cells #[v0, v1, .slice none 0 0] 43)) w.heap.size v0 v1 (.slice none 0 0) [] := ⟨mb_new w _ _ _, by simp [go_sem], ow_nil _ _, by simp⟩
section
variable {W W' : World} {X : Nat} {v0 v1 v : Value} {xs : List Nat}
theorem Gm.below (h : Gm W X v0 v1 v xs) (hb : Below W.heap.size W W') : Gm W' X v0 v1 v xs := ⟨h.mb.below hb, (hb.frozen (p := ⟨X, 2, none⟩) h.mb.blt).trans h.fz, h.ow.below hb, Nat.le_trans h.sz hb.size⟩
theorem Gm.drew (h : Gm W X v0 v1 v xs) : Gm W.drew X v0 v1 v xs := h.below (Below.refl _ W).drew
theorem Gm.push (h : Gm W X v0 v1 v xs) {v' : Value} {ys : List Nat} (hO : Ow W' (X + 1) v' ys) (hb : Below (X + 1) W W') : W'.cell? ⟨X, 2, none⟩ = some v ∧ W'.frozen? ⟨X, 2, none⟩ = false ∧ Gm (W'.setCell ⟨X, 2, none⟩ v') X v0 v1 v' ys ∧ Below X W (W'.setCell ⟨X, 2, none⟩ v') := by
  have hk : But (fun k => X + 1 ≤ k) W W' := ⟨hb.os, hb.tape, hb.output, hb.size, fun k _ hs => hb.block k (by omega)⟩
  have hM := h.mb.but hk (by omega)
  have hf : W'.frozen? ⟨X, 2, none⟩ = false := (hk.frozen (p := ⟨X, 2, none⟩) h.mb.blt (by show ¬ X + 1 ≤ X; omega)).trans h.fz
  have hset : But (· = X) W' (W'.setCell ⟨X, 2, none⟩ v') := (But.refl (· = X) W').setCell (p := ⟨X, 2, none⟩) (.inl rfl) _
  have c2 := hM.c2
  refine ⟨c2, hf, ⟨⟨?_, ?_, ?_⟩, ?_, ?_, ?_⟩, ?_⟩
  · exact (World.cell?_setCell_other _ _ _ _ (by intro c; cases c)).trans hM.c0
  · exact (World.cell?_setCell_other _ _ _ _ (by intro c; cases c)).trans hM.c1
  · simp [go_sem, c2]
  · rw [World.frozen?_setCell]; exact hf
  · exact hO.block fun i hi => hset.block i (hO.lt i hi).2 (by have := (hO.lt i hi).1; omega)
  · have h1 := hset.size; have h2 := hb.size; have h3 := h.sz; omega
  · exact (hb.mono (by omega)).trans (hset.below (by have h2 := hb.size; have h3 := h.sz; omega) (fun k hk => by omega))
theorem Gm.list (h : Gm W X v0 v1 v xs) {q : Option Addr} {n : Nat} (c : Nat) {ys : List Nat} (hs : Bs W q n ys) (hn : xs.length + n ≤ 10000000) :
    ∃ v' W', (Builtin.append_ #[24, 24] 24 #[v, .slice q n c]).run Tryz.prog W = .ok v' W' ∧ W'.cell? ⟨X, 2, none⟩ = some v ∧ W'.frozen? ⟨X, 2, none⟩ = false ∧ Gm (W'.setCell ⟨X, 2, none⟩ v') X v0 v1 v' (xs ++ ys) ∧ Below X W (W'.setCell ⟨X, 2, none⟩ v') ∧ Below X W W' := by
  obtain ⟨v', W', hap, hO, hg⟩ := run_append_list W (X + 1) v xs q n c ys h.ow hs (by omega) h.sz
  have hb := (Below.refl _ W).grown hg h.sz fun k hk => (h.ow.lt k hk).1
  obtain ⟨a1, a2, a3, a4⟩ := h.push hO hb
  exact ⟨v', W', hap, a1, a2, a3, a4, hb.mono (by omega)⟩
theorem Gm.one (h : Gm W X v0 v1 v xs) (x : Nat) (hn : xs.length ≤ 10000000) :
    ∃ g c' W', (Builtin.append_ #[24, 24] 24 #[v, .slice (some ⟨W.heap.size, 0, none⟩) 1 1]).run Tryz.prog (W.alloc (.cells #[.int .u8 (x : Nat)] 5)) = .ok (.slice (some ⟨g, 0, none⟩) (xs ++ [x]).length c') W' ∧ W'.cell? ⟨X, 2, none⟩ = some v ∧ W'.frozen? ⟨X, 2, none⟩ = false ∧ Gm (W'.setCell ⟨X, 2, none⟩ (.slice (some ⟨g, 0, none⟩) (xs ++ [x]).length c')) X v0 v1 (.slice (some ⟨g, 0, none⟩) (xs ++ [x]).length c') (xs ++ [x]) ∧ Below X W (W'.setCell ⟨X, 2, none⟩ (.slice (some ⟨g, 0, none⟩) (xs ++ [x]).length c')) := by
  obtain ⟨g, c', W', hap, hO, hb⟩ := run_append_one W (X + 1) v xs x h.ow (by omega) h.sz
  exact ⟨g, c', W', hap, h.push hO (hb _ (Nat.le_refl _))⟩
end
/-- A call of a function, as a step of a region that draws its order. -/
theorem step_go {ops : Array Oper} {o : Oper} {a : Act} {w : World} {K : Act → World → Prop} {Q : Exit → Act → World → Prop} {E : Prop} {f : Nat} {vs : Array Value} {post : Ending → World → Prop} (hg : o.guard = none) (hr : (execOp a.eval o).run Tryz.prog w = .ok (.enter f vs) w) (hc : Calls Tryz.prog f vs w post) (hK : ∀ e w', post e w' → ∃ v, e = .returned v ∧ K (a.put o.dst v) w') : if Region.wanted o (yielded ops a.tmps) = true then Oper.wp Tryz.prog o a w K Q else E := by
  have hw : Region.wanted o (yielded ops a.tmps) = true := by simp [Region.wanted, hg]
  rw [if_pos hw]
  unfold Oper.wp
  rw [hr, Oper.upon_enter]
  refine hc.mono fun e w' h => ?_
  obtain ⟨v, rfl, hk⟩ := hK e w' h
  exact hk
/-- An append, as a step of such a region. -/
theorem step_ap9 {ops : Array Oper} {o : Oper} {a : Act} {w : World} {K : Act → World → Prop} {Q : Exit → Act → World → Prop} {E : Prop} (hg : o.guard = none) (s x : Operand) (t : TypeId) (ho : o.op = .call { callee := .builtin .append, args := #[s, x], argTypes := #[t, t] }) (ht : o.type = t)
    {v u v' : Value} {W' : World} (hap : (Builtin.append_ #[t, t] t #[v, u]).run Tryz.prog w = .ok v' W') (hs : a.eval s = v) (hx : a.eval x = u) (hK : K (a.put o.dst v') W') : if Region.wanted o (yielded ops a.tmps) = true then Oper.wp Tryz.prog o a w K Q else E := by
  have hw : Region.wanted o (yielded ops a.tmps) = true := by simp [Region.wanted, hg]
  rw [if_pos hw]
  subst hs hx ht
  unfold Oper.wp
  simp only [execOp, ho, resolve, invoke, builtin, Sem.run_bind, Sem.run_pure, Result.andThen_ok, List.map_toArray, List.map_cons, List.map_nil, hap]
  exact hK
end Go.Proofs
/- Rows of a matrix, each a slice of its own, that a call holds in a list of slices: read, replaced, kept. Conditions: bounds on lengths. -/
namespace Go.Proofs
open Go.RowKit Go.ChangeShapes Go.WideShapes
open Mx (Mat mx)
open Pol (Byt ofL toL)

/-- A block of bytes. -/
def B8 (W : World) (k : Nat) : Prop := ∃ cur, W.heap[k]? = some (.cells cur 5 (0, 0))
/-- A list of bytes lies ahead of base, or in a block of bytes. -/
def Bk (W : World) (base n : Nat) (q : Option Addr) : Prop := 0 < n → ∀ a, q = some a → a.block < base ∨ B8 W a.block
section
variable {W W' : World} {base : Nat} {v : Value} {R C : Nat} {M : Mat}
theorem Bs.bk {q : Option Addr} {n : Nat} {xs : List Nat} (h : Bs W q n xs) (hb : W.heap.size ≤ base) : Bk W' base n q := fun h0 a e => by
  obtain ⟨b, e', hl, _⟩ := h.cell 0 h0
  obtain rfl : b = a := Option.some.inj (e'.symm.trans e)
  exact .inl (by omega)
theorem Ow.bk {b n c : Nat} {q : Option Addr} {xs : List Nat} (h : Ow W b (.slice q n c) xs) : Bk W base n q := fun _ a e => by
  rcases h.2 with ⟨h1, _⟩ | ⟨g, cap, cur, h1, h2, h3, _⟩
  · cases h1; cases e
  · cases h1; cases e; exact .inr ⟨cur, h3⟩
theorem B8.keep {k : Nat} (h : B8 W k) (hb : W'.heap[k]? = W.heap[k]?) : B8 W' k := by
  obtain ⟨cur, e⟩ := h; exact ⟨cur, hb.trans e⟩
theorem Bk.keep {q : Option Addr} {n : Nat} {xs : List Nat} (h : Bk W base n q) (hs : Bs W q n xs) (hb : ∀ k, k < W.heap.size → (k < base ∨ B8 W k) → W'.heap[k]? = W.heap[k]?) : Bk W' base n q := fun h0 a e => by
  obtain ⟨b, e', hl, _⟩ := hs.cell 0 h0
  obtain rfl : b = a := Option.some.inj (e'.symm.trans e)
  exact (h h0 _ e).imp id fun k => k.keep (hb _ hl (.inr k))
theorem Bs.keep {q : Option Addr} {n : Nat} {xs : List Nat} (h : Bs W q n xs) (hk : Bk W base n q) (hs : W.heap.size ≤ W'.heap.size) (hb : ∀ k, k < W.heap.size → (k < base ∨ B8 W k) → W'.heap[k]? = W.heap[k]?) : Bs W' q n xs :=
  ⟨h.len, h.max, fun i hi => by
    obtain ⟨a, e, hl, hc⟩ := h.cell i hi
    refine ⟨a, e, Nat.lt_of_lt_of_le hl hs, ?_⟩
    rw [World.cell?_of_block (w := W) (by rw [block_add]; exact hb _ hl (hk (by omega) a e))]
    exact hc, h.byte⟩
/-- The rows of M, as the list of slices v holds them: the list is owned, the rows are only read. -/
def RwM (W : World) (base : Nat) (v : Value) (R C : Nat) (M : Mat) : Prop := ∃ vs : List Value, OwV 24 W base v vs ∧ vs.length = R ∧ ∀ i, i < R → ∃ q c, vs[i]? = some (.slice q C c) ∧ C ≤ c ∧ Bs W q C (toL C (M i)) ∧ Bk W base C q
theorem RwM.keep (h : RwM W base v R C M) (hs : W.heap.size ≤ W'.heap.size) (hb : ∀ k, k < W.heap.size → (v.ownBlock = some k ∨ k < base ∨ B8 W k) → W'.heap[k]? = W.heap[k]?) : RwM W' base v R C M := by
  obtain ⟨vs, h1, h2, h3⟩ := h
  refine ⟨vs, h1.block fun k hk => hb k (h1.lt k hk).2 (.inl hk), h2, fun i hi => ?_⟩
  obtain ⟨q, c, e, hc, h4, h5⟩ := h3 i hi
  have hb' : ∀ k, k < W.heap.size → (k < base ∨ B8 W k) → W'.heap[k]? = W.heap[k]? := fun k hk h => hb k hk (.inr h)
  exact ⟨q, c, e, hc, h4.keep h5 hs hb', h5.keep h4 hb'⟩
theorem RwM.below (h : RwM W base v R C M) (hb : Below W.heap.size W W') : RwM W' base v R C M := h.keep hb.size fun k hk _ => hb.block k hk
theorem RwM.alloc (h : RwM W base v R C M) (o : Obj) : RwM (W.alloc o) base v R C M := h.below ((Below.refl _ _).alloc (Nat.le_refl _) o)
theorem RwM.isSlice (h : RwM W base v R C M) : ∃ q c, v = .slice q R c := by
  obtain ⟨vs, h1, h2, _⟩ := h
  rcases h1.shape with ⟨rfl, rfl⟩ | ⟨g, c, rfl, _⟩
  · exact ⟨none, 0, by rw [← h2]; rfl⟩
  · exact ⟨_, _, by rw [h2]⟩
theorem RwM.mono (h : RwM W base v R C M) {b : Nat} (hb : b ≤ base) (hk : ∀ k, b ≤ k → k < base → B8 W k) : RwM W b v R C M := by
  obtain ⟨vs, h1, h2, h3⟩ := h
  refine ⟨vs, h1.mono hb, h2, fun i hi => ?_⟩
  obtain ⟨q, c, e, hc, h4, h5⟩ := h3 i hi
  refine ⟨q, c, e, hc, h4, fun h0 a ea => ?_⟩
  rcases h5 h0 a ea with h | h
  · by_cases hl : a.block < b
    · exact .inl hl
    · exact .inr (hk _ (by omega) h)
  · exact .inr h
theorem RwM.congr (h : RwM W base v R C M) {N : Mat} (hN : ∀ i, i < R → toL C (N i) = toL C (M i)) : RwM W base v R C N := by
  obtain ⟨vs, h1, h2, h3⟩ := h
  refine ⟨vs, h1, h2, fun i hi => ?_⟩
  rw [hN i hi]; exact h3 i hi
/-- Blocks of two types are two. -/
theorem owV_b8 {e : TypeId} {u : Value} {us : List Value} (h : OwV e W base u us) (he : e ≠ 5) {k : Nat} (hk : k < base ∨ B8 W k) : u.ownBlock ≠ some k := by
  intro e1
  have h1 := h.lt k e1
  rcases hk with hk | ⟨cur, hc⟩
  · omega
  · rcases h.2 with ⟨rfl, _⟩ | ⟨g, cap, cur', rfl, _, hg, _⟩
    · cases e1
    · cases e1
      rw [hg] at hc
      simp at hc
      exact he hc.2
theorem owV_two {e f : TypeId} {u v : Value} {us vs : List Value} (h : OwV e W base u us) (k : OwV f W base v vs) (he : e ≠ f) {b : Nat} (h1 : u.ownBlock = some b) (h2 : v.ownBlock = some b) : False := by
  rcases h.2 with ⟨rfl, _⟩ | ⟨g, cap, cur, rfl, _, hg, _⟩
  · cases h1
  · rcases k.2 with ⟨rfl, _⟩ | ⟨g', cap', cur', rfl, _, hg', _⟩
    · cases h2
    · cases h1; cases h2
      rw [hg] at hg'
      simp at hg'
      exact he hg'.2
theorem RwM.grown {e : TypeId} {u : Value} {us : List Value} (h : RwM W base v R C M) (hu : OwV e W base u us) (h8 : e ≠ 5) (hs : e ≠ 24) (hg : W.grownBy W' u.ownBlock) : RwM W' base v R C M := by
  obtain ⟨vs, h1, h2, h3⟩ := h
  refine RwM.keep ⟨vs, h1, h2, h3⟩ hg.size fun k hk hb => hg.block k hk fun e => ?_
  rcases hb with hb | hb
  · exact owV_two hu h1 hs e.symm hb
  · exact owV_b8 hu h8 hb e.symm
theorem RwM.at (h : RwM W base v R C M) {i : Nat} (hi : i < R) : ∃ g cap q c, v = .slice (some ⟨g, 0, none⟩) R cap ∧ base ≤ g ∧ W.cell? ⟨g, i, none⟩ = some (.slice q C c) ∧ W.frozen? ⟨g, i, none⟩ = false ∧ C ≤ c ∧ Bs W q C (toL C (M i)) ∧ Bk W base C q := by
  obtain ⟨vs, h1, h2, h3⟩ := h
  obtain ⟨q, c, e, hc, h4, h5⟩ := h3 i hi
  rcases h1.shape with ⟨_, rfl⟩ | ⟨g, cap, rfl, b2, b3, b4, b5, b6, b7⟩
  · cases e
  · exact ⟨g, cap, q, c, by rw [h2], b2, by rw [b6 i (by omega)]; exact e, b7 i, hc, h4, h5⟩
theorem RwM.set {g cap : Nat} (h : RwM W base (.slice (some ⟨g, 0, none⟩) R cap) R C M) {p : Nat} (hp : p < R) {q : Option Addr} {c : Nat} {ys : List Nat} (hc : C ≤ c) (hs : Bs W q C ys) (hk : Bk W base C q) (N : Mat) (hN : toL C (N p) = ys) (ho : ∀ i, i < R → i ≠ p → toL C (N i) = toL C (M i)) :
    RwM (W.setCell ⟨g, p, none⟩ (.slice q C c)) base (.slice (some ⟨g, 0, none⟩) R cap) R C N ∧ W.grownBy (W.setCell ⟨g, p, none⟩ (.slice q C c)) (some g) := by
  obtain ⟨vs, h1, h2, h3⟩ := h
  subst h2
  have hst := World.ownsRow.stored h1 p (.slice q C c)
  have hb' : ∀ k, k < W.heap.size → (k < base ∨ B8 W k) → (W.setCell ⟨g, p, none⟩ (.slice q C c)).heap[k]? = W.heap[k]? := fun k hk hb => hst.2.block k hk fun e => owV_b8 h1 (by decide) hb e.symm
  refine ⟨⟨vs.set p (.slice q C c), by unfold OwV; rw [List.length_set]; exact hst.1, List.length_set .., fun i hi => ?_⟩, hst.2⟩
  by_cases e : i = p
  · subst e
    exact ⟨q, c, by rw [List.getElem?_set_self hi], hc, by rw [hN]; exact hs.keep hk hst.2.size hb', hk.keep hs hb'⟩
  · obtain ⟨q', c', e', hc', h4, h5⟩ := h3 i hi
    exact ⟨q', c', by rw [List.getElem?_set_ne (Ne.symm e)]; exact e', hc', by rw [ho i hi e]; exact h4.keep h5 hst.2.size hb', h5.keep h4 hb'⟩
theorem RwM.other {e : TypeId} {u : Value} {us : List Value} {g cap : Nat} (h : RwM W base (.slice (some ⟨g, 0, none⟩) R cap) R C M) (hu : OwV e W base u us) (he : e ≠ 24) (hg : W.grownBy W' (some g)) : OwV e W' base u us := by
  obtain ⟨vs, h1, h2, h3⟩ := h
  exact hu.block fun k hk => hg.block k (hu.lt k hk).2 fun e1 => owV_two hu h1 he hk e1.symm
theorem RwM.bs {g cap n : Nat} {q : Option Addr} {xs : List Nat} (h : RwM W base (.slice (some ⟨g, 0, none⟩) R cap) R C M) (hs : Bs W q n xs) (hk : Bk W base n q) (hg : W.grownBy W' (some g)) : Bs W' q n xs ∧ Bk W' base n q := by
  obtain ⟨vs, h1, h2, h3⟩ := h
  have hb' : ∀ k, k < W.heap.size → (k < base ∨ B8 W k) → W'.heap[k]? = W.heap[k]? := fun k hk hb => hg.block k hk fun e => owV_b8 h1 (by decide) hb e.symm
  exact ⟨hs.keep hk hg.size hb', hk.keep hs hb'⟩
end
theorem grown_box {W W' : World} {o : Obj} {r : Option Nat} (h : (W.alloc o).grownBy W' r) : W.grownBy W' r :=
  ⟨h.os, h.tape, h.output, by have := h.size; simp at this; omega, fun k hk hr => (h.block k (by simp; omega) hr).trans (Below.heap_alloc _ _ _ hk)⟩
/-- 'append(leads, j)', with what it leaves. -/
theorem run_append_intG (W : World) (base : Nat) (v : Value) (L : List Nat) (x : Nat) (hown : OwI W base v L) (hn : L.length ≤ 1000000000) (hb : base ≤ W.heap.size) :
    ∃ g c W', (Builtin.append_ #[120, 120] 120 #[v, .slice (some ⟨W.heap.size, 0, none⟩) 1 1]).run Tryz.prog (W.alloc (.cells #[.int .i64 (x : Nat)] 3)) = .ok (.slice (some ⟨g, 0, none⟩) (L.length + 1) c) W' ∧ OwI W' base (.slice (some ⟨g, 0, none⟩) (L.length + 1) c) (L ++ [x]) ∧ W.grownBy W' v.ownBlock := by
  obtain ⟨i, hi, hz, hsz, hby⟩ := info_parts info_int
  obtain ⟨v', W', h1, h2, h3, _⟩ := run_append_own (P := Tryz.prog) (W.alloc (.cells #[.int .i64 (x : Nat)] 3)) base 120 120 3 i _ 1 8 Tryz.underlying120 hi hz hsz hby rfl (by decide) v (oi L).length (oi L) (hown.alloc _) ⟨W.heap.size, 0, none⟩ 1 1 [.int .i64 (x : Nat)] rfl (fun j y hj => by
      match j, hj with
      | 0, hj =>
        show (W.alloc _).cell? ⟨W.heap.size, 0, none⟩ = _
        rw [World.cell?_alloc_at _ _ _ _ rfl]; exact hj) (fun y hy => by simp at hy; subst hy; rfl) (by rw [oi_length]; unfold maxLen; omega) (by rw [oi_length]; omega) (by simp; omega)
  have h2' : OwI W' base v' (L ++ [x]) := by unfold OwI OwV; rw [oi_snoc, List.length_append]; exact h2
  rcases h2'.shape with ⟨_, h0⟩ | ⟨g, c, rfl, _⟩
  · exact absurd (congrArg List.length h0) (by simp [oi])
  · rw [oi_length, List.length_append] at h1 h2'
    exact ⟨g, c, W', h1, h2', grown_box h3⟩
theorem grown_below {W W' : World} {r : Option Nat} {n : Nat} (h : W.grownBy W' r) (hn : n ≤ W.heap.size) (hr : ∀ k, r = some k → n ≤ k) : Below n W W' := (Below.refl n W).grown h hn hr
end Go.Proofs
/- The walk of erratumref09.reduced: the rows of a matrix reduced, and where they lead. Conditions: at most 300 rows and 301 columns; cells of bytes. -/
namespace Go.Proofs
open Go.RowKit Go.ChangeShapes Go.WideShapes
open Mx (Mat cells mx rowL IsEch Red Eqv Ech mid)
open Pol (Byt ofL toL)
attribute [local go_sem ↓ high] builtin_ap
attribute [local go_sem] ap_sem

/-- A row as the slice of a matrix' cells. -/
def rowP (q : Option Addr) (C c o : Nat) : Value := .slice (if c = o then q else q.map (fun x => x.add o)) C (c - o)
def rowVs (q : Option Addr) (C c t : Nat) : List Value := (List.range t).map fun i => rowP q C c (i * C)
theorem rowVs_succ (q : Option Addr) (C c t : Nat) : rowVs q C c (t + 1) = rowVs q C c t ++ [rowP q C c (t * C)] := by unfold rowVs; rw [List.range_succ, List.map_append]; rfl
theorem rowVs_length (q : Option Addr) (C c t : Nat) : (rowVs q C c t).length = t := by simp [rowVs]
theorem rowL_toL {R C : Nat} {xs : List Nat} (hl : xs.length = R * C) (hb : Byt xs) {i : Nat} (hi : i < R) : rowL C xs i = toL C (mx C xs i) := by
  refine Mx.ofL_eq (Mx.rowL_byt hb i) (Pol.toL_byt _ _) (by rw [Mx.rowL_length hl hi, Pol.toL_length]) fun j hj => ?_
  rw [Mx.rowL_length hl hi] at hj
  rw [Mx.rowL_mx C xs i j hj, Mx.ofL_toL_at C _ j hj]
theorem rowP_bs {W : World} {q : Option Addr} {n R C c i : Nat} {xs : List Nat} (h : Bs W q n xs) (hn : n = R * C) (hc : n ≤ c) (hi : i < R) : ∃ p d, rowP q C c (i * C) = .slice p C d ∧ C ≤ d ∧ Bs W p C (toL C (mx C xs i)) := by
  obtain ⟨o, ho⟩ : ∃ o, o = i * C := ⟨_, rfl⟩
  have h1 : o + C ≤ n := by rw [hn, ho, ← Nat.succ_mul]; exact Nat.mul_le_mul_right _ hi
  have e : (List.range C).map (fun i => xs.getD (o + i) 0) = toL C (mx C xs i) := by
    rw [← rowL_toL (h.len.trans hn) h.byte hi]
    refine Mx.list_ext (by rw [Mx.rowL_length (h.len.trans hn) hi]; simp) fun j hj => ?_
    simp at hj
    rw [Mx.getD_range_map _ _ _ hj, Mx.rowL_at C xs i j hj, ho]
  have := bs_sub h c o (o + C) (by omega) h1 hc
  rw [Nat.add_sub_cancel_left, e] at this
  exact ⟨_, _, by rw [← ho]; rfl, by omega, this⟩
theorem rw_start {w W : World} {q : Option Addr} {n R C c base : Nat} {xs : List Nat} {v : Value} (h : Bs w q n xs) (hn : n = R * C) (hc : n ≤ c) (hb : Below w.heap.size w W) (hw : w.heap.size ≤ base) (hO : OwV 24 W base v (rowVs q C c R)) : RwM W base v R C (mx C xs) := by
  refine ⟨_, hO, rowVs_length _ _ _ _, fun i hi => ?_⟩
  obtain ⟨p, d, e, hd, hs⟩ := rowP_bs h hn hc hi
  exact ⟨p, d, by unfold rowVs; rw [List.getElem?_map, List.getElem?_range hi]; exact congrArg some e, hd, hs.below hb, hs.bk hw⟩

namespace Mx
/-- Row p, multiplied, stands at r; row r stands at p. -/
def ldA (M : Mat) (p r : Nat) (a : GF) : Mat := fun i => if i = r then fun c => a * M p c else mid M p r i
/-- To the first t rows, but r, so many times row r is added as makes column j nought. -/
def rdB (N : Mat) (r j t : Nat) : Mat := fun i => if i < t ∧ i ≠ r then fun c => N i c + N i j * N r c else N i
theorem rdB_zero (N : Mat) (r j : Nat) : rdB N r j 0 = N := by funext i; unfold rdB; rw [if_neg (by omega)]
theorem rdB_here (N : Mat) (r j t : Nat) : rdB N r j t t = N t := by unfold rdB; rw [if_neg (by omega)]
theorem rdB_lead (N : Mat) (r j t : Nat) : rdB N r j t r = N r := by unfold rdB; rw [if_neg (by omega)]
theorem rdB_next (N : Mat) {r j t : Nat} (h : t ≠ r) : rdB N r j (t + 1) t = fun c => N t c + N t j * N r c := by unfold rdB; rw [if_pos ⟨by omega, h⟩]
theorem rdB_other (N : Mat) {r j t i : Nat} (h : i ≠ t) : rdB N r j (t + 1) i = rdB N r j t i := by
  unfold rdB
  by_cases e : i < t ∧ i ≠ r
  · rw [if_pos e, if_pos ⟨by omega, e.2⟩]
  · rw [if_neg e, if_neg (by omega)]
theorem rdB_skip (N : Mat) (r j : Nat) : rdB N r j (r + 1) = rdB N r j r := by
  funext i
  by_cases e : i = r
  · subst e; rw [rdB_lead, rdB_lead]
  · exact rdB_other N e
theorem ld_all {R C j r p : Nat} {M : Mat} {l : Nat → Nat} (h : Red R j M r l) (hj : j < C) (hp : r ≤ p) (hpR : p < R) (a : GF) (ha : a * M p j = 1) :
    Red R (j + 1) (rdB (ldA M p r a) r j R) (r + 1) (fun k => if k = r then j else l k) ∧ Eqv R C M (rdB (ldA M p r a) r j R) := by
  have e1 : ldA M p r a r = fun c => a * M p c := by unfold ldA; rw [if_pos rfl]
  have hF : ∀ c, c < C → rdB (ldA M p r a) r j R r c = a * M p c := fun c _ => by rw [rdB_lead, e1]
  have hi : ∀ i c, i < R → i ≠ r → c < C → rdB (ldA M p r a) r j R i c = mid M p r i c + mid M p r i j * rdB (ldA M p r a) r j R r c := fun i c hR hr hc => by
    have e2 : ldA M p r a i = mid M p r i := by unfold ldA; rw [if_neg hr]
    rw [rdB_lead]
    unfold rdB
    rw [if_pos ⟨hR, hr⟩, e2]
  have h0 : a ≠ 0 := fun e => by rw [e, GF.zero_mul] at ha; exact GF.one_ne_zero ha.symm
  exact ⟨h.lead hj p hp hpR a ha hF hi, lead_eqv p (by omega) hpR a h0 hF hi⟩
theorem each_toL (C a : Nat) (ha : a < 256) (f : Nat → GF) : (toL C f).map (Gf.mul a) = toL C fun c => GF.of a * f c := by
  unfold Pol.toL
  rw [List.map_map]
  refine List.map_congr_left fun i _ => ?_
  show Gf.mul a (f i).val = (GF.of a * f i).val
  rw [GF.mul_val, GF.of_val a ha]
theorem plus_toL (C a : Nat) (ha : a < 256) (f g : Nat → GF) : plusL C a (toL C f) (toL C g) = toL C fun c => f c + GF.of a * g c := by
  unfold plusL
  refine list_ext (by rw [Pol.toL_length]; simp) fun i hi => ?_
  rw [List.length_map, List.length_range] at hi
  rw [getD_range_map _ _ _ hi, Pol.toL_at, Pol.toL_at, Pol.toL_at, if_pos hi, if_pos hi, if_pos hi, GF.add_val, GF.mul_val, GF.of_val a ha]
theorem range_snoc (r j : Nat) (l : Nat → Nat) : (List.range (r + 1)).map (fun k => if k = r then j else l k) = (List.range r).map l ++ [j] := by
  rw [List.range_succ, List.map_append]
  congr 1
  · refine List.map_congr_left fun i hi => ?_
    rw [List.mem_range] at hi
    rw [if_neg (by omega)]
  · simp
end Mx

end Go.Proofs
/- The walks of erratumref08.Right, Row and Same. Conditions: any numbers of rows and columns, cells of bytes; a row that is there; matrices that are the same. -/
namespace Go.Proofs
open Go.RowKit Go.ChangeShapes Go.WideShapes
open Mx (Mat cells mx rowL)
open Pol (Byt ofL toL)

set_option maxRecDepth 100000 in
set_option maxHeartbeats 1000000 in
theorem rsame_calls (R C : Nat) (q p : Option Addr) (n c d : Nat) (xs : List Nat) (w : World) (h1 : Bs w q n xs) (h2 : Bs w p n xs) :
    Calls Tryz.prog 37 #[.agg #[.int .i64 (R : Nat), .int .i64 (C : Nat), .slice q n c], .agg #[.int .i64 (R : Nat), .int .i64 (C : Nat), .slice p n d]] w fun e w' => e = .returned (.bool true) ∧ Below w.heap.size w w' := by
  obtain ⟨W0, hW0⟩ : ∃ W0, (w.alloc (.cells #[.int .i64 (R : Nat), .int .i64 (C : Nat), .slice q n c] 43)).alloc (.cells #[.int .i64 (R : Nat), .int .i64 (C : Nat), .slice p n d] 43) = W0 := ⟨_, rfl⟩
  have hS0 : Below w.heap.size w W0 := hW0 ▸ ((Below.refl _ w).alloc (Nat.le_refl _) _).alloc (by simp) _
  have K1 := same_any q p n n c d xs xs true (by simp) W0 (h1.below hS0) (h2.below hS0)
  have HS : Hid (Below w.heap.size w W0) := hS0
  obtain ⟨A, hA⟩ : ∃ A, w.heap.size = A := ⟨_, rfl⟩
  have HM : Hid (Mb W0 A (.int .i64 (R : Nat)) (.int .i64 (C : Nat)) (.slice q n c) ∧ Mb W0 (A + 1) (.int .i64 (R : Nat)) (.int .i64 (C : Nat)) (.slice p n d)) := by
    have m1 := mb_new w (.int .i64 (R : Nat)) (.int .i64 (C : Nat)) (.slice q n c)
    have m2 := mb_new (w.alloc (.cells #[.int .i64 (R : Nat), .int .i64 (C : Nat), .slice q n c] 43)) (.int .i64 (R : Nat)) (.int .i64 (C : Nat)) (.slice p n d)
    have s1 : (w.alloc (.cells #[.int .i64 (R : Nat), .int .i64 (C : Nat), .slice q n c] 43)).heap.size = A + 1 := by rw [← hA]; simp
    rw [hA] at m1
    rw [s1] at m2
    rw [← hW0]
    exact ⟨m1.below ((Below.refl _ _).alloc (Nat.le_refl _) _), m2⟩
  clear hS0 h1 h2
  have a0 := (HM.out.1).c0
  have a1 := (HM.out.1).c1
  have a2 := (HM.out.1).c2
  have d0 := (HM.out.2).c0
  have d1 := (HM.out.2).c1
  have d2 := (HM.out.2).c2
  go_enter Tryz.func37, Tryz.ntmps37
  go_wp2_with fail
  refine K1.mono ?_
  rintro e w1 ⟨rfl, hb1⟩
  clear K1
  have HZ : Hid (Below w.heap.size w w1) := HS.out.trans (hb1.mono HS.out.size)
  clear hb1
  go_wp2
  go_ret
  subst hA
  exact ⟨rfl, HZ.out⟩
end Go.Proofs
