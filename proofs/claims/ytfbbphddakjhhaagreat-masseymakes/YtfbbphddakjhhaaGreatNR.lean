/- Texts laid together: OwnR, RRed, Ref08, BoxG. Each says its own conditions. -/
import Derived.Test.YtfbbphddakjhhaaGreatNA
import Derived.Test.YtfbbphddakjhhaaGreatMN
import Derived.Test.YtfbbphddakjhhaaGreatNQ
import Derived.Test.YtfbbphddakjhhaaGreatMO
/- Rows of a matrix, each a slice of its own, that a call holds in a list of slices: read, replaced, kept. Conditions: bounds on lengths. -/
namespace Go.Proofs
open Go.RowKit Go.ChangeShapes Go.WideShapes
open Mx (Mat mx)
open Pol (Byt ofL toL)

/-- A block of bytes. -/
def B8 (W : World) (k : Nat) : Prop := ∃ cur, W.heap[k]? = some (.cells cur 5 (0, 0))
/-- A list of bytes lies ahead of base, or in a block of bytes. -/
def Bk (W : World) (base n : Nat) (q : Option Addr) : Prop := 0 < n → ∀ a, q = some a → a.block < base ∨ B8 W a.block
section
variable {W W' : World} {base : Nat} {v : Value} {R C : Nat} {M : Mat}
theorem Bs.bk {q : Option Addr} {n : Nat} {xs : List Nat} (h : Bs W q n xs) (hb : W.heap.size ≤ base) : Bk W' base n q := fun h0 a e => by
  obtain ⟨b, e', hl, _⟩ := h.cell 0 h0
  obtain rfl : b = a := Option.some.inj (e'.symm.trans e)
  exact .inl (by omega)
theorem Ow.bk {b n c : Nat} {q : Option Addr} {xs : List Nat} (h : Ow W b (.slice q n c) xs) : Bk W base n q := fun _ a e => by
  rcases h.2 with ⟨h1, _⟩ | ⟨g, cap, cur, h1, h2, h3, _⟩
  · cases h1; cases e
  · cases h1; cases e; exact .inr ⟨cur, h3⟩
theorem B8.keep {k : Nat} (h : B8 W k) (hb : W'.heap[k]? = W.heap[k]?) : B8 W' k := by
  obtain ⟨cur, e⟩ := h; exact ⟨cur, hb.trans e⟩
theorem Bk.keep {q : Option Addr} {n : Nat} {xs : List Nat} (h : Bk W base n q) (hs : Bs W q n xs) (hb : ∀ k, k < W.heap.size → (k < base ∨ B8 W k) → W'.heap[k]? = W.heap[k]?) : Bk W' base n q := fun h0 a e => by
  obtain ⟨b, e', hl, _⟩ := hs.cell 0 h0
  obtain rfl : b = a := Option.some.inj (e'.symm.trans e)
  exact (h h0 _ e).imp id fun k => k.keep (hb _ hl (.inr k))
theorem Bs.keep {q : Option Addr} {n : Nat} {xs : List Nat} (h : Bs W q n xs) (hk : Bk W base n q) (hs : W.heap.size ≤ W'.heap.size) (hb : ∀ k, k < W.heap.size → (k < base ∨ B8 W k) → W'.heap[k]? = W.heap[k]?) : Bs W' q n xs :=
  ⟨h.len, h.max, fun i hi => by
    obtain ⟨a, e, hl, hc⟩ := h.cell i hi
    refine ⟨a, e, Nat.lt_of_lt_of_le hl hs, ?_⟩
    rw [World.cell?_of_block (w := W) (by rw [block_add]; exact hb _ hl (hk (by omega) a e))]
    exact hc, h.byte⟩
/-- The rows of M, as the list of slices v holds them: the list is owned, the rows are only read. -/
def RwM (W : World) (base : Nat) (v : Value) (R C : Nat) (M : Mat) : Prop := ∃ vs : List Value, OwV 22 W base v vs ∧ vs.length = R ∧ ∀ i, i < R → ∃ q c, vs[i]? = some (.slice q C c) ∧ C ≤ c ∧ Bs W q C (toL C (M i)) ∧ Bk W base C q
theorem RwM.keep (h : RwM W base v R C M) (hs : W.heap.size ≤ W'.heap.size) (hb : ∀ k, k < W.heap.size → (v.ownBlock = some k ∨ k < base ∨ B8 W k) → W'.heap[k]? = W.heap[k]?) : RwM W' base v R C M := by
  obtain ⟨vs, h1, h2, h3⟩ := h
  refine ⟨vs, h1.block fun k hk => hb k (h1.lt k hk).2 (.inl hk), h2, fun i hi => ?_⟩
  obtain ⟨q, c, e, hc, h4, h5⟩ := h3 i hi
  have hb' : ∀ k, k < W.heap.size → (k < base ∨ B8 W k) → W'.heap[k]? = W.heap[k]? := fun k hk h => hb k hk (.inr h)
  exact ⟨q, c, e, hc, h4.keep h5 hs hb', h5.keep h4 hb'⟩
theorem RwM.below (h : RwM W base v R C M) (hb : Below W.heap.size W W') : RwM W' base v R C M := h.keep hb.size fun k hk _ => hb.block k hk
theorem RwM.alloc (h : RwM W base v R C M) (o : Obj) : RwM (W.alloc o) base v R C M := h.below ((Below.refl _ _).alloc (Nat.le_refl _) o)
theorem RwM.isSlice (h : RwM W base v R C M) : ∃ q c, v = .slice q R c := by
  obtain ⟨vs, h1, h2, _⟩ := h
  rcases h1.shape with ⟨rfl, rfl⟩ | ⟨g, c, rfl, _⟩
  · exact ⟨none, 0, by rw [← h2]; rfl⟩
  · exact ⟨_, _, by rw [h2]⟩
theorem RwM.mono (h : RwM W base v R C M) {b : Nat} (hb : b ≤ base) (hk : ∀ k, b ≤ k → k < base → B8 W k) : RwM W b v R C M := by
  obtain ⟨vs, h1, h2, h3⟩ := h
  refine ⟨vs, h1.mono hb, h2, fun i hi => ?_⟩
  obtain ⟨q, c, e, hc, h4, h5⟩ := h3 i hi
  refine ⟨q, c, e, hc, h4, fun h0 a ea => ?_⟩
  rcases h5 h0 a ea with h | h
  · by_cases hl : a.block < b
    · exact .inl hl
    · exact .inr (hk _ (by omega) h)
  · exact .inr h
theorem RwM.congr (h : RwM W base v R C M) {N : Mat} (hN : ∀ i, i < R → toL C (N i) = toL C (M i)) : RwM W base v R C N := by
  obtain ⟨vs, h1, h2, h3⟩ := h
  refine ⟨vs, h1, h2, fun i hi => ?_⟩
  rw [hN i hi]; exact h3 i hi
/-- Blocks of two types are two. -/
theorem owV_b8 {e : TypeId} {u : Value} {us : List Value} (h : OwV e W base u us) (he : e ≠ 5) {k : Nat} (hk : k < base ∨ B8 W k) : u.ownBlock ≠ some k := by
  intro e1
  have h1 := h.lt k e1
  rcases hk with hk | ⟨cur, hc⟩
  · omega
  · rcases h.2 with ⟨rfl, _⟩ | ⟨g, cap, cur', rfl, _, hg, _⟩
    · cases e1
    · cases e1
      rw [hg] at hc
      simp at hc
      exact he hc.2
theorem owV_two {e f : TypeId} {u v : Value} {us vs : List Value} (h : OwV e W base u us) (k : OwV f W base v vs) (he : e ≠ f) {b : Nat} (h1 : u.ownBlock = some b) (h2 : v.ownBlock = some b) : False := by
  rcases h.2 with ⟨rfl, _⟩ | ⟨g, cap, cur, rfl, _, hg, _⟩
  · cases h1
  · rcases k.2 with ⟨rfl, _⟩ | ⟨g', cap', cur', rfl, _, hg', _⟩
    · cases h2
    · cases h1; cases h2
      rw [hg] at hg'
      simp at hg'
      exact he hg'.2
theorem RwM.grown {e : TypeId} {u : Value} {us : List Value} (h : RwM W base v R C M) (hu : OwV e W base u us) (h8 : e ≠ 5) (hs : e ≠ 22) (hg : W.grownBy W' u.ownBlock) : RwM W' base v R C M := by
  obtain ⟨vs, h1, h2, h3⟩ := h
  refine RwM.keep ⟨vs, h1, h2, h3⟩ hg.size fun k hk hb => hg.block k hk fun e => ?_
  rcases hb with hb | hb
  · exact owV_two hu h1 hs e.symm hb
  · exact owV_b8 hu h8 hb e.symm
theorem RwM.at (h : RwM W base v R C M) {i : Nat} (hi : i < R) : ∃ g cap q c, v = .slice (some ⟨g, 0, none⟩) R cap ∧ base ≤ g ∧ W.cell? ⟨g, i, none⟩ = some (.slice q C c) ∧ W.frozen? ⟨g, i, none⟩ = false ∧ C ≤ c ∧ Bs W q C (toL C (M i)) ∧ Bk W base C q := by
  obtain ⟨vs, h1, h2, h3⟩ := h
  obtain ⟨q, c, e, hc, h4, h5⟩ := h3 i hi
  rcases h1.shape with ⟨_, rfl⟩ | ⟨g, cap, rfl, b2, b3, b4, b5, b6, b7⟩
  · cases e
  · exact ⟨g, cap, q, c, by rw [h2], b2, by rw [b6 i (by omega)]; exact e, b7 i, hc, h4, h5⟩
theorem RwM.set {g cap : Nat} (h : RwM W base (.slice (some ⟨g, 0, none⟩) R cap) R C M) {p : Nat} (hp : p < R) {q : Option Addr} {c : Nat} {ys : List Nat} (hc : C ≤ c) (hs : Bs W q C ys) (hk : Bk W base C q) (N : Mat) (hN : toL C (N p) = ys) (ho : ∀ i, i < R → i ≠ p → toL C (N i) = toL C (M i)) :
    RwM (W.setCell ⟨g, p, none⟩ (.slice q C c)) base (.slice (some ⟨g, 0, none⟩) R cap) R C N ∧ W.grownBy (W.setCell ⟨g, p, none⟩ (.slice q C c)) (some g) := by
  obtain ⟨vs, h1, h2, h3⟩ := h
  subst h2
  have hst := World.ownsRow.stored h1 p (.slice q C c)
  have hb' : ∀ k, k < W.heap.size → (k < base ∨ B8 W k) → (W.setCell ⟨g, p, none⟩ (.slice q C c)).heap[k]? = W.heap[k]? := fun k hk hb => hst.2.block k hk fun e => owV_b8 h1 (by decide) hb e.symm
  refine ⟨⟨vs.set p (.slice q C c), by unfold OwV; rw [List.length_set]; exact hst.1, List.length_set .., fun i hi => ?_⟩, hst.2⟩
  by_cases e : i = p
  · subst e
    exact ⟨q, c, by rw [List.getElem?_set_self hi], hc, by rw [hN]; exact hs.keep hk hst.2.size hb', hk.keep hs hb'⟩
  · obtain ⟨q', c', e', hc', h4, h5⟩ := h3 i hi
    exact ⟨q', c', by rw [List.getElem?_set_ne (Ne.symm e)]; exact e', hc', by rw [ho i hi e]; exact h4.keep h5 hst.2.size hb', h5.keep h4 hb'⟩
theorem RwM.other {e : TypeId} {u : Value} {us : List Value} {g cap : Nat} (h : RwM W base (.slice (some ⟨g, 0, none⟩) R cap) R C M) (hu : OwV e W base u us) (he : e ≠ 22) (hg : W.grownBy W' (some g)) : OwV e W' base u us := by
  obtain ⟨vs, h1, h2, h3⟩ := h
  exact hu.block fun k hk => hg.block k (hu.lt k hk).2 fun e1 => owV_two hu h1 he hk e1.symm
theorem RwM.bs {g cap n : Nat} {q : Option Addr} {xs : List Nat} (h : RwM W base (.slice (some ⟨g, 0, none⟩) R cap) R C M) (hs : Bs W q n xs) (hk : Bk W base n q) (hg : W.grownBy W' (some g)) : Bs W' q n xs ∧ Bk W' base n q := by
  obtain ⟨vs, h1, h2, h3⟩ := h
  have hb' : ∀ k, k < W.heap.size → (k < base ∨ B8 W k) → W'.heap[k]? = W.heap[k]? := fun k hk hb => hg.block k hk fun e => owV_b8 h1 (by decide) hb e.symm
  exact ⟨hs.keep hk hg.size hb', hk.keep hs hb'⟩
end
theorem grown_box {W W' : World} {o : Obj} {r : Option Nat} (h : (W.alloc o).grownBy W' r) : W.grownBy W' r :=
  ⟨h.os, h.tape, h.output, by have := h.size; simp at this; omega, fun k hk hr => (h.block k (by simp; omega) hr).trans (Below.heap_alloc _ _ _ hk)⟩
/-- 'append(leads, j)', with what it leaves. -/
theorem run_append_intG (W : World) (base : Nat) (v : Value) (L : List Nat) (x : Nat) (hown : OwI W base v L) (hn : L.length ≤ 1000000000) (hb : base ≤ W.heap.size) :
    ∃ g c W', (Builtin.append_ #[102, 102] 102 #[v, .slice (some ⟨W.heap.size, 0, none⟩) 1 1]).run Tryz.prog (W.alloc (.cells #[.int .i64 (x : Nat)] 3)) = .ok (.slice (some ⟨g, 0, none⟩) (L.length + 1) c) W' ∧ OwI W' base (.slice (some ⟨g, 0, none⟩) (L.length + 1) c) (L ++ [x]) ∧ W.grownBy W' v.ownBlock := by
  obtain ⟨i, hi, hz, hsz, hby⟩ := info_parts info_int
  obtain ⟨v', W', h1, h2, h3, _⟩ := run_append_own (P := Tryz.prog) (W.alloc (.cells #[.int .i64 (x : Nat)] 3)) base 102 102 3 i _ 1 8 Tryz.underlying102 hi hz hsz hby rfl (by decide) v (oi L).length (oi L) (hown.alloc _) ⟨W.heap.size, 0, none⟩ 1 1 [.int .i64 (x : Nat)] rfl (fun j y hj => by
      match j, hj with
      | 0, hj =>
        show (W.alloc _).cell? ⟨W.heap.size, 0, none⟩ = _
        rw [World.cell?_alloc_at _ _ _ _ rfl]; exact hj) (fun y hy => by simp at hy; subst hy; rfl) (by rw [oi_length]; unfold maxLen; omega) (by rw [oi_length]; omega) (by simp; omega)
  have h2' : OwI W' base v' (L ++ [x]) := by unfold OwI OwV; rw [oi_snoc, List.length_append]; exact h2
  rcases h2'.shape with ⟨_, h0⟩ | ⟨g, c, rfl, _⟩
  · exact absurd (congrArg List.length h0) (by simp [oi])
  · rw [oi_length, List.length_append] at h1 h2'
    exact ⟨g, c, W', h1, h2', grown_box h3⟩
theorem grown_below {W W' : World} {r : Option Nat} {n : Nat} (h : W.grownBy W' r) (hn : n ≤ W.heap.size) (hr : ∀ k, r = some k → n ≤ k) : Below n W W' := (Below.refl n W).grown h hn hr
end Go.Proofs
/- The walk of erratumref09.reduced: the rows of a matrix reduced, and where they lead. Conditions: at most 300 rows and 301 columns; cells of bytes. -/
namespace Go.Proofs
open Go.RowKit Go.ChangeShapes Go.WideShapes
open Mx (Mat cells mx rowL IsEch Red Eqv Ech mid)
open Pol (Byt ofL toL)
attribute [local go_sem ↓ high] builtin_ap
attribute [local go_sem] ap_sem

/-- A row as the slice of a matrix' cells. -/
def rowP (q : Option Addr) (C c o : Nat) : Value := .slice (if c = o then q else q.map (fun x => x.add o)) C (c - o)
def rowVs (q : Option Addr) (C c t : Nat) : List Value := (List.range t).map fun i => rowP q C c (i * C)
theorem rowVs_succ (q : Option Addr) (C c t : Nat) : rowVs q C c (t + 1) = rowVs q C c t ++ [rowP q C c (t * C)] := by unfold rowVs; rw [List.range_succ, List.map_append]; rfl
theorem rowVs_length (q : Option Addr) (C c t : Nat) : (rowVs q C c t).length = t := by simp [rowVs]
theorem rowL_toL {R C : Nat} {xs : List Nat} (hl : xs.length = R * C) (hb : Byt xs) {i : Nat} (hi : i < R) : rowL C xs i = toL C (mx C xs i) := by
  refine Mx.ofL_eq (Mx.rowL_byt hb i) (Pol.toL_byt _ _) (by rw [Mx.rowL_length hl hi, Pol.toL_length]) fun j hj => ?_
  rw [Mx.rowL_length hl hi] at hj
  rw [Mx.rowL_mx C xs i j hj, Mx.ofL_toL_at C _ j hj]
theorem rowP_bs {W : World} {q : Option Addr} {n R C c i : Nat} {xs : List Nat} (h : Bs W q n xs) (hn : n = R * C) (hc : n ≤ c) (hi : i < R) : ∃ p d, rowP q C c (i * C) = .slice p C d ∧ C ≤ d ∧ Bs W p C (toL C (mx C xs i)) := by
  obtain ⟨o, ho⟩ : ∃ o, o = i * C := ⟨_, rfl⟩
  have h1 : o + C ≤ n := by rw [hn, ho, ← Nat.succ_mul]; exact Nat.mul_le_mul_right _ hi
  have e : (List.range C).map (fun i => xs.getD (o + i) 0) = toL C (mx C xs i) := by
    rw [← rowL_toL (h.len.trans hn) h.byte hi]
    refine Mx.list_ext (by rw [Mx.rowL_length (h.len.trans hn) hi]; simp) fun j hj => ?_
    simp at hj
    rw [Mx.getD_range_map _ _ _ hj, Mx.rowL_at C xs i j hj, ho]
  have := bs_sub h c o (o + C) (by omega) h1 hc
  rw [Nat.add_sub_cancel_left, e] at this
  exact ⟨_, _, by rw [← ho]; rfl, by omega, this⟩
theorem rw_start {w W : World} {q : Option Addr} {n R C c base : Nat} {xs : List Nat} {v : Value} (h : Bs w q n xs) (hn : n = R * C) (hc : n ≤ c) (hb : Below w.heap.size w W) (hw : w.heap.size ≤ base) (hO : OwV 22 W base v (rowVs q C c R)) : RwM W base v R C (mx C xs) := by
  refine ⟨_, hO, rowVs_length _ _ _ _, fun i hi => ?_⟩
  obtain ⟨p, d, e, hd, hs⟩ := rowP_bs h hn hc hi
  exact ⟨p, d, by unfold rowVs; rw [List.getElem?_map, List.getElem?_range hi]; exact congrArg some e, hd, hs.below hb, hs.bk hw⟩

namespace Mx
/-- Row p, multiplied, stands at r; row r stands at p. -/
def ldA (M : Mat) (p r : Nat) (a : GF) : Mat := fun i => if i = r then fun c => a * M p c else mid M p r i
/-- To the first t rows, but r, so many times row r is added as makes column j nought. -/
def rdB (N : Mat) (r j t : Nat) : Mat := fun i => if i < t ∧ i ≠ r then fun c => N i c + N i j * N r c else N i
theorem rdB_zero (N : Mat) (r j : Nat) : rdB N r j 0 = N := by funext i; unfold rdB; rw [if_neg (by omega)]
theorem rdB_here (N : Mat) (r j t : Nat) : rdB N r j t t = N t := by unfold rdB; rw [if_neg (by omega)]
theorem rdB_lead (N : Mat) (r j t : Nat) : rdB N r j t r = N r := by unfold rdB; rw [if_neg (by omega)]
theorem rdB_next (N : Mat) {r j t : Nat} (h : t ≠ r) : rdB N r j (t + 1) t = fun c => N t c + N t j * N r c := by unfold rdB; rw [if_pos ⟨by omega, h⟩]
theorem rdB_other (N : Mat) {r j t i : Nat} (h : i ≠ t) : rdB N r j (t + 1) i = rdB N r j t i := by
  unfold rdB
  by_cases e : i < t ∧ i ≠ r
  · rw [if_pos e, if_pos ⟨by omega, e.2⟩]
  · rw [if_neg e, if_neg (by omega)]
theorem rdB_skip (N : Mat) (r j : Nat) : rdB N r j (r + 1) = rdB N r j r := by
  funext i
  by_cases e : i = r
  · subst e; rw [rdB_lead, rdB_lead]
  · exact rdB_other N e
theorem ld_all {R C j r p : Nat} {M : Mat} {l : Nat → Nat} (h : Red R j M r l) (hj : j < C) (hp : r ≤ p) (hpR : p < R) (a : GF) (ha : a * M p j = 1) :
    Red R (j + 1) (rdB (ldA M p r a) r j R) (r + 1) (fun k => if k = r then j else l k) ∧ Eqv R C M (rdB (ldA M p r a) r j R) := by
  have e1 : ldA M p r a r = fun c => a * M p c := by unfold ldA; rw [if_pos rfl]
  have hF : ∀ c, c < C → rdB (ldA M p r a) r j R r c = a * M p c := fun c _ => by rw [rdB_lead, e1]
  have hi : ∀ i c, i < R → i ≠ r → c < C → rdB (ldA M p r a) r j R i c = mid M p r i c + mid M p r i j * rdB (ldA M p r a) r j R r c := fun i c hR hr hc => by
    have e2 : ldA M p r a i = mid M p r i := by unfold ldA; rw [if_neg hr]
    rw [rdB_lead]
    unfold rdB
    rw [if_pos ⟨hR, hr⟩, e2]
  have h0 : a ≠ 0 := fun e => by rw [e, GF.zero_mul] at ha; exact GF.one_ne_zero ha.symm
  exact ⟨h.lead hj p hp hpR a ha hF hi, lead_eqv p (by omega) hpR a h0 hF hi⟩
theorem each_toL (C a : Nat) (ha : a < 256) (f : Nat → GF) : (toL C f).map (Gf.mul a) = toL C fun c => GF.of a * f c := by
  unfold Pol.toL
  rw [List.map_map]
  refine List.map_congr_left fun i _ => ?_
  show Gf.mul a (f i).val = (GF.of a * f i).val
  rw [GF.mul_val, GF.of_val a ha]
theorem plus_toL (C a : Nat) (ha : a < 256) (f g : Nat → GF) : plusL C a (toL C f) (toL C g) = toL C fun c => f c + GF.of a * g c := by
  unfold plusL
  refine list_ext (by rw [Pol.toL_length]; simp) fun i hi => ?_
  rw [List.length_map, List.length_range] at hi
  rw [getD_range_map _ _ _ hi, Pol.toL_at, Pol.toL_at, Pol.toL_at, if_pos hi, if_pos hi, if_pos hi, GF.add_val, GF.mul_val, GF.of_val a ha]
theorem range_snoc (r j : Nat) (l : Nat → Nat) : (List.range (r + 1)).map (fun k => if k = r then j else l k) = (List.range r).map l ++ [j] := by
  rw [List.range_succ, List.map_append]
  congr 1
  · refine List.map_congr_left fun i hi => ?_
    rw [List.mem_range] at hi
    rw [if_neg (by omega)]
  · simp
end Mx

set_option maxRecDepth 100000 in
set_option maxHeartbeats 4000000 in
theorem rred_calls (R C : Nat) (q : Option Addr) (n c : Nat) (xs ys L : List Nat) (hE : IsEch R C xs ys L) (hn : n = R * C) (hR : R ≤ 300) (hC : C ≤ 301) (hc : n ≤ c) (w : World) (hs : Bs w q n xs) :
    Calls Tryz.prog 48 #[.agg #[.int .i64 (R : Nat), .int .i64 (C : Nat), .slice q n c]] w fun e w' => ∃ v1 v2, e = .returned (.tuple #[v1, v2]) ∧ RwM w' (w.heap.size + 1) v1 R C (mx C ys) ∧ OwI w' (w.heap.size + 1) v2 L ∧ Below w.heap.size w w' := by
  obtain ⟨A, hA⟩ : ∃ A, w.heap.size = A := ⟨_, rfl⟩
  obtain ⟨W0, hW0⟩ : ∃ W0, w.alloc (.cells #[.int .i64 (R : Nat), .int .i64 (C : Nat), .slice q n c] 95) = W0 := ⟨_, rfl⟩
  have HP : Hid (Mb W0 A (.int .i64 (R : Nat)) (.int .i64 (C : Nat)) (.slice q n c) ∧ Below w.heap.size w W0 ∧ W0.heap.size = A + 1) := by
    refine ⟨?_, hW0 ▸ (Below.refl _ w).alloc (Nat.le_refl _) _, by rw [← hW0, ← hA]; simp⟩
    rw [← hA, ← hW0]; exact mb_new w _ _ _
  have HS : Hid (Bs w q n xs ∧ n = R * C ∧ n ≤ c ∧ IsEch R C xs ys L) := ⟨hs, hn, hc, hE⟩
  clear hs hn hc hE
  have a0 := (HP.out.1).c0
  have a1 := (HP.out.1).c1
  have a2 := (HP.out.1).c2
  go_enter Tryz.func48, Tryz.ntmps48
  go_wp2
  clear a0 a1 a2
  go_loopw [4, 5] (fun v i wr => ∃ t : Nat, t ≤ R ∧ i = .int .i64 (t : Int) ∧ OwV 22 wr (A + 1) v (rowVs q C c t) ∧ Below (A + 1) W0 wr) (fun _ i _ => R - (intOf i).toNat)
  case atStart => exact ⟨0, by omega, rfl, owV_nil _ _ _, Below.refl _ _⟩
  case round =>
    obtain ⟨t, ht, rfl, hO, hB⟩ := hrel
    have hm := HP.out.1.below (by rw [HP.out.2.2]; exact hB)
    by_cases hlt : t < R
    · have hti : (t : Int) < (R : Int) := by omega
      obtain ⟨o, ho⟩ : ∃ o, o = t * C := ⟨_, rfl⟩
      have e1 : (t : Int) * (C : Int) = (o : Int) := by rw [ho]; exact (Int.natCast_mul t C).symm
      have e2 : ((t : Int) + 1) * (C : Int) = (o : Int) + (C : Int) := by rw [Int.add_mul, e1, Int.one_mul]
      have h1 : o + C ≤ n := by rw [HS.out.2.1, ho, ← Nat.succ_mul]; exact Nat.mul_le_mul_right _ hlt
      have h2 : n ≤ 90300 := by rw [HS.out.2.1]; exact Nat.mul_le_mul hR hC
      have hnc := HS.out.2.2.1
      have h3 : o + C ≤ c := by omega
      have h4 : o + C ≤ 90300 := by omega
      have h5 : (o : Int) + (C : Int) ≤ (c : Int) := by omega
      have hoC : o + C - o = C := by omega
      obtain ⟨v', hv'⟩ : ∃ v', rowP q C c o = v' := ⟨_, rfl⟩
      have hsz : A + 1 ≤ wr.heap.size := by have := hB.size; rw [HP.out.2.2] at this; exact this
      obtain ⟨g, cg, W', hap, hO', hbw⟩ := run_append_oneV 88 22 _ 24 Tryz.underlying88 info_sl rfl (by decide) wr (A + 1) u4 (rowVs q C c t) (rowP q C c o) rfl hO (by rw [rowVs_length]; omega) hsz
      have hlen : (rowVs q C c t ++ [rowP q C c o]).length = t + 1 := by rw [List.length_append, rowVs_length]; rfl
      rw [hlen] at hap hO'
      have HN : Hid (OwV 22 W' (A + 1) (.slice (some ⟨g, 0, none⟩) (t + 1) cg) (rowVs q C c (t + 1)) ∧ Below (A + 1) W0 W') := ⟨by rw [rowVs_succ, ← ho]; exact hO', hB.trans (hbw _ (Nat.le_refl _))⟩
      unfold rowP at hap
      have ha1 := ap_ok hap
      have ha2 := ap_v hap
      have ha3 := ap_w hap
      have a0 := (hm).c0
      have a1 := (hm).c1
      have a2 := (hm).c2
      clear hm hap hO' hbw hO hB hlen ho hv' h1 hnc hsz
      go_wp2
      go_roundw
      case rel => exact ⟨t + 1, by omega, by go_num, HN.out⟩
      case measure => simp [intOf]; omega
    · obtain rfl : R = t := by omega
      have hR1 : RwM wr (A + 1) u4 R C (mx C xs) := rw_start HS.out.1 HS.out.2.1 HS.out.2.2.1 (HP.out.2.1.trans (hB.mono (by omega))) (by omega) hO
      obtain ⟨qv, cv, rfl⟩ := hR1.isSlice
      have HR1 : Hid (RwM wr (A + 1) (.slice qv R cv) R C (mx C xs) ∧ Below (A + 1) W0 wr) := ⟨hR1, hB⟩
      have a0 := (hm).c0
      have a1 := (hm).c1
      have a2 := (hm).c2
      clear hm hO hB hR1
      go_wp2
      clear a0 a1 a2
      obtain ⟨W1, hW1⟩ : ∃ W1, W1 = wr := ⟨_, rfl⟩
      subst hW1
      go_loopw [6, 7] (fun u i wr => ∃ (j r : Nat) (l : Nat → Nat) (M : Mat), j ≤ C ∧ i = .int .i64 (j : Int) ∧ Red R j M r l ∧ Eqv R C (mx C xs) M ∧ OwI wr (A + 1) u ((List.range r).map l) ∧ RwM wr (A + 1) (.slice qv R cv) R C M ∧ Below (A + 1) W0 wr) (fun _ i _ => C - (intOf i).toNat)
      case atStart => exact ⟨0, 0, fun _ => 0, mx C xs, by omega, rfl, Red.start _ _ _, Eqv.refl _ _ _, owV_nil _ _ _, HR1.out⟩
      case round =>
        obtain ⟨j, r, l, M, hj, rfl, hred, heqv, hO, hRw, hB⟩ := hrel
        have hm := HP.out.1.below (by rw [HP.out.2.2]; exact hB)
        have hrR := hred.le
        obtain ⟨ql, cl, rfl, -, -, -⟩ := OwI.tell (n := r) hO (by simp)
        by_cases hlt : j < C
        · have hji : (j : Int) < (C : Int) := by omega
          have HG : Hid (Red R j M r l ∧ Eqv R C (mx C xs) M ∧ OwI wr (A + 1) (.slice ql r cl) ((List.range r).map l) ∧ RwM wr (A + 1) (.slice qv R cv) R C M ∧ Below (A + 1) W0 wr) := ⟨hred, heqv, hO, hRw, hB⟩
          have hw0 : IntKind.i64.wrap ((R : Int) - 1) = (R : Int) - 1 := by rw [IntKind.wrap_i64]; omega
          have a0 := (hm).c0
          have a1 := (hm).c1
          have a2 := (hm).c2
          clear hm hred heqv hO hRw hB
          go_wp2
          clear a0 a1 a2
          clear hw0
          obtain ⟨W2, hW2⟩ : ∃ W2, W2 = wr := ⟨_, rfl⟩
          subst hW2
          go_loopw [8, 9] (fun a i wr => ∃ (t : Nat) (z : Int), t ≤ R ∧ r ≤ t ∧ i = .int .i64 ((t : Int) - 1) ∧ a = .int .i64 z ∧ wr = W2 ∧ ((z = -1 ∧ ∀ k, t ≤ k → k < R → M k j = 0) ∨ ∃ p : Nat, z = (p : Int) ∧ r ≤ p ∧ p < R ∧ M p j ≠ 0)) (fun _ i _ => (intOf i + 1).toNat)
          case atStart => exact ⟨R, -1, Nat.le_refl _, hrR, rfl, rfl, rfl, .inl ⟨rfl, fun k h1 h2 => by omega⟩⟩
          case round =>
            obtain ⟨t, z, ht, hrt, rfl, rfl, rfl, hz⟩ := hrel
            by_cases hlt3 : r < t
            · obtain ⟨k, rfl⟩ : ∃ k, t = k + 1 := ⟨t - 1, by omega⟩
              have ek : ((k + 1 : Nat) : Int) - 1 = (k : Int) := by omega
              rw [ek]
              obtain ⟨g, cap, q1, c1, ev, hg, cc, fz, hc1, S1, K1⟩ := HG.out.2.2.2.1.at (show k < R by omega)
              obtain ⟨ad, rfl, la, ca⟩ := S1.cell j hlt
              have hx : (toL C (M k)).getD j 0 = (M k j).val := by rw [Pol.toL_at, if_pos hlt]
              rw [hx] at ca
              injection ev with ev1 _ ev3
              subst ev1 ev3
              have hki : (k : Int) < (R : Int) := by omega
              have hkr : (r : Int) ≤ (k : Int) := by omega
              have hwk : IntKind.i64.wrap ((k : Int) - 1) = (k : Int) - 1 := by rw [IntKind.wrap_i64]; omega
              have hx8 := (M k j).lt
              obtain ⟨x, hxe⟩ : ∃ x, (M k j).val = x := ⟨_, rfl⟩
              rw [hxe] at ca hx8
              by_cases h0 : x = 0
              · have HZ : Hid ((z = -1 ∧ ∀ i, k ≤ i → i < R → M i j = 0) ∨ ∃ p : Nat, z = (p : Int) ∧ r ≤ p ∧ p < R ∧ M p j ≠ 0) := by
                  refine hz.imp (fun h => ⟨h.1, fun i h1 h2 => ?_⟩) id
                  by_cases e : i = k
                  · subst e; exact GF.ext (hxe.trans h0)
                  · exact h.2 i (by omega) h2
                subst h0
                clear hz hxe fz hc1 S1 K1 la hx ek
                go_wp2
                go_roundw
                case rel => exact ⟨k, z, by omega, by omega, rfl, rfl, trivial, HZ.out⟩
                case measure => simp [intOf]
              · have HZ : Hid (M k j ≠ 0) := fun e => h0 (by rw [← hxe, e]; rfl)
                have hx1 : ((x : Int) != 0) = true := by simp; omega
                clear hz hxe fz hc1 S1 K1 la hx ek
                go_wp2
                go_roundw
                case rel => exact ⟨k, (k : Int), by omega, by omega, rfl, rfl, trivial, .inr ⟨k, rfl, by omega, by omega, HZ.out⟩⟩
                case measure => simp [intOf]
            · obtain rfl : r = t := by omega
              have hge : ¬ ((r : Int) ≤ (r : Int) - 1) := by omega
              rcases hz with ⟨rfl, hz0⟩ | ⟨p, rfl, hrp, hpR, hp0⟩
              · have HN : Hid (Red R (j + 1) M r l) := HG.out.1.skip hz0
                clear hz0
                go_wp2
                go_roundw
                case rel => exact ⟨j + 1, r, l, M, by omega, by go_num, HN.out, HG.out.2⟩
                case measure => simp [intOf]; omega
              · obtain ⟨W2, hW2⟩ : ∃ W2, W2 = wr := ⟨_, rfl⟩
                subst hW2
                have hpi : ¬ ((p : Int) < 0) := by omega
                have hpR' : (p : Int) < (R : Int) := by omega
                have hrR' : (r : Int) < (R : Int) := by omega
                obtain ⟨g, cap, q1, c1, ev, hg, cc, fz, hc1, S1, K1⟩ := HG.out.2.2.2.1.at hpR
                obtain ⟨g', cap', q2, c2, ev', _, cc2, fz2, hc2, S2, K2⟩ := HG.out.2.2.2.1.at (show r < R by omega)
                injection ev with ev1 _ ev3
                subst ev1 ev3
                injection ev' with ev1' _ ev3'
                injection ev1' with ev1'
                injection ev1' with ev1'
                subst ev1' ev3'
                obtain ⟨ad, rfl, la, ca⟩ := S1.cell j hlt
                have hx : (toL C (M p)).getD j 0 = (M p j).val := by rw [Pol.toL_at, if_pos hlt]
                rw [hx] at ca
                have hx8 := (M p j).lt
                obtain ⟨x, hxe⟩ : ∃ x, (M p j).val = x := ⟨_, rfl⟩
                rw [hxe] at ca hx8
                obtain ⟨b, hbe⟩ : ∃ b, Gf.div 1 x = b := ⟨_, rfl⟩
                have hb8 : b < 256 := hbe ▸ Gf.mul_lt _ _ (by decide)
                have hab : GF.of b * M p j = 1 := by
                  have e1 : GF.of b = GF.inv (M p j) := by
                    rw [← hbe]; unfold Gf.div
                    rw [GF.of_mul _ _ (by decide) (Gf.inv_lt _ hx8), GF.of_inv x hx8, ← hxe, GF.of_self]
                    exact GF.one_mul _
                  rw [e1]; exact GF.inv_mul _ hp0
                have KD : Hid (∀ W, Calls Tryz.prog 50 #[.int .u8 1, .int .u8 (x : Nat)] W fun e w' => e = .returned (.int .u8 (b : Nat)) ∧ w' = W) := fun W => by
                  have := rdiv_calls 1 x (by decide) hx8 W
                  rw [hbe] at this
                  exact this
                have KE : Hid (Calls Tryz.prog 49 #[.int .u8 (b : Nat), .slice (some ad) C c1] W2.drew fun e w' => ∃ q c, e = .returned (.slice q C c) ∧ Hid (Bs w' q C (toL C fun c => GF.of b * M p c) ∧ C ≤ c ∧ Bk w' (A + 1) C q ∧ Below W2.heap.size W2 w')) := by
                  refine (reach_calls b C c1 (some ad) (toL C (M p)) hb8 (by omega) W2.drew S1.drew).mono ?_
                  rintro e w' ⟨v, rfl, hO, hb⟩
                  rw [Mx.each_toL C b hb8] at hO
                  obtain ⟨q6, c6, rfl, S6, C6, -⟩ := hO.tell (n := C) (Pol.toL_byt _ _) (Pol.toL_length _ _)
                  exact ⟨q6, c6, rfl, S6, C6, hO.bk, ((Below.refl _ W2).drew).trans hb⟩
                have HM : Hid (GF.of b * M p j = 1) := hab
                have HK : Hid (∀ W, Below W2.heap.size W2 W → W.cell? ⟨g, r, none⟩ = some (.slice q2 C c2) ∧ W.frozen? ⟨g, p, none⟩ = false ∧ W.frozen? ⟨g, r, none⟩ = false) := fun W hb => by
                  have hlt := World.block_lt_of_cell? _ _ cc
                  exact ⟨(hb.cell (p := ⟨g, r, none⟩) hlt).trans cc2, (hb.frozen (p := ⟨g, p, none⟩) hlt).trans fz, (hb.frozen (p := ⟨g, r, none⟩) hlt).trans fz2⟩
                have H2 : Hid (Bs W2 q2 C (toL C (M r)) ∧ Bk W2 (A + 1) C q2 ∧ C ≤ c2) := ⟨S2, K2, hc2⟩
                have HC : Hid (∀ W, Below W2.heap.size W2 W → W.cell? ⟨g, p, none⟩ = some (.slice (some ad) C c1) ∧ W.cell? (ad.add j) = some (.int .u8 (x : Nat))) := fun W hb => ⟨(hb.cell (p := ⟨g, p, none⟩) (World.block_lt_of_cell? _ _ cc)).trans cc, (hb.cell (p := ad.add j) (World.block_lt_of_cell? _ _ ca)).trans ca⟩
                clear hab hbe hxe hx S1 S2 K1 K2 hc1 hc2 la fz fz2 cc2
                go_wp2
                go_region_held3 (fun w' => w'.cell? ⟨g, p, none⟩ = some (.slice (some ad) C c1) ∧ w'.cell? (ad.add j) = some (.int .u8 (x : Nat)))
                  (first | exact HC.out _ H6.out.2.2.2 | (go_keep; done))
                  (first
                    | (go_at_call 50; refine (KD.out _).mono ?_; rintro e w5 ⟨rfl, hw5⟩; subst hw5)
                    | (go_at_call 49; refine (KE.out).mono ?_; rintro e w6 ⟨q6, c6, rfl, H6⟩))
                have hb6 := H6.out.2.2.2
                have hK := HK.out w6 hb6
                have hR6 := HG.out.2.2.2.1.below hb6
                have h4 := hR6.set hpR H2.out.2.2 (H2.out.1.below hb6) (H2.out.2.1.keep H2.out.1 fun k hk _ => hb6.block k hk) (mid M p r) (by unfold Mx.mid; rw [if_pos rfl]) (fun i _ e => by unfold Mx.mid; rw [if_neg e])
                have S4 := hR6.bs H6.out.1 H6.out.2.2.1 h4.2
                have h5 := h4.1.set (p := r) (show r < R by omega) H6.out.2.1 S4.1 S4.2 (Mx.ldA M p r (GF.of b)) (by unfold Mx.ldA; rw [if_pos rfl]) (fun i _ e => by unfold Mx.ldA; rw [if_neg e])
                have S5 := h4.1.bs S4.1 S4.2 h5.2
                have hO6 := HG.out.2.2.1.below hb6
                have hO4 := hR6.other hO6 (by decide) h4.2
                have hO5 := h4.1.other hO4 (by decide) h5.2
                have hB6 : Below (A + 1) W0 w6 := HG.out.2.2.2.2.trans (hb6.mono (by have := HG.out.2.2.2.2.size; rw [HP.out.2.2] at this; exact this))
                have hsz6 : A + 1 ≤ w6.heap.size := by have := hB6.size; rw [HP.out.2.2] at this; exact this
                have hB5 := (hB6.trans (grown_below h4.2 hsz6 (fun k e => by cases e; exact hg))).trans (grown_below h5.2 (by simpa using hsz6) (fun k e => by cases e; exact hg))
                obtain ⟨g', cap', q4, c4, ev', _, cc4, fz4, -⟩ := h4.1.at (show r < R by omega)
                injection ev' with ev1' _ ev3'
                injection ev1' with ev1'
                injection ev1' with ev1'
                subst ev1' ev3'
                have cc6 : w6.cell? ⟨g, p, none⟩ = some (.slice (some ad) C c1) := (hb6.cell (p := ⟨g, p, none⟩) (World.block_lt_of_cell? _ _ cc)).trans cc
                have cc2 := hK.1
                have fz := hK.2.1
                have fz2 := hK.2.2
                obtain ⟨W5, hW5⟩ : ∃ W5, (w6.setCell ⟨g, p, none⟩ (.slice q2 C c2)).setCell ⟨g, r, none⟩ (.slice q6 C c6) = W5 := ⟨_, rfl⟩
                rw [hW5] at h5 S5 hO5 hB5
                have H5 : Hid (RwM W5 (A + 1) (.slice (some ⟨g, 0, none⟩) R cv) R C (Mx.ldA M p r (GF.of b)) ∧ Bs W5 q6 C (toL C fun c => GF.of b * M p c) ∧ Bk W5 (A + 1) C q6 ∧ C ≤ c6 ∧ OwI W5 (A + 1) (.slice ql r cl) ((List.range r).map l) ∧ Below (A + 1) W0 W5) := ⟨h5.1, S5.1, S5.2, H6.out.2.1, hO5, hB5⟩
                clear hK HK KD KE HC hb6 hR6 h4 S4 h5 S5 hO6 hO4 hO5 hB6 hsz6 hB5 H6 H2 cc
                go_wp2
                clear hW5 cc2 fz fz2 cc4 fz4 cc6 ca
                obtain ⟨N, hN⟩ : ∃ N, Mx.ldA M p r (GF.of b) = N := ⟨_, rfl⟩
                have hNr : N r = fun c => GF.of b * M p c := by rw [← hN]; unfold Mx.ldA; rw [if_pos rfl]
                rw [hN, ← hNr] at H5
                go_loopw [12] (fun i wr => ∃ t : Nat, t ≤ R ∧ i = .int .i64 (t : Int) ∧ RwM wr (A + 1) (.slice (some ⟨g, 0, none⟩) R cv) R C (Mx.rdB N r j t) ∧ Bs wr q6 C (toL C (N r)) ∧ Bk wr (A + 1) C q6 ∧ OwI wr (A + 1) (.slice ql r cl) ((List.range r).map l) ∧ Below (A + 1) W0 wr) (fun i _ => R - (intOf i).toNat)
                case atStart => exact ⟨0, by omega, rfl, by rw [Mx.rdB_zero]; exact H5.out.1, H5.out.2.1, H5.out.2.2.1, H5.out.2.2.2.2⟩
                case round =>
                  obtain ⟨t, ht, rfl, hR7, S7, K7, hO7, hB7⟩ := hrel
                  by_cases htR : t < R
                  · have hti : (t : Int) < (R : Int) := by omega
                    by_cases htr : t = r
                    · subst htr
                      have HN : Hid (RwM wr (A + 1) (.slice (some ⟨g, 0, none⟩) R cv) R C (Mx.rdB N t j (t + 1)) ∧ Bs wr q6 C (toL C (N t)) ∧ Bk wr (A + 1) C q6 ∧ OwI wr (A + 1) (.slice ql t cl) ((List.range t).map l) ∧ Below (A + 1) W0 wr) := ⟨by rw [Mx.rdB_skip]; exact hR7, S7, K7, hO7, hB7⟩
                      clear hR7 S7 K7 hO7 hB7
                      go_wp2
                      go_roundw
                      case rel => exact ⟨t + 1, by omega, by go_num, HN.out⟩
                      case measure => simp [intOf]; omega
                    · have hE : ((t : Int) != (r : Int)) = true := by simp; omega
                      obtain ⟨g', cap', q8, c8, ev', _, cc8, fz8, hc8, S8, K8⟩ := hR7.at htR
                      injection ev' with ev1' _ ev3'
                      injection ev1' with ev1'
                      injection ev1' with ev1'
                      subst ev1' ev3'
                      obtain ⟨ad8, rfl, la8, ca8⟩ := S8.cell j hlt
                      have hx : (toL C (Mx.rdB N r j t t)).getD j 0 = (N t j).val := by rw [Pol.toL_at, if_pos hlt, Mx.rdB_here]
                      rw [hx] at ca8
                      have hy8 := (N t j).lt
                      rw [Mx.rdB_here] at S8
                      obtain ⟨y, hye⟩ : ∃ y, (N t j).val = y := ⟨_, rfl⟩
                      rw [hye] at ca8 hy8
                      have KP : Hid (Calls Tryz.prog 51 #[.slice (some ad8) C c8, .int .u8 (y : Nat), .slice q6 C c6] wr.drew fun e w' => ∃ q c, e = .returned (.slice q C c) ∧ Hid (Bs w' q C (toL C (Mx.rdB N r j (t + 1) t)) ∧ C ≤ c ∧ Bk w' (A + 1) C q ∧ Below wr.heap.size wr w') ∧ w'.cell? ⟨g, t, none⟩ = some (.slice (some ad8) C c8) ∧ w'.frozen? ⟨g, t, none⟩ = false) := by
                        refine (rplus_calls y C c8 c6 (some ad8) q6 _ _ hy8 (by omega) wr.drew S8.drew S7.drew).mono ?_
                        rintro e w' ⟨v, rfl, hO, hb⟩
                        have e9 : plusL C y (toL C (N t)) (toL C (N r)) = toL C (Mx.rdB N r j (t + 1) t) := by rw [Mx.plus_toL C y hy8, Mx.rdB_next N htr, ← hye, GF.of_self]
                        rw [e9] at hO
                        obtain ⟨q9, c9, rfl, S9, C9, -⟩ := hO.tell (n := C) (Pol.toL_byt _ _) (Pol.toL_length _ _)
                        have hb' : Below wr.heap.size wr w' := ((Below.refl _ wr).drew).trans hb
                        have hlt := World.block_lt_of_cell? _ _ cc8
                        exact ⟨q9, c9, rfl, ⟨S9, C9, hO.bk, hb'⟩, (hb'.cell (p := ⟨g, t, none⟩) hlt).trans cc8, (hb'.frozen (p := ⟨g, t, none⟩) hlt).trans fz8⟩
                      have H7 : Hid (RwM wr (A + 1) (.slice (some ⟨g, 0, none⟩) R cv) R C (Mx.rdB N r j t) ∧ Bs wr q6 C (toL C (N r)) ∧ Bk wr (A + 1) C q6 ∧ OwI wr (A + 1) (.slice ql r cl) ((List.range r).map l) ∧ Below (A + 1) W0 wr) := ⟨hR7, S7, K7, hO7, hB7⟩
                      clear hR7 S7 K7 hO7 hB7 S8 K8 hc8 fz8 hx hye la8
                      go_wp2
                      go_region_with
                        (first
                          | (go_at_call 51; refine (KP.out).mono ?_; rintro e w9 ⟨q9, c9, rfl, H9, cc9, fz9⟩))
                      all_goals
                        have HN : Hid (RwM (w9.setCell ⟨g, t, none⟩ (.slice q9 C c9)) (A + 1) (.slice (some ⟨g, 0, none⟩) R cv) R C (Mx.rdB N r j (t + 1)) ∧ Bs (w9.setCell ⟨g, t, none⟩ (.slice q9 C c9)) q6 C (toL C (N r)) ∧ Bk (w9.setCell ⟨g, t, none⟩ (.slice q9 C c9)) (A + 1) C q6 ∧ OwI (w9.setCell ⟨g, t, none⟩ (.slice q9 C c9)) (A + 1) (.slice ql r cl) ((List.range r).map l) ∧ Below (A + 1) W0 (w9.setCell ⟨g, t, none⟩ (.slice q9 C c9))) := by
                          have hb9 := H9.out.2.2.2
                          have hR9 := H7.out.1.below hb9
                          have h1 := hR9.set htR H9.out.2.1 H9.out.1 H9.out.2.2.1 (Mx.rdB N r j (t + 1)) rfl (fun i _ e => by rw [Mx.rdB_other N e])
                          have h2 := hR9.bs (H7.out.2.1.below hb9) (H7.out.2.2.1.keep H7.out.2.1 fun k hk _ => hb9.block k hk) h1.2
                          have hB9 : Below (A + 1) W0 w9 := H7.out.2.2.2.2.trans (hb9.mono (by have := H7.out.2.2.2.2.size; rw [HP.out.2.2] at this; exact this))
                          have hsz9 : A + 1 ≤ w9.heap.size := by have := hB9.size; rw [HP.out.2.2] at this; exact this
                          exact ⟨h1.1, h2.1, h2.2, hR9.other (H7.out.2.2.2.1.below hb9) (by decide) h1.2, hB9.trans (grown_below h1.2 hsz9 (fun k e => by cases e; exact hg))⟩
                        clear KP H9 H7 cc8 ca8 cc9 fz9
                        go_wp2
                        go_roundw
                        case rel => exact ⟨t + 1, by omega, by go_num, HN.out⟩
                        case measure => simp [intOf]; omega
                  · obtain rfl : R = t := by omega
                    have hla := Mx.ld_all (C := C) HG.out.1 hlt hrp hpR (GF.of b) HM.out
                    rw [hN] at hla
                    have hsz7 : A + 1 ≤ wr.heap.size := by have := hB7.size; rw [HP.out.2.2] at this; exact this
                    obtain ⟨g3, cg3, W', hap, hO', hgr⟩ := run_append_intG wr (A + 1) _ _ j hO7 (by simp; omega) hsz7
                    have HN : Hid (Red R (j + 1) (Mx.rdB N r j R) (r + 1) (fun k => if k = r then j else l k) ∧ Eqv R C (mx C xs) (Mx.rdB N r j R) ∧ OwI W' (A + 1) (.slice (some ⟨g3, 0, none⟩) (r + 1) cg3) ((List.range (r + 1)).map fun k => if k = r then j else l k) ∧ RwM W' (A + 1) (.slice (some ⟨g, 0, none⟩) R cv) R C (Mx.rdB N r j R) ∧ Below (A + 1) W0 W') := by
                      refine ⟨hla.1, HG.out.2.1.trans hla.2, ?_, hR7.grown hO7 (by decide) (by decide) hgr, hB7.trans (grown_below hgr hsz7 fun k e => (hO7.lt k e).1)⟩
                      rw [Mx.range_snoc]
                      have e9 : ((List.range r).map l).length = r := by simp
                      rw [e9] at hO'
                      exact hO'
                    have e9 : ((List.range r).map l).length = r := by simp
                    rw [e9] at hap
                    have ha1 := ap_ok hap
                    have ha2 := ap_v hap
                    have ha3 := ap_w hap
                    clear hap hO' hgr hla hR7 S7 K7 hO7 hB7 hsz7 e9
                    go_wp2
                    go_roundw
                    case rel => exact ⟨j + 1, r + 1, _, Mx.rdB N r j R, by omega, by go_num, HN.out⟩
                    case measure => simp [intOf]; omega
        · obtain rfl : C = j := by omega
          obtain ⟨e1, e2, e3⟩ := Ech.unique ⟨hred, heqv⟩ HS.out.2.2.2.ech
          have HN : Hid (RwM wr (A + 1) (.slice qv R cv) R C (mx C ys) ∧ OwI wr (A + 1) (.slice ql r cl) L ∧ Below w.heap.size w wr) := by
            refine ⟨hRw.congr fun i hi => ?_, ?_, HP.out.2.1.trans (hB.mono (by omega))⟩
            · refine Mx.list_ext (by rw [Pol.toL_length, Pol.toL_length]) fun k hk => ?_
              rw [Pol.toL_length] at hk
              rw [Pol.toL_at, Pol.toL_at, if_pos hk, if_pos hk, e3 i k hi hk]
            · have eL : (List.range r).map l = L := by
                refine Mx.list_ext (by simp [e1]) fun k hk => ?_
                simp at hk
                rw [Mx.getD_range_map _ _ _ hk, e2 k hk]
              rw [eL] at hO; exact hO
          have a0 := (hm).c0
          have a1 := (hm).c1
          have a2 := (hm).c2
          clear hm hred heqv hO hRw hB e1 e2 e3
          go_wp2
          go_ret2
          subst hA
          exact ⟨_, _, rfl, HN.out⟩
end Go.Proofs
/- The walks of erratumref08.Right, Row and Same. Conditions: any numbers of rows and columns, cells of bytes; a row that is there; matrices that are the same. -/
namespace Go.Proofs
open Go.RowKit Go.ChangeShapes Go.WideShapes
open Mx (Mat cells mx rowL)
open Pol (Byt ofL toL)

set_option maxRecDepth 100000 in
set_option maxHeartbeats 1000000 in
theorem rright_calls (R C : Int) (q : Option Addr) (n c : Nat) (b : Bool) (hb : rightB R C n = b) (w : World) :
    Calls Tryz.prog 45 #[.agg #[.int .i64 R, .int .i64 C, .slice q n c]] w fun e w' => e = .returned (.bool b) ∧ Below w.heap.size w w' := by
  have HB : Hid (rightB R C n = b) := hb
  have HX : Hid (Below w.heap.size w (w.alloc (.cells #[.int .i64 R, .int .i64 C, .slice q n c] 95))) := (Below.refl _ w).alloc (Nat.le_refl _) _
  clear hb
  by_cases h1 : 0 ≤ R
  · by_cases h2 : R ≤ 300
    · by_cases h3 : 0 ≤ C
      · by_cases h4 : C ≤ 300
        · have h5 : 0 ≤ R * C := Int.mul_nonneg h1 h3
          have h6 : R * C ≤ 90000 := by
            have := Int.mul_le_mul h2 h4 h3 (by decide)
            omega
          obtain ⟨m, hm⟩ : ∃ m : Int, R * C = m := ⟨_, rfl⟩
          have hbb : b = decide ((n : Int) = m) := by
            rw [← HB.out]; unfold rightB
            rw [side_true.2 ⟨h1, h2⟩, side_true.2 ⟨h3, h4⟩, Bool.true_and, Bool.true_and, hm]
          rw [hm] at h5 h6
          subst hbb
          clear HB
          by_cases hnm : (n : Int) = m
          · go_enter Tryz.func45, Tryz.ntmps45
            go_wp2
            go_ret
            exact ⟨by rw [decide_eq_true hnm]; rfl, HX.out⟩
          · have hnm' : ((n : Int) == m) = false := by simp [hnm]
            go_enter Tryz.func45, Tryz.ntmps45
            go_wp2
            go_ret
            exact ⟨by rw [decide_eq_false hnm]; rfl, HX.out⟩
        · have hbb : b = false := by rw [← HB.out]; unfold rightB side; simp [h4]
          subst hbb
          clear HB
          go_enter Tryz.func45, Tryz.ntmps45
          go_wp2
          go_ret
          exact ⟨rfl, HX.out⟩
      · have hbb : b = false := by rw [← HB.out]; unfold rightB side; simp [h3]
        subst hbb
        clear HB
        go_enter Tryz.func45, Tryz.ntmps45
        go_wp2
        go_ret
        exact ⟨rfl, HX.out⟩
    · have hbb : b = false := by rw [← HB.out]; unfold rightB side; simp [h2]
      subst hbb
      clear HB
      go_enter Tryz.func45, Tryz.ntmps45
      go_wp2
      go_ret
      exact ⟨rfl, HX.out⟩
  · have hbb : b = false := by rw [← HB.out]; unfold rightB side; simp [h1]
    subst hbb
    clear HB
    go_enter Tryz.func45, Tryz.ntmps45
    go_wp2
    go_ret
    exact ⟨rfl, HX.out⟩

set_option maxRecDepth 100000 in
set_option maxHeartbeats 1000000 in
theorem rrow_calls (R C i o : Nat) (q : Option Addr) (n c : Nat) (hi : i < R) (hn : n = R * C) (ho : o = i * C) (hc : n ≤ c) (hR : R ≤ 300) (hC : C ≤ 300) (w : World) :
    Calls Tryz.prog 47 #[.agg #[.int .i64 (R : Nat), .int .i64 (C : Nat), .slice q n c], .int .i64 (i : Nat)] w fun e w' => e = .returned (rowP q C c o) ∧ Below w.heap.size w w' := by
  obtain ⟨A, hA⟩ : ∃ A, w.heap.size = A := ⟨_, rfl⟩
  obtain ⟨W0, hW0⟩ : ∃ W0, w.alloc (.cells #[.int .i64 (R : Nat), .int .i64 (C : Nat), .slice q n c] 95) = W0 := ⟨_, rfl⟩
  have hS0 : Below w.heap.size w W0 := hW0 ▸ (Below.refl _ w).alloc (Nat.le_refl _) _
  have HB : Hid (Mb W0 A (.int .i64 (R : Nat)) (.int .i64 (C : Nat)) (.slice q n c)) := by rw [← hA, ← hW0]; exact mb_new w _ _ _
  have K1 := rright_calls (R : Int) (C : Int) q n c true (right_nat hR hC hn) W0
  have HS : Hid (Below w.heap.size w W0) := hS0
  have hiR : (i : Int) < (R : Int) := by omega
  have hi0 : ¬ ((i : Int) < 0) := by omega
  have e1 : (i : Int) * (C : Int) = (o : Int) := by rw [ho]; exact (Int.natCast_mul i C).symm
  have e2 : ((i : Int) + 1) * (C : Int) = (o : Int) + (C : Int) := by rw [Int.add_mul, e1, Int.one_mul]
  have h1 : o + C ≤ n := by rw [hn, ho, ← Nat.succ_mul]; exact Nat.mul_le_mul_right _ hi
  have h2 : n ≤ 90000 := by rw [hn]; exact Nat.mul_le_mul hR hC
  have h3 : o + C ≤ c := by omega
  have h4 : o + C ≤ 90000 := by omega
  have h5 : (o : Int) + (C : Int) ≤ (c : Int) := by omega
  have hoC : o + C - o = C := by omega
  clear hS0 hn ho hc
  have b0 := (HB.out).c0
  have b1 := (HB.out).c1
  have b2 := (HB.out).c2
  go_enter Tryz.func47, Tryz.ntmps47
  go_wp2_with fail
  refine K1.mono ?_
  rintro e w1 ⟨rfl, hb1⟩
  clear K1
  clear b0 b1 b2
  have HT1 : Hid (Mb w1 A (.int .i64 (R : Nat)) (.int .i64 (C : Nat)) (.slice q n c) ∧ Below w.heap.size w w1) := ⟨HB.out.below hb1, HS.out.trans (hb1.mono HS.out.size)⟩
  clear hb1
  have b0 := (HT1.out.1).c0
  have b1 := (HT1.out.1).c1
  have b2 := (HT1.out.1).c2
  by_cases hco : c = o
  · subst hco
    go_wp2
    all_goals
      go_ret
      subst hA
      exact ⟨by have e : C = 0 := by omega
                simp [rowP, e], HT1.out.2⟩
  · go_wp2
    all_goals
      go_ret
      subst hA
      exact ⟨by simp [rowP, hco], HT1.out.2⟩

end Go.Proofs
/- A matrix in a box whose cells are grown by append. Conditions: bounds on lengths. -/
namespace Go.Proofs
open Go.RowKit Go.ChangeShapes Go.WideShapes

/-- A matrix in the box X whose cells, xs, lie behind it. -/
structure Gm (W : World) (X : Nat) (v0 v1 v : Value) (xs : List Nat) : Prop where
  mb : Mb W X v0 v1 v
  fz : W.frozen? ⟨X, 2, none⟩ = false
  ow : Ow W (X + 1) v xs
  sz : X + 1 ≤ W.heap.size
theorem gm_new (w : World) (v0 v1 : Value) : Gm (w.alloc (.cells #[v0, v1, .slice none 0 0] 95)) w.heap.size v0 v1 (.slice none 0 0) [] := ⟨mb_new w _ _ _, by simp [go_sem], ow_nil _ _, by simp⟩
section
variable {W W' : World} {X : Nat} {v0 v1 v : Value} {xs : List Nat}
theorem Gm.below (h : Gm W X v0 v1 v xs) (hb : Below W.heap.size W W') : Gm W' X v0 v1 v xs := ⟨h.mb.below hb, (hb.frozen (p := ⟨X, 2, none⟩) h.mb.blt).trans h.fz, h.ow.below hb, Nat.le_trans h.sz hb.size⟩
theorem Gm.drew (h : Gm W X v0 v1 v xs) : Gm W.drew X v0 v1 v xs := h.below (Below.refl _ W).drew
theorem Gm.push (h : Gm W X v0 v1 v xs) {v' : Value} {ys : List Nat} (hO : Ow W' (X + 1) v' ys) (hb : Below (X + 1) W W') : W'.cell? ⟨X, 2, none⟩ = some v ∧ W'.frozen? ⟨X, 2, none⟩ = false ∧ Gm (W'.setCell ⟨X, 2, none⟩ v') X v0 v1 v' ys ∧ Below X W (W'.setCell ⟨X, 2, none⟩ v') := by
  have hk : But (fun k => X + 1 ≤ k) W W' := ⟨hb.os, hb.tape, hb.output, hb.size, fun k _ hs => hb.block k (by omega)⟩
  have hM := h.mb.but hk (by omega)
  have hf : W'.frozen? ⟨X, 2, none⟩ = false := (hk.frozen (p := ⟨X, 2, none⟩) h.mb.blt (by show ¬ X + 1 ≤ X; omega)).trans h.fz
  have hset : But (· = X) W' (W'.setCell ⟨X, 2, none⟩ v') := (But.refl (· = X) W').setCell (p := ⟨X, 2, none⟩) (.inl rfl) _
  have c2 := hM.c2
  refine ⟨c2, hf, ⟨⟨?_, ?_, ?_⟩, ?_, ?_, ?_⟩, ?_⟩
  · exact (World.cell?_setCell_other _ _ _ _ (by intro c; cases c)).trans hM.c0
  · exact (World.cell?_setCell_other _ _ _ _ (by intro c; cases c)).trans hM.c1
  · simp [go_sem, c2]
  · rw [World.frozen?_setCell]; exact hf
  · exact hO.block fun i hi => hset.block i (hO.lt i hi).2 (by have := (hO.lt i hi).1; omega)
  · have h1 := hset.size; have h2 := hb.size; have h3 := h.sz; omega
  · exact (hb.mono (by omega)).trans (hset.below (by have h2 := hb.size; have h3 := h.sz; omega) (fun k hk => by omega))
theorem Gm.list (h : Gm W X v0 v1 v xs) {q : Option Addr} {n : Nat} (c : Nat) {ys : List Nat} (hs : Bs W q n ys) (hn : xs.length + n ≤ 10000000) :
    ∃ v' W', (Builtin.append_ #[22, 22] 22 #[v, .slice q n c]).run Tryz.prog W = .ok v' W' ∧ W'.cell? ⟨X, 2, none⟩ = some v ∧ W'.frozen? ⟨X, 2, none⟩ = false ∧ Gm (W'.setCell ⟨X, 2, none⟩ v') X v0 v1 v' (xs ++ ys) ∧ Below X W (W'.setCell ⟨X, 2, none⟩ v') ∧ Below X W W' := by
  obtain ⟨v', W', hap, hO, hg⟩ := run_append_list W (X + 1) v xs q n c ys h.ow hs (by omega) h.sz
  have hb := (Below.refl _ W).grown hg h.sz fun k hk => (h.ow.lt k hk).1
  obtain ⟨a1, a2, a3, a4⟩ := h.push hO hb
  exact ⟨v', W', hap, a1, a2, a3, a4, hb.mono (by omega)⟩
theorem Gm.one (h : Gm W X v0 v1 v xs) (x : Nat) (hn : xs.length ≤ 10000000) :
    ∃ g c' W', (Builtin.append_ #[22, 22] 22 #[v, .slice (some ⟨W.heap.size, 0, none⟩) 1 1]).run Tryz.prog (W.alloc (.cells #[.int .u8 (x : Nat)] 5)) = .ok (.slice (some ⟨g, 0, none⟩) (xs ++ [x]).length c') W' ∧ W'.cell? ⟨X, 2, none⟩ = some v ∧ W'.frozen? ⟨X, 2, none⟩ = false ∧ Gm (W'.setCell ⟨X, 2, none⟩ (.slice (some ⟨g, 0, none⟩) (xs ++ [x]).length c')) X v0 v1 (.slice (some ⟨g, 0, none⟩) (xs ++ [x]).length c') (xs ++ [x]) ∧ Below X W (W'.setCell ⟨X, 2, none⟩ (.slice (some ⟨g, 0, none⟩) (xs ++ [x]).length c')) := by
  obtain ⟨g, c', W', hap, hO, hb⟩ := run_append_one W (X + 1) v xs x h.ow (by omega) h.sz
  exact ⟨g, c', W', hap, h.push hO (hb _ (Nat.le_refl _))⟩
end
/-- A call of a function, as a step of a region that draws its order. -/
theorem step_go {ops : Array Oper} {o : Oper} {a : Act} {w : World} {K : Act → World → Prop} {Q : Exit → Act → World → Prop} {E : Prop} {f : Nat} {vs : Array Value} {post : Ending → World → Prop} (hg : o.guard = none) (hr : (execOp a.eval o).run Tryz.prog w = .ok (.enter f vs) w) (hc : Calls Tryz.prog f vs w post) (hK : ∀ e w', post e w' → ∃ v, e = .returned v ∧ K (a.put o.dst v) w') : if Region.wanted o (yielded ops a.tmps) = true then Oper.wp Tryz.prog o a w K Q else E := by
  have hw : Region.wanted o (yielded ops a.tmps) = true := by simp [Region.wanted, hg]
  rw [if_pos hw]
  unfold Oper.wp
  rw [hr, Oper.upon_enter]
  refine hc.mono fun e w' h => ?_
  obtain ⟨v, rfl, hk⟩ := hK e w' h
  exact hk
/-- An append, as a step of such a region. -/
theorem step_ap9 {ops : Array Oper} {o : Oper} {a : Act} {w : World} {K : Act → World → Prop} {Q : Exit → Act → World → Prop} {E : Prop} (hg : o.guard = none) (s x : Operand) (t : TypeId) (ho : o.op = .call { callee := .builtin .append, args := #[s, x], argTypes := #[t, t] }) (ht : o.type = t)
    {v u v' : Value} {W' : World} (hap : (Builtin.append_ #[t, t] t #[v, u]).run Tryz.prog w = .ok v' W') (hs : a.eval s = v) (hx : a.eval x = u) (hK : K (a.put o.dst v') W') : if Region.wanted o (yielded ops a.tmps) = true then Oper.wp Tryz.prog o a w K Q else E := by
  have hw : Region.wanted o (yielded ops a.tmps) = true := by simp [Region.wanted, hg]
  rw [if_pos hw]
  subst hs hx ht
  unfold Oper.wp
  simp only [execOp, ho, resolve, invoke, builtin, Sem.run_bind, Sem.run_pure, Result.andThen_ok, List.map_toArray, List.map_cons, List.map_nil, hap]
  exact hK
end Go.Proofs
