/- Texts laid together: IzL, Met, SyOnce, AppZs. Each says its own conditions. -/
import Derived.Maps.OwnOps
import Derived.Maps.Views
import Derived.Test.YtjnkkokhkooegaaGreatNA
import Derived.Test.YtjnkkokhkooegaaGreatMF
import Derived.Test.YtjnkkokhkooegaaGreatOJ
import Derived.Test.YtjnkkokhkooegaaGreatMG
/- Slices of integers that a call has made itself: owned, grown by append, told. Conditions: bounds on lengths. -/
namespace Go.Proofs
open Go.RowKit Go.ChangeShapes Go.WideShapes

/-- Integers as values. -/
def oz (L : List Int) : List Value := L.map (Value.int .i64)
theorem oz_length (L : List Int) : (oz L).length = L.length := by simp [oz]
theorem oz_at (L : List Int) (i : Nat) (hi : i < L.length) : (oz L)[i]? = some (.int .i64 (L.getD i 0)) := by simp [oz, List.getD, hi]
theorem oz_snoc (L : List Int) (x : Int) : oz (L ++ [x]) = oz L ++ [.int .i64 x] := by simp [oz]
/-- The slice v owns the integers L. -/
abbrev OwZ (W : World) (base : Nat) (v : Value) (L : List Int) : Prop := OwV 3 W base v (oz L)
theorem run_append_z (W : World) (base : Nat) (v : Value) (L : List Int) (x : Int) (hown : OwZ W base v L) (hn : L.length ≤ 1000000000) (hb : base ≤ W.heap.size) :
    ∃ g c W', (Builtin.append_ #[33, 33] 33 #[v, .slice (some ⟨W.heap.size, 0, none⟩) 1 1]).run Tryz.prog (W.alloc (.cells #[.int .i64 x] 3)) = .ok (.slice (some ⟨g, 0, none⟩) ((L.length + 1 : Nat)) c) W' ∧ OwZ W' base (.slice (some ⟨g, 0, none⟩) (L.length + 1) c) (L ++ [x]) ∧ ∀ n, n ≤ base → Below n W W' := by
  have := run_append_oneV 33 3 _ 8 Tryz.underlying33 info_int rfl (by decide) W base v (oz L) (.int .i64 x) rfl hown (by rw [oz_length]; exact hn) hb
  rw [← oz_snoc, oz_length, List.length_append] at this
  exact this
theorem Ns.but {k : IntKind} {S : Nat → Prop} {W W' : World} {q : Option Addr} {n : Nat} {L : List Int} (h : Ns k W q n L) (hb : But S W W') (hs : 0 < n → ∀ a, q = some a → ¬ S a.block) : Ns k W' q n L :=
  ⟨h.len, h.max, fun i hi => by
    obtain ⟨a, e, hl, hc⟩ := h.cell i hi
    exact ⟨a, e, Nat.lt_of_lt_of_le hl hb.size, (hb.cell (p := a.add i) (by rw [block_add]; exact hl) (by rw [block_add]; exact hs (by omega) a e)).trans hc⟩, h.wf⟩
/-- A list of integers that is told, apart from T. -/
structure Tz (W : World) (T : Nat) (q : Option Addr) (n c : Nat) (zs : List Int) : Prop where
  ns : Ns .i64 W q n zs
  le : n ≤ c
  off : Off T n q
theorem Tz.but {W W' : World} {T n c : Nat} {q : Option Addr} {zs : List Int} (h : Tz W T q n c zs) (hb : But (· = T) W W') : Tz W' T q n c zs := ⟨h.ns.but hb h.off, h.le, h.off⟩
theorem Tz.below {W W' : World} {T n c : Nat} {q : Option Addr} {zs : List Int} (h : Tz W T q n c zs) (hb : Below W.heap.size W W') : Tz W' T q n c zs := ⟨h.ns.below hb, h.le, h.off⟩
theorem OwV.tell_z {W : World} {base : Nat} {v : Value} {L : List Int} {n : Nat} (h : OwZ W base v L) (hw : ∀ z ∈ L, (Lit.int .i64 z).wf = true) (hl : L.length = n) : ∃ q c, v = .slice q n c ∧ Ns .i64 W q n L ∧ n ≤ c ∧ ∀ T, T < base → Off T n q := by
  subst hl
  rcases h.shape with ⟨rfl, h0⟩ | ⟨g, cap, rfl, h2, h3, h4, h5, h6, _⟩
  · obtain rfl : L = [] := by simpa [oz] using h0
    exact ⟨none, 0, rfl, ⟨rfl, by simp, fun i hi => absurd hi (Nat.not_lt_zero i), hw⟩, Nat.le_refl _, fun T _ _ a e => by cases e⟩
  · rw [oz_length] at h4 h6 ⊢
    refine ⟨some ⟨g, 0, none⟩, cap, rfl, ⟨rfl, by unfold maxLen at h5; omega, fun i hi => ⟨_, rfl, h3, ?_⟩, hw⟩, h4, fun T hT _ a e => by cases e; show ¬ g = T; omega⟩
    have hadd : (⟨g, 0, none⟩ : Addr).add i = ⟨g, i, none⟩ := by unfold Addr.add; split <;> simp_all
    rw [hadd, h6 i hi, oz_at L i hi]
theorem OwV.tz {W : World} {base T n : Nat} {v : Value} {L : List Int} (h : OwZ W base v L) (hT : T < base) (hw : ∀ z ∈ L, (Lit.int .i64 z).wf = true) (hn : L.length = n) : ∃ q c, v = .slice q n c ∧ Tz W T q n c L := by
  obtain ⟨q, c, e, S, C, Q⟩ := h.tell_z hw hn
  exact ⟨q, c, e, S, C, Q T hT⟩
/-- The element at an index. -/
theorem Ns.at {k : IntKind} {W : World} {q : Option Addr} {n : Nat} {L : List Int} (h : Ns k W q n L) {i : Nat} (hi : i < n) : (Lit.int k (L.getD i 0)).wf = true := by
  refine h.wf _ ?_
  have := h.len
  rw [List.getD_eq_getElem?_getD, List.getElem?_eq_getElem (by omega)]
  exact List.getElem_mem _
end Go.Proofs
/- A set of integers kept in a map from integers to truth values that a call has made: a new one, a look-up, a store. Conditions: not more entries than may be. -/
namespace Go.Proofs
open Go.RowKit Go.ChangeShapes Go.WideShapes Go.Maps

/-- Block b is a map that says of just the integers zs that they were met. -/
def Met (W : World) (b n : Nat) (zs : List Int) : Prop :=
  ∃ D : DataW Unit, W.ownsMap Tryz.prog 3 (plainElem Tryz.prog 4) b n D ∧ IsMap D ∧ ∀ z : Int, D.atKey (.int .i64 z) (.lit (.bool false)) = .lit (.bool (decide (z ∈ zs)))
theorem keyInt : Keyed Tryz.prog 3 := int_keyed Tryz.underlying3
theorem zeroBool (w : World) : (zeroValue 4).run Tryz.prog w = .ok (.bool false) w := by kernel_rfl
set_option maxRecDepth 100000 in
theorem plainElem_bool_inv {v : Value} {z : DataW Unit × List MemPlace} (h : plainElem Tryz.prog 4 v = some z) : ∃ x, v = .bool x ∧ z = (.lit (.bool x), []) := by
  unfold plainElem at h
  simp only [Tryz.underlying4] at h
  cases v <;> simp at h
  exact ⟨_, rfl, h.symm⟩
theorem met_new (w : World) : Met (w.alloc (.map #[] 0)) w.heap.size 0 [] := ⟨.map [], World.ownsMap_made _ _ _ _, isMap_empty, fun _ => rfl⟩
theorem Met.block {W W' : World} {b n : Nat} {zs : List Int} (h : Met W b n zs) (hb : W'.heap[b]? = W.heap[b]?) : Met W' b n zs := by
  obtain ⟨D, ⟨es, clock, h1, h2⟩, h3⟩ := h
  exact ⟨D, ⟨es, clock, hb.trans h1, h2⟩, h3⟩
theorem Met.lt {W : World} {b n : Nat} {zs : List Int} (h : Met W b n zs) : b < W.heap.size := by obtain ⟨D, h1, _⟩ := h; exact h1.lt
theorem Met.same {W : World} {b n : Nat} {zs ys : List Int} (h : Met W b n zs) (e : ∀ z, z ∈ zs ↔ z ∈ ys) : Met W b n ys := by
  obtain ⟨D, h1, h2, h3⟩ := h
  exact ⟨D, h1, h2, fun z => by rw [h3 z, decide_eq_decide.2 (e z)]⟩
set_option maxRecDepth 100000 in
theorem Met.look {W : World} {b n : Nat} {zs : List Int} (h : Met W b n zs) (z : Int) (hz : (Lit.int .i64 z).wf = true) : (Instr.lookup 125 (.map (some b)) (.int .i64 z) false).run Tryz.prog W = .ok (.bool (decide (z ∈ zs))) W := by
  obtain ⟨D, h1, _, h3⟩ := h
  obtain ⟨v, ps, hrun, hv⟩ := h1.lookup keyInt Tryz.underlying125 (zeroBool W) (plainElem_bool Tryz.underlying4 false) (keyOf_int_mk Tryz.underlying3 hz)
  obtain ⟨x, rfl, hx⟩ := plainElem_bool_inv hv
  have e := h3 z
  simp only [Prod.mk.injEq] at hx
  rw [hx.1] at e
  injection e with e1
  injection e1 with e2
  rw [e2] at hrun
  exact hrun
set_option maxRecDepth 100000 in
theorem Met.store {W : World} {b n : Nat} {zs : List Int} (h : Met W b n zs) (hn : n < maxLen) (z : Int) (hz : (Lit.int .i64 z).wf = true) :
    ∃ W', (Instr.mapUpdate 125 (.map (some b)) (.int .i64 z) (.bool true)).run Tryz.prog W = .ok () W' ∧ Met W' b (n + 1) (zs ++ [z]) ∧ W.grownBy W' (some b) := by
  obtain ⟨D, h1, h2, h3⟩ := h
  obtain ⟨W', hrun, r1, r2⟩ := h1.update keyInt Tryz.underlying125 hn (keyOf_int_mk Tryz.underlying3 hz) (plainElem_bool Tryz.underlying4 true)
  refine ⟨W', hrun, ⟨_, r1, h2.put _ _, fun y => ?_⟩, r2⟩
  by_cases e : y = z
  · subst e
    rw [atKey_put_same h2 (k := .int .i64 y) (show WideAt.IsKeyLit (.int .i64 y) from trivial), decide_eq_true (show y ∈ zs ++ [y] by simp)]
  · rw [atKey_put_other (fun k => e (by injection k)), h3 y]
    congr 2
    simp [e]
end Go.Proofs
/- The walk of synd.once at integers. Conditions: a list that is no great one. -/
namespace Go.Proofs
open Go.RowKit Go.ChangeShapes Go.WideShapes
attribute [local go_sem ↓ high] builtin_ap
attribute [local go_sem] ap_sem

set_option maxRecDepth 100000 in
set_option maxHeartbeats 1000000 in
theorem once_calls (q : Option Addr) (n c : Nat) (zs : List Int) (hn : n ≤ 1000000) (w : World) (hs : Ns .i64 w q n zs) :
    Calls Tryz.prog 53 #[.slice q n c] w fun e w' => ∃ v, e = .returned v ∧ OwZ w' w.heap.size v (onceL zs) ∧ Below w.heap.size w w' := by
  obtain ⟨R, hR⟩ : ∃ R, w.heap.size = R := ⟨_, rfl⟩
  have hM0 := met_new w
  obtain ⟨W0, hW0⟩ : ∃ W0, w.alloc (.map #[] 0) = W0 := ⟨_, rfl⟩
  rw [hW0, hR] at hM0
  have hB0 : Below R w W0 := by rw [← hW0, ← hR]; exact (Below.refl _ w).alloc (Nat.le_refl _) _
  have HS : Hid (Ns .i64 w q n zs ∧ w.heap.size = R) := ⟨hs, hR⟩
  have HI : Hid (Met W0 R 0 (zs.take 0) ∧ Below R w W0) := ⟨hM0, hB0⟩
  have hmm := @run_makeMap Tryz.prog
  clear hM0 hB0 hs
  go_enter Tryz.func53, Tryz.ntmps53
  go_wp2
  go_loopw [4, 10] (fun v i wr => ∃ t : Nat, t ≤ n ∧ i = .int .i64 (t : Int) ∧ OwZ wr (R + 1) v (onceL (zs.take t)) ∧ (∃ m, m ≤ t ∧ Met wr R m (zs.take t)) ∧ Below R w wr) (fun _ i _ => n - (intOf i).toNat)
  case atStart => exact ⟨0, by omega, rfl, owV_nil _ _ _, ⟨0, Nat.le_refl _, HI.out.1⟩, HI.out.2⟩
  case round =>
    obtain ⟨t, ht, rfl, hO, ⟨m, hm, hM⟩, hB⟩ := hrel
    by_cases hlt : t < n
    · have hi : (t : Int) < (n : Int) := by omega
      obtain ⟨a, ha, hal, hca⟩ := (HS.out.1.below (HS.out.2.symm ▸ hB)).cell t hlt
      have hw := HS.out.1.at hlt
      have htk : zs.take (t + 1) = zs.take t ++ [zs.getD t 0] := by have := HS.out.1.len; rw [List.take_succ_eq_append_getElem (by omega)]; simp [List.getD, show t < zs.length by omega]
      obtain ⟨z, hz⟩ : ∃ z, zs.getD t 0 = z := ⟨_, rfl⟩
      rw [hz] at hca hw htk
      subst ha
      have hlk := hM.look z hw
      by_cases hmem : z ∈ zs.take t
      · rw [decide_eq_true hmem] at hlk
        have HZ : Hid (OwZ wr (R + 1) u4 (onceL (zs.take (t + 1))) ∧ Met wr R m (zs.take (t + 1)) ∧ Below R w wr) := ⟨by rw [htk, onceL_yes hmem]; exact hO, hM.same fun y => by rw [htk, List.mem_append, List.mem_singleton]; exact ⟨.inl, fun h => h.elim id (fun e => e ▸ hmem)⟩, hB⟩
        clear hO hM hB htk hmem hw hz
        go_wp2
        go_roundw
        case rel => exact ⟨t + 1, by omega, by go_num, HZ.out.1, ⟨m, by omega, HZ.out.2.1⟩, HZ.out.2.2⟩
        case measure => simp [intOf]; omega
      · rw [decide_eq_false hmem] at hlk
        obtain ⟨W1, hup, hM1, hg1⟩ := hM.store (by unfold maxLen; omega) z hw
        have hO1 : OwZ W1 (R + 1) u4 (onceL (zs.take t)) := hO.block fun k hk => hg1.block k (hO.lt k hk).2 (fun e => by cases e; have := (hO.lt R hk).1; omega)
        have hsz1 : R + 1 ≤ W1.heap.size := Nat.le_trans hM.lt hg1.size
        obtain ⟨L, hL⟩ : ∃ L, onceL (zs.take t) = L := ⟨_, rfl⟩
        have hLl : L.length ≤ t := by rw [← hL]; have := onceL_length_le (zs.take t); rw [List.length_take] at this; omega
        rw [hL] at hO1
        obtain ⟨g, cg, W2, hap, hO2, hbw⟩ := run_append_z W1 (R + 1) u4 L z hO1 (by omega) hsz1
        obtain ⟨l, hl⟩ : ∃ l, L.length + 1 = l := ⟨_, rfl⟩
        rw [hl] at hap
        have ha1 := ap_ok hap
        have ha2 := ap_v hap
        have ha3 := ap_w hap
        have hb2 := hbw _ (Nat.le_refl _)
        have HZ : Hid (OwZ W2 (R + 1) (.slice (some ⟨g, 0, none⟩) l cg) (onceL (zs.take (t + 1))) ∧ Met W2 R (m + 1) (zs.take (t + 1)) ∧ Below R w W2) := by
          refine ⟨by rw [htk, onceL_no hmem, hL, ← hl]; exact hO2, by rw [htk]; exact hM1.block (hb2.block R (by omega)), ?_⟩
          exact (hB.grown hg1 (by have := hM.lt; omega) (fun k e => by cases e; exact Nat.le_refl _)).trans (hb2.mono (by omega))
        clear hO hM hB htk hmem hw hz hM1 hg1 hO1 hO2 hbw hb2 hap hL hl hLl
        go_wp2
        go_roundw
        case rel => exact ⟨t + 1, by omega, by go_num, HZ.out.1, ⟨m + 1, by omega, HZ.out.2.1⟩, HZ.out.2.2⟩
        case measure => simp [intOf]; omega
    · obtain rfl : t = n := by omega
      have HZ : Hid (OwZ wr R u4 (onceL zs) ∧ Below R w wr) := ⟨by have := hO.mono (b := R) (by omega); rwa [List.take_of_length_le (by have := HS.out.1.len; omega)] at this, hB⟩
      clear hO hM hB
      go_wp2
      go_ret
      exact ⟨_, rfl, hR.symm ▸ HZ.out.1, hR.symm ▸ HZ.out.2⟩
end Go.Proofs
/- append of a list of integers to what is owned. Conditions: bounds on lengths. -/
namespace Go.Proofs
open Go.RowKit Go.ChangeShapes Go.WideShapes

theorem run_append_nonez (W : World) (base : Nat) (v : Value) (L : List Int) (c : Nat) (hown : OwZ W base v L) : (Builtin.append_ #[33, 33] 33 #[v, .slice none 0 c]).run Tryz.prog W = .ok v W := by
  obtain ⟨i, hi, hz, hsz, hby⟩ := info_parts info_int
  have ht : Tryz.prog.underlying 33 = some (.slice 3) := Tryz.underlying33
  rcases hown.shape with ⟨rfl, h0⟩ | ⟨g, cap, rfl, h2, h3, hle, h5, h6, _⟩
  · simp [Builtin.append_, run_underlying ht, sizeOf, typeInfo, hi, Builtin.lenOf, Builtin.firstCells]
  · simp [Builtin.append_, run_underlying ht, sizeOf, typeInfo, hi, Builtin.lenOf, Builtin.firstCells, hle, storeCells]
theorem run_append_zs (W : World) (base : Nat) (v : Value) (L : List Int) (q : Option Addr) (n c : Nat) (M : List Int) (hown : OwZ W base v L) (hs : Ns .i64 W q n M) (hn : L.length + n ≤ 1000000) (hb : base ≤ W.heap.size) :
    ∃ v' W', (Builtin.append_ #[33, 33] 33 #[v, .slice q n c]).run Tryz.prog W = .ok v' W' ∧ OwZ W' base v' (L ++ M) ∧ W.grownBy W' v.ownBlock := by
  have hl := hs.len
  cases q with
  | none =>
    have h0 : n = 0 := by
      rcases Nat.eq_zero_or_pos n with h | h
      · exact h
      · obtain ⟨_, e, _⟩ := hs.cell 0 h; cases e
    subst h0
    obtain rfl : M = [] := List.length_eq_zero_iff.1 hl
    exact ⟨v, W, run_append_nonez W base v L c hown, by rw [List.append_nil]; exact hown, ⟨rfl, rfl, rfl, Nat.le_refl _, fun _ _ _ => rfl⟩⟩
  | some ad =>
    subst hl
    obtain ⟨i, hi, hz, hsz, hby⟩ := info_parts info_int
    obtain ⟨v', W', h1, h2, h3, _⟩ := run_append_own (P := Tryz.prog) W base 33 33 3 i (.int .i64 0) 1 8 Tryz.underlying33 hi hz hsz hby rfl (by decide) v (oz L).length (oz L) hown ad M.length c (oz M) (by rw [oz_length, Nat.mul_one]) (fun j u hj => by
        have hl : j < M.length := by
          rw [← oz_length M]
          exact (List.getElem?_eq_some_iff.1 hj).1
        obtain ⟨a, e, _, hc⟩ := hs.cell j hl
        cases e
        rw [hc]
        rw [oz_at M j hl] at hj
        exact hj) (fun u hu => by
        simp only [oz] at hu
        obtain ⟨x, _, rfl⟩ := List.mem_map.1 hu
        rfl) (by rw [oz_length]; unfold maxLen; omega) (by rw [oz_length]; omega) hb
    refine ⟨v', W', h1, ?_, h3⟩
    have e : oz (L ++ M) = oz L ++ oz M := by simp [oz]
    show World.ownsRow _ _ _ _ _ _ _
    rw [e, List.length_append, oz_length M]
    exact h2
end Go.Proofs
