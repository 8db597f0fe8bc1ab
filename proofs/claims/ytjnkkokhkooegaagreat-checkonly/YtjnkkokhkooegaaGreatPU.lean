/- The walk of check.Apart: the places at which two lists are unlike. Conditions: lists of at most a million bytes. -/
import Derived.Test.YtjnkkokhkooegaaGreatOV
import Derived.Test.YtjnkkokhkooegaaGreatOK
namespace Go.Proofs
open Go.RowKit Go.Shelf Go.ChangeShapes Go.WideShapes
attribute [local go_sem] Oper.semAt_some
attribute [local go_sem ↓ high] builtin_ap
attribute [local go_sem] ap_sem

/-- 'out = append(out, i)' of integers: behind the append and the store into the variable's box. -/
theorem appendedZ {W w1 : World} {n₀ B b0 : Nat} {v v' : Value} {xs ys : List Int} (hv : Boxed W B 33 v) (hrow : OwZ W n₀ v xs) (hn₀ : b0 ≤ W.heap.size) (h0 : b0 ≤ n₀) (hB : b0 ≤ B) (hown' : OwZ w1 n₀ v' ys) (hgrow : W.grownBy w1 v.ownBlock) :
    Boxed w1 B 33 v ∧ Boxed (w1.setCell ⟨B, 0, none⟩ v') B 33 v' ∧ OwZ (w1.setCell ⟨B, 0, none⟩ v') n₀ v' ys ∧ KeepsOthers W (w1.setCell ⟨B, 0, none⟩ v') ∧ Below b0 W (w1.setCell ⟨B, 0, none⟩ v') ∧ But (fun k => k = B ∨ n₀ ≤ k) W (w1.setCell ⟨B, 0, none⟩ v') := by
  have hv1 : Boxed w1 B 33 v := hv.kept hgrow (hv.not_row (by decide) hrow)
  refine ⟨hv1, hv1.set v', World.ownsRow.kept hown' (grownBy_setCell' w1 B v') (.inr (hv1.not_row (by decide) hown').symm), ?_, ?_, ?_⟩
  · refine (KeepsOthers.of_grownBy hgrow fun j o ej hj => ?_).trans (KeepsOthers.setCell _ _ _)
    rcases hrow.2 with ⟨rfl, _⟩ | ⟨g, cap, cur, rfl, _, hgb, _⟩
    · simp [Value.ownBlock] at ej
    · obtain rfl : g = j := by simpa [Value.ownBlock] using ej
      rw [hgb] at hj; cases hj; rfl
  · refine ((Below.refl b0 W).grown hgrow hn₀ fun j ej => ?_).setCell (p := ⟨B, 0, none⟩) hB v'
    exact Nat.le_trans h0 (hrow.lt j ej).1
  · have h1 : But (fun k => k = B ∨ n₀ ≤ k) W w1 := ⟨hgrow.os, hgrow.tape, hgrow.output, hgrow.size, fun k hk hs => hgrow.block k hk (fun e => hs (.inr (hrow.lt k e.symm).1))⟩
    exact h1.setCell (p := ⟨B, 0, none⟩) (.inl (.inl rfl)) _
theorem ns_oneA (W : World) (x : Int) (hx : (Lit.int .i64 x).wf = true) : Ns .i64 (W.alloc (.cells #[.int .i64 x] 3)) (some ⟨W.heap.size, 0, none⟩) 1 [x] :=
  ⟨rfl, by omega, fun i hi => by
    obtain rfl : i = 0 := by omega
    refine ⟨_, rfl, by simp, ?_⟩
    show (W.alloc _).cell? ⟨W.heap.size, 0, none⟩ = _
    rw [World.cell?_alloc_at _ _ _ _ rfl]; rfl, fun z hz => by rw [List.mem_singleton] at hz; rw [hz]; exact hx⟩

set_option maxRecDepth 100000 in
set_option maxHeartbeats 2000000 in
theorem apart_in (D : Nat) (hD : 3 ≤ D) (q p : Option Addr) (n c m d : Nat) (xs ys : List Nat) (hn : n ≤ 1000000) (w : World) (hs : Bs w q n xs) (hy : Bs w p m ys) :
    CallsIn Fence.wide D Tryz.prog 18 #[.slice q n c, .slice p m d] w fun e w' => ∃ v, e = .returned v ∧ OwZ w' w.heap.size v ((Cd.ap xs ys).map fun i : Nat => (i : Int)) ∧ Below w.heap.size w w' := by
  obtain ⟨t, ht⟩ : ∃ t, min n m = t := ⟨_, rfl⟩
  have HT : Hid (min n m = t ∧ n ≤ 1000000 ∧ xs.length = n ∧ ys.length = m) := ⟨ht, hn, hs.len, hy.len⟩
  have HS : Hid (Bs w q n xs ∧ Bs w p m ys) := ⟨hs, hy⟩
  clear hs hy ht hn
  refine callsIn_of_wp_marks Tryz.func18 rfl trivial ?_ rfl
  simp only [Tryz.ntmps18, List.size_toArray, List.length_cons, List.length_nil, Nat.reduceAdd, Nat.reduceSub, Array.replicate_succ, Array.replicate_zero, List.push_toArray, List.append_toArray, List.nil_append, List.cons_append]
  have hfn : ∀ f, Fence.wide.fn f := fun _ => trivial
  have hD1 : 1 ≤ D := by omega
  gi_wp2_with (gi_at_call 40; refine (sums_calls (D - 1) q p n c m d _).mono ?_; rintro e w' ⟨rfl, rfl⟩)
  obtain ⟨R, hR⟩ : ∃ R, w.heap.size = R := ⟨_, rfl⟩
  obtain ⟨W0, hW0⟩ : ∃ W0, ((w.alloc (.cells #[.slice none 0 0] 33)).alloc (.cells #[.slice q n c] 22)).alloc (.cells #[.slice p m d] 22) = W0 := ⟨_, rfl⟩
  have hsz : W0.heap.size = R + 3 := by rw [← hW0, ← hR]; simp
  have hB0 : Below R w W0 := by rw [← hW0, ← hR]; exact (((Below.refl _ w).alloc (Nat.le_refl _) _).alloc (by simp) _).alloc (by simp; omega) _
  have i1 : Boxed W0 R 33 (.slice none 0 0) := by rw [← hW0, ← hR]; exact ((Boxed.new w _ _).alloc _).alloc _
  have i2 : Boxed W0 (R + 1) 22 (.slice q n c) := by
    have := (Boxed.new (w.alloc (.cells #[.slice none 0 0] 33)) 22 (.slice q n c)).alloc (.cells #[.slice p m d] 22)
    rw [hW0] at this
    simpa [hR] using this
  have i3 : Boxed W0 (R + 1 + 1) 22 (.slice p m d) := by
    have := Boxed.new ((w.alloc (.cells #[.slice none 0 0] 33)).alloc (.cells #[.slice q n c] 22)) 22 (.slice p m d)
    rw [hW0] at this
    simpa [hR] using this
  have s1 : Bs W0 q n xs := HS.out.1.below (hR.symm ▸ hB0)
  have s2 : Bs W0 p m ys := HS.out.2.below (hR.symm ▸ hB0)
  rw [hW0, hR]
  clear hW0
  refine wpIn_rangeFunc_ownF rfl hD1 (gf := 57) (lb := #[.pointer (some ⟨R + 1, 0, none⟩), .pointer (some ⟨R + 1 + 1, 0, none⟩)]) rfl trivial (enters_of Tryz.func57 (by kernel_rfl) rfl)
    (sums1_stops (D - 1) (by omega) (R + 1) (R + 1 + 1) q p n c m d t xs ys HT.out.1 _ (by omega) (by omega) i2.cell i3.cell s1 s2) keepsQ_t (fun W l o o' _ h1 h2 _ => keepsQ_b W l o o' h1 h2) (Below.refl _ _) (fun _ => rfl)
    (fun pre W => ((Boxed W (R + 1) 22 (.slice q n c) ∧ Boxed W (R + 1 + 1) 22 (.slice p m d)) ∧ ∃ v, Boxed W R 33 v ∧ W.ownsRow (R + 1 + 1 + 1) 3 1 v (oz ((apF xs ys pre).map fun i : Nat => (i : Int))).length (oz ((apF xs ys pre).map fun i : Nat => (i : Int))) ∧ True) ∧ Below R w W)
    (fun _ _ _ => False)
    (OwnFrom.and (OwnFrom.and (OwnFrom.and (Own.from (boxed_own _ _ _) _) (Own.from (boxed_own _ _ _) _)) (Own.from (holdsRow_own _ _ _ _ _ _ _ _) _)) (ownFrom_below (by omega) (by omega)))
    (fun _ _ _ _ _ hs _ _ => hs)
    ⟨⟨⟨i2, i3⟩, ⟨_, i1, owV_nil _ _ _, trivial⟩⟩, hB0⟩
    (fun x => { tmps := #[.slice q n c, .slice p m d, undef, undef, .slice none 0 0, .pointer (some ⟨R, 0, none⟩), .int .i64 ((x.1 : Nat) : Int), .int .u8 ((xs.getD x.1 0 ^^^ ys.getD x.1 0 : Nat) : Int), .slice q n c, .slice p m d, .func (.func 57) #[] #[.pointer (some ⟨R + 1, 0, none⟩), .pointer (some ⟨R + 1 + 1, 0, none⟩)], .int .i64 ((x.1 : Nat) : Int), .int .u8 ((xs.getD x.1 0 ^^^ ys.getD x.1 0 : Nat) : Int), undef, undef, undef, undef, undef, undef, undef], defers := [] }) ?assign ?body ?done ?stop
  case assign =>
    intro l x W K hK
    obtain ⟨i, hi⟩ := x
    dsimp only [smv] at hK ⊢
    obtain ⟨b, hb⟩ : ∃ b, xs.getD i 0 ^^^ ys.getD i 0 = b := ⟨_, rfl⟩
    rw [hb] at hK ⊢
    gi_wp2
    exact hK
  case body =>
    rintro l pre x W ⟨⟨⟨hA, hC⟩, v, hv, hrow0, _⟩, hB⟩ hlen
    have hrow : OwZ W (R + 1 + 1 + 1) v ((apF xs ys pre).map fun i : Nat => (i : Int)) := hrow0
    clear i1 i2 i3 hB0 hrow0 s1 s2
    obtain ⟨i, hi⟩ := x
    dsimp only
    have hll : (apF xs ys pre).length < 1000000 := by have := apF_length xs ys pre; have := HT.out; omega
    have e1 := apF_yes (xs := xs) (ys := ys) (pre := pre) (x := ⟨i, hi⟩)
    have e2 := apF_no (xs := xs) (ys := ys) (pre := pre) (x := ⟨i, hi⟩)
    dsimp only at e1 e2
    have hx0 := xor_ne_zero (a := xs.getD i 0) (b := ys.getD i 0)
    obtain ⟨b, hb⟩ : ∃ b, xs.getD i 0 ^^^ ys.getD i 0 = b := ⟨_, rfl⟩
    rw [hb] at hx0 ⊢
    by_cases hz : xs.getD i 0 = ys.getD i 0
    · obtain rfl : b = 0 := hx0.2 hz
      have HZ : Hid (((Boxed W (R + 1) 22 (.slice q n c) ∧ Boxed W (R + 1 + 1) 22 (.slice p m d)) ∧ ∃ v, Boxed W R 33 v ∧ W.ownsRow (R + 1 + 1 + 1) 3 1 v (oz ((apF xs ys (pre ++ [⟨i, hi⟩])).map fun i : Nat => (i : Int))).length (oz ((apF xs ys (pre ++ [⟨i, hi⟩])).map fun i : Nat => (i : Int))) ∧ True) ∧ Below R w W) := by
        rw [e2 hz]; exact ⟨⟨⟨hA, hC⟩, v, hv, hrow, trivial⟩, hB⟩
      clear hA hC hv hrow hB e1 e2 hx0 hb hz
      gi_wp2
      exact ⟨KeepsOthers.refl _, ⟨KeepsP.refl _ _ _ _, KeepsP.refl _ _ _ _⟩, HZ.out⟩
    · have hne : ((b : Int) != 0) = true := by have := mt hx0.1 hz; simp; omega
      have e3 := e1 hz
      obtain ⟨L, hL⟩ : ∃ L, (apF xs ys pre).map (fun i : Nat => (i : Int)) = L := ⟨_, rfl⟩
      have hLl : L.length < 1000000 := by rw [← hL, List.length_map]; exact hll
      rw [hL] at hrow
      have e4 : (apF xs ys (pre ++ [⟨i, hi⟩])).map (fun i : Nat => (i : Int)) = L ++ [(i : Int)] := by rw [e3, ozn_snoc, hL]
      have hRW : R + 1 + 1 + 1 ≤ W.heap.size := hC.lt
      obtain ⟨V, hV⟩ : ∃ V, W.alloc (.cells #[.int .i64 (i : Nat)] 3) = V := ⟨_, rfl⟩
      have hbV : Below W.heap.size W V := hV ▸ (Below.refl _ W).alloc (Nat.le_refl _) _
      have hVs : W.heap.size < V.heap.size := by rw [← hV]; simp
      have rowV : OwZ V (R + 1 + 1 + 1) v L := hrow.below hbV
      have nsV : Ns .i64 V (some ⟨W.heap.size, 0, none⟩) 1 [(i : Int)] := hV ▸ ns_oneA W (i : Int) (WalkArith.wf_i64 (by have := HT.out; omega))
      obtain ⟨v', W', hap, hO', hgr⟩ := run_append_zs V (R + 1 + 1 + 1) v L (some ⟨W.heap.size, 0, none⟩) 1 1 [(i : Int)] rowV nsV (by omega) (by omega)
      obtain ⟨g', n', c', rfl⟩ : ∃ g' n' c', v' = .slice (some ⟨g', 0, none⟩) n' c' := by
        rcases OwV.shape hO' with ⟨_, h0⟩ | ⟨g', c', h1, _⟩
        · exact absurd (congrArg List.length h0) (by simp [oz])
        · exact ⟨g', _, c', h1⟩
      obtain ⟨b1, b2, b3, b4, b5, b6⟩ := appendedZ (B := R) (b0 := R) (boxed_below hv hbV) rowV (by omega) (by omega) (Nat.le_refl _) hO' hgr
      have ha1 := ap_ok hap
      have ha2 := ap_v hap
      have ha3 := ap_w hap
      have hb7 : But (fun k => k = R ∨ R + 1 + 1 + 1 ≤ k) W (W'.setCell ⟨R, 0, none⟩ (.slice (some ⟨g', 0, none⟩) n' c')) := ((But.of_below (S := fun k => k = R ∨ R + 1 + 1 + 1 ≤ k) hbV)).trans b6
      have HZ : Hid (KeepsOthers W (W'.setCell ⟨R, 0, none⟩ (.slice (some ⟨g', 0, none⟩) n' c')) ∧ KeepsQ (R + 1) (R + 1 + 1) q p n m W (W'.setCell ⟨R, 0, none⟩ (.slice (some ⟨g', 0, none⟩) n' c')) ∧ ((Boxed (W'.setCell ⟨R, 0, none⟩ (.slice (some ⟨g', 0, none⟩) n' c')) (R + 1) 22 (.slice q n c) ∧ Boxed (W'.setCell ⟨R, 0, none⟩ (.slice (some ⟨g', 0, none⟩) n' c')) (R + 1 + 1) 22 (.slice p m d)) ∧ ∃ v, Boxed (W'.setCell ⟨R, 0, none⟩ (.slice (some ⟨g', 0, none⟩) n' c')) R 33 v ∧ (W'.setCell ⟨R, 0, none⟩ (.slice (some ⟨g', 0, none⟩) n' c')).ownsRow (R + 1 + 1 + 1) 3 1 v (oz ((apF xs ys (pre ++ [⟨i, hi⟩])).map fun i : Nat => (i : Int))).length (oz ((apF xs ys (pre ++ [⟨i, hi⟩])).map fun i : Nat => (i : Int))) ∧ True) ∧ Below R w (W'.setCell ⟨R, 0, none⟩ (.slice (some ⟨g', 0, none⟩) n' c'))) := by
        rw [e4]
        refine ⟨(keepsOthers_below hbV).trans b4, ⟨keepsP_but hb7 (by omega) (fun h1 a e hk => ?_), keepsP_but hb7 (by omega) (fun h1 a e hk => ?_)⟩, ⟨⟨boxed_but hA hb7 (by omega), boxed_but hC hb7 (by omega)⟩, _, b2, b3, trivial⟩, (hB.trans (hbV.mono (by omega))).trans b5⟩
        · obtain ⟨a', e', hl', _⟩ := HS.out.1.cell 0 h1
          obtain rfl : a' = a := Option.some.inj (e'.symm.trans e)
          omega
        · obtain ⟨a', e', hl', _⟩ := HS.out.2.cell 0 h1
          obtain rfl : a' = a := Option.some.inj (e'.symm.trans e)
          omega
      have cP := hv.cell
      have c1 := b1.cell
      have f1 := b1.frozen
      clear hA hC hv hrow hB e1 e2 e3 e4 hx0 hb hz b1 b2 b3 b4 b5 b6 hb7 rowV nsV hap hO' hgr hbV hVs hL hLl hll hRW
      gi_wp2
      exact HZ.out
  case done =>
    rintro D' zs W hD' hS ⟨⟨⟨hA, hC⟩, v, hv, hrow0, _⟩, hB⟩ hK
    obtain rfl : zs = _ := hS
    have e0 : apF xs ys (upT t t) = Cd.ap xs ys := by
      have := apF_all xs ys
      rwa [HT.out.2.2.1, HT.out.2.2.2, HT.out.1] at this
    rw [e0] at hrow0
    have cP := hv.cell
    have HZ : Hid (OwZ W R v ((Cd.ap xs ys).map fun i : Nat => (i : Int)) ∧ Below R w W) := ⟨OwV.mono (show OwZ W (R + 1 + 1 + 1) v _ from hrow0) (by omega), hB⟩
    clear hrow0 hB hA hC hv i1 i2 i3 hB0 s1 s2
    gi_wp2
    refine ⟨by simp, .inl ⟨_, _, rfl, run_takeDeferred hK, ?_⟩⟩
    refine ⟨_, results_tmp rfl _ _ _, _, rfl, ownsRow_putObj (show W.ownsRow w.heap.size 3 1 v (oz ((Cd.ap xs ys).map fun i : Nat => (i : Int))).length (oz ((Cd.ap xs ys).map fun i : Nat => (i : Int))) from hR.symm ▸ HZ.out.1) _ hK rfl, ?_⟩
    rw [hR]
    exact HZ.out.2.trans (belowK_b (w := w) (by omega) W D' _ _ (by omega) hK rfl rfl)
  case stop =>
    rintro D' c' pre W _ _ h _
    exact h.elim
theorem apart_calls (q p : Option Addr) (n c m d : Nat) (xs ys : List Nat) (hn : n ≤ 1000000) (w : World) (hs : Bs w q n xs) (hy : Bs w p m ys) :
    Calls Tryz.prog 18 #[.slice q n c, .slice p m d] w fun e w' => ∃ v, e = .returned v ∧ OwZ w' w.heap.size v ((Cd.ap xs ys).map fun i : Nat => (i : Int)) ∧ Below w.heap.size w w' :=
  (callsIn_wide (n := 3)).1 (apart_in 3 (by omega) q p n c m d xs ys hn w hs hy)
end Go.Proofs
