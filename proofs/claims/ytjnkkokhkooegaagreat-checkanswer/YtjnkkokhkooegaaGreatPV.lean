/- Texts laid together: ChB, ChW. Each says its own conditions. -/
import Derived.Shelf.Slices.SearchI
import Derived.Shelf.Slices.Empties
import Derived.Test.YtjnkkokhkooegaaGreatOL
import Derived.Test.YtjnkkokhkooegaaGreatPU
/- slices.BinarySearch of integers that a call owns, off the shelf of contracts. Conditions: they rise; they are no great many. -/
namespace Go.Proofs
open Go.RowKit Go.ChangeShapes Go.WideShapes

def searchz_ren : Go.Shelf.Ren := ⟨fun | 25 => 42 | 31 => 59 | 32 => 60 | 37 => 77 | n => n, fun | 0 => 0 | 3 => 3 | 4 => 4 | 22 => 33 | 40 => 111 | n => n, fun n => n⟩
theorem searchz : Lays2.n25 Tryz.prog searchz_ren := {
  mixed := by kernel_rfl,
  f25 := Tryz.func42.trans (congrArg some (by kernel_rfl)),
  f31 := Tryz.func59.trans (congrArg some (by kernel_rfl)),
  f32 := Tryz.func60.trans (congrArg some (by kernel_rfl)),
  f37 := Tryz.func77.trans (congrArg some (by kernel_rfl)),
  t0 := Tryz.underlying0,
  a0 := Tryz.isAgg0,
  z0 := Tryz.sizeOf0,
  v0 := Tryz.zeroValue0,
  t3 := Tryz.underlying3,
  a3 := Tryz.isAgg3,
  z3 := Tryz.sizeOf3,
  v3 := Tryz.zeroValue3,
  t4 := Tryz.underlying4,
  a4 := Tryz.isAgg4,
  z4 := Tryz.sizeOf4,
  v4 := Tryz.zeroValue4,
  t22 := Tryz.underlying33,
  a22 := Tryz.isAgg33,
  z22 := Tryz.sizeOf33,
  v22 := Tryz.zeroValue33,
  t40 := Tryz.underlying111,
  a40 := Tryz.isAgg111,
  z40 := Tryz.sizeOf111,
  v40 := Tryz.zeroValue111 }
theorem bsearch_own (base : Nat) (v : Value) (L : List Int) (x : Int) (hl : L.length ≤ 1000000) (hs : L.Pairwise (· < ·)) (w : World) (h : OwZ w base v L) :
    Calls Tryz.prog 42 #[v, .int .i64 x] w fun e w' => (∃ k : Int, e = .returned (.tuple #[.int .i64 k, .bool (decide (x ∈ L))])) ∧ ∃ nq, w' = w.drewN nq := by
  rcases OwV.shape h with ⟨rfl, h0⟩ | ⟨g, cap, rfl, h2, h3, h4, h5, h6, _⟩
  · obtain rfl : L = [] := by simpa [oz] using h0
    exact (Any.slices_BinarySearch_int_empty searchz none 0 x w).mono fun e w' ⟨he, hw⟩ => ⟨⟨0, by simpa using he⟩, 0, hw⟩
  · rw [oz_length] at h4 h6 ⊢
    refine (Any.slices_BinarySearch_int searchz g 0 L.length cap L x w (Nat.le_refl _) (by omega) (fun j hj => ?_) ?_).mono fun e w' ⟨he, hw⟩ => ⟨⟨((L.countP fun y => decide (y < x) : Nat) : Int), ?_⟩, hw⟩
    · rw [Nat.zero_add, h6 j hj, oz_at L j hj]
    · rw [List.take_length]; exact hs.imp fun h => Int.le_of_lt h
    · rw [he, List.take_length, List.contains_eq_mem]
end Go.Proofs
/- The walk of check.Wrong: how many unlike places are not among some integers. Conditions: lists of at most a million. -/
namespace Go.Proofs
open Go.RowKit Go.Shelf Go.ChangeShapes Go.WideShapes
attribute [local go_sem] Oper.semAt_some

/-- How many of those that have come. -/
def wrF (xs ys : List Nat) (e : List Int) {t : Nat} (pre : List (Tm t)) : Nat := ((apF xs ys pre).filter fun i : Nat => decide ((i : Int) ∉ e)).length
theorem wrF_yes {xs ys : List Nat} {e : List Int} {t : Nat} {pre : List (Tm t)} {x : Tm t} (h : xs.getD x.1 0 ≠ ys.getD x.1 0) (he : (x.1 : Int) ∉ e) : wrF xs ys e (pre ++ [x]) = wrF xs ys e pre + 1 := by
  unfold wrF; rw [apF_yes h, List.filter_append, List.length_append]
  congr 1
  rw [List.filter_cons, if_pos (by simpa using he)]; rfl
theorem wrF_in {xs ys : List Nat} {e : List Int} {t : Nat} {pre : List (Tm t)} {x : Tm t} (he : (x.1 : Int) ∈ e) : wrF xs ys e (pre ++ [x]) = wrF xs ys e pre := by
  by_cases h : xs.getD x.1 0 = ys.getD x.1 0
  · unfold wrF; rw [apF_no h]
  · unfold wrF; rw [apF_yes h, List.filter_append, List.length_append]
    rw [List.filter_cons, if_neg (by simpa using he)]; rfl
theorem wrF_no {xs ys : List Nat} {e : List Int} {t : Nat} {pre : List (Tm t)} {x : Tm t} (h : xs.getD x.1 0 = ys.getD x.1 0) : wrF xs ys e (pre ++ [x]) = wrF xs ys e pre := by unfold wrF; rw [apF_no h]
theorem wrF_le (xs ys : List Nat) (e : List Int) {t : Nat} (pre : List (Tm t)) : wrF xs ys e pre ≤ pre.length := Nat.le_trans (List.length_filter_le _ _) (apF_length xs ys pre)
theorem wrF_all (xs ys : List Nat) (e : List Int) : wrF xs ys e (upT (min xs.length ys.length) (min xs.length ys.length)) = Cd.wrZ xs ys e := by
  unfold wrF Cd.wrZ; rw [apF_all]

set_option maxRecDepth 100000 in
set_option maxHeartbeats 2000000 in
theorem wrong_in (D : Nat) (hD : 3 ≤ D) (q p s : Option Addr) (n c m d l k : Nat) (xs ys : List Nat) (zs : List Int) (hn : n ≤ 1000000) (hl : l ≤ 1000000) (w : World) (hs : Bs w q n xs) (hy : Bs w p m ys) (hz : Ns .i64 w s l zs) :
    CallsIn Fence.wide D Tryz.prog 20 #[.slice q n c, .slice p m d, .slice s l k] w fun e w' => e = .returned (.int .i64 (Cd.wrZ xs ys zs : Nat)) ∧ Below w.heap.size w w' := by
  obtain ⟨t, ht⟩ : ∃ t, min n m = t := ⟨_, rfl⟩
  have HT : Hid (min n m = t ∧ n ≤ 1000000 ∧ xs.length = n ∧ ys.length = m) := ⟨ht, hn, hs.len, hy.len⟩
  have HS : Hid (Bs w q n xs ∧ Bs w p m ys) := ⟨hs, hy⟩
  have K := sorted_calls s l k zs hl w hz
  obtain ⟨L, hL⟩ : ∃ L, sorL zs = L := ⟨_, rfl⟩
  have hS := sorL_isSor zs
  rw [hL] at hS K
  have HL : Hid (IsSor zs L ∧ L.length ≤ 1000000 ∧ ∀ z ∈ L, (Lit.int .i64 z).wf = true) := ⟨hS, Nat.le_trans hS.length_le (by rw [hz.len]; exact hl), fun z hm => hz.wf z ((hS.mem z).1 hm)⟩
  clear hs hy ht hn hL hS hz hl
  refine callsIn_of_wp_marks Tryz.func20 rfl trivial ?_ rfl
  simp only [Tryz.ntmps20, List.size_toArray, List.length_cons, List.length_nil, Nat.reduceAdd, Nat.reduceSub, Array.replicate_succ, Array.replicate_zero, List.push_toArray, List.append_toArray, List.nil_append, List.cons_append]
  have hfn : ∀ f, Fence.wide.fn f := fun _ => trivial
  have hD1 : 1 ≤ D := by omega
  gi_wp2_with fail
  refine (callsIn_wide.2 K).mono ?_
  rintro e w1 ⟨v, rfl, hO, hb⟩
  obtain ⟨m0, hm0⟩ : ∃ m0, L.length = m0 := ⟨_, rfl⟩
  obtain ⟨q0, c0, rfl, hN, hc0, -⟩ := hO.tell_z (n := m0) HL.out.2.2 hm0
  have HO : Hid (OwZ w1 w.heap.size (.slice q0 m0 c0) L ∧ Below w.heap.size w w1) := ⟨hO, hb⟩
  clear K hO hb hN
  gi_wp2_with (gi_at_call 40; refine (sums_calls (D - 1) q p n c m d _).mono ?_; rintro e w' ⟨rfl, rfl⟩)
  obtain ⟨A, hA⟩ : ∃ A, w.heap.size = A := ⟨_, rfl⟩
  obtain ⟨R, hR⟩ : ∃ R, w1.heap.size = R := ⟨_, rfl⟩
  obtain ⟨W0, hW0⟩ : ∃ W0, (((w1.alloc (.cells #[.int .i64 0] 3)).alloc (.cells #[.slice q0 m0 c0] 33)).alloc (.cells #[.slice q n c] 22)).alloc (.cells #[.slice p m d] 22) = W0 := ⟨_, rfl⟩
  have hAR : A ≤ R := by rw [← hA, ← hR]; exact HO.out.2.size
  have hsz : W0.heap.size = R + 4 := by rw [← hW0, ← hR]; simp
  have hb1 : Below R w1 W0 := by rw [← hW0, ← hR]; exact ((((Below.refl _ w1).alloc (Nat.le_refl _) _).alloc (by simp) _).alloc (by simp; omega) _).alloc (by simp; omega) _
  have hB0 : Below A w W0 := by rw [← hA]; exact HO.out.2.trans (hb1.mono (by rw [← hR]; exact HO.out.2.size))
  have i0 : Boxed W0 R 3 (.int .i64 0) := by rw [← hW0, ← hR]; exact (((Boxed.new w1 _ _).alloc _).alloc _).alloc _
  have i1 : Boxed W0 (R + 1) 33 (.slice q0 m0 c0) := by
    have := ((Boxed.new (w1.alloc (.cells #[.int .i64 0] 3)) 33 (.slice q0 m0 c0)).alloc (.cells #[.slice q n c] 22)).alloc (.cells #[.slice p m d] 22)
    rw [hW0] at this
    simpa [hR] using this
  have i2 : Boxed W0 (R + 1 + 1) 22 (.slice q n c) := by
    have := (Boxed.new ((w1.alloc (.cells #[.int .i64 0] 3)).alloc (.cells #[.slice q0 m0 c0] 33)) 22 (.slice q n c)).alloc (.cells #[.slice p m d] 22)
    rw [hW0] at this
    simpa [hR] using this
  have i3 : Boxed W0 (R + 1 + 1 + 1) 22 (.slice p m d) := by
    have := Boxed.new (((w1.alloc (.cells #[.int .i64 0] 3)).alloc (.cells #[.slice q0 m0 c0] 33)).alloc (.cells #[.slice q n c] 22)) 22 (.slice p m d)
    rw [hW0] at this
    simpa [hR] using this
  have o0 : OwZ W0 A (.slice q0 m0 c0) L := hA ▸ HO.out.1.below (hR.symm ▸ hb1)
  have s1 : Bs W0 q n xs := HS.out.1.below (hA.symm ▸ hB0)
  have s2 : Bs W0 p m ys := HS.out.2.below (hA.symm ▸ hB0)
  rw [hW0, hR]
  clear hW0 hb1
  refine wpIn_rangeFunc_ownF rfl hD1 (gf := 57) (lb := #[.pointer (some ⟨R + 1 + 1, 0, none⟩), .pointer (some ⟨R + 1 + 1 + 1, 0, none⟩)]) rfl trivial (enters_of Tryz.func57 (by kernel_rfl) rfl)
    (sums1_stops (D - 1) (by omega) (R + 1 + 1) (R + 1 + 1 + 1) q p n c m d t xs ys HT.out.1 _ (by omega) (by omega) i2.cell i3.cell s1 s2) keepsQ_t (fun W l o o' _ h1 h2 _ => keepsQ_b W l o o' h1 h2) (Below.refl _ _) (fun _ => rfl)
    (fun pre W => (((Boxed W (R + 1 + 1) 22 (.slice q n c) ∧ Boxed W (R + 1 + 1 + 1) 22 (.slice p m d)) ∧ Boxed W R 3 (.int .i64 ((wrF xs ys zs pre : Nat) : Int))) ∧ ∃ v, Boxed W (R + 1) 33 v ∧ W.ownsRow A 3 1 v (oz L).length (oz L) ∧ v = .slice q0 m0 c0) ∧ Below A w W)
    (fun _ _ _ => False)
    (OwnFrom.and (OwnFrom.and (OwnFrom.and (OwnFrom.and (Own.from (boxed_own _ _ _) _) (Own.from (boxed_own _ _ _) _)) (Own.from (boxed_own _ _ (fun pre => .int .i64 ((wrF xs ys zs pre : Nat) : Int))) _)) (Own.from (holdsRow_own _ _ _ _ _ (fun _ => (oz L).length) (fun _ => oz L) (fun _ v => v = .slice q0 m0 c0)) _)) (ownFrom_below (by omega) (by omega)))
    (fun _ _ _ _ _ hs _ _ => hs)
    ⟨⟨⟨⟨i2, i3⟩, i0⟩, ⟨_, i1, o0, rfl⟩⟩, hB0⟩
    (fun x => { tmps := #[.slice q n c, .slice p m d, .slice s l k, undef, undef, undef, .int .i64 0, .pointer (some ⟨R, 0, none⟩), .pointer (some ⟨R + 1, 0, none⟩), .int .i64 ((x.1 : Nat) : Int), .int .u8 ((xs.getD x.1 0 ^^^ ys.getD x.1 0 : Nat) : Int), undef, undef, .slice s l k, .slice q0 m0 c0, .slice q n c, .slice p m d, .func (.func 57) #[] #[.pointer (some ⟨R + 1 + 1, 0, none⟩), .pointer (some ⟨R + 1 + 1 + 1, 0, none⟩)], .int .i64 ((x.1 : Nat) : Int), .int .u8 ((xs.getD x.1 0 ^^^ ys.getD x.1 0 : Nat) : Int), undef, undef, undef, undef, undef, undef, undef, undef, undef, undef, undef, undef, undef, undef, undef], defers := [] }) ?assign ?body ?done ?stop
  case assign =>
    intro l x W K hK
    obtain ⟨i, hi⟩ := x
    dsimp only [smv] at hK ⊢
    obtain ⟨b, hb⟩ : ∃ b, xs.getD i 0 ^^^ ys.getD i 0 = b := ⟨_, rfl⟩
    rw [hb] at hK ⊢
    gi_wp2
    exact hK
  case body =>
    rintro l pre x W ⟨⟨⟨⟨hC, hE⟩, hW⟩, v, hv, hrow0, rfl⟩, hB⟩ hlen
    clear i0 i1 i2 i3 o0 hB0 s1 s2
    obtain ⟨i, hi⟩ := x
    dsimp only
    have K := bsearch_own A (.slice q0 m0 c0) L (i : Int) HL.out.2.1 HL.out.1.up W hrow0
    have hmem := HL.out.1.mem (i : Int)
    have e1 := wrF_yes (xs := xs) (ys := ys) (e := zs) (pre := pre) (x := ⟨i, hi⟩)
    have e2 := wrF_no (xs := xs) (ys := ys) (e := zs) (pre := pre) (x := ⟨i, hi⟩)
    have e3 := wrF_in (xs := xs) (ys := ys) (e := zs) (pre := pre) (x := ⟨i, hi⟩)
    have hwl := wrF_le xs ys zs pre
    dsimp only at e1 e2 e3
    have hx0 := xor_ne_zero (a := xs.getD i 0) (b := ys.getD i 0)
    obtain ⟨b, hb⟩ : ∃ b, xs.getD i 0 ^^^ ys.getD i 0 = b := ⟨_, rfl⟩
    rw [hb] at hx0 ⊢
    obtain ⟨r, hr⟩ : ∃ r, wrF xs ys zs pre = r := ⟨_, rfl⟩
    rw [hr] at e1 e2 e3 hW hwl
    obtain ⟨bb, hbb⟩ : ∃ bb, decide ((i : Int) ∈ L) = bb := ⟨_, rfl⟩
    rw [hbb] at K
    have cv := hv.cell
    have hd : 1 ≤ D - 1 - 1 := by omega
    have hr6 : r ≤ 1000000 := by have := HT.out; omega
    gi_wp2_with fail
    refine (CallsIn.inRound l (callsIn_wide.2 K)).mono ?_
    rintro e w2 ⟨⟨kk, rfl⟩, nq, hw2⟩
    have hb2 : Below W.heap.size W w2 := hw2 ▸ ⟨rfl, rfl, rfl, Nat.le_refl _, fun _ _ => rfl⟩
    have HJ : Hid (((Boxed w2 (R + 1 + 1) 22 (.slice q n c) ∧ Boxed w2 (R + 1 + 1 + 1) 22 (.slice p m d)) ∧ Boxed w2 R 3 (.int .i64 ((r : Nat) : Int))) ∧ (Boxed w2 (R + 1) 33 (.slice q0 m0 c0) ∧ OwZ w2 A (.slice q0 m0 c0) L) ∧ Below A w w2 ∧ KeepsOthers W w2 ∧ But (fun k => k = R) W w2) :=
      ⟨⟨⟨boxed_below hC hb2, boxed_below hE hb2⟩, boxed_below hW hb2⟩, ⟨boxed_below hv hb2, OwV.below hrow0 hb2⟩, hB.trans (hb2.mono (by have := hv.lt; omega)), keepsOthers_below hb2, But.of_below hb2⟩
    have hKQ : ∀ W', But (fun k => k = R) W W' → KeepsQ (R + 1 + 1) (R + 1 + 1 + 1) q p n m W W' := fun W' h => ⟨keepsP_but h (by omega) (fun h1 a e hk => by
        obtain ⟨a', e', hl', _⟩ := HS.out.1.cell 0 h1
        obtain rfl : a' = a := Option.some.inj (e'.symm.trans e)
        omega), keepsP_but h (by omega) (fun h1 a e hk => by
        obtain ⟨a', e', hl', _⟩ := HS.out.2.cell 0 h1
        obtain rfl : a' = a := Option.some.inj (e'.symm.trans e)
        omega)⟩
    have HKQ : Hid (∀ W', But (fun k => k = R) W W' → KeepsQ (R + 1 + 1) (R + 1 + 1 + 1) q p n m W W') := hKQ
    clear K cv hC hE hW hv hrow0 hB hw2 hb2 hr hKQ
    by_cases hz : xs.getD i 0 = ys.getD i 0
    · obtain rfl : b = 0 := hx0.2 hz
      have e4 := e2 hz
      have HZ : Hid (wrF xs ys zs (pre ++ [⟨i, hi⟩]) = r) := e4
      clear e1 e2 e3 e4 hx0 hb hz hmem hbb
      gi_wp2
      exact ⟨HJ.out.2.2.2.1, HKQ.out _ HJ.out.2.2.2.2, ⟨⟨HJ.out.1.1, by rw [HZ.out]; exact HJ.out.1.2⟩, ⟨_, HJ.out.2.1.1, HJ.out.2.1.2, rfl⟩⟩, HJ.out.2.2.1⟩
    · have hne : ((b : Int) != 0) = true := by have := mt hx0.1 hz; simp; omega
      cases bb with
      | true =>
        have e4 := e3 (hmem.1 (of_decide_eq_true hbb))
        have HZ : Hid (wrF xs ys zs (pre ++ [⟨i, hi⟩]) = r) := e4
        clear e1 e2 e3 e4 hx0 hb hz hmem hbb
        gi_wp2
        exact ⟨HJ.out.2.2.2.1, HKQ.out _ HJ.out.2.2.2.2, ⟨⟨HJ.out.1.1, by rw [HZ.out]; exact HJ.out.1.2⟩, ⟨_, HJ.out.2.1.1, HJ.out.2.1.2, rfl⟩⟩, HJ.out.2.2.1⟩
      | false =>
        have e4 := e1 hz (fun h => of_decide_eq_false hbb (hmem.2 h))
        obtain ⟨r1, hr1⟩ : ∃ r1, r + 1 = r1 := ⟨_, rfl⟩
        have HZ : Hid (wrF xs ys zs (pre ++ [⟨i, hi⟩]) = r1) := e4.trans hr1
        have cw := HJ.out.1.2.cell
        have fw := HJ.out.1.2.frozen
        have hb3 : But (fun k => k = R) W (w2.setCell ⟨R, 0, none⟩ (.int .i64 ((r1 : Nat) : Int))) := HJ.out.2.2.2.2.setCell (p := ⟨R, 0, none⟩) (.inl rfl) _
        have hb4 : But (fun k => k = R) w2 (w2.setCell ⟨R, 0, none⟩ (.int .i64 ((r1 : Nat) : Int))) := (But.refl (fun k => k = R) w2).setCell (p := ⟨R, 0, none⟩) (.inl rfl) _
        have HY : Hid (KeepsOthers W (w2.setCell ⟨R, 0, none⟩ (.int .i64 ((r1 : Nat) : Int))) ∧ KeepsQ (R + 1 + 1) (R + 1 + 1 + 1) q p n m W (w2.setCell ⟨R, 0, none⟩ (.int .i64 ((r1 : Nat) : Int))) ∧ ((((Boxed (w2.setCell ⟨R, 0, none⟩ (.int .i64 ((r1 : Nat) : Int))) (R + 1 + 1) 22 (.slice q n c) ∧ Boxed (w2.setCell ⟨R, 0, none⟩ (.int .i64 ((r1 : Nat) : Int))) (R + 1 + 1 + 1) 22 (.slice p m d)) ∧ Boxed (w2.setCell ⟨R, 0, none⟩ (.int .i64 ((r1 : Nat) : Int))) R 3 (.int .i64 ((wrF xs ys zs (pre ++ [⟨i, hi⟩]) : Nat) : Int))) ∧ ∃ v, Boxed (w2.setCell ⟨R, 0, none⟩ (.int .i64 ((r1 : Nat) : Int))) (R + 1) 33 v ∧ (w2.setCell ⟨R, 0, none⟩ (.int .i64 ((r1 : Nat) : Int))).ownsRow A 3 1 v (oz L).length (oz L) ∧ v = .slice q0 m0 c0) ∧ Below A w (w2.setCell ⟨R, 0, none⟩ (.int .i64 ((r1 : Nat) : Int))))) := by
          rw [HZ.out]
          refine ⟨HJ.out.2.2.2.1.trans (KeepsOthers.setCell _ _ _), HKQ.out _ hb3, ⟨⟨⟨boxed_but HJ.out.1.1.1 hb4 (by omega), boxed_but HJ.out.1.1.2 hb4 (by omega)⟩, HJ.out.1.2.set _⟩, ⟨_, boxed_but HJ.out.2.1.1 hb4 (by omega), OwV.block HJ.out.2.1.2 (fun k hk => hb4.block k (OwV.lt HJ.out.2.1.2 k hk).2 (fun e => by have := (OwV.lt HO.out.1 k hk).2; omega)), rfl⟩⟩, HJ.out.2.2.1.setCell (p := ⟨R, 0, none⟩) hAR _⟩
        clear e1 e2 e3 e4 hx0 hb hz hmem hbb hb3 hb4
        have hr1i : (r : Int) + 1 = (r1 : Int) := by omega
        clear hr1
        gi_wp2
        exact HY.out
  case done =>
    rintro D' zs' W hD' hS ⟨⟨⟨⟨hC, hE⟩, hW⟩, v, hv, hrow0, rfl⟩, hB⟩ hK
    obtain rfl : zs' = _ := hS
    have e0 : wrF xs ys zs (upT t t) = Cd.wrZ xs ys zs := by
      have := wrF_all xs ys zs
      rwa [HT.out.2.2.1, HT.out.2.2.2, HT.out.1] at this
    rw [e0] at hW
    have cP := hW.cell
    have HZ : Hid (Below A w W) := hB
    clear hrow0 hB hC hE hv hW i0 i1 i2 i3 o0 hB0 s1 s2
    gi_wp2
    refine ⟨by simp, .inl ⟨_, _, rfl, run_takeDeferred hK, ?_⟩⟩
    refine ⟨_, results_tmp rfl _ _ _, rfl, ?_⟩
    rw [hA]
    exact HZ.out.trans (belowK_b (w := w) (by omega) W D' _ _ (by omega) hK rfl rfl)
  case stop =>
    rintro D' c' pre W _ _ h _
    exact h.elim
theorem wrong_calls (q p s : Option Addr) (n c m d l k : Nat) (xs ys : List Nat) (zs : List Int) (hn : n ≤ 1000000) (hl : l ≤ 1000000) (w : World) (hs : Bs w q n xs) (hy : Bs w p m ys) (hz : Ns .i64 w s l zs) :
    Calls Tryz.prog 20 #[.slice q n c, .slice p m d, .slice s l k] w fun e w' => e = .returned (.int .i64 (Cd.wrZ xs ys zs : Nat)) ∧ Below w.heap.size w w' :=
  (callsIn_wide (n := 3)).1 (wrong_in 3 (by omega) q p s n c m d l k xs ys zs hn hl w hs hy hz)
end Go.Proofs
