/- The walk of field's backend of lanes, for pairs of lists. Conditions: lists of one length, of at most a thousand million bytes, no longer than their capacities. -/
import Derived.Test.YtgbbnlgleghhlaaFdLnL
namespace Go.Proofs
open Go.RowKit Go.Shelf Go.ChangeShapes Go.WideShapes
attribute [local go_sem] Oper.semAt_some
attribute [local go_sem ↓ high] builtin_ap
attribute [local go_sem] ap_sem

/-- The products of pairs of the parts that have come: the other list goes on where the products end. -/
def pairsF (xs ys : List Nat) (n : Nat) (pre : List (Ck n)) : List Nat := pre.foldl (fun acc x => acc ++ (List.range (ckn n x.1)).map fun i => Gf.mul (xs.getD (64 * x.1 + i) 0) (ys.getD (acc.length + i) 0)) []
theorem pairsF_snoc (xs ys : List Nat) (n : Nat) (pre : List (Ck n)) (x : Ck n) : pairsF xs ys n (pre ++ [x]) = pairsF xs ys n pre ++ (List.range (ckn n x.1)).map fun i => Gf.mul (xs.getD (64 * x.1 + i) 0) (ys.getD ((pairsF xs ys n pre).length + i) 0) := by simp [pairsF]
theorem pairsF_len (xs ys : List Nat) (n : Nat) (pre : List (Ck n)) : ∀ acc : List Nat, (pre.foldl (fun acc x => acc ++ (List.range (ckn n x.1)).map fun i => Gf.mul (xs.getD (64 * x.1 + i) 0) (ys.getD (acc.length + i) 0)) acc).length ≤ acc.length + 64 * pre.length := by
  induction pre with
  | nil => intro acc; simp
  | cons x l ih =>
    intro acc
    refine Nat.le_trans (ih _) ?_
    simp only [List.length_append, List.length_map, List.length_range, List.length_cons]
    have := ckn_le n x.1
    omega
theorem pairsF_length (xs ys : List Nat) (n : Nat) (pre : List (Ck n)) : (pairsF xs ys n pre).length ≤ 64 * pre.length := by
  have := pairsF_len xs ys n pre []
  rw [List.length_nil, Nat.zero_add] at this
  exact this
theorem pairsF_upto (xs ys : List Nat) (n k : Nat) : pairsF xs ys n (ckUpto n k) = (List.range (min n (64 * k))).map fun i => Gf.mul (xs.getD i 0) (ys.getD i 0) := by
  induction k with
  | zero => simp [ckUpto, pairsF]
  | succ k ih =>
    by_cases h : 64 * k < n
    · have e : ckUpto n (k + 1) = ckUpto n k ++ [⟨k, h⟩] := by simp [ckUpto, h]
      rw [e, pairsF_snoc, ih]
      have e1 : min n (64 * k) = 64 * k := by omega
      have e2 : min n (64 * (k + 1)) = 64 * k + ckn n k := by unfold ckn; omega
      rw [e1, e2, List.range_add, List.map_append, List.map_map, List.length_map, List.length_range]
      rfl
    · have e : ckUpto n (k + 1) = ckUpto n k := by simp [ckUpto, h]
      rw [e, ih]
      have e1 : min n (64 * k) = min n (64 * (k + 1)) := by omega
      rw [e1]
theorem pairsF_all (xs ys : List Nat) (n : Nat) (hx : xs.length = n) (hy : ys.length = n) : pairsF xs ys n (ckUpto n ((n + 63) / 64)) = List.zipWith Gf.mul xs ys := by
  rw [pairsF_upto]
  have e : min n (64 * ((n + 63) / 64)) = n := by omega
  rw [e, ← hx]
  exact range_zip Gf.mul xs ys (by omega)

set_option maxRecDepth 100000 in
set_option maxHeartbeats 4000000 in
theorem blpairs_in (m : Nat) (hm : 3 ≤ m) (n c d : Nat) (q p : Option Addr) (xs ys : List Nat) (hn : n ≤ 1000000000) (hnc : n ≤ c) (hnd : n ≤ d) (w : World) (hs : Bs w q n xs) (hs2 : Bs w p n ys) :
    CallsIn Fence.wide m Try.prog 103 #[.agg #[], .slice q n c, .slice p n d] w fun e w' => ∃ v, e = .returned v ∧ Ow w' w.heap.size v (List.zipWith Gf.mul xs ys) ∧ Below w.heap.size w w' := by
  have HS : Hid (Bs w q n xs) := hs
  have HS2 : Hid (Bs w p n ys) := hs2
  have hmk := make_bytes0 n (by omega)
  have HE : Hid (pairsF xs ys n (ckUpto n ((n + 63) / 64)) = List.zipWith Gf.mul xs ys) := pairsF_all xs ys n hs.len hs2.len
  obtain ⟨ad, had⟩ : ∃ ad, 0 < n → q = some ad := by
    cases q with
    | none => exact ⟨⟨0, 0, none⟩, fun h => by obtain ⟨_, e, _⟩ := hs.cell 0 h; cases e⟩
    | some x => exact ⟨x, fun _ => rfl⟩
  obtain ⟨bd, hbd⟩ : ∃ bd, 0 < n → p = some bd := by
    cases p with
    | none => exact ⟨⟨0, 0, none⟩, fun h => by obtain ⟨_, e, _⟩ := hs2.cell 0 h; cases e⟩
    | some x => exact ⟨x, fun _ => rfl⟩
  clear hs hs2
  refine callsIn_of_wp_marks Try.func103 rfl trivial ?_ rfl
  simp only [Try.ntmps103, List.size_toArray, List.length_cons, List.length_nil, Nat.reduceAdd, Nat.reduceSub, Array.replicate_succ, Array.replicate_zero, List.push_toArray, List.append_toArray, List.nil_append, List.cons_append]
  have hfn : ∀ f, Fence.wide.fn f := fun _ => trivial
  have hm1 : 1 ≤ m := by omega
  gi_wp2_with (gi_at_call 108; refine (chunk_calls (m - 1) q n c _).mono ?_; rintro e w' ⟨rfl, rfl⟩)
  clear hmk
  obtain ⟨R, hR⟩ : ∃ R, w.heap.size = R := ⟨_, rfl⟩
  obtain ⟨W0, hW0⟩ : ∃ W0, ((((((w.alloc (.cells #[] 54)).alloc (.cells #[.slice p n d] 22)).alloc (.cells (madeCells #[.int .u8 0] n) 5)).alloc (.cells #[.slice (some ⟨w.heap.size + 1 + 1, 0, none⟩) 0 n] 22)).alloc (.cells #[.slice q n c] 22)).alloc (.cells #[.int .i64 64] 3)) = W0 := ⟨_, rfl⟩
  have hsz : W0.heap.size = R + 6 := by rw [← hW0, ← hR]; simp
  have hB0 : Below R w W0 := by
    rw [← hW0, ← hR]; exact ((((((Below.refl _ w).alloc (Nat.le_refl _) _).alloc (by simp) _).alloc (by simp; omega) _).alloc (by simp; omega) _).alloc (by simp; omega) _).alloc (by simp; omega) _
  have i1 : W0.cell? ⟨R + 1, 0, none⟩ = some (.slice p n d) := by rw [← hW0, ← hR]; simp [go_sem]
  have i2 : Boxed W0 (R + 1 + 1 + 1) 22 (.slice (some ⟨R + 1 + 1, 0, none⟩) 0 n) := by
    have := (Boxed.new (((w.alloc (.cells #[] 54)).alloc (.cells #[.slice p n d] 22)).alloc (.cells (madeCells #[.int .u8 0] n) 5)) 22 (.slice (some ⟨w.heap.size + 1 + 1, 0, none⟩) 0 n)).alloc (.cells #[.slice q n c] 22) |>.alloc (.cells #[.int .i64 64] 3)
    rw [hW0] at this
    simpa [hR] using this
  have i3 : Ow W0 (R + 1 + 1) (.slice (some ⟨R + 1 + 1, 0, none⟩) 0 n) [] := by
    have := (((ow_made0 ((w.alloc (.cells #[] 54)).alloc (.cells #[.slice p n d] 22)) (base := R + 1 + 1) (by simp; omega) n (by omega)).alloc (.cells #[.slice (some ⟨w.heap.size + 1 + 1, 0, none⟩) 0 n] 22)).alloc (.cells #[.slice q n c] 22)).alloc (.cells #[.int .i64 64] 3)
    rw [hW0] at this
    simpa [hR] using this
  have i4 : Boxed W0 (R + 1 + 1 + 1 + 1) 22 (.slice q n c) := by
    have := (Boxed.new ((((w.alloc (.cells #[] 54)).alloc (.cells #[.slice p n d] 22)).alloc (.cells (madeCells #[.int .u8 0] n) 5)).alloc (.cells #[.slice (some ⟨w.heap.size + 1 + 1, 0, none⟩) 0 n] 22)) 22 (.slice q n c)).alloc (.cells #[.int .i64 64] 3)
    rw [hW0] at this
    simpa [hR] using this
  have i5 : Boxed W0 (R + 1 + 1 + 1 + 1 + 1) 3 (.int .i64 64) := by
    have := Boxed.new (((((w.alloc (.cells #[] 54)).alloc (.cells #[.slice p n d] 22)).alloc (.cells (madeCells #[.int .u8 0] n) 5)).alloc (.cells #[.slice (some ⟨w.heap.size + 1 + 1, 0, none⟩) 0 n] 22)).alloc (.cells #[.slice q n c] 22)) 3 (.int .i64 64)
    rw [hW0] at this
    simpa [hR] using this
  rw [hW0, hR]
  clear hW0
  refine wpIn_rangeFunc_ownF rfl hm1 (gf := 114) (lb := #[.pointer (some ⟨R + 1 + 1 + 1 + 1, 0, none⟩), .pointer (some ⟨R + 1 + 1 + 1 + 1 + 1, 0, none⟩)]) rfl trivial (enters_of Try.func114 (by kernel_rfl) rfl)
    (chunk1_stops (m - 1) (by omega) (R + 1 + 1 + 1 + 1) (R + 1 + 1 + 1 + 1 + 1) ad q n c had hn hnc _ (by omega) (by omega) i4.cell i5.cell) keepsTwo_t (fun W l o o' _ h1 h2 _ => keepsTwo_b W l o o' h1 h2) (Below.refl _ _) (fun _ => rfl)
    (fun pre W => ((W.cell? ⟨R + 1, 0, none⟩ = some (.slice p n d) ∧ Boxed W (R + 1 + 1 + 1 + 1) 22 (.slice q n c) ∧ Boxed W (R + 1 + 1 + 1 + 1 + 1) 3 (.int .i64 64)) ∧ ∃ v, Boxed W (R + 1 + 1 + 1) 22 v ∧ W.ownsRow (R + 1 + 1) 5 1 v (pairsF xs ys n pre).length (ob (pairsF xs ys n pre)) ∧ True) ∧ Below R w W)
    (fun _ _ _ => False)
    (OwnFrom.and (OwnFrom.and (OwnFrom.and (Own.from (fun s A B row hs hg hr => cell_kept hs hg hr) _) (OwnFrom.and (Own.from (boxed_own _ _ _) _) (Own.from (boxed_own _ _ _) _))) (Own.from (holdsRow_own _ _ _ _ _ _ _ _) _)) (ownFrom_below (by omega) (by omega)))
    (fun _ _ _ _ _ hs _ _ => hs)
    ⟨⟨⟨i1, i4, i5⟩, ⟨_, i2, i3, trivial⟩⟩, hB0⟩
    (fun x => { tmps := #[.agg #[], .slice q n c, .slice p n d, .pointer (some ⟨R, 0, none⟩), undef, .pointer (some ⟨R + 1, 0, none⟩), .slice none 0 0, .pointer (some ⟨R + 1 + 1 + 1, 0, none⟩), .slice (some (ad.add (64 * x.1))) (ckn n x.1) (ckn n x.1), undef, undef, .slice q n c, .int .i64 n, .slice (some ⟨R + 1 + 1, 0, none⟩) 0 n, .slice q n c, .func (.func 114) #[] #[.pointer (some ⟨R + 1 + 1 + 1 + 1, 0, none⟩), .pointer (some ⟨R + 1 + 1 + 1 + 1 + 1, 0, none⟩)], .slice (some (ad.add (64 * x.1))) (ckn n x.1) (ckn n x.1), undef, undef, undef, undef, undef, undef, undef, undef, undef, undef, undef, undef, undef, undef, undef, undef, undef], defers := [] }) ?assign ?body ?done ?stop
  case assign =>
    intro l x W K hK
    gi_wp2
    exact hK
  case body =>
    rintro l pre x W ⟨⟨⟨hcA, hC1, hC2⟩, v, hv, hrow0, _⟩, hB⟩ hlen
    have hrow : Ow W (R + 1 + 1) v (pairsF xs ys n pre) := hrow0
    clear i1 i2 i3 i4 i5 hB0 hrow0
    have hmx : Try.prog.follows .mixedOrders = true := by kernel_rfl
    obtain ⟨j, hj⟩ := x
    obtain rfl : q = some ad := had (by omega)
    obtain rfl : p = some bd := hbd (by omega)
    obtain ⟨e, he⟩ : ∃ e, ckn n j = e := ⟨_, rfl⟩
    have he1 : 1 ≤ e ∧ e ≤ 64 ∧ 64 * j + e ≤ n := by rw [← he]; unfold ckn; omega
    have hd : 1 ≤ m - 1 - 1 := by omega
    have hlE := pairsF_length xs ys n pre
    obtain ⟨L, hL⟩ : ∃ L, (pairsF xs ys n pre).length = L := ⟨_, rfl⟩
    have hLn : L < n := by omega
    obtain ⟨f, hf⟩ : ∃ f : Nat → Nat, (fun i => if i < e then xs.getD (64 * j + i) 0 else 0) = f := ⟨_, rfl⟩
    obtain ⟨h, hh⟩ : ∃ h : Nat → Nat, (fun i => ys.getD (L + i) 0) = h := ⟨_, rfl⟩
    have hf1 : ∀ i, i < e → f i = xs.getD (64 * j + i) 0 := fun i hi => by rw [← hf]; exact if_pos hi
    have hh1 : ∀ i, h i = ys.getD (L + i) 0 := fun i => by rw [← hh]
    have hf2 : ∀ i, i < 64 → f i < 256 := fun i _ => by
      rw [← hf]; dsimp only; split
      · exact HS.out.byte _
      · decide
    have hh2 : ∀ i, i < 64 → h i < 256 := fun i _ => by rw [← hh]; exact HS2.out.byte _
    have KP : Hid (∀ W', Below R w W' → Calls Try.prog 110 #[.slice (some (ad.add (64 * j))) e e] W' fun e' w' => e' = .returned (V8 f) ∧ Below W'.heap.size W' w') := fun W' hW' =>
      lpack_calls (some (ad.add (64 * j))) e e ((List.range e).map fun i => xs.getD (64 * j + i) 0) f (fun i _ => by
        rw [← hf]
        by_cases hi : i < e
        · simp [List.getD, hi]
        · simp [List.getD, hi]) W' (bs_part (HS.out.below (hR.symm ▸ hW')) ad rfl (64 * j) e he1.2.2)
    have KO : Hid (∀ W' z, Below R w W' → Calls Try.prog 110 #[.slice (some (bd.add L)) (n - L) z] W' fun e' w' => e' = .returned (V8 h) ∧ Below W'.heap.size W' w') := fun W' z hW' =>
      lpack_calls (some (bd.add L)) (n - L) z ((List.range (n - L)).map fun i => ys.getD (L + i) 0) h (fun i _ => by
        rw [← hh]
        by_cases hi : i < n - L
        · simp [List.getD, hi]
        · have := HS2.out.len
          simp [List.getD, hi, List.getElem?_eq_none (by omega : ys.length ≤ L + i)]) W' (bs_part (HS2.out.below (hR.symm ▸ hW')) bd rfl L (n - L) (by omega))
    have KS : Hid (∀ W', Calls Try.prog 111 #[V8 f, V8 h] W' fun e' w' => e' = .returned (V8 (fun i => Gf.mul (f i) (h i))) ∧ Below W'.heap.size W' w') := fun W' => lmul_calls f h _ hf2 hh2 (fun _ _ => rfl) W'
    have KU : Hid (∀ W', Calls Try.prog 109 #[V8 (fun i => Gf.mul (f i) (h i))] W' fun e' w' => ∃ g c, e' = .returned (.slice (some ⟨g, 0, none⟩) 64 c) ∧ W'.heap.size ≤ g ∧ 64 ≤ c ∧ (∀ i, i < 64 → w'.cell? ⟨g, i, none⟩ = some (.int .u8 (Gf.mul (f i) (h i) : Nat))) ∧ Below W'.heap.size W' w') := fun W' => lunpack_at _ (fun i hi => Gf.mul_lt _ _ (hf2 i hi)) W'
    have HF : Hid ((∀ i, i < e → f i = xs.getD (64 * j + i) 0) ∧ ∀ i, h i = ys.getD (L + i) 0) := ⟨hf1, hh1⟩
    clear hf hh hf1 hh1 hf2 hh2
    rw [he]
    have hvs : ∃ qv cv, v = .slice qv L cv := by
      rcases hrow.shape with ⟨rfl, h0⟩ | ⟨g, cap, rfl, _⟩
      · rw [h0] at hL
        exact ⟨none, 0, by rw [← hL]; rfl⟩
      · exact ⟨_, cap, by rw [hL]⟩
    obtain ⟨qv, cv, rfl⟩ := hvs
    have HI : Hid (Boxed W (R + 1 + 1 + 1 + 1) 22 (.slice (some ad) n c) ∧ Boxed W (R + 1 + 1 + 1 + 1 + 1) 3 (.int .i64 64) ∧ Boxed W (R + 1 + 1 + 1) 22 (.slice qv L cv) ∧ Ow W (R + 1 + 1) (.slice qv L cv) (pairsF xs ys n pre) ∧ Below R w W) := ⟨hC1, hC2, hv, hrow, hB⟩
    have hlA := World.block_lt_of_cell? _ _ hcA
    have HcA : Hid (W.cell? ⟨R + 1, 0, none⟩ = some (.slice (some bd) n d)) := hcA
    have cP0 := hv.cell
    clear hC1 hC2 hv hrow hB
    have hdl : ¬ d = L := by omega
    have hLi : (L : Int) ≤ (n : Int) := by omega
    gi_wp2_with (gi_at_call 110; refine (CallsIn.inRound l (callsIn_wide.2 (KO.out _ _ HI.out.2.2.2.2))).mono ?_; rintro e' w0 ⟨rfl, hb0⟩)
    have hdl2 : 1 ≤ m - 1 - 1 := hd
    obtain ⟨X, hX0⟩ : ∃ X, w0.alloc (.cells #[.int .u64 (Ln.pk h 0 : Nat), .int .u64 (Ln.pk h 1 : Nat), .int .u64 (Ln.pk h 2 : Nat), .int .u64 (Ln.pk h 3 : Nat), .int .u64 (Ln.pk h 4 : Nat), .int .u64 (Ln.pk h 5 : Nat), .int .u64 (Ln.pk h 6 : Nat), .int .u64 (Ln.pk h 7 : Nat)] 128) = X := ⟨_, rfl⟩
    obtain ⟨G, hG⟩ : ∃ G, w0.heap.size = G := ⟨_, rfl⟩
    have hPX : Pl X G 8 h := by rw [← hX0, ← hG]; exact pl_box w0 rfl h _
    have hX : Below W.heap.size W X := by rw [← hX0]; exact hb0.alloc hb0.size _
    rw [hX0, hG]
    clear hX0 hb0 hG cP0
    have p0 := hPX.cell 0 (by decide)
    have p1 := hPX.cell 1 (by decide)
    have p2 := hPX.cell 2 (by decide)
    have p3 := hPX.cell 3 (by decide)
    have p4 := hPX.cell 4 (by decide)
    have p5 := hPX.cell 5 (by decide)
    have p6 := hPX.cell 6 (by decide)
    have p7 := hPX.cell 7 (by decide)
    have HX : Hid (Below R w X) := HI.out.2.2.2.2.trans (hX.mono (by rw [← hR]; exact HI.out.2.2.2.2.size))
    gi_region_with_o (first
      | (gi_at_call 110; refine (CallsIn.inRound l (callsIn_wide.2 (KP.out _ HX.out.drew))).mono ?_; rintro e' w1 ⟨rfl, hb1⟩; have hP1 := hPX.drew.below hb1; have s0 := hP1.cell 0 (by decide); have s1 := hP1.cell 1 (by decide); have s2 := hP1.cell 2 (by decide); have s3 := hP1.cell 3 (by decide); have s4 := hP1.cell 4 (by decide); have s5 := hP1.cell 5 (by decide); have s6 := hP1.cell 6 (by decide); have s7 := hP1.cell 7 (by decide))
      | (gi_at_call 111; refine (CallsIn.inRound l (callsIn_wide.2 (KS.out _))).mono ?_; rintro e' w2 ⟨rfl, hb2⟩)
      | (gi_at_call 109; refine (CallsIn.inRound l (callsIn_wide.2 (KU.out _))).mono ?_; rintro e' w3 ⟨g, cg, rfl, hg, hcg, hcells, hb3⟩))
    all_goals
      clear hP1 s0 s1 s2 s3 s4 s5 s6 s7
      have hbw : Below W.heap.size W w3 := (hX.drew).trans ((hb1.trans ((hb2.trans (hb3.mono hb2.size)).mono hb1.size)).mono hX.size : Below W.heap.size X.drew w3)
      have hsn : pairsF xs ys n (pre ++ [⟨j, hj⟩]) = pairsF xs ys n pre ++ (List.range e).map fun i => Gf.mul (xs.getD (64 * j + i) 0) (ys.getD (L + i) 0) := by rw [pairsF_snoc, hL, he]
      have hJ : Boxed w3.drew (R + 1 + 1 + 1) 22 (.slice qv L cv) ∧ Ow w3.drew (R + 1 + 1) (.slice qv L cv) (pairsF xs ys n pre) := ⟨boxed_below HI.out.2.2.1 hbw.drew, (HI.out.2.2.2.1.below hbw).drew⟩
      have hlC : ((List.range e).map fun i => Gf.mul (xs.getD (64 * j + i) 0) (ys.getD (L + i) 0)).length = e := by simp
      have hRW : R + 1 + 1 ≤ W.heap.size := by have := HI.out.2.2.1.lt; omega
      have hR3 : R + 1 + 1 ≤ w3.drew.heap.size := Nat.le_trans hRW hbw.size
      obtain ⟨v', W', hap, hO', hgr⟩ := run_append_bytes w3.drew (R + 1 + 1) (.slice qv L cv) (pairsF xs ys n pre) ⟨g, 0, none⟩ cg ((List.range e).map fun i => Gf.mul (xs.getD (64 * j + i) 0) (ys.getD (L + i) 0)) hJ.2 (fun i hi => by
        rw [hlC] at hi
        have e1 : (⟨g, 0, none⟩ : Addr).add i = ⟨g, i, none⟩ := by unfold Addr.add; split <;> simp_all
        rw [e1, World.cell?_drew, hcells i (by omega), HF.out.1 i hi, HF.out.2]
        simp [List.getD, hi]) (by omega) hR3
      rw [hlC] at hap
      rw [← hsn] at hO'
      have hsh : ∃ g' n' c', v' = .slice (some ⟨g', 0, none⟩) n' c' := by
        rcases hO'.shape with ⟨_, h0⟩ | ⟨g', c', h1, _⟩
        · have := congrArg List.length h0
          rw [hsn, List.length_append, hlC] at this
          simp at this
          omega
        · exact ⟨g', _, c', h1⟩
      obtain ⟨g', n', c', rfl⟩ := hsh
      have ha1 := ap_ok hap
      have ha2 := ap_v hap
      have ha3 := ap_w hap
      obtain ⟨b1, b2, b3, b4, b5⟩ := appended0 hJ.1 hJ.2 hR3 (by omega : R + 1 + 1 ≤ R + 1 + 1 + 1) hO' hgr
      have k1 := other0 (B := R + 1 + 1 + 1) (v' := .slice (some ⟨g', 0, none⟩) n' c') (boxed_below HI.out.1 hbw.drew) (by decide) (by omega) hJ.2 hgr
      have k2 := other0 (B := R + 1 + 1 + 1) (v' := .slice (some ⟨g', 0, none⟩) n' c') (boxed_below HI.out.2.1 hbw.drew) (by decide) (by omega) hJ.2 hgr
      have hcA3 : w3.drew.cell? ⟨R + 1, 0, none⟩ = some (.slice (some bd) n d) := (hbw.drew.cell (p := ⟨R + 1, 0, none⟩) hlA).trans HcA.out
      have HZ : Hid (KeepsOthers W (W'.setCell ⟨R + 1 + 1 + 1, 0, none⟩ (.slice (some ⟨g', 0, none⟩) n' c')) ∧ KeepsTwo (R + 1 + 1 + 1 + 1) (R + 1 + 1 + 1 + 1 + 1) W (W'.setCell ⟨R + 1 + 1 + 1, 0, none⟩ (.slice (some ⟨g', 0, none⟩) n' c')) ∧
          ((((W'.setCell ⟨R + 1 + 1 + 1, 0, none⟩ (.slice (some ⟨g', 0, none⟩) n' c')).cell? ⟨R + 1, 0, none⟩ = some (.slice (some bd) n d) ∧ Boxed (W'.setCell ⟨R + 1 + 1 + 1, 0, none⟩ (.slice (some ⟨g', 0, none⟩) n' c')) (R + 1 + 1 + 1 + 1) 22 (.slice (some ad) n c) ∧ Boxed (W'.setCell ⟨R + 1 + 1 + 1, 0, none⟩ (.slice (some ⟨g', 0, none⟩) n' c')) (R + 1 + 1 + 1 + 1 + 1) 3 (.int .i64 64)) ∧ ∃ v, Boxed (W'.setCell ⟨R + 1 + 1 + 1, 0, none⟩ (.slice (some ⟨g', 0, none⟩) n' c')) (R + 1 + 1 + 1) 22 v ∧ (W'.setCell ⟨R + 1 + 1 + 1, 0, none⟩ (.slice (some ⟨g', 0, none⟩) n' c')).ownsRow (R + 1 + 1) 5 1 v (pairsF xs ys n (pre ++ [⟨j, hj⟩])).length (ob (pairsF xs ys n (pre ++ [⟨j, hj⟩]))) ∧ True) ∧ Below R w (W'.setCell ⟨R + 1 + 1 + 1, 0, none⟩ (.slice (some ⟨g', 0, none⟩) n' c')))) :=
        ⟨(keepsOthers_below hbw.drew).trans b4, ⟨keepsCell_boxed HI.out.1 k1, keepsCell_boxed HI.out.2.1 k2⟩, ⟨⟨(b5.cell (p := ⟨R + 1, 0, none⟩) (by simp)).trans hcA3, k1, k2⟩, ⟨_, b2, b3, trivial⟩⟩, HI.out.2.2.2.2.trans ((hbw.drew.mono (by omega)).trans (b5.mono (by omega)))⟩
      have cP := hJ.1.cell
      have c1 := b1.cell
      have f1 := b1.frozen
      have hle : (e : Int) ≤ (cg : Int) := by omega
      clear hcells hb1 hb2 hb3 hO' hlC b1 b2 b3 b4 b5 hJ hap hsn k1 k2 hcA3 KP KO KS KU HcA hcA hX p0 p1 p2 p3 p4 p5 p6 p7 hPX
      gi_wp2
      gi_region_o
      all_goals (gi_wp2; exact HZ.out)
  case done =>
    rintro D ys W hD hS ⟨⟨⟨hcA, hC1, hC2⟩, v, hv, hrow0, _⟩, hB⟩ hK
    obtain rfl : ys = _ := hS
    rw [HE.out] at hrow0
    have cP := hv.cell
    have HZ : Hid (Ow W R v (List.zipWith Gf.mul xs ys) ∧ Below R w W) := ⟨Ow.mono (show Ow W (R + 1 + 1) v (List.zipWith Gf.mul xs ys) from hrow0) (by omega), hB⟩
    clear hrow0 hB hC1 hC2 hcA hv
    gi_wp2
    refine ⟨by simp, .inl ⟨_, _, rfl, run_takeDeferred hK, ?_⟩⟩
    refine ⟨_, results_tmp rfl _ _ _, _, rfl, ownsRow_putObj (show W.ownsRow w.heap.size 5 1 v (List.zipWith Gf.mul xs ys).length (ob (List.zipWith Gf.mul xs ys)) from hR.symm ▸ HZ.out.1) _ hK rfl, ?_⟩
    rw [hR]
    exact HZ.out.2.trans (belowK_b (w := w) (by omega) W D _ _ (by omega) hK rfl rfl)
  case stop =>
    rintro D c pre W _ _ h _
    exact h.elim
end Go.Proofs
