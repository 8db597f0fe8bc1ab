/- Texts laid together: Chunk, FdLnL, FdLnP, FdL, App2, Told. Each says its own conditions. -/
import Derived.RangeFuncBox
import Derived.Deep.RegionHeld3
import Derived.Test.YtddhefhabhgdfaaGreatMC
import Derived.Test.YtddhefhabhgdfaaGreatMP
import Derived.Test.YtddhefhabhgdfaaGreatMO
import Derived.Test.YtddhefhabhgdfaaGreatMF
/- The walk of slices.Chunk at sixty-four, and of its iterator: parts of sixty-four bytes, the last one shorter. Conditions: a list of at most a thousand million, its capacity no less than its length. -/
namespace Go.Proofs
open Go.RowKit Go.Shelf
attribute [local go_sem] Oper.semAt_some

/-- A part: which one. -/
abbrev Ck (n : Nat) := { j : Nat // 64 * j < n }
/-- How long it is. -/
def ckn (n j : Nat) : Nat := min 64 (n - 64 * j)
abbrev ckv (a : Addr) (n : Nat) (x : Ck n) : Array Value := #[.slice (some (a.add (64 * x.1))) (ckn n x.1) (ckn n x.1)]
def ckUpto (n : Nat) : Nat → List (Ck n)
  | 0 => []
  | k + 1 => if h : 64 * k < n then ckUpto n k ++ [⟨k, h⟩] else ckUpto n k
theorem ckUpto_length (n k : Nat) : (ckUpto n k).length ≤ k := by
  induction k with
  | zero => exact Nat.le_refl _
  | succ k ih =>
    unfold ckUpto
    split
    · simp; exact ih
    · omega
/-- A round keeps what the two captured boxes hold. -/
def KeepsTwo (A B : Nat) (W W' : World) : Prop := KeepsCell A W W' ∧ KeepsCell B W W'
theorem keepsTwo_t {A B : Nat} {X Y Z : World} (h : KeepsTwo A B X Y) (k : KeepsTwo A B Y Z) : KeepsTwo A B X Z := ⟨keepsCell_t h.1 k.1, keepsCell_t h.2 k.2⟩
theorem keepsTwo_b {A B : Nat} (W : World) (l : Nat) (o o' : Obj) (hl : W.heap[l]? = some o) (ho : o.isCells = false) : KeepsTwo A B W (W.putObj l o') := ⟨keepsCell_b W l o o' hl ho, keepsCell_b W l o o' hl ho⟩

theorem chunk_calls (m : Nat) (q : Option Addr) (n c : Nat) (w : World) :
    CallsIn Fence.wide m Tryz.prog 183 #[.slice q n c, .int .i64 64] w fun e w' => e = .returned (.func (.func 189) #[] #[.pointer (some ⟨w.heap.size, 0, none⟩), .pointer (some ⟨w.heap.size + 1, 0, none⟩)]) ∧ (w.alloc (.cells #[.slice q n c] 24)).alloc (.cells #[.int .i64 64] 3) = w' := by
  refine callsIn_of_wp Tryz.func183 rfl trivial ?_ rfl
  simp only [Tryz.ntmps183, List.size_toArray, List.length_cons, List.length_nil, Nat.reduceAdd, Nat.reduceSub, Array.replicate_succ, Array.replicate_zero, List.push_toArray, List.append_toArray, List.nil_append, List.cons_append]
  gi_wp2
  go_ret
  exact ⟨rfl, rfl⟩

set_option maxRecDepth 100000 in
set_option maxHeartbeats 1000000 in
theorem chunk1_stops (m : Nat) (hm : 1 ≤ m) (A B : Nat) (a : Addr) (q : Option Addr) (n c : Nat) (hq : 0 < n → q = some a) (hn : n ≤ 1000000000) (hnc : n ≤ c) (w : World) (hA : A < w.heap.size) (hB : B < w.heap.size)
    (hcA : w.cell? ⟨A, 0, none⟩ = some (.slice q n c)) (hcB : w.cell? ⟨B, 0, none⟩ = some (.int .i64 64)) :
    SeqStopsK Fence.wide m Tryz.prog 189 #[.pointer (some ⟨A, 0, none⟩), .pointer (some ⟨B, 0, none⟩)] (ckv a n) (KeepsTwo A B) (fun xs => xs = ckUpto n ((n + 63) / 64)) (fun _ => True) ((n + 63) / 64) w :=
  fun l J Jx W hW hJ hJx hY h0 => by
  have hcAW := (hW.cell (p := ⟨A, 0, none⟩) hA).trans hcA
  have hcBW := (hW.cell (p := ⟨B, 0, none⟩) hB).trans hcB
  clear hcA hcB hW
  refine callsIn_of_wp Tryz.func189 rfl trivial ?_ rfl
  simp only [Tryz.ntmps189, List.size_toArray, List.length_cons, List.length_nil, Nat.reduceAdd, Nat.reduceSub, Array.replicate_succ, Array.replicate_zero, List.push_toArray, List.append_toArray, List.nil_append, List.cons_append]
  gi_wp2
  gi_loopw [4] (fun i wr => ∃ k : Nat, k ≤ (n + 63) / 64 ∧ i = .int .i64 ((64 * k : Nat) : Int) ∧ J (ckUpto n k) wr ∧ wr.cell? ⟨A, 0, none⟩ = some (.slice q n c) ∧ wr.cell? ⟨B, 0, none⟩ = some (.int .i64 64))
    (fun i _ => n - (intOf i).toNat)
  case atStart => exact ⟨0, by omega, rfl, h0, hcAW, hcBW⟩
  case round =>
    obtain ⟨k, hk, rfl, hJs, hca, hcb⟩ := hrel
    have hmx : Tryz.prog.follows .mixedOrders = true := by kernel_rfl
    obtain ⟨i, hi⟩ : ∃ i, 64 * k = i := ⟨_, rfl⟩
    by_cases hz : n ≤ 64 * k
    · have ek : k = (n + 63) / 64 := by omega
      have hni : ¬ ((i : Int) < (n : Int)) := by omega
      rw [hi]
      gi_wp2
      go_end0
      exact ⟨⟨_, rfl⟩, .inl (ek ▸ hJs)⟩
    · have hlt : 64 * k < n := by omega
      have hni : ((i : Int) < (n : Int)) := by omega
      have hJd : J (ckUpto n k) wr.drew := hJ _ _ _ none hJs ⟨rfl, rfl, rfl, Nat.le_refl _, fun _ _ _ => rfl⟩ (fun r e => by cases e)
      obtain ⟨fn, tmps, assign, body, hy, hR⟩ := hY (ckUpto n k) ⟨k, hlt⟩ wr.drew hJd (by have := ckUpto_length n k; omega)
      have eu : ckUpto n (k + 1) = ckUpto n k ++ [⟨k, hlt⟩] := by simp [ckUpto, hlt]
      rw [← eu] at hR
      dsimp only [ckv] at hy
      rw [hi] at hy
      obtain rfl : q = some a := hq (by omega)
      clear hq hJd hJs eu hY
      rw [hi]
      have hin : (i : Int) ≤ (n : Int) := by omega
      have hi0 : (0 : Int) ≤ (i : Int) := by omega
      have hcase : (n - i < 64 ∧ ckn n k = n - i) ∨ (64 ≤ n - i ∧ ckn n k = 64) := by unfold ckn; omega
      rcases hcase with ⟨hs, he⟩ | ⟨hs, he⟩
      all_goals
        rw [he] at hy
        have h1 : ((n - i : Nat) : Int) = (n : Int) - (i : Int) := by omega
        gi_wp2
        gi_region_o
        gi_wp2
        refine hR.mono ?_
        rintro e W3 (⟨rfl, hJ3, hk3⟩ | ⟨rfl, hJx3⟩)
        · have hc3 : W3.cell? ⟨A, 0, none⟩ = some (.slice (some a) n c) := hk3.1 _ (by rw [World.cell?_drew]; exact hca)
          have hd3 : W3.cell? ⟨B, 0, none⟩ = some (.int .i64 64) := hk3.2 _ (by rw [World.cell?_drew]; exact hcb)
          gi_wp2
          go_roundw
          case rel => exact ⟨k + 1, by omega, by simp; omega, hJ3, hc3, hd3⟩
          case measure => simp [intOf]; omega
        · gi_wp2
          refine bodyPost_ret (results_none rfl _ _ _) rfl ?_
          exact ⟨⟨_, rfl⟩, .inr ⟨_, trivial, hJx3⟩⟩
end Go.Proofs
/- The walks of field's backend of lanes, for lists: each, pairs. Conditions: lists of at most a thousand million bytes, no longer than their capacities. -/
namespace Go.Proofs
open Go.RowKit Go.Shelf Go.ChangeShapes Go.WideShapes
attribute [local go_sem] Oper.semAt_some
attribute [local go_sem ↓ high] builtin_ap
attribute [local go_sem] ap_sem

/-- make([]byte, 0, n). -/
theorem make_bytes0 (n : Nat) (hn : n ≤ 281474976710656) (w : World) :
    (Instr.makeSlice 24 (.int .i64 0) (.int .i64 (n : Int))).run Tryz.prog w = .ok (.slice (some ⟨w.heap.size, 0, none⟩) 0 n) (w.alloc (.cells (madeCells #[.int .u8 0] n) 5)) := by
  obtain ⟨i, hi, hz, hs, hb⟩ := info_parts info_u8
  have hr := run_make (P := Tryz.prog) w 24 5 i (.int .u8 0) Tryz.underlying24 hi hz .i64 .i64 0 n (by omega) (by omega) (by rw [hb]; omega) (by omega)
  simp only [Int.toNat_natCast, hs, Nat.mul_one] at hr
  exact hr
theorem ow_made0 (W : World) {base : Nat} (hb : base ≤ W.heap.size) (n : Nat) (hn : n ≤ 281474976710656) : Ow (W.alloc (.cells (madeCells #[.int .u8 0] n) 5)) base (.slice (some ⟨W.heap.size, 0, none⟩) 0 n) [] :=
  ⟨rfl, .inr ⟨W.heap.size, n, madeCells #[.int .u8 0] n, rfl, hb, World.alloc_heap_new W _, Nat.zero_le _, by unfold maxLen; omega, by rw [size_madeCells]; simp, rfl⟩⟩
/-- The products of the parts that have come. -/
def eachC (xs : List Nat) (a n : Nat) (x : Ck n) : List Nat := (List.range (ckn n x.1)).map fun i => Gf.mul (xs.getD (64 * x.1 + i) 0) a
def eachF (xs : List Nat) (a n : Nat) (pre : List (Ck n)) : List Nat := pre.flatMap (eachC xs a n)
theorem eachF_snoc (xs : List Nat) (a n : Nat) (pre : List (Ck n)) (x : Ck n) : eachF xs a n (pre ++ [x]) = eachF xs a n pre ++ eachC xs a n x := by simp [eachF]
theorem eachC_length (xs : List Nat) (a n : Nat) (x : Ck n) : (eachC xs a n x).length = ckn n x.1 := by simp [eachC]
theorem ckn_le (n j : Nat) : ckn n j ≤ 64 := Nat.min_le_left _ _
theorem eachF_length (xs : List Nat) (a n : Nat) (pre : List (Ck n)) : (eachF xs a n pre).length ≤ 64 * pre.length := by
  induction pre with
  | nil => simp [eachF]
  | cons x l ih =>
    have e : eachF xs a n (x :: l) = eachC xs a n x ++ eachF xs a n l := by simp [eachF]
    rw [e, List.length_append, eachC_length, List.length_cons]
    have := ckn_le n x.1
    omega
theorem eachF_upto (xs : List Nat) (a n k : Nat) : eachF xs a n (ckUpto n k) = (List.range (min n (64 * k))).map fun i => Gf.mul (xs.getD i 0) a := by
  induction k with
  | zero => simp [ckUpto, eachF]
  | succ k ih =>
    by_cases h : 64 * k < n
    · have e : ckUpto n (k + 1) = ckUpto n k ++ [⟨k, h⟩] := by simp [ckUpto, h]
      rw [e, eachF_snoc, ih]
      have e1 : min n (64 * k) = 64 * k := by omega
      have e2 : min n (64 * (k + 1)) = 64 * k + ckn n k := by unfold ckn; omega
      rw [e1, e2, List.range_add, List.map_append, List.map_map]
      rfl
    · have e : ckUpto n (k + 1) = ckUpto n k := by simp [ckUpto, h]
      rw [e, ih]
      have e1 : min n (64 * k) = min n (64 * (k + 1)) := by omega
      rw [e1]
theorem eachF_all (xs : List Nat) (a n : Nat) (ha : a < 256) (hx : ∀ i, xs.getD i 0 < 256) (hn : xs.length = n) : eachF xs a n (ckUpto n ((n + 63) / 64)) = xs.map (Gf.mul a) := by
  rw [eachF_upto]
  have e : min n (64 * ((n + 63) / 64)) = n := by omega
  rw [e, ← hn, ← range_map (Gf.mul a) xs]
  apply List.map_congr_left
  intro i _
  exact Gf.mul_comm _ _ (hx i) ha

theorem lunpack_at (l : Nat → Nat) (hl : ∀ n, n < 64 → l n < 256) (w : World) :
    Calls Tryz.prog 184 #[V8 l] w fun e w' => ∃ g c, e = .returned (.slice (some ⟨g, 0, none⟩) 64 c) ∧ w.heap.size ≤ g ∧ 64 ≤ c ∧ (∀ i, i < 64 → w'.cell? ⟨g, i, none⟩ = some (.int .u8 (l i : Nat))) ∧ Below w.heap.size w w' :=
  (lunpack_calls l hl w).mono fun e w' ⟨v, he, hO, hb⟩ => by
    rcases hO.shape with ⟨_, h0⟩ | ⟨g, c, rfl, h1, _, h3, _, h5, _⟩
    · have := ll_length l
      rw [h0] at this
      exact absurd this (by decide)
    · rw [ll_length] at h3 h5 he
      refine ⟨g, c, he, h1, h3, fun i hi => ?_, hb⟩
      rw [h5 i hi, ll_at, if_pos hi]
/-- 'out = append(out, told...)': behind the append and the store into the variable's box. -/
theorem appended0 {W w1 : World} {n₀ B : Nat} {v v' : Value} {xs ys : List Nat} (hv : Boxed W B 24 v) (hrow : Ow W n₀ v xs) (hn₀ : n₀ ≤ W.heap.size) (hB : n₀ ≤ B) (hown' : Ow w1 n₀ v' ys) (hgrow : W.grownBy w1 v.ownBlock) :
    Boxed w1 B 24 v ∧ Boxed (w1.setCell ⟨B, 0, none⟩ v') B 24 v' ∧ Ow (w1.setCell ⟨B, 0, none⟩ v') n₀ v' ys ∧ KeepsOthers W (w1.setCell ⟨B, 0, none⟩ v') ∧ Below n₀ W (w1.setCell ⟨B, 0, none⟩ v') := by
  have hv1 : Boxed w1 B 24 v := hv.kept hgrow (hv.not_row (by decide) hrow)
  refine ⟨hv1, hv1.set v', World.ownsRow.kept hown' (grownBy_setCell' w1 B v') (.inr (hv1.not_row (by decide) hown').symm), ?_, ?_⟩
  · refine (KeepsOthers.of_grownBy hgrow fun j o ej hj => ?_).trans (KeepsOthers.setCell _ _ _)
    rcases hrow.2 with ⟨rfl, _⟩ | ⟨g, cap, cur, rfl, _, hgb, _⟩
    · simp [Value.ownBlock] at ej
    · obtain rfl : g = j := by simpa [Value.ownBlock] using ej
      rw [hgb] at hj; cases hj; rfl
  · refine ((Below.refl n₀ W).grown hgrow hn₀ fun j ej => ?_).setCell (p := ⟨B, 0, none⟩) hB v'
    exact (hrow.lt j ej).1
theorem other0 {W w1 : World} {n₀ B C : Nat} {t : TypeId} {v v' u : Value} {xs : List Nat} (hu : Boxed W C t u) (ht : t ≠ 5) (hne : C ≠ B) (hrow : Ow W n₀ v xs) (hgrow : W.grownBy w1 v.ownBlock) : Boxed (w1.setCell ⟨B, 0, none⟩ v') C t u :=
  (hu.kept hgrow (hu.not_row ht hrow)).other hne v'
theorem boxed_below {W W' : World} {B : Nat} {t : TypeId} {v : Value} (h : Boxed W B t v) (hb : Below W.heap.size W W') : Boxed W' B t v := (hb.block B h.lt).trans h
theorem keepsCell_boxed {W W' : World} {B : Nat} {t : TypeId} {v : Value} (h : Boxed W B t v) (h' : Boxed W' B t v) : KeepsCell B W W' := fun u hu => by rw [h.cell] at hu; rw [h'.cell]; exact hu
theorem bs_part {W : World} {q : Option Addr} {n : Nat} {xs : List Nat} (h : Bs W q n xs) (ad : Addr) (hq : q = some ad) (k m : Nat) (hk : k + m ≤ n) : Bs W (some (ad.add k)) m ((List.range m).map fun i => xs.getD (k + i) 0) := by
  refine ⟨by simp, Nat.le_trans (by omega) h.max, fun i hi => ?_, fun i => ?_⟩
  · obtain ⟨a, e, hl, hc⟩ := h.cell (k + i) (by omega)
    obtain rfl : a = ad := Option.some.inj (e.symm.trans hq)
    refine ⟨_, rfl, by rw [block_add]; exact hl, ?_⟩
    rw [Addr.add_add, hc]
    simp [List.getD, hi]
  · by_cases hi : i < m
    · have := h.byte (k + i)
      simpa [List.getD, hi] using this
    · simp [List.getD, hi]

set_option maxRecDepth 100000 in
set_option maxHeartbeats 2000000 in
theorem bleach_in (m : Nat) (hm : 3 ≤ m) (a n c : Nat) (q : Option Addr) (xs : List Nat) (ha : a < 256) (hn : n ≤ 1000000000) (hnc : n ≤ c) (w : World) (hs : Bs w q n xs) :
    CallsIn Fence.wide m Tryz.prog 177 #[.agg #[], .int .u8 a, .slice q n c] w fun e w' => ∃ v, e = .returned v ∧ Ow w' w.heap.size v (xs.map (Gf.mul a)) ∧ Below w.heap.size w w' := by
  have HS : Hid (Bs w q n xs) := hs
  have hmk := make_bytes0 n (by omega)
  have HE : Hid (eachF xs a n (ckUpto n ((n + 63) / 64)) = xs.map (Gf.mul a)) := eachF_all xs a n ha hs.byte hs.len
  obtain ⟨ad, had⟩ : ∃ ad, 0 < n → q = some ad := by
    cases q with
    | none => exact ⟨⟨0, 0, none⟩, fun h => by obtain ⟨_, e, _⟩ := hs.cell 0 h; cases e⟩
    | some x => exact ⟨x, fun _ => rfl⟩
  clear hs
  refine callsIn_of_wp_marks Tryz.func177 rfl trivial ?_ rfl
  simp only [Tryz.ntmps177, List.size_toArray, List.length_cons, List.length_nil, Nat.reduceAdd, Nat.reduceSub, Array.replicate_succ, Array.replicate_zero, List.push_toArray, List.append_toArray, List.nil_append, List.cons_append]
  have hfn : ∀ f, Fence.wide.fn f := fun _ => trivial
  have hm1 : 1 ≤ m := by omega
  gi_wp2_with (gi_at_call 183; refine (chunk_calls (m - 1) q n c _).mono ?_; rintro e w' ⟨rfl, rfl⟩)
  clear hmk
  obtain ⟨R, hR⟩ : ∃ R, w.heap.size = R := ⟨_, rfl⟩
  obtain ⟨W0, hW0⟩ : ∃ W0, ((((((w.alloc (.cells #[] 72)).alloc (.cells #[.int .u8 (a : Int)] 5)).alloc (.cells (madeCells #[.int .u8 0] n) 5)).alloc (.cells #[.slice (some ⟨w.heap.size + 1 + 1, 0, none⟩) 0 n] 24)).alloc (.cells #[.slice q n c] 24)).alloc (.cells #[.int .i64 64] 3)) = W0 := ⟨_, rfl⟩
  have hsz : W0.heap.size = R + 6 := by rw [← hW0, ← hR]; simp
  have hB0 : Below R w W0 := by
    rw [← hW0, ← hR]; exact ((((((Below.refl _ w).alloc (Nat.le_refl _) _).alloc (by simp) _).alloc (by simp; omega) _).alloc (by simp; omega) _).alloc (by simp; omega) _).alloc (by simp; omega) _
  have i1 : W0.cell? ⟨R + 1, 0, none⟩ = some (.int .u8 (a : Int)) := by rw [← hW0, ← hR]; simp [go_sem]
  have i2 : Boxed W0 (R + 1 + 1 + 1) 24 (.slice (some ⟨R + 1 + 1, 0, none⟩) 0 n) := by
    have := (Boxed.new (((w.alloc (.cells #[] 72)).alloc (.cells #[.int .u8 (a : Int)] 5)).alloc (.cells (madeCells #[.int .u8 0] n) 5)) 24 (.slice (some ⟨w.heap.size + 1 + 1, 0, none⟩) 0 n)).alloc (.cells #[.slice q n c] 24) |>.alloc (.cells #[.int .i64 64] 3)
    rw [hW0] at this
    simpa [hR] using this
  have i3 : Ow W0 (R + 1 + 1) (.slice (some ⟨R + 1 + 1, 0, none⟩) 0 n) [] := by
    have := (((ow_made0 ((w.alloc (.cells #[] 72)).alloc (.cells #[.int .u8 (a : Int)] 5)) (base := R + 1 + 1) (by simp; omega) n (by omega)).alloc (.cells #[.slice (some ⟨w.heap.size + 1 + 1, 0, none⟩) 0 n] 24)).alloc (.cells #[.slice q n c] 24)).alloc (.cells #[.int .i64 64] 3)
    rw [hW0] at this
    simpa [hR] using this
  have i4 : Boxed W0 (R + 1 + 1 + 1 + 1) 24 (.slice q n c) := by
    have := (Boxed.new ((((w.alloc (.cells #[] 72)).alloc (.cells #[.int .u8 (a : Int)] 5)).alloc (.cells (madeCells #[.int .u8 0] n) 5)).alloc (.cells #[.slice (some ⟨w.heap.size + 1 + 1, 0, none⟩) 0 n] 24)) 24 (.slice q n c)).alloc (.cells #[.int .i64 64] 3)
    rw [hW0] at this
    simpa [hR] using this
  have i5 : Boxed W0 (R + 1 + 1 + 1 + 1 + 1) 3 (.int .i64 64) := by
    have := Boxed.new (((((w.alloc (.cells #[] 72)).alloc (.cells #[.int .u8 (a : Int)] 5)).alloc (.cells (madeCells #[.int .u8 0] n) 5)).alloc (.cells #[.slice (some ⟨w.heap.size + 1 + 1, 0, none⟩) 0 n] 24)).alloc (.cells #[.slice q n c] 24)) 3 (.int .i64 64)
    rw [hW0] at this
    simpa [hR] using this
  rw [hW0, hR]
  clear hW0
  refine wpIn_rangeFunc_ownF rfl hm1 (gf := 189) (lb := #[.pointer (some ⟨R + 1 + 1 + 1 + 1, 0, none⟩), .pointer (some ⟨R + 1 + 1 + 1 + 1 + 1, 0, none⟩)]) rfl trivial (enters_of Tryz.func189 (by kernel_rfl) rfl)
    (chunk1_stops (m - 1) (by omega) (R + 1 + 1 + 1 + 1) (R + 1 + 1 + 1 + 1 + 1) ad q n c had hn hnc _ (by omega) (by omega) i4.cell i5.cell) keepsTwo_t (fun W l o o' _ h1 h2 _ => keepsTwo_b W l o o' h1 h2) (Below.refl _ _) (fun _ => rfl)
    (fun pre W => ((W.cell? ⟨R + 1, 0, none⟩ = some (.int .u8 (a : Int)) ∧ Boxed W (R + 1 + 1 + 1 + 1) 24 (.slice q n c) ∧ Boxed W (R + 1 + 1 + 1 + 1 + 1) 3 (.int .i64 64)) ∧ ∃ v, Boxed W (R + 1 + 1 + 1) 24 v ∧ W.ownsRow (R + 1 + 1) 5 1 v (eachF xs a n pre).length (ob (eachF xs a n pre)) ∧ True) ∧ Below R w W)
    (fun _ _ _ => False)
    (OwnFrom.and (OwnFrom.and (OwnFrom.and (Own.from (fun s A B row hs hg hr => cell_kept hs hg hr) _) (OwnFrom.and (Own.from (boxed_own _ _ _) _) (Own.from (boxed_own _ _ _) _))) (Own.from (holdsRow_own _ _ _ _ _ _ _ _) _)) (ownFrom_below (by omega) (by omega)))
    (fun _ _ _ _ _ hs _ _ => hs)
    ⟨⟨⟨i1, i4, i5⟩, ⟨_, i2, i3, trivial⟩⟩, hB0⟩
    (fun x => { tmps := #[.agg #[], .int .u8 a, .slice q n c, .pointer (some ⟨R, 0, none⟩), .pointer (some ⟨R + 1, 0, none⟩), undef, .slice none 0 0, .pointer (some ⟨R + 1 + 1 + 1, 0, none⟩), .slice (some (ad.add (64 * x.1))) (ckn n x.1) (ckn n x.1), undef, .slice q n c, .int .i64 n, .slice (some ⟨R + 1 + 1, 0, none⟩) 0 n, .slice q n c, .func (.func 189) #[] #[.pointer (some ⟨R + 1 + 1 + 1 + 1, 0, none⟩), .pointer (some ⟨R + 1 + 1 + 1 + 1 + 1, 0, none⟩)], .slice (some (ad.add (64 * x.1))) (ckn n x.1) (ckn n x.1), undef, undef, undef, undef, undef, undef, undef, undef, undef, undef, undef, undef], defers := [] }) ?assign ?body ?done ?stop
  case assign =>
    intro l x W K hK
    gi_wp2
    exact hK
  case body =>
    rintro l pre x W ⟨⟨⟨hcA, hC1, hC2⟩, v, hv, hrow0, _⟩, hB⟩ hlen
    have hrow : Ow W (R + 1 + 1) v (eachF xs a n pre) := hrow0
    clear i1 i2 i3 i4 i5 hB0 hrow0
    have hmx : Tryz.prog.follows .mixedOrders = true := by kernel_rfl
    obtain ⟨j, hj⟩ := x
    obtain rfl : q = some ad := had (by omega)
    obtain ⟨e, he⟩ : ∃ e, ckn n j = e := ⟨_, rfl⟩
    have he1 : 1 ≤ e ∧ e ≤ 64 ∧ 64 * j + e ≤ n := by rw [← he]; unfold ckn; omega
    have hd : 1 ≤ m - 1 - 1 := by omega
    obtain ⟨f, hf⟩ : ∃ f : Nat → Nat, (fun i => if i < e then xs.getD (64 * j + i) 0 else 0) = f := ⟨_, rfl⟩
    have hf1 : ∀ i, i < e → f i = xs.getD (64 * j + i) 0 := fun i hi => by rw [← hf]; exact if_pos hi
    have hf2 : ∀ i, i < 64 → f i < 256 := fun i _ => by
      rw [← hf]; dsimp only; split
      · exact HS.out.byte _
      · decide
    have KP : Hid (∀ W', Below R w W' → Calls Tryz.prog 185 #[.slice (some (ad.add (64 * j))) e e] W' fun e' w' => e' = .returned (V8 f) ∧ Below W'.heap.size W' w') := fun W' hW' =>
      lpack_calls (some (ad.add (64 * j))) e e ((List.range e).map fun i => xs.getD (64 * j + i) 0) f (fun i _ => by
        rw [← hf]
        by_cases hi : i < e
        · simp [List.getD, hi]
        · simp [List.getD, hi]) W' (bs_part (HS.out.below (hR.symm ▸ hW')) ad rfl (64 * j) e he1.2.2)
    have KS : Hid (∀ W', Calls Tryz.prog 181 #[V8 f, .int .u8 a] W' fun e' w' => e' = .returned (V8 (fun i => Gf.mul (f i) a)) ∧ Below W'.heap.size W' w') := fun W' => lscale_calls f _ a hf2 ha (fun _ _ => rfl) W'
    have KU : Hid (∀ W', Calls Tryz.prog 184 #[V8 (fun i => Gf.mul (f i) a)] W' fun e' w' => ∃ g c, e' = .returned (.slice (some ⟨g, 0, none⟩) 64 c) ∧ W'.heap.size ≤ g ∧ 64 ≤ c ∧ (∀ i, i < 64 → w'.cell? ⟨g, i, none⟩ = some (.int .u8 (Gf.mul (f i) a : Nat))) ∧ Below W'.heap.size W' w') := fun W' => lunpack_at _ (fun i hi => Gf.mul_lt _ _ (hf2 i hi)) W'
    clear hf
    rw [he]
    have HI : Hid (Boxed W (R + 1 + 1 + 1 + 1) 24 (.slice (some ad) n c) ∧ Boxed W (R + 1 + 1 + 1 + 1 + 1) 3 (.int .i64 64) ∧ Boxed W (R + 1 + 1 + 1) 24 v ∧ Ow W (R + 1 + 1) v (eachF xs a n pre) ∧ Below R w W) := ⟨hC1, hC2, hv, hrow, hB⟩
    have hlA := World.block_lt_of_cell? _ _ hcA
    have HcA : Hid (W.cell? ⟨R + 1, 0, none⟩ = some (.int .u8 (a : Int))) := hcA
    clear hC1 hC2 hv hrow hB
    gi_wp2
    gi_region_with_o (first
      | (gi_at_call 185; refine (CallsIn.inRound l (callsIn_wide.2 (KP.out _ HI.out.2.2.2.2.drew))).mono ?_; rintro e' w1 ⟨rfl, hb1⟩; have hcA1 := (hb1.cell (p := ⟨R + 1, 0, none⟩) hlA).trans HcA.out)
      | (gi_at_call 181; refine (CallsIn.inRound l (callsIn_wide.2 (KS.out _))).mono ?_; rintro e' w2 ⟨rfl, hb2⟩)
      | (gi_at_call 184; refine (CallsIn.inRound l (callsIn_wide.2 (KU.out _))).mono ?_; rintro e' w3 ⟨g, cg, rfl, hg, hcg, hcells, hb3⟩))
    all_goals
      have hbw : Below W.heap.size W w3 := (Below.refl W.heap.size W).drew.trans ((hb1.trans ((hb2.trans (hb3.mono hb2.size)).mono hb1.size)) : Below W.heap.size W.drew w3)
      have hJ : Boxed w3.drew (R + 1 + 1 + 1) 24 v ∧ Ow w3.drew (R + 1 + 1) v (eachF xs a n pre) := ⟨boxed_below HI.out.2.2.1 hbw.drew, (HI.out.2.2.2.1.below hbw).drew⟩
      have hlE := eachF_length xs a n pre
      have hlC : (eachC xs a n ⟨j, hj⟩).length = e := (eachC_length xs a n ⟨j, hj⟩).trans he
      have hRW : R + 1 + 1 ≤ W.heap.size := by have := HI.out.2.2.1.lt; omega
      have hR3 : R + 1 + 1 ≤ w3.drew.heap.size := Nat.le_trans hRW hbw.size
      have hsn := eachF_snoc xs a n pre ⟨j, hj⟩
      obtain ⟨v', W', hap, hO', hgr⟩ := run_append_bytes w3.drew (R + 1 + 1) v (eachF xs a n pre) ⟨g, 0, none⟩ cg (eachC xs a n ⟨j, hj⟩) hJ.2 (fun i hi => by
        rw [hlC] at hi
        have e1 : (⟨g, 0, none⟩ : Addr).add i = ⟨g, i, none⟩ := by unfold Addr.add; split <;> simp_all
        rw [e1, World.cell?_drew, hcells i (by omega), hf1 i hi]
        unfold eachC
        have hi' : i < ckn n j := by rw [he]; exact hi
        simp [List.getD, hi']) (by omega) hR3
      rw [hlC] at hap
      rw [← hsn] at hO'
      have hsh : ∃ g' n' c', v' = .slice (some ⟨g', 0, none⟩) n' c' := by
        rcases hO'.shape with ⟨_, h0⟩ | ⟨g', c', h1, _⟩
        · have := congrArg List.length h0
          rw [hsn, List.length_append, hlC] at this
          simp at this
          omega
        · exact ⟨g', _, c', h1⟩
      obtain ⟨g', n', c', rfl⟩ := hsh
      have ha1 := ap_ok hap
      have ha2 := ap_v hap
      have ha3 := ap_w hap
      obtain ⟨b1, b2, b3, b4, b5⟩ := appended0 hJ.1 hJ.2 hR3 (by omega : R + 1 + 1 ≤ R + 1 + 1 + 1) hO' hgr
      have k1 := other0 (B := R + 1 + 1 + 1) (v' := .slice (some ⟨g', 0, none⟩) n' c') (boxed_below HI.out.1 hbw.drew) (by decide) (by omega) hJ.2 hgr
      have k2 := other0 (B := R + 1 + 1 + 1) (v' := .slice (some ⟨g', 0, none⟩) n' c') (boxed_below HI.out.2.1 hbw.drew) (by decide) (by omega) hJ.2 hgr
      have hcA3 : w3.drew.cell? ⟨R + 1, 0, none⟩ = some (.int .u8 (a : Int)) := (hbw.drew.cell (p := ⟨R + 1, 0, none⟩) hlA).trans HcA.out
      have HZ : Hid (KeepsOthers W (W'.setCell ⟨R + 1 + 1 + 1, 0, none⟩ (.slice (some ⟨g', 0, none⟩) n' c')) ∧ KeepsTwo (R + 1 + 1 + 1 + 1) (R + 1 + 1 + 1 + 1 + 1) W (W'.setCell ⟨R + 1 + 1 + 1, 0, none⟩ (.slice (some ⟨g', 0, none⟩) n' c')) ∧
          ((((W'.setCell ⟨R + 1 + 1 + 1, 0, none⟩ (.slice (some ⟨g', 0, none⟩) n' c')).cell? ⟨R + 1, 0, none⟩ = some (.int .u8 (a : Int)) ∧ Boxed (W'.setCell ⟨R + 1 + 1 + 1, 0, none⟩ (.slice (some ⟨g', 0, none⟩) n' c')) (R + 1 + 1 + 1 + 1) 24 (.slice (some ad) n c) ∧ Boxed (W'.setCell ⟨R + 1 + 1 + 1, 0, none⟩ (.slice (some ⟨g', 0, none⟩) n' c')) (R + 1 + 1 + 1 + 1 + 1) 3 (.int .i64 64)) ∧ ∃ v, Boxed (W'.setCell ⟨R + 1 + 1 + 1, 0, none⟩ (.slice (some ⟨g', 0, none⟩) n' c')) (R + 1 + 1 + 1) 24 v ∧ (W'.setCell ⟨R + 1 + 1 + 1, 0, none⟩ (.slice (some ⟨g', 0, none⟩) n' c')).ownsRow (R + 1 + 1) 5 1 v (eachF xs a n (pre ++ [⟨j, hj⟩])).length (ob (eachF xs a n (pre ++ [⟨j, hj⟩]))) ∧ True) ∧ Below R w (W'.setCell ⟨R + 1 + 1 + 1, 0, none⟩ (.slice (some ⟨g', 0, none⟩) n' c')))) :=
        ⟨(keepsOthers_below hbw.drew).trans b4, ⟨keepsCell_boxed HI.out.1 k1, keepsCell_boxed HI.out.2.1 k2⟩, ⟨⟨(b5.cell (p := ⟨R + 1, 0, none⟩) (by simp)).trans hcA3, k1, k2⟩, ⟨_, b2, b3, trivial⟩⟩, HI.out.2.2.2.2.trans ((hbw.drew.mono (by omega)).trans (b5.mono (by omega)))⟩
      have cP := hJ.1.cell
      have c1 := b1.cell
      have f1 := b1.frozen
      have hle : (e : Int) ≤ (cg : Int) := by omega
      clear hcells hb1 hb2 hb3 hO' hlE hlC b1 b2 b3 b4 b5 hJ hap hsn k1 k2 hcA3 hf1 hf2 KP KS KU HcA hcA
      gi_wp2
      gi_region_o
      all_goals (gi_wp2; exact HZ.out)
  case done =>
    rintro D ys W hD hS ⟨⟨⟨hcA, hC1, hC2⟩, v, hv, hrow0, _⟩, hB⟩ hK
    obtain rfl : ys = _ := hS
    rw [HE.out] at hrow0
    have cP := hv.cell
    have HZ : Hid (Ow W R v (xs.map (Gf.mul a)) ∧ Below R w W) := ⟨Ow.mono (show Ow W (R + 1 + 1) v (xs.map (Gf.mul a)) from hrow0) (by omega), hB⟩
    clear hrow0 hB hC1 hC2 hcA hv
    gi_wp2
    refine ⟨by simp, .inl ⟨_, _, rfl, run_takeDeferred hK, ?_⟩⟩
    refine ⟨_, results_tmp rfl _ _ _, _, rfl, ownsRow_putObj (show W.ownsRow w.heap.size 5 1 v (xs.map (Gf.mul a)).length (ob (xs.map (Gf.mul a))) from hR.symm ▸ HZ.out.1) _ hK rfl, ?_⟩
    rw [hR]
    exact HZ.out.2.trans (belowK_b (w := w) (by omega) W D _ _ (by omega) hK rfl rfl)
  case stop =>
    rintro D c pre W _ _ h _
    exact h.elim
end Go.Proofs
/- The walk of field's backend of lanes, for pairs of lists. Conditions: lists of one length, of at most a thousand million bytes, no longer than their capacities. -/
namespace Go.Proofs
open Go.RowKit Go.Shelf Go.ChangeShapes Go.WideShapes
attribute [local go_sem] Oper.semAt_some
attribute [local go_sem ↓ high] builtin_ap
attribute [local go_sem] ap_sem

end Go.Proofs
/- The walks of a field's calls on lists: Each, Pairs, Dot. Conditions: lists of at most a thousand million bytes, no longer than their capacities; a field that Of has made, and lists that do not lie in its table. -/
namespace Go.Proofs
open Go.RowKit Go.ChangeShapes Go.WideShapes

theorem Fd.tabled' {B T : Nat} {W W' : World} (h : Fd 1 B T W) (hm : Any T W') (hb : But (· = T) W W') : Fd 1 B T W' :=
  have hB : ¬ B = T := fun e => (h.tab rfl).2 e.symm
  ⟨h.k1, h.k3, (hb.cell (p := ⟨B, 0, none⟩) h.blt hB).trans h.num, (hb.cell (p := ⟨B, 1, none⟩) h.blt hB).trans h.way, fun e => ⟨hm, (h.tab e).2⟩, Nat.lt_of_lt_of_le h.lt hb.size⟩
theorem But.box {S : Nat → Prop} {w w1 : World} (o : Obj) (h : But S (w.alloc o) w1) : But S w w1 := ((But.refl S w).alloc o).trans h
theorem bleach_calls (a n c : Nat) (q : Option Addr) (xs : List Nat) (ha : a < 256) (hn : n ≤ 1000000000) (hnc : n ≤ c) (w : World) (hs : Bs w q n xs) :
    Calls Tryz.prog 177 #[.agg #[], .int .u8 a, .slice q n c] w fun e w' => ∃ v, e = .returned v ∧ Ow w' w.heap.size v (xs.map (Gf.mul a)) ∧ Below w.heap.size w w' :=
  (callsIn_wide (n := 3)).1 (bleach_in 3 (by omega) a n c q xs ha hn hnc w hs)

set_option maxRecDepth 100000 in
set_option maxHeartbeats 1000000 in
theorem bteach_calls (T a n c : Nat) (q : Option Addr) (xs : List Nat) (ha : a < 256) (hn : n ≤ 1000000000) (w : World) (hT : Any T w) (hs : Bs w q n xs) (hq : Off T n q) :
    Calls Tryz.prog 162 #[.agg #[.pointer (some ⟨T, 0, none⟩)], .int .u8 a, .slice q n c] w fun e w' => ∃ v, e = .returned v ∧ Ow w' w.heap.size v (xs.map (Gf.mul a)) ∧ Any T w' ∧ But (· = T) w w' := by
  have hT' := hT.but ((But.refl (fun _ => False) w).alloc (.cells #[.pointer (some ⟨T, 0, none⟩)] 65)) id
  have hs' := hs.alloc (.cells #[.pointer (some ⟨T, 0, none⟩)] 65)
  go_enter Tryz.func162, Tryz.ntmps162
  go_wp2_with fail
  refine (feach1_calls T a n c q xs ha hn _ hT' hs' hq).mono ?_
  rintro e w1 ⟨v, rfl, hO, hA, hB⟩
  go_wp2
  go_ret
  exact ⟨_, rfl, hO.mono (by simp), hA, hB.box _⟩
set_option maxRecDepth 100000 in
set_option maxHeartbeats 1000000 in
theorem bseach_calls (a n c : Nat) (q : Option Addr) (xs : List Nat) (ha : a < 256) (hn : n ≤ 1000000000) (w : World) (hs : Bs w q n xs) :
    Calls Tryz.prog 167 #[.agg #[], .int .u8 a, .slice q n c] w fun e w' => ∃ v, e = .returned v ∧ Ow w' w.heap.size v (xs.map (Gf.mul a)) ∧ But (fun _ => False) w w' := by
  have hs' := hs.alloc (.cells #[] 71)
  go_enter Tryz.func167, Tryz.ntmps167
  go_wp2_with fail
  refine (feach2_calls a n c q xs ha hn _ hs').mono ?_
  rintro e w1 ⟨v, rfl, hO, hB⟩
  go_wp2
  go_ret
  exact ⟨_, rfl, hO.mono (by simp), hB.box _⟩
theorem meach1 (T : Nat) (w : World) : (method 313 65 (.agg #[.pointer (some ⟨T, 0, none⟩)]) "erratum/field.each").run Tryz.prog w = .ok (162, .agg #[.pointer (some ⟨T, 0, none⟩)]) w := by kernel_rfl
theorem meach2 (w : World) : (method 313 71 (.agg #[]) "erratum/field.each").run Tryz.prog w = .ok (167, .agg #[]) w := by kernel_rfl
theorem meach3 (w : World) : (method 313 72 (.agg #[]) "erratum/field.each").run Tryz.prog w = .ok (177, .agg #[]) w := by kernel_rfl
set_option maxRecDepth 100000 in
set_option maxHeartbeats 1000000 in
theorem feach_calls (k B T a n c : Nat) (q : Option Addr) (xs : List Nat) (ha : a < 256) (hn : n ≤ 1000000000) (hnc : n ≤ c) (w : World) (h : Fd k B T w) (hs : Bs w q n xs) (hq : Off T n q) :
    Calls Tryz.prog 68 #[.pointer (some ⟨B, 0, none⟩), .int .u8 a, .slice q n c] w fun e w' => ∃ v, e = .returned v ∧ Ow w' w.heap.size v (xs.map (Gf.mul a)) ∧ Fd k B T w' ∧ But (· = T) w w' := by
  rcases way_lt h.k1 h.k3 with rfl | rfl | rfl
  · have hw : w.cell? ⟨B, 1, none⟩ = some (.iface 65 (.agg #[.pointer (some ⟨T, 0, none⟩)])) := h.way
    have hm := meach1 T
    go_enter Tryz.func68, Tryz.ntmps68
    go_wp2_with fail
    refine (bteach_calls T a n c q xs ha hn _ (h.tab rfl).1 hs hq).mono ?_
    rintro e w1 ⟨v, rfl, hO, hA, hB⟩
    go_wp2
    go_ret
    exact ⟨_, rfl, hO, h.tabled' hA hB, hB⟩
  · have hw : w.cell? ⟨B, 1, none⟩ = some (.iface 71 (.agg #[])) := h.way
    have hm := meach2
    go_enter Tryz.func68, Tryz.ntmps68
    go_wp2_with fail
    refine (bseach_calls a n c q xs ha hn _ hs).mono ?_
    rintro e w1 ⟨v, rfl, hO, hB⟩
    go_wp2
    go_ret
    exact ⟨_, rfl, hO, h.but hB id id, hB.mono (fun _ => False.elim)⟩
  · have hw : w.cell? ⟨B, 1, none⟩ = some (.iface 72 (.agg #[])) := h.way
    have hm := meach3
    go_enter Tryz.func68, Tryz.ntmps68
    go_wp2_with fail
    refine (bleach_calls a n c q xs ha hn hnc _ hs).mono ?_
    rintro e w1 ⟨v, rfl, hO, hB⟩
    go_wp2
    go_ret
    exact ⟨_, rfl, hO, h.below hB, But.of_below hB⟩

theorem bs_take {W : World} {q : Option Addr} {n : Nat} {xs : List Nat} (h : Bs W q n xs) (k : Nat) (hk : k ≤ n) : Bs W q k (xs.take k) := by
  refine ⟨by rw [List.length_take, h.len]; omega, Nat.le_trans hk h.max, fun i hi => ?_, fun i => ?_⟩
  · obtain ⟨a, e, hl, hc⟩ := h.cell i (by omega)
    refine ⟨a, e, hl, ?_⟩
    rw [hc]
    simp [List.getD, hi]
  · by_cases hi : i < k
    · have := h.byte i
      simpa [List.getD, hi] using this
    · simp [List.getD, List.getElem?_take, hi]
theorem take_snoc (l : List Nat) (k : Nat) (hk : k < l.length) : l.take (k + 1) = l.take k ++ [l.getD k 0] := by
  rw [List.take_add_one, List.getElem?_eq_getElem hk]
  simp [List.getD, hk]
theorem map_byte (a : Nat) (xs : List Nat) (ha : a < 256) (i : Nat) : (xs.map (Gf.mul a)).getD i 0 < 256 := by
  simp only [List.getD, List.getElem?_map]
  cases xs[i]? with
  | none => simp
  | some b => exact Gf.mul_lt a b ha
end Go.Proofs
/- append of a list that is read, whether it is nil or not; parts of lists that are read. Conditions: bounds on lengths. -/
namespace Go.Proofs
open Go.RowKit Go.ChangeShapes Go.WideShapes
theorem run_append_none (W : World) (base : Nat) (v : Value) (xs : List Nat) (c : Nat) (hown : Ow W base v xs) :
    (Builtin.append_ #[24, 24] 24 #[v, .slice none 0 c]).run Tryz.prog W = .ok v W := by
  obtain ⟨i, hi, hz, hsz, hby⟩ := info_parts info_u8
  have ht := Tryz.underlying24
  rcases hown.2 with ⟨rfl, _⟩ | ⟨g, cap, cur, rfl, _, hgb, hle, _⟩
  · simp [Builtin.append_, run_underlying ht, sizeOf, typeInfo, hi, Builtin.lenOf, Builtin.firstCells]
  · simp [Builtin.append_, run_underlying ht, sizeOf, typeInfo, hi, Builtin.lenOf, Builtin.firstCells, hle, storeCells]
theorem run_append_list (W : World) (base : Nat) (v : Value) (xs : List Nat) (q : Option Addr) (n c : Nat) (ys : List Nat) (hown : Ow W base v xs) (hs : Bs W q n ys) (hn : xs.length + n ≤ 10000000000) (hb : base ≤ W.heap.size) :
    ∃ v' W', (Builtin.append_ #[24, 24] 24 #[v, .slice q n c]).run Tryz.prog W = .ok v' W' ∧ Ow W' base v' (xs ++ ys) ∧ W.grownBy W' v.ownBlock := by
  have hl := hs.len
  cases q with
  | none =>
    have h0 : n = 0 := by
      rcases Nat.eq_zero_or_pos n with h | h
      · exact h
      · obtain ⟨_, e, _⟩ := hs.cell 0 h; cases e
    subst h0
    obtain rfl : ys = [] := List.length_eq_zero_iff.1 hl
    exact ⟨v, W, run_append_none W base v xs c hown, by rw [List.append_nil]; exact hown, ⟨rfl, rfl, rfl, Nat.le_refl _, fun _ _ _ => rfl⟩⟩
  | some ad =>
    subst hl
    exact run_append_bytes W base v xs ad c ys hown (fun j hj => by
      obtain ⟨a, e, _, hc⟩ := hs.cell j hj
      cases e
      exact hc) hn hb

end Go.Proofs
/- Lists of bytes that a call has told, of a length that is named. -/
namespace Go.Proofs
open Go.RowKit
theorem Ow.tell {W : World} {base : Nat} {v : Value} {xs : List Nat} {n : Nat} (h : Ow W base v xs) (hx : ∀ i, xs.getD i 0 < 256) (hl : xs.length = n) : ∃ q c, v = .slice q n c ∧ Bs W q n xs ∧ n ≤ c ∧ ∀ T, T < base → Off T n q := by
  subst hl; exact h.told hx
end Go.Proofs
