/- Texts laid together: Chunk, FdLnL, FdLnP, FdL, App2, Told. Each says its own conditions. -/
import Derived.RangeFuncBox
import Derived.Deep.RegionHeld3
import Derived.Test.YtbikchgkglllkaaGreatMC
import Derived.Test.YtbikchgkglllkaaGreatMP
import Derived.Test.YtbikchgkglllkaaGreatMO
import Derived.Test.YtbikchgkglllkaaGreatMF
/- The walk of slices.Chunk at sixty-four, and of its iterator: parts of sixty-four bytes, the last one shorter. Conditions: a list of at most a thousand million, its capacity no less than its length. -/
namespace Go.Proofs
open Go.RowKit Go.Shelf
attribute [local go_sem] Oper.semAt_some

/-- A part: which one. -/
abbrev Ck (n : Nat) := { j : Nat // 64 * j < n }
/-- How long it is. -/
def ckn (n j : Nat) : Nat := min 64 (n - 64 * j)
abbrev ckv (a : Addr) (n : Nat) (x : Ck n) : Array Value := #[.slice (some (a.add (64 * x.1))) (ckn n x.1) (ckn n x.1)]
def ckUpto (n : Nat) : Nat → List (Ck n)
  | 0 => []
  | k + 1 => if h : 64 * k < n then ckUpto n k ++ [⟨k, h⟩] else ckUpto n k
theorem ckUpto_length (n k : Nat) : (ckUpto n k).length ≤ k := by
  induction k with
  | zero => exact Nat.le_refl _
  | succ k ih =>
    unfold ckUpto
    split
    · simp; exact ih
    · omega
/-- A round keeps what the two captured boxes hold. -/
def KeepsTwo (A B : Nat) (W W' : World) : Prop := KeepsCell A W W' ∧ KeepsCell B W W'
theorem keepsTwo_t {A B : Nat} {X Y Z : World} (h : KeepsTwo A B X Y) (k : KeepsTwo A B Y Z) : KeepsTwo A B X Z := ⟨keepsCell_t h.1 k.1, keepsCell_t h.2 k.2⟩
theorem keepsTwo_b {A B : Nat} (W : World) (l : Nat) (o o' : Obj) (hl : W.heap[l]? = some o) (ho : o.isCells = false) : KeepsTwo A B W (W.putObj l o') := ⟨keepsCell_b W l o o' hl ho, keepsCell_b W l o o' hl ho⟩

theorem chunk_calls (m : Nat) (q : Option Addr) (n c : Nat) (w : World) :
    CallsIn Fence.wide m Tryz.prog 155 #[.slice q n c, .int .i64 64] w fun e w' => e = .returned (.func (.func 161) #[] #[.pointer (some ⟨w.heap.size, 0, none⟩), .pointer (some ⟨w.heap.size + 1, 0, none⟩)]) ∧ (w.alloc (.cells #[.slice q n c] 24)).alloc (.cells #[.int .i64 64] 3) = w' := by
  refine callsIn_of_wp Tryz.func155 rfl trivial ?_ rfl
  simp only [Tryz.ntmps155, List.size_toArray, List.length_cons, List.length_nil, Nat.reduceAdd, Nat.reduceSub, Array.replicate_succ, Array.replicate_zero, List.push_toArray, List.append_toArray, List.nil_append, List.cons_append]
  gi_wp2
  go_ret
  exact ⟨rfl, rfl⟩

set_option maxRecDepth 100000 in
set_option maxHeartbeats 1000000 in
theorem chunk1_stops (m : Nat) (hm : 1 ≤ m) (A B : Nat) (a : Addr) (q : Option Addr) (n c : Nat) (hq : 0 < n → q = some a) (hn : n ≤ 1000000000) (hnc : n ≤ c) (w : World) (hA : A < w.heap.size) (hB : B < w.heap.size)
    (hcA : w.cell? ⟨A, 0, none⟩ = some (.slice q n c)) (hcB : w.cell? ⟨B, 0, none⟩ = some (.int .i64 64)) :
    SeqStopsK Fence.wide m Tryz.prog 161 #[.pointer (some ⟨A, 0, none⟩), .pointer (some ⟨B, 0, none⟩)] (ckv a n) (KeepsTwo A B) (fun xs => xs = ckUpto n ((n + 63) / 64)) (fun _ => True) ((n + 63) / 64) w :=
  fun l J Jx W hW hJ hJx hY h0 => by
  have hcAW := (hW.cell (p := ⟨A, 0, none⟩) hA).trans hcA
  have hcBW := (hW.cell (p := ⟨B, 0, none⟩) hB).trans hcB
  clear hcA hcB hW
  refine callsIn_of_wp Tryz.func161 rfl trivial ?_ rfl
  simp only [Tryz.ntmps161, List.size_toArray, List.length_cons, List.length_nil, Nat.reduceAdd, Nat.reduceSub, Array.replicate_succ, Array.replicate_zero, List.push_toArray, List.append_toArray, List.nil_append, List.cons_append]
  gi_wp2
  gi_loopw [4] (fun i wr => ∃ k : Nat, k ≤ (n + 63) / 64 ∧ i = .int .i64 ((64 * k : Nat) : Int) ∧ J (ckUpto n k) wr ∧ wr.cell? ⟨A, 0, none⟩ = some (.slice q n c) ∧ wr.cell? ⟨B, 0, none⟩ = some (.int .i64 64))
    (fun i _ => n - (intOf i).toNat)
  case atStart => exact ⟨0, by omega, rfl, h0, hcAW, hcBW⟩
  case round =>
    obtain ⟨k, hk, rfl, hJs, hca, hcb⟩ := hrel
    have hmx : Tryz.prog.follows .mixedOrders = true := by kernel_rfl
    obtain ⟨i, hi⟩ : ∃ i, 64 * k = i := ⟨_, rfl⟩
    by_cases hz : n ≤ 64 * k
    · have ek : k = (n + 63) / 64 := by omega
      have hni : ¬ ((i : Int) < (n : Int)) := by omega
      rw [hi]
      gi_wp2
      go_end0
      exact ⟨⟨_, rfl⟩, .inl (ek ▸ hJs)⟩
    · have hlt : 64 * k < n := by omega
      have hni : ((i : Int) < (n : Int)) := by omega
      have hJd : J (ckUpto n k) wr.drew := hJ _ _ _ none hJs ⟨rfl, rfl, rfl, Nat.le_refl _, fun _ _ _ => rfl⟩ (fun r e => by cases e)
      obtain ⟨fn, tmps, assign, body, hy, hR⟩ := hY (ckUpto n k) ⟨k, hlt⟩ wr.drew hJd (by have := ckUpto_length n k; omega)
      have eu : ckUpto n (k + 1) = ckUpto n k ++ [⟨k, hlt⟩] := by simp [ckUpto, hlt]
      rw [← eu] at hR
      dsimp only [ckv] at hy
      rw [hi] at hy
      obtain rfl : q = some a := hq (by omega)
      clear hq hJd hJs eu hY
      rw [hi]
      have hin : (i : Int) ≤ (n : Int) := by omega
      have hi0 : (0 : Int) ≤ (i : Int) := by omega
      have hcase : (n - i < 64 ∧ ckn n k = n - i) ∨ (64 ≤ n - i ∧ ckn n k = 64) := by unfold ckn; omega
      rcases hcase with ⟨hs, he⟩ | ⟨hs, he⟩
      all_goals
        rw [he] at hy
        have h1 : ((n - i : Nat) : Int) = (n : Int) - (i : Int) := by omega
        gi_wp2
        gi_region_o
        gi_wp2
        refine hR.mono ?_
        rintro e W3 (⟨rfl, hJ3, hk3⟩ | ⟨rfl, hJx3⟩)
        · have hc3 : W3.cell? ⟨A, 0, none⟩ = some (.slice (some a) n c) := hk3.1 _ (by rw [World.cell?_drew]; exact hca)
          have hd3 : W3.cell? ⟨B, 0, none⟩ = some (.int .i64 64) := hk3.2 _ (by rw [World.cell?_drew]; exact hcb)
          gi_wp2
          go_roundw
          case rel => exact ⟨k + 1, by omega, by simp; omega, hJ3, hc3, hd3⟩
          case measure => simp [intOf]; omega
        · gi_wp2
          refine bodyPost_ret (results_none rfl _ _ _) rfl ?_
          exact ⟨⟨_, rfl⟩, .inr ⟨_, trivial, hJx3⟩⟩
end Go.Proofs
/- The walks of field's backend of lanes, for lists: each, pairs. Conditions: lists of at most a thousand million bytes, no longer than their capacities. -/
namespace Go.Proofs
open Go.RowKit Go.Shelf Go.ChangeShapes Go.WideShapes
attribute [local go_sem] Oper.semAt_some
attribute [local go_sem ↓ high] builtin_ap
attribute [local go_sem] ap_sem

/-- make([]byte, 0, n). -/
theorem make_bytes0 (n : Nat) (hn : n ≤ 281474976710656) (w : World) :
    (Instr.makeSlice 24 (.int .i64 0) (.int .i64 (n : Int))).run Tryz.prog w = .ok (.slice (some ⟨w.heap.size, 0, none⟩) 0 n) (w.alloc (.cells (madeCells #[.int .u8 0] n) 5)) := by
  obtain ⟨i, hi, hz, hs, hb⟩ := info_parts info_u8
  have hr := run_make (P := Tryz.prog) w 24 5 i (.int .u8 0) Tryz.underlying24 hi hz .i64 .i64 0 n (by omega) (by omega) (by rw [hb]; omega) (by omega)
  simp only [Int.toNat_natCast, hs, Nat.mul_one] at hr
  exact hr
theorem ow_made0 (W : World) {base : Nat} (hb : base ≤ W.heap.size) (n : Nat) (hn : n ≤ 281474976710656) : Ow (W.alloc (.cells (madeCells #[.int .u8 0] n) 5)) base (.slice (some ⟨W.heap.size, 0, none⟩) 0 n) [] :=
  ⟨rfl, .inr ⟨W.heap.size, n, madeCells #[.int .u8 0] n, rfl, hb, World.alloc_heap_new W _, Nat.zero_le _, by unfold maxLen; omega, by rw [size_madeCells]; simp, rfl⟩⟩
/-- The products of the parts that have come. -/
def eachC (xs : List Nat) (a n : Nat) (x : Ck n) : List Nat := (List.range (ckn n x.1)).map fun i => Gf.mul (xs.getD (64 * x.1 + i) 0) a
def eachF (xs : List Nat) (a n : Nat) (pre : List (Ck n)) : List Nat := pre.flatMap (eachC xs a n)
theorem eachF_snoc (xs : List Nat) (a n : Nat) (pre : List (Ck n)) (x : Ck n) : eachF xs a n (pre ++ [x]) = eachF xs a n pre ++ eachC xs a n x := by simp [eachF]
theorem eachC_length (xs : List Nat) (a n : Nat) (x : Ck n) : (eachC xs a n x).length = ckn n x.1 := by simp [eachC]
theorem ckn_le (n j : Nat) : ckn n j ≤ 64 := Nat.min_le_left _ _
theorem eachF_length (xs : List Nat) (a n : Nat) (pre : List (Ck n)) : (eachF xs a n pre).length ≤ 64 * pre.length := by
  induction pre with
  | nil => simp [eachF]
  | cons x l ih =>
    have e : eachF xs a n (x :: l) = eachC xs a n x ++ eachF xs a n l := by simp [eachF]
    rw [e, List.length_append, eachC_length, List.length_cons]
    have := ckn_le n x.1
    omega
theorem eachF_upto (xs : List Nat) (a n k : Nat) : eachF xs a n (ckUpto n k) = (List.range (min n (64 * k))).map fun i => Gf.mul (xs.getD i 0) a := by
  induction k with
  | zero => simp [ckUpto, eachF]
  | succ k ih =>
    by_cases h : 64 * k < n
    · have e : ckUpto n (k + 1) = ckUpto n k ++ [⟨k, h⟩] := by simp [ckUpto, h]
      rw [e, eachF_snoc, ih]
      have e1 : min n (64 * k) = 64 * k := by omega
      have e2 : min n (64 * (k + 1)) = 64 * k + ckn n k := by unfold ckn; omega
      rw [e1, e2, List.range_add, List.map_append, List.map_map]
      rfl
    · have e : ckUpto n (k + 1) = ckUpto n k := by simp [ckUpto, h]
      rw [e, ih]
      have e1 : min n (64 * k) = min n (64 * (k + 1)) := by omega
      rw [e1]
theorem eachF_all (xs : List Nat) (a n : Nat) (ha : a < 256) (hx : ∀ i, xs.getD i 0 < 256) (hn : xs.length = n) : eachF xs a n (ckUpto n ((n + 63) / 64)) = xs.map (Gf.mul a) := by
  rw [eachF_upto]
  have e : min n (64 * ((n + 63) / 64)) = n := by omega
  rw [e, ← hn, ← range_map (Gf.mul a) xs]
  apply List.map_congr_left
  intro i _
  exact Gf.mul_comm _ _ (hx i) ha

theorem lunpack_at (l : Nat → Nat) (hl : ∀ n, n < 64 → l n < 256) (w : World) :
    Calls Tryz.prog 156 #[V8 l] w fun e w' => ∃ g c, e = .returned (.slice (some ⟨g, 0, none⟩) 64 c) ∧ w.heap.size ≤ g ∧ 64 ≤ c ∧ (∀ i, i < 64 → w'.cell? ⟨g, i, none⟩ = some (.int .u8 (l i : Nat))) ∧ Below w.heap.size w w' :=
  (lunpack_calls l hl w).mono fun e w' ⟨v, he, hO, hb⟩ => by
    rcases hO.shape with ⟨_, h0⟩ | ⟨g, c, rfl, h1, _, h3, _, h5, _⟩
    · have := ll_length l
      rw [h0] at this
      exact absurd this (by decide)
    · rw [ll_length] at h3 h5 he
      refine ⟨g, c, he, h1, h3, fun i hi => ?_, hb⟩
      rw [h5 i hi, ll_at, if_pos hi]
/-- 'out = append(out, told...)': behind the append and the store into the variable's box. -/
theorem appended0 {W w1 : World} {n₀ B : Nat} {v v' : Value} {xs ys : List Nat} (hv : Boxed W B 24 v) (hrow : Ow W n₀ v xs) (hn₀ : n₀ ≤ W.heap.size) (hB : n₀ ≤ B) (hown' : Ow w1 n₀ v' ys) (hgrow : W.grownBy w1 v.ownBlock) :
    Boxed w1 B 24 v ∧ Boxed (w1.setCell ⟨B, 0, none⟩ v') B 24 v' ∧ Ow (w1.setCell ⟨B, 0, none⟩ v') n₀ v' ys ∧ KeepsOthers W (w1.setCell ⟨B, 0, none⟩ v') ∧ Below n₀ W (w1.setCell ⟨B, 0, none⟩ v') := by
  have hv1 : Boxed w1 B 24 v := hv.kept hgrow (hv.not_row (by decide) hrow)
  refine ⟨hv1, hv1.set v', World.ownsRow.kept hown' (grownBy_setCell' w1 B v') (.inr (hv1.not_row (by decide) hown').symm), ?_, ?_⟩
  · refine (KeepsOthers.of_grownBy hgrow fun j o ej hj => ?_).trans (KeepsOthers.setCell _ _ _)
    rcases hrow.2 with ⟨rfl, _⟩ | ⟨g, cap, cur, rfl, _, hgb, _⟩
    · simp [Value.ownBlock] at ej
    · obtain rfl : g = j := by simpa [Value.ownBlock] using ej
      rw [hgb] at hj; cases hj; rfl
  · refine ((Below.refl n₀ W).grown hgrow hn₀ fun j ej => ?_).setCell (p := ⟨B, 0, none⟩) hB v'
    exact (hrow.lt j ej).1
theorem other0 {W w1 : World} {n₀ B C : Nat} {t : TypeId} {v v' u : Value} {xs : List Nat} (hu : Boxed W C t u) (ht : t ≠ 5) (hne : C ≠ B) (hrow : Ow W n₀ v xs) (hgrow : W.grownBy w1 v.ownBlock) : Boxed (w1.setCell ⟨B, 0, none⟩ v') C t u :=
  (hu.kept hgrow (hu.not_row ht hrow)).other hne v'
theorem boxed_below {W W' : World} {B : Nat} {t : TypeId} {v : Value} (h : Boxed W B t v) (hb : Below W.heap.size W W') : Boxed W' B t v := (hb.block B h.lt).trans h
theorem keepsCell_boxed {W W' : World} {B : Nat} {t : TypeId} {v : Value} (h : Boxed W B t v) (h' : Boxed W' B t v) : KeepsCell B W W' := fun u hu => by rw [h.cell] at hu; rw [h'.cell]; exact hu
theorem bs_part {W : World} {q : Option Addr} {n : Nat} {xs : List Nat} (h : Bs W q n xs) (ad : Addr) (hq : q = some ad) (k m : Nat) (hk : k + m ≤ n) : Bs W (some (ad.add k)) m ((List.range m).map fun i => xs.getD (k + i) 0) := by
  refine ⟨by simp, Nat.le_trans (by omega) h.max, fun i hi => ?_, fun i => ?_⟩
  · obtain ⟨a, e, hl, hc⟩ := h.cell (k + i) (by omega)
    obtain rfl : a = ad := Option.some.inj (e.symm.trans hq)
    refine ⟨_, rfl, by rw [block_add]; exact hl, ?_⟩
    rw [Addr.add_add, hc]
    simp [List.getD, hi]
  · by_cases hi : i < m
    · have := h.byte (k + i)
      simpa [List.getD, hi] using this
    · simp [List.getD, hi]

set_option maxRecDepth 100000 in
set_option maxHeartbeats 2000000 in
theorem bleach_in (m : Nat) (hm : 3 ≤ m) (a n c : Nat) (q : Option Addr) (xs : List Nat) (ha : a < 256) (hn : n ≤ 1000000000) (hnc : n ≤ c) (w : World) (hs : Bs w q n xs) :
    CallsIn Fence.wide m Tryz.prog 149 #[.agg #[], .int .u8 a, .slice q n c] w fun e w' => ∃ v, e = .returned v ∧ Ow w' w.heap.size v (xs.map (Gf.mul a)) ∧ Below w.heap.size w w' := by
  have HS : Hid (Bs w q n xs) := hs
  have hmk := make_bytes0 n (by omega)
  have HE : Hid (eachF xs a n (ckUpto n ((n + 63) / 64)) = xs.map (Gf.mul a)) := eachF_all xs a n ha hs.byte hs.len
  obtain ⟨ad, had⟩ : ∃ ad, 0 < n → q = some ad := by
    cases q with
    | none => exact ⟨⟨0, 0, none⟩, fun h => by obtain ⟨_, e, _⟩ := hs.cell 0 h; cases e⟩
    | some x => exact ⟨x, fun _ => rfl⟩
  clear hs
  refine callsIn_of_wp_marks Tryz.func149 rfl trivial ?_ rfl
  simp only [Tryz.ntmps149, List.size_toArray, List.length_cons, List.length_nil, Nat.reduceAdd, Nat.reduceSub, Array.replicate_succ, Array.replicate_zero, List.push_toArray, List.append_toArray, List.nil_append, List.cons_append]
  have hfn : ∀ f, Fence.wide.fn f := fun _ => trivial
  have hm1 : 1 ≤ m := by omega
  gi_wp2_with (gi_at_call 155; refine (chunk_calls (m - 1) q n c _).mono ?_; rintro e w' ⟨rfl, rfl⟩)
  clear hmk
  obtain ⟨R, hR⟩ : ∃ R, w.heap.size = R := ⟨_, rfl⟩
  obtain ⟨W0, hW0⟩ : ∃ W0, ((((((w.alloc (.cells #[] 74)).alloc (.cells #[.int .u8 (a : Int)] 5)).alloc (.cells (madeCells #[.int .u8 0] n) 5)).alloc (.cells #[.slice (some ⟨w.heap.size + 1 + 1, 0, none⟩) 0 n] 24)).alloc (.cells #[.slice q n c] 24)).alloc (.cells #[.int .i64 64] 3)) = W0 := ⟨_, rfl⟩
  have hsz : W0.heap.size = R + 6 := by rw [← hW0, ← hR]; simp
  have hB0 : Below R w W0 := by
    rw [← hW0, ← hR]; exact ((((((Below.refl _ w).alloc (Nat.le_refl _) _).alloc (by simp) _).alloc (by simp; omega) _).alloc (by simp; omega) _).alloc (by simp; omega) _).alloc (by simp; omega) _
  have i1 : W0.cell? ⟨R + 1, 0, none⟩ = some (.int .u8 (a : Int)) := by rw [← hW0, ← hR]; simp [go_sem]
  have i2 : Boxed W0 (R + 1 + 1 + 1) 24 (.slice (some ⟨R + 1 + 1, 0, none⟩) 0 n) := by
    have := (Boxed.new (((w.alloc (.cells #[] 74)).alloc (.cells #[.int .u8 (a : Int)] 5)).alloc (.cells (madeCells #[.int .u8 0] n) 5)) 24 (.slice (some ⟨w.heap.size + 1 + 1, 0, none⟩) 0 n)).alloc (.cells #[.slice q n c] 24) |>.alloc (.cells #[.int .i64 64] 3)
    rw [hW0] at this
    simpa [hR] using this
  have i3 : Ow W0 (R + 1 + 1) (.slice (some ⟨R + 1 + 1, 0, none⟩) 0 n) [] := by
    have := (((ow_made0 ((w.alloc (.cells #[] 74)).alloc (.cells #[.int .u8 (a : Int)] 5)) (base := R + 1 + 1) (by simp; omega) n (by omega)).alloc (.cells #[.slice (some ⟨w.heap.size + 1 + 1, 0, none⟩) 0 n] 24)).alloc (.cells #[.slice q n c] 24)).alloc (.cells #[.int .i64 64] 3)
    rw [hW0] at this
    simpa [hR] using this
  have i4 : Boxed W0 (R + 1 + 1 + 1 + 1) 24 (.slice q n c) := by
    have := (Boxed.new ((((w.alloc (.cells #[] 74)).alloc (.cells #[.int .u8 (a : Int)] 5)).alloc (.cells (madeCells #[.int .u8 0] n) 5)).alloc (.cells #[.slice (some ⟨w.heap.size + 1 + 1, 0, none⟩) 0 n] 24)) 24 (.slice q n c)).alloc (.cells #[.int .i64 64] 3)
    rw [hW0] at this
    simpa [hR] using this
  have i5 : Boxed W0 (R + 1 + 1 + 1 + 1 + 1) 3 (.int .i64 64) := by
    have := Boxed.new (((((w.alloc (.cells #[] 74)).alloc (.cells #[.int .u8 (a : Int)] 5)).alloc (.cells (madeCells #[.int .u8 0] n) 5)).alloc (.cells #[.slice (some ⟨w.heap.size + 1 + 1, 0, none⟩) 0 n] 24)).alloc (.cells #[.slice q n c] 24)) 3 (.int .i64 64)
    rw [hW0] at this
    simpa [hR] using this
  rw [hW0, hR]
  clear hW0
  refine wpIn_rangeFunc_ownF rfl hm1 (gf := 161) (lb := #[.pointer (some ⟨R + 1 + 1 + 1 + 1, 0, none⟩), .pointer (some ⟨R + 1 + 1 + 1 + 1 + 1, 0, none⟩)]) rfl trivial (enters_of Tryz.func161 (by kernel_rfl) rfl)
    (chunk1_stops (m - 1) (by omega) (R + 1 + 1 + 1 + 1) (R + 1 + 1 + 1 + 1 + 1) ad q n c had hn hnc _ (by omega) (by omega) i4.cell i5.cell) keepsTwo_t (fun W l o o' _ h1 h2 _ => keepsTwo_b W l o o' h1 h2) (Below.refl _ _) (fun _ => rfl)
    (fun pre W => ((W.cell? ⟨R + 1, 0, none⟩ = some (.int .u8 (a : Int)) ∧ Boxed W (R + 1 + 1 + 1 + 1) 24 (.slice q n c) ∧ Boxed W (R + 1 + 1 + 1 + 1 + 1) 3 (.int .i64 64)) ∧ ∃ v, Boxed W (R + 1 + 1 + 1) 24 v ∧ W.ownsRow (R + 1 + 1) 5 1 v (eachF xs a n pre).length (ob (eachF xs a n pre)) ∧ True) ∧ Below R w W)
    (fun _ _ _ => False)
    (OwnFrom.and (OwnFrom.and (OwnFrom.and (Own.from (fun s A B row hs hg hr => cell_kept hs hg hr) _) (OwnFrom.and (Own.from (boxed_own _ _ _) _) (Own.from (boxed_own _ _ _) _))) (Own.from (holdsRow_own _ _ _ _ _ _ _ _) _)) (ownFrom_below (by omega) (by omega)))
    (fun _ _ _ _ _ hs _ _ => hs)
    ⟨⟨⟨i1, i4, i5⟩, ⟨_, i2, i3, trivial⟩⟩, hB0⟩
    (fun x => { tmps := #[.agg #[], .int .u8 a, .slice q n c, .pointer (some ⟨R, 0, none⟩), .pointer (some ⟨R + 1, 0, none⟩), undef, .slice none 0 0, .pointer (some ⟨R + 1 + 1 + 1, 0, none⟩), .slice (some (ad.add (64 * x.1))) (ckn n x.1) (ckn n x.1), undef, .slice q n c, .int .i64 n, .slice (some ⟨R + 1 + 1, 0, none⟩) 0 n, .slice q n c, .func (.func 161) #[] #[.pointer (some ⟨R + 1 + 1 + 1 + 1, 0, none⟩), .pointer (some ⟨R + 1 + 1 + 1 + 1 + 1, 0, none⟩)], .slice (some (ad.add (64 * x.1))) (ckn n x.1) (ckn n x.1), undef, undef, undef, undef, undef, undef, undef, undef, undef, undef, undef, undef], defers := [] }) ?assign ?body ?done ?stop
  case assign =>
    intro l x W K hK
    gi_wp2
    exact hK
  case body =>
    rintro l pre x W ⟨⟨⟨hcA, hC1, hC2⟩, v, hv, hrow0, _⟩, hB⟩ hlen
    have hrow : Ow W (R + 1 + 1) v (eachF xs a n pre) := hrow0
    clear i1 i2 i3 i4 i5 hB0 hrow0
    have hmx : Tryz.prog.follows .mixedOrders = true := by kernel_rfl
    obtain ⟨j, hj⟩ := x
    obtain rfl : q = some ad := had (by omega)
    obtain ⟨e, he⟩ : ∃ e, ckn n j = e := ⟨_, rfl⟩
    have he1 : 1 ≤ e ∧ e ≤ 64 ∧ 64 * j + e ≤ n := by rw [← he]; unfold ckn; omega
    have hd : 1 ≤ m - 1 - 1 := by omega
    obtain ⟨f, hf⟩ : ∃ f : Nat → Nat, (fun i => if i < e then xs.getD (64 * j + i) 0 else 0) = f := ⟨_, rfl⟩
    have hf1 : ∀ i, i < e → f i = xs.getD (64 * j + i) 0 := fun i hi => by rw [← hf]; exact if_pos hi
    have hf2 : ∀ i, i < 64 → f i < 256 := fun i _ => by
      rw [← hf]; dsimp only; split
      · exact HS.out.byte _
      · decide
    have KP : Hid (∀ W', Below R w W' → Calls Tryz.prog 157 #[.slice (some (ad.add (64 * j))) e e] W' fun e' w' => e' = .returned (V8 f) ∧ Below W'.heap.size W' w') := fun W' hW' =>
      lpack_calls (some (ad.add (64 * j))) e e ((List.range e).map fun i => xs.getD (64 * j + i) 0) f (fun i _ => by
        rw [← hf]
        by_cases hi : i < e
        · simp [List.getD, hi]
        · simp [List.getD, hi]) W' (bs_part (HS.out.below (hR.symm ▸ hW')) ad rfl (64 * j) e he1.2.2)
    have KS : Hid (∀ W', Calls Tryz.prog 153 #[V8 f, .int .u8 a] W' fun e' w' => e' = .returned (V8 (fun i => Gf.mul (f i) a)) ∧ Below W'.heap.size W' w') := fun W' => lscale_calls f _ a hf2 ha (fun _ _ => rfl) W'
    have KU : Hid (∀ W', Calls Tryz.prog 156 #[V8 (fun i => Gf.mul (f i) a)] W' fun e' w' => ∃ g c, e' = .returned (.slice (some ⟨g, 0, none⟩) 64 c) ∧ W'.heap.size ≤ g ∧ 64 ≤ c ∧ (∀ i, i < 64 → w'.cell? ⟨g, i, none⟩ = some (.int .u8 (Gf.mul (f i) a : Nat))) ∧ Below W'.heap.size W' w') := fun W' => lunpack_at _ (fun i hi => Gf.mul_lt _ _ (hf2 i hi)) W'
    clear hf
    rw [he]
    have HI : Hid (Boxed W (R + 1 + 1 + 1 + 1) 24 (.slice (some ad) n c) ∧ Boxed W (R + 1 + 1 + 1 + 1 + 1) 3 (.int .i64 64) ∧ Boxed W (R + 1 + 1 + 1) 24 v ∧ Ow W (R + 1 + 1) v (eachF xs a n pre) ∧ Below R w W) := ⟨hC1, hC2, hv, hrow, hB⟩
    have hlA := World.block_lt_of_cell? _ _ hcA
    have HcA : Hid (W.cell? ⟨R + 1, 0, none⟩ = some (.int .u8 (a : Int))) := hcA
    clear hC1 hC2 hv hrow hB
    gi_wp2
    gi_region_with_o (first
      | (gi_at_call 157; refine (CallsIn.inRound l (callsIn_wide.2 (KP.out _ HI.out.2.2.2.2.drew))).mono ?_; rintro e' w1 ⟨rfl, hb1⟩; have hcA1 := (hb1.cell (p := ⟨R + 1, 0, none⟩) hlA).trans HcA.out)
      | (gi_at_call 153; refine (CallsIn.inRound l (callsIn_wide.2 (KS.out _))).mono ?_; rintro e' w2 ⟨rfl, hb2⟩)
      | (gi_at_call 156; refine (CallsIn.inRound l (callsIn_wide.2 (KU.out _))).mono ?_; rintro e' w3 ⟨g, cg, rfl, hg, hcg, hcells, hb3⟩))
    all_goals
      have hbw : Below W.heap.size W w3 := (Below.refl W.heap.size W).drew.trans ((hb1.trans ((hb2.trans (hb3.mono hb2.size)).mono hb1.size)) : Below W.heap.size W.drew w3)
      have hJ : Boxed w3.drew (R + 1 + 1 + 1) 24 v ∧ Ow w3.drew (R + 1 + 1) v (eachF xs a n pre) := ⟨boxed_below HI.out.2.2.1 hbw.drew, (HI.out.2.2.2.1.below hbw).drew⟩
      have hlE := eachF_length xs a n pre
      have hlC : (eachC xs a n ⟨j, hj⟩).length = e := (eachC_length xs a n ⟨j, hj⟩).trans he
      have hRW : R + 1 + 1 ≤ W.heap.size := by have := HI.out.2.2.1.lt; omega
      have hR3 : R + 1 + 1 ≤ w3.drew.heap.size := Nat.le_trans hRW hbw.size
      have hsn := eachF_snoc xs a n pre ⟨j, hj⟩
      obtain ⟨v', W', hap, hO', hgr⟩ := run_append_bytes w3.drew (R + 1 + 1) v (eachF xs a n pre) ⟨g, 0, none⟩ cg (eachC xs a n ⟨j, hj⟩) hJ.2 (fun i hi => by
        rw [hlC] at hi
        have e1 : (⟨g, 0, none⟩ : Addr).add i = ⟨g, i, none⟩ := by unfold Addr.add; split <;> simp_all
        rw [e1, World.cell?_drew, hcells i (by omega), hf1 i hi]
        unfold eachC
        have hi' : i < ckn n j := by rw [he]; exact hi
        simp [List.getD, hi']) (by omega) hR3
      rw [hlC] at hap
      rw [← hsn] at hO'
      have hsh : ∃ g' n' c', v' = .slice (some ⟨g', 0, none⟩) n' c' := by
        rcases hO'.shape with ⟨_, h0⟩ | ⟨g', c', h1, _⟩
        · have := congrArg List.length h0
          rw [hsn, List.length_append, hlC] at this
          simp at this
          omega
        · exact ⟨g', _, c', h1⟩
      obtain ⟨g', n', c', rfl⟩ := hsh
      have ha1 := ap_ok hap
      have ha2 := ap_v hap
      have ha3 := ap_w hap
      obtain ⟨b1, b2, b3, b4, b5⟩ := appended0 hJ.1 hJ.2 hR3 (by omega : R + 1 + 1 ≤ R + 1 + 1 + 1) hO' hgr
      have k1 := other0 (B := R + 1 + 1 + 1) (v' := .slice (some ⟨g', 0, none⟩) n' c') (boxed_below HI.out.1 hbw.drew) (by decide) (by omega) hJ.2 hgr
      have k2 := other0 (B := R + 1 + 1 + 1) (v' := .slice (some ⟨g', 0, none⟩) n' c') (boxed_below HI.out.2.1 hbw.drew) (by decide) (by omega) hJ.2 hgr
      have hcA3 : w3.drew.cell? ⟨R + 1, 0, none⟩ = some (.int .u8 (a : Int)) := (hbw.drew.cell (p := ⟨R + 1, 0, none⟩) hlA).trans HcA.out
      have HZ : Hid (KeepsOthers W (W'.setCell ⟨R + 1 + 1 + 1, 0, none⟩ (.slice (some ⟨g', 0, none⟩) n' c')) ∧ KeepsTwo (R + 1 + 1 + 1 + 1) (R + 1 + 1 + 1 + 1 + 1) W (W'.setCell ⟨R + 1 + 1 + 1, 0, none⟩ (.slice (some ⟨g', 0, none⟩) n' c')) ∧
          ((((W'.setCell ⟨R + 1 + 1 + 1, 0, none⟩ (.slice (some ⟨g', 0, none⟩) n' c')).cell? ⟨R + 1, 0, none⟩ = some (.int .u8 (a : Int)) ∧ Boxed (W'.setCell ⟨R + 1 + 1 + 1, 0, none⟩ (.slice (some ⟨g', 0, none⟩) n' c')) (R + 1 + 1 + 1 + 1) 24 (.slice (some ad) n c) ∧ Boxed (W'.setCell ⟨R + 1 + 1 + 1, 0, none⟩ (.slice (some ⟨g', 0, none⟩) n' c')) (R + 1 + 1 + 1 + 1 + 1) 3 (.int .i64 64)) ∧ ∃ v, Boxed (W'.setCell ⟨R + 1 + 1 + 1, 0, none⟩ (.slice (some ⟨g', 0, none⟩) n' c')) (R + 1 + 1 + 1) 24 v ∧ (W'.setCell ⟨R + 1 + 1 + 1, 0, none⟩ (.slice (some ⟨g', 0, none⟩) n' c')).ownsRow (R + 1 + 1) 5 1 v (eachF xs a n (pre ++ [⟨j, hj⟩])).length (ob (eachF xs a n (pre ++ [⟨j, hj⟩]))) ∧ True) ∧ Below R w (W'.setCell ⟨R + 1 + 1 + 1, 0, none⟩ (.slice (some ⟨g', 0, none⟩) n' c')))) :=
        ⟨(keepsOthers_below hbw.drew).trans b4, ⟨keepsCell_boxed HI.out.1 k1, keepsCell_boxed HI.out.2.1 k2⟩, ⟨⟨(b5.cell (p := ⟨R + 1, 0, none⟩) (by simp)).trans hcA3, k1, k2⟩, ⟨_, b2, b3, trivial⟩⟩, HI.out.2.2.2.2.trans ((hbw.drew.mono (by omega)).trans (b5.mono (by omega)))⟩
      have cP := hJ.1.cell
      have c1 := b1.cell
      have f1 := b1.frozen
      have hle : (e : Int) ≤ (cg : Int) := by omega
      clear hcells hb1 hb2 hb3 hO' hlE hlC b1 b2 b3 b4 b5 hJ hap hsn k1 k2 hcA3 hf1 hf2 KP KS KU HcA hcA
      gi_wp2
      gi_region_o
      all_goals (gi_wp2; exact HZ.out)
  case done =>
    rintro D ys W hD hS ⟨⟨⟨hcA, hC1, hC2⟩, v, hv, hrow0, _⟩, hB⟩ hK
    obtain rfl : ys = _ := hS
    rw [HE.out] at hrow0
    have cP := hv.cell
    have HZ : Hid (Ow W R v (xs.map (Gf.mul a)) ∧ Below R w W) := ⟨Ow.mono (show Ow W (R + 1 + 1) v (xs.map (Gf.mul a)) from hrow0) (by omega), hB⟩
    clear hrow0 hB hC1 hC2 hcA hv
    gi_wp2
    refine ⟨by simp, .inl ⟨_, _, rfl, run_takeDeferred hK, ?_⟩⟩
    refine ⟨_, results_tmp rfl _ _ _, _, rfl, ownsRow_putObj (show W.ownsRow w.heap.size 5 1 v (xs.map (Gf.mul a)).length (ob (xs.map (Gf.mul a))) from hR.symm ▸ HZ.out.1) _ hK rfl, ?_⟩
    rw [hR]
    exact HZ.out.2.trans (belowK_b (w := w) (by omega) W D _ _ (by omega) hK rfl rfl)
  case stop =>
    rintro D c pre W _ _ h _
    exact h.elim
end Go.Proofs
/- The walk of field's backend of lanes, for pairs of lists. Conditions: lists of one length, of at most a thousand million bytes, no longer than their capacities. -/
namespace Go.Proofs
open Go.RowKit Go.Shelf Go.ChangeShapes Go.WideShapes
attribute [local go_sem] Oper.semAt_some
attribute [local go_sem ↓ high] builtin_ap
attribute [local go_sem] ap_sem

/-- The products of pairs of the parts that have come: the other list goes on where the products end. -/
def pairsF (xs ys : List Nat) (n : Nat) (pre : List (Ck n)) : List Nat := pre.foldl (fun acc x => acc ++ (List.range (ckn n x.1)).map fun i => Gf.mul (xs.getD (64 * x.1 + i) 0) (ys.getD (acc.length + i) 0)) []
theorem pairsF_snoc (xs ys : List Nat) (n : Nat) (pre : List (Ck n)) (x : Ck n) : pairsF xs ys n (pre ++ [x]) = pairsF xs ys n pre ++ (List.range (ckn n x.1)).map fun i => Gf.mul (xs.getD (64 * x.1 + i) 0) (ys.getD ((pairsF xs ys n pre).length + i) 0) := by simp [pairsF]
theorem pairsF_len (xs ys : List Nat) (n : Nat) (pre : List (Ck n)) : ∀ acc : List Nat, (pre.foldl (fun acc x => acc ++ (List.range (ckn n x.1)).map fun i => Gf.mul (xs.getD (64 * x.1 + i) 0) (ys.getD (acc.length + i) 0)) acc).length ≤ acc.length + 64 * pre.length := by
  induction pre with
  | nil => intro acc; simp
  | cons x l ih =>
    intro acc
    refine Nat.le_trans (ih _) ?_
    simp only [List.length_append, List.length_map, List.length_range, List.length_cons]
    have := ckn_le n x.1
    omega
theorem pairsF_length (xs ys : List Nat) (n : Nat) (pre : List (Ck n)) : (pairsF xs ys n pre).length ≤ 64 * pre.length := by
  have := pairsF_len xs ys n pre []
  rw [List.length_nil, Nat.zero_add] at this
  exact this
theorem pairsF_upto (xs ys : List Nat) (n k : Nat) : pairsF xs ys n (ckUpto n k) = (List.range (min n (64 * k))).map fun i => Gf.mul (xs.getD i 0) (ys.getD i 0) := by
  induction k with
  | zero => simp [ckUpto, pairsF]
  | succ k ih =>
    by_cases h : 64 * k < n
    · have e : ckUpto n (k + 1) = ckUpto n k ++ [⟨k, h⟩] := by simp [ckUpto, h]
      rw [e, pairsF_snoc, ih]
      have e1 : min n (64 * k) = 64 * k := by omega
      have e2 : min n (64 * (k + 1)) = 64 * k + ckn n k := by unfold ckn; omega
      rw [e1, e2, List.range_add, List.map_append, List.map_map, List.length_map, List.length_range]
      rfl
    · have e : ckUpto n (k + 1) = ckUpto n k := by simp [ckUpto, h]
      rw [e, ih]
      have e1 : min n (64 * k) = min n (64 * (k + 1)) := by omega
      rw [e1]
theorem pairsF_all (xs ys : List Nat) (n : Nat) (hx : xs.length = n) (hy : ys.length = n) : pairsF xs ys n (ckUpto n ((n + 63) / 64)) = List.zipWith Gf.mul xs ys := by
  rw [pairsF_upto]
  have e : min n (64 * ((n + 63) / 64)) = n := by omega
  rw [e, ← hx]
  exact range_zip Gf.mul xs ys (by omega)

set_option maxRecDepth 100000 in
set_option maxHeartbeats 4000000 in
theorem blpairs_in (m : Nat) (hm : 3 ≤ m) (n c d : Nat) (q p : Option Addr) (xs ys : List Nat) (hn : n ≤ 1000000000) (hnc : n ≤ c) (hnd : n ≤ d) (w : World) (hs : Bs w q n xs) (hs2 : Bs w p n ys) :
    CallsIn Fence.wide m Tryz.prog 150 #[.agg #[], .slice q n c, .slice p n d] w fun e w' => ∃ v, e = .returned v ∧ Ow w' w.heap.size v (List.zipWith Gf.mul xs ys) ∧ Below w.heap.size w w' := by
  have HS : Hid (Bs w q n xs) := hs
  have HS2 : Hid (Bs w p n ys) := hs2
  have hmk := make_bytes0 n (by omega)
  have HE : Hid (pairsF xs ys n (ckUpto n ((n + 63) / 64)) = List.zipWith Gf.mul xs ys) := pairsF_all xs ys n hs.len hs2.len
  obtain ⟨ad, had⟩ : ∃ ad, 0 < n → q = some ad := by
    cases q with
    | none => exact ⟨⟨0, 0, none⟩, fun h => by obtain ⟨_, e, _⟩ := hs.cell 0 h; cases e⟩
    | some x => exact ⟨x, fun _ => rfl⟩
  obtain ⟨bd, hbd⟩ : ∃ bd, 0 < n → p = some bd := by
    cases p with
    | none => exact ⟨⟨0, 0, none⟩, fun h => by obtain ⟨_, e, _⟩ := hs2.cell 0 h; cases e⟩
    | some x => exact ⟨x, fun _ => rfl⟩
  clear hs hs2
  refine callsIn_of_wp_marks Tryz.func150 rfl trivial ?_ rfl
  simp only [Tryz.ntmps150, List.size_toArray, List.length_cons, List.length_nil, Nat.reduceAdd, Nat.reduceSub, Array.replicate_succ, Array.replicate_zero, List.push_toArray, List.append_toArray, List.nil_append, List.cons_append]
  have hfn : ∀ f, Fence.wide.fn f := fun _ => trivial
  have hm1 : 1 ≤ m := by omega
  gi_wp2_with (gi_at_call 155; refine (chunk_calls (m - 1) q n c _).mono ?_; rintro e w' ⟨rfl, rfl⟩)
  clear hmk
  obtain ⟨R, hR⟩ : ∃ R, w.heap.size = R := ⟨_, rfl⟩
  obtain ⟨W0, hW0⟩ : ∃ W0, ((((((w.alloc (.cells #[] 74)).alloc (.cells #[.slice p n d] 24)).alloc (.cells (madeCells #[.int .u8 0] n) 5)).alloc (.cells #[.slice (some ⟨w.heap.size + 1 + 1, 0, none⟩) 0 n] 24)).alloc (.cells #[.slice q n c] 24)).alloc (.cells #[.int .i64 64] 3)) = W0 := ⟨_, rfl⟩
  have hsz : W0.heap.size = R + 6 := by rw [← hW0, ← hR]; simp
  have hB0 : Below R w W0 := by
    rw [← hW0, ← hR]; exact ((((((Below.refl _ w).alloc (Nat.le_refl _) _).alloc (by simp) _).alloc (by simp; omega) _).alloc (by simp; omega) _).alloc (by simp; omega) _).alloc (by simp; omega) _
  have i1 : W0.cell? ⟨R + 1, 0, none⟩ = some (.slice p n d) := by rw [← hW0, ← hR]; simp [go_sem]
  have i2 : Boxed W0 (R + 1 + 1 + 1) 24 (.slice (some ⟨R + 1 + 1, 0, none⟩) 0 n) := by
    have := (Boxed.new (((w.alloc (.cells #[] 74)).alloc (.cells #[.slice p n d] 24)).alloc (.cells (madeCells #[.int .u8 0] n) 5)) 24 (.slice (some ⟨w.heap.size + 1 + 1, 0, none⟩) 0 n)).alloc (.cells #[.slice q n c] 24) |>.alloc (.cells #[.int .i64 64] 3)
    rw [hW0] at this
    simpa [hR] using this
  have i3 : Ow W0 (R + 1 + 1) (.slice (some ⟨R + 1 + 1, 0, none⟩) 0 n) [] := by
    have := (((ow_made0 ((w.alloc (.cells #[] 74)).alloc (.cells #[.slice p n d] 24)) (base := R + 1 + 1) (by simp; omega) n (by omega)).alloc (.cells #[.slice (some ⟨w.heap.size + 1 + 1, 0, none⟩) 0 n] 24)).alloc (.cells #[.slice q n c] 24)).alloc (.cells #[.int .i64 64] 3)
    rw [hW0] at this
    simpa [hR] using this
  have i4 : Boxed W0 (R + 1 + 1 + 1 + 1) 24 (.slice q n c) := by
    have := (Boxed.new ((((w.alloc (.cells #[] 74)).alloc (.cells #[.slice p n d] 24)).alloc (.cells (madeCells #[.int .u8 0] n) 5)).alloc (.cells #[.slice (some ⟨w.heap.size + 1 + 1, 0, none⟩) 0 n] 24)) 24 (.slice q n c)).alloc (.cells #[.int .i64 64] 3)
    rw [hW0] at this
    simpa [hR] using this
  have i5 : Boxed W0 (R + 1 + 1 + 1 + 1 + 1) 3 (.int .i64 64) := by
    have := Boxed.new (((((w.alloc (.cells #[] 74)).alloc (.cells #[.slice p n d] 24)).alloc (.cells (madeCells #[.int .u8 0] n) 5)).alloc (.cells #[.slice (some ⟨w.heap.size + 1 + 1, 0, none⟩) 0 n] 24)).alloc (.cells #[.slice q n c] 24)) 3 (.int .i64 64)
    rw [hW0] at this
    simpa [hR] using this
  rw [hW0, hR]
  clear hW0
  refine wpIn_rangeFunc_ownF rfl hm1 (gf := 161) (lb := #[.pointer (some ⟨R + 1 + 1 + 1 + 1, 0, none⟩), .pointer (some ⟨R + 1 + 1 + 1 + 1 + 1, 0, none⟩)]) rfl trivial (enters_of Tryz.func161 (by kernel_rfl) rfl)
    (chunk1_stops (m - 1) (by omega) (R + 1 + 1 + 1 + 1) (R + 1 + 1 + 1 + 1 + 1) ad q n c had hn hnc _ (by omega) (by omega) i4.cell i5.cell) keepsTwo_t (fun W l o o' _ h1 h2 _ => keepsTwo_b W l o o' h1 h2) (Below.refl _ _) (fun _ => rfl)
    (fun pre W => ((W.cell? ⟨R + 1, 0, none⟩ = some (.slice p n d) ∧ Boxed W (R + 1 + 1 + 1 + 1) 24 (.slice q n c) ∧ Boxed W (R + 1 + 1 + 1 + 1 + 1) 3 (.int .i64 64)) ∧ ∃ v, Boxed W (R + 1 + 1 + 1) 24 v ∧ W.ownsRow (R + 1 + 1) 5 1 v (pairsF xs ys n pre).length (ob (pairsF xs ys n pre)) ∧ True) ∧ Below R w W)
    (fun _ _ _ => False)
    (OwnFrom.and (OwnFrom.and (OwnFrom.and (Own.from (fun s A B row hs hg hr => cell_kept hs hg hr) _) (OwnFrom.and (Own.from (boxed_own _ _ _) _) (Own.from (boxed_own _ _ _) _))) (Own.from (holdsRow_own _ _ _ _ _ _ _ _) _)) (ownFrom_below (by omega) (by omega)))
    (fun _ _ _ _ _ hs _ _ => hs)
    ⟨⟨⟨i1, i4, i5⟩, ⟨_, i2, i3, trivial⟩⟩, hB0⟩
    (fun x => { tmps := #[.agg #[], .slice q n c, .slice p n d, .pointer (some ⟨R, 0, none⟩), undef, .pointer (some ⟨R + 1, 0, none⟩), .slice none 0 0, .pointer (some ⟨R + 1 + 1 + 1, 0, none⟩), .slice (some (ad.add (64 * x.1))) (ckn n x.1) (ckn n x.1), undef, undef, .slice q n c, .int .i64 n, .slice (some ⟨R + 1 + 1, 0, none⟩) 0 n, .slice q n c, .func (.func 161) #[] #[.pointer (some ⟨R + 1 + 1 + 1 + 1, 0, none⟩), .pointer (some ⟨R + 1 + 1 + 1 + 1 + 1, 0, none⟩)], .slice (some (ad.add (64 * x.1))) (ckn n x.1) (ckn n x.1), undef, undef, undef, undef, undef, undef, undef, undef, undef, undef, undef, undef, undef, undef, undef, undef, undef], defers := [] }) ?assign ?body ?done ?stop
  case assign =>
    intro l x W K hK
    gi_wp2
    exact hK
  case body =>
    rintro l pre x W ⟨⟨⟨hcA, hC1, hC2⟩, v, hv, hrow0, _⟩, hB⟩ hlen
    have hrow : Ow W (R + 1 + 1) v (pairsF xs ys n pre) := hrow0
    clear i1 i2 i3 i4 i5 hB0 hrow0
    have hmx : Tryz.prog.follows .mixedOrders = true := by kernel_rfl
    obtain ⟨j, hj⟩ := x
    obtain rfl : q = some ad := had (by omega)
    obtain rfl : p = some bd := hbd (by omega)
    obtain ⟨e, he⟩ : ∃ e, ckn n j = e := ⟨_, rfl⟩
    have he1 : 1 ≤ e ∧ e ≤ 64 ∧ 64 * j + e ≤ n := by rw [← he]; unfold ckn; omega
    have hd : 1 ≤ m - 1 - 1 := by omega
    have hlE := pairsF_length xs ys n pre
    obtain ⟨L, hL⟩ : ∃ L, (pairsF xs ys n pre).length = L := ⟨_, rfl⟩
    have hLn : L < n := by omega
    obtain ⟨f, hf⟩ : ∃ f : Nat → Nat, (fun i => if i < e then xs.getD (64 * j + i) 0 else 0) = f := ⟨_, rfl⟩
    obtain ⟨h, hh⟩ : ∃ h : Nat → Nat, (fun i => ys.getD (L + i) 0) = h := ⟨_, rfl⟩
    have hf1 : ∀ i, i < e → f i = xs.getD (64 * j + i) 0 := fun i hi => by rw [← hf]; exact if_pos hi
    have hh1 : ∀ i, h i = ys.getD (L + i) 0 := fun i => by rw [← hh]
    have hf2 : ∀ i, i < 64 → f i < 256 := fun i _ => by
      rw [← hf]; dsimp only; split
      · exact HS.out.byte _
      · decide
    have hh2 : ∀ i, i < 64 → h i < 256 := fun i _ => by rw [← hh]; exact HS2.out.byte _
    have KP : Hid (∀ W', Below R w W' → Calls Tryz.prog 157 #[.slice (some (ad.add (64 * j))) e e] W' fun e' w' => e' = .returned (V8 f) ∧ Below W'.heap.size W' w') := fun W' hW' =>
      lpack_calls (some (ad.add (64 * j))) e e ((List.range e).map fun i => xs.getD (64 * j + i) 0) f (fun i _ => by
        rw [← hf]
        by_cases hi : i < e
        · simp [List.getD, hi]
        · simp [List.getD, hi]) W' (bs_part (HS.out.below (hR.symm ▸ hW')) ad rfl (64 * j) e he1.2.2)
    have KO : Hid (∀ W' z, Below R w W' → Calls Tryz.prog 157 #[.slice (some (bd.add L)) (n - L) z] W' fun e' w' => e' = .returned (V8 h) ∧ Below W'.heap.size W' w') := fun W' z hW' =>
      lpack_calls (some (bd.add L)) (n - L) z ((List.range (n - L)).map fun i => ys.getD (L + i) 0) h (fun i _ => by
        rw [← hh]
        by_cases hi : i < n - L
        · simp [List.getD, hi]
        · have := HS2.out.len
          simp [List.getD, hi, List.getElem?_eq_none (by omega : ys.length ≤ L + i)]) W' (bs_part (HS2.out.below (hR.symm ▸ hW')) bd rfl L (n - L) (by omega))
    have KS : Hid (∀ W', Calls Tryz.prog 158 #[V8 f, V8 h] W' fun e' w' => e' = .returned (V8 (fun i => Gf.mul (f i) (h i))) ∧ Below W'.heap.size W' w') := fun W' => lmul_calls f h _ hf2 hh2 (fun _ _ => rfl) W'
    have KU : Hid (∀ W', Calls Tryz.prog 156 #[V8 (fun i => Gf.mul (f i) (h i))] W' fun e' w' => ∃ g c, e' = .returned (.slice (some ⟨g, 0, none⟩) 64 c) ∧ W'.heap.size ≤ g ∧ 64 ≤ c ∧ (∀ i, i < 64 → w'.cell? ⟨g, i, none⟩ = some (.int .u8 (Gf.mul (f i) (h i) : Nat))) ∧ Below W'.heap.size W' w') := fun W' => lunpack_at _ (fun i hi => Gf.mul_lt _ _ (hf2 i hi)) W'
    have HF : Hid ((∀ i, i < e → f i = xs.getD (64 * j + i) 0) ∧ ∀ i, h i = ys.getD (L + i) 0) := ⟨hf1, hh1⟩
    clear hf hh hf1 hh1 hf2 hh2
    rw [he]
    have hvs : ∃ qv cv, v = .slice qv L cv := by
      rcases hrow.shape with ⟨rfl, h0⟩ | ⟨g, cap, rfl, _⟩
      · rw [h0] at hL
        exact ⟨none, 0, by rw [← hL]; rfl⟩
      · exact ⟨_, cap, by rw [hL]⟩
    obtain ⟨qv, cv, rfl⟩ := hvs
    have HI : Hid (Boxed W (R + 1 + 1 + 1 + 1) 24 (.slice (some ad) n c) ∧ Boxed W (R + 1 + 1 + 1 + 1 + 1) 3 (.int .i64 64) ∧ Boxed W (R + 1 + 1 + 1) 24 (.slice qv L cv) ∧ Ow W (R + 1 + 1) (.slice qv L cv) (pairsF xs ys n pre) ∧ Below R w W) := ⟨hC1, hC2, hv, hrow, hB⟩
    have hlA := World.block_lt_of_cell? _ _ hcA
    have HcA : Hid (W.cell? ⟨R + 1, 0, none⟩ = some (.slice (some bd) n d)) := hcA
    have cP0 := hv.cell
    clear hC1 hC2 hv hrow hB
    have hdl : ¬ d = L := by omega
    have hLi : (L : Int) ≤ (n : Int) := by omega
    gi_wp2_with (gi_at_call 157; refine (CallsIn.inRound l (callsIn_wide.2 (KO.out _ _ HI.out.2.2.2.2))).mono ?_; rintro e' w0 ⟨rfl, hb0⟩)
    have hdl2 : 1 ≤ m - 1 - 1 := hd
    obtain ⟨X, hX0⟩ : ∃ X, w0.alloc (.cells #[.int .u64 (Ln.pk h 0 : Nat), .int .u64 (Ln.pk h 1 : Nat), .int .u64 (Ln.pk h 2 : Nat), .int .u64 (Ln.pk h 3 : Nat), .int .u64 (Ln.pk h 4 : Nat), .int .u64 (Ln.pk h 5 : Nat), .int .u64 (Ln.pk h 6 : Nat), .int .u64 (Ln.pk h 7 : Nat)] 179) = X := ⟨_, rfl⟩
    obtain ⟨G, hG⟩ : ∃ G, w0.heap.size = G := ⟨_, rfl⟩
    have hPX : Pl X G 8 h := by rw [← hX0, ← hG]; exact pl_box w0 rfl h _
    have hX : Below W.heap.size W X := by rw [← hX0]; exact hb0.alloc hb0.size _
    rw [hX0, hG]
    clear hX0 hb0 hG cP0
    have p0 := hPX.cell 0 (by decide)
    have p1 := hPX.cell 1 (by decide)
    have p2 := hPX.cell 2 (by decide)
    have p3 := hPX.cell 3 (by decide)
    have p4 := hPX.cell 4 (by decide)
    have p5 := hPX.cell 5 (by decide)
    have p6 := hPX.cell 6 (by decide)
    have p7 := hPX.cell 7 (by decide)
    have HX : Hid (Below R w X) := HI.out.2.2.2.2.trans (hX.mono (by rw [← hR]; exact HI.out.2.2.2.2.size))
    gi_region_with_o (first
      | (gi_at_call 157; refine (CallsIn.inRound l (callsIn_wide.2 (KP.out _ HX.out.drew))).mono ?_; rintro e' w1 ⟨rfl, hb1⟩; have hP1 := hPX.drew.below hb1; have s0 := hP1.cell 0 (by decide); have s1 := hP1.cell 1 (by decide); have s2 := hP1.cell 2 (by decide); have s3 := hP1.cell 3 (by decide); have s4 := hP1.cell 4 (by decide); have s5 := hP1.cell 5 (by decide); have s6 := hP1.cell 6 (by decide); have s7 := hP1.cell 7 (by decide))
      | (gi_at_call 158; refine (CallsIn.inRound l (callsIn_wide.2 (KS.out _))).mono ?_; rintro e' w2 ⟨rfl, hb2⟩)
      | (gi_at_call 156; refine (CallsIn.inRound l (callsIn_wide.2 (KU.out _))).mono ?_; rintro e' w3 ⟨g, cg, rfl, hg, hcg, hcells, hb3⟩))
    all_goals
      clear hP1 s0 s1 s2 s3 s4 s5 s6 s7
      have hbw : Below W.heap.size W w3 := (hX.drew).trans ((hb1.trans ((hb2.trans (hb3.mono hb2.size)).mono hb1.size)).mono hX.size : Below W.heap.size X.drew w3)
      have hsn : pairsF xs ys n (pre ++ [⟨j, hj⟩]) = pairsF xs ys n pre ++ (List.range e).map fun i => Gf.mul (xs.getD (64 * j + i) 0) (ys.getD (L + i) 0) := by rw [pairsF_snoc, hL, he]
      have hJ : Boxed w3.drew (R + 1 + 1 + 1) 24 (.slice qv L cv) ∧ Ow w3.drew (R + 1 + 1) (.slice qv L cv) (pairsF xs ys n pre) := ⟨boxed_below HI.out.2.2.1 hbw.drew, (HI.out.2.2.2.1.below hbw).drew⟩
      have hlC : ((List.range e).map fun i => Gf.mul (xs.getD (64 * j + i) 0) (ys.getD (L + i) 0)).length = e := by simp
      have hRW : R + 1 + 1 ≤ W.heap.size := by have := HI.out.2.2.1.lt; omega
      have hR3 : R + 1 + 1 ≤ w3.drew.heap.size := Nat.le_trans hRW hbw.size
      obtain ⟨v', W', hap, hO', hgr⟩ := run_append_bytes w3.drew (R + 1 + 1) (.slice qv L cv) (pairsF xs ys n pre) ⟨g, 0, none⟩ cg ((List.range e).map fun i => Gf.mul (xs.getD (64 * j + i) 0) (ys.getD (L + i) 0)) hJ.2 (fun i hi => by
        rw [hlC] at hi
        have e1 : (⟨g, 0, none⟩ : Addr).add i = ⟨g, i, none⟩ := by unfold Addr.add; split <;> simp_all
        rw [e1, World.cell?_drew, hcells i (by omega), HF.out.1 i hi, HF.out.2]
        simp [List.getD, hi]) (by omega) hR3
      rw [hlC] at hap
      rw [← hsn] at hO'
      have hsh : ∃ g' n' c', v' = .slice (some ⟨g', 0, none⟩) n' c' := by
        rcases hO'.shape with ⟨_, h0⟩ | ⟨g', c', h1, _⟩
        · have := congrArg List.length h0
          rw [hsn, List.length_append, hlC] at this
          simp at this
          omega
        · exact ⟨g', _, c', h1⟩
      obtain ⟨g', n', c', rfl⟩ := hsh
      have ha1 := ap_ok hap
      have ha2 := ap_v hap
      have ha3 := ap_w hap
      obtain ⟨b1, b2, b3, b4, b5⟩ := appended0 hJ.1 hJ.2 hR3 (by omega : R + 1 + 1 ≤ R + 1 + 1 + 1) hO' hgr
      have k1 := other0 (B := R + 1 + 1 + 1) (v' := .slice (some ⟨g', 0, none⟩) n' c') (boxed_below HI.out.1 hbw.drew) (by decide) (by omega) hJ.2 hgr
      have k2 := other0 (B := R + 1 + 1 + 1) (v' := .slice (some ⟨g', 0, none⟩) n' c') (boxed_below HI.out.2.1 hbw.drew) (by decide) (by omega) hJ.2 hgr
      have hcA3 : w3.drew.cell? ⟨R + 1, 0, none⟩ = some (.slice (some bd) n d) := (hbw.drew.cell (p := ⟨R + 1, 0, none⟩) hlA).trans HcA.out
      have HZ : Hid (KeepsOthers W (W'.setCell ⟨R + 1 + 1 + 1, 0, none⟩ (.slice (some ⟨g', 0, none⟩) n' c')) ∧ KeepsTwo (R + 1 + 1 + 1 + 1) (R + 1 + 1 + 1 + 1 + 1) W (W'.setCell ⟨R + 1 + 1 + 1, 0, none⟩ (.slice (some ⟨g', 0, none⟩) n' c')) ∧
          ((((W'.setCell ⟨R + 1 + 1 + 1, 0, none⟩ (.slice (some ⟨g', 0, none⟩) n' c')).cell? ⟨R + 1, 0, none⟩ = some (.slice (some bd) n d) ∧ Boxed (W'.setCell ⟨R + 1 + 1 + 1, 0, none⟩ (.slice (some ⟨g', 0, none⟩) n' c')) (R + 1 + 1 + 1 + 1) 24 (.slice (some ad) n c) ∧ Boxed (W'.setCell ⟨R + 1 + 1 + 1, 0, none⟩ (.slice (some ⟨g', 0, none⟩) n' c')) (R + 1 + 1 + 1 + 1 + 1) 3 (.int .i64 64)) ∧ ∃ v, Boxed (W'.setCell ⟨R + 1 + 1 + 1, 0, none⟩ (.slice (some ⟨g', 0, none⟩) n' c')) (R + 1 + 1 + 1) 24 v ∧ (W'.setCell ⟨R + 1 + 1 + 1, 0, none⟩ (.slice (some ⟨g', 0, none⟩) n' c')).ownsRow (R + 1 + 1) 5 1 v (pairsF xs ys n (pre ++ [⟨j, hj⟩])).length (ob (pairsF xs ys n (pre ++ [⟨j, hj⟩]))) ∧ True) ∧ Below R w (W'.setCell ⟨R + 1 + 1 + 1, 0, none⟩ (.slice (some ⟨g', 0, none⟩) n' c')))) :=
        ⟨(keepsOthers_below hbw.drew).trans b4, ⟨keepsCell_boxed HI.out.1 k1, keepsCell_boxed HI.out.2.1 k2⟩, ⟨⟨(b5.cell (p := ⟨R + 1, 0, none⟩) (by simp)).trans hcA3, k1, k2⟩, ⟨_, b2, b3, trivial⟩⟩, HI.out.2.2.2.2.trans ((hbw.drew.mono (by omega)).trans (b5.mono (by omega)))⟩
      have cP := hJ.1.cell
      have c1 := b1.cell
      have f1 := b1.frozen
      have hle : (e : Int) ≤ (cg : Int) := by omega
      clear hcells hb1 hb2 hb3 hO' hlC b1 b2 b3 b4 b5 hJ hap hsn k1 k2 hcA3 KP KO KS KU HcA hcA hX p0 p1 p2 p3 p4 p5 p6 p7 hPX
      gi_wp2
      gi_region_o
      all_goals (gi_wp2; exact HZ.out)
  case done =>
    rintro D ys W hD hS ⟨⟨⟨hcA, hC1, hC2⟩, v, hv, hrow0, _⟩, hB⟩ hK
    obtain rfl : ys = _ := hS
    rw [HE.out] at hrow0
    have cP := hv.cell
    have HZ : Hid (Ow W R v (List.zipWith Gf.mul xs ys) ∧ Below R w W) := ⟨Ow.mono (show Ow W (R + 1 + 1) v (List.zipWith Gf.mul xs ys) from hrow0) (by omega), hB⟩
    clear hrow0 hB hC1 hC2 hcA hv
    gi_wp2
    refine ⟨by simp, .inl ⟨_, _, rfl, run_takeDeferred hK, ?_⟩⟩
    refine ⟨_, results_tmp rfl _ _ _, _, rfl, ownsRow_putObj (show W.ownsRow w.heap.size 5 1 v (List.zipWith Gf.mul xs ys).length (ob (List.zipWith Gf.mul xs ys)) from hR.symm ▸ HZ.out.1) _ hK rfl, ?_⟩
    rw [hR]
    exact HZ.out.2.trans (belowK_b (w := w) (by omega) W D _ _ (by omega) hK rfl rfl)
  case stop =>
    rintro D c pre W _ _ h _
    exact h.elim
end Go.Proofs
/- The walks of a field's calls on lists: Each, Pairs, Dot. Conditions: lists of at most a thousand million bytes, no longer than their capacities; a field that Of has made, and lists that do not lie in its table. -/
namespace Go.Proofs
open Go.RowKit Go.ChangeShapes Go.WideShapes

theorem Fd.tabled' {B T : Nat} {W W' : World} (h : Fd 1 B T W) (hm : Any T W') (hb : But (· = T) W W') : Fd 1 B T W' :=
  have hB : ¬ B = T := fun e => (h.tab rfl).2 e.symm
  ⟨h.k1, h.k3, (hb.cell (p := ⟨B, 0, none⟩) h.blt hB).trans h.num, (hb.cell (p := ⟨B, 1, none⟩) h.blt hB).trans h.way, fun e => ⟨hm, (h.tab e).2⟩, Nat.lt_of_lt_of_le h.lt hb.size⟩
theorem But.box {S : Nat → Prop} {w w1 : World} (o : Obj) (h : But S (w.alloc o) w1) : But S w w1 := ((But.refl S w).alloc o).trans h
theorem bleach_calls (a n c : Nat) (q : Option Addr) (xs : List Nat) (ha : a < 256) (hn : n ≤ 1000000000) (hnc : n ≤ c) (w : World) (hs : Bs w q n xs) :
    Calls Tryz.prog 149 #[.agg #[], .int .u8 a, .slice q n c] w fun e w' => ∃ v, e = .returned v ∧ Ow w' w.heap.size v (xs.map (Gf.mul a)) ∧ Below w.heap.size w w' :=
  (callsIn_wide (n := 3)).1 (bleach_in 3 (by omega) a n c q xs ha hn hnc w hs)
theorem blpairs_calls (n c d : Nat) (q p : Option Addr) (xs ys : List Nat) (hn : n ≤ 1000000000) (hnc : n ≤ c) (hnd : n ≤ d) (w : World) (hs : Bs w q n xs) (hs2 : Bs w p n ys) :
    Calls Tryz.prog 150 #[.agg #[], .slice q n c, .slice p n d] w fun e w' => ∃ v, e = .returned v ∧ Ow w' w.heap.size v (List.zipWith Gf.mul xs ys) ∧ Below w.heap.size w w' :=
  (callsIn_wide (n := 3)).1 (blpairs_in 3 (by omega) n c d q p xs ys hn hnc hnd w hs hs2)

set_option maxRecDepth 100000 in
set_option maxHeartbeats 1000000 in
theorem bteach_calls (T a n c : Nat) (q : Option Addr) (xs : List Nat) (ha : a < 256) (hn : n ≤ 1000000000) (w : World) (hT : Any T w) (hs : Bs w q n xs) (hq : Off T n q) :
    Calls Tryz.prog 132 #[.agg #[.pointer (some ⟨T, 0, none⟩)], .int .u8 a, .slice q n c] w fun e w' => ∃ v, e = .returned v ∧ Ow w' w.heap.size v (xs.map (Gf.mul a)) ∧ Any T w' ∧ But (· = T) w w' := by
  have hT' := hT.but ((But.refl (fun _ => False) w).alloc (.cells #[.pointer (some ⟨T, 0, none⟩)] 67)) id
  have hs' := hs.alloc (.cells #[.pointer (some ⟨T, 0, none⟩)] 67)
  go_enter Tryz.func132, Tryz.ntmps132
  go_wp2_with fail
  refine (feach1_calls T a n c q xs ha hn _ hT' hs' hq).mono ?_
  rintro e w1 ⟨v, rfl, hO, hA, hB⟩
  go_wp2
  go_ret
  exact ⟨_, rfl, hO.mono (by simp), hA, hB.box _⟩
set_option maxRecDepth 100000 in
set_option maxHeartbeats 1000000 in
theorem bseach_calls (a n c : Nat) (q : Option Addr) (xs : List Nat) (ha : a < 256) (hn : n ≤ 1000000000) (w : World) (hs : Bs w q n xs) :
    Calls Tryz.prog 139 #[.agg #[], .int .u8 a, .slice q n c] w fun e w' => ∃ v, e = .returned v ∧ Ow w' w.heap.size v (xs.map (Gf.mul a)) ∧ But (fun _ => False) w w' := by
  have hs' := hs.alloc (.cells #[] 73)
  go_enter Tryz.func139, Tryz.ntmps139
  go_wp2_with fail
  refine (feach2_calls a n c q xs ha hn _ hs').mono ?_
  rintro e w1 ⟨v, rfl, hO, hB⟩
  go_wp2
  go_ret
  exact ⟨_, rfl, hO.mono (by simp), hB.box _⟩
set_option maxRecDepth 100000 in
set_option maxHeartbeats 1000000 in
theorem btpairs_calls (T n c d : Nat) (q p : Option Addr) (xs ys : List Nat) (hn : n ≤ 1000000000) (w : World) (hT : Any T w) (hs : Bs w q n xs) (hs2 : Bs w p n ys) (hq : Off T n q) (hp : Off T n p) :
    Calls Tryz.prog 133 #[.agg #[.pointer (some ⟨T, 0, none⟩)], .slice q n c, .slice p n d] w fun e w' => ∃ v, e = .returned v ∧ Ow w' w.heap.size v (List.zipWith Gf.mul xs ys) ∧ Any T w' ∧ But (· = T) w w' := by
  have hT' := hT.but ((But.refl (fun _ => False) w).alloc (.cells #[.pointer (some ⟨T, 0, none⟩)] 67)) id
  have hs' := hs.alloc (.cells #[.pointer (some ⟨T, 0, none⟩)] 67)
  have hs2' := hs2.alloc (.cells #[.pointer (some ⟨T, 0, none⟩)] 67)
  go_enter Tryz.func133, Tryz.ntmps133
  go_wp2_with fail
  refine (fpairs1_calls T n c d q p xs ys hn _ hT' hs' hs2' hq hp).mono ?_
  rintro e w1 ⟨v, rfl, hO, hA, hB⟩
  go_wp2
  go_ret
  exact ⟨_, rfl, hO.mono (by simp), hA, hB.box _⟩
set_option maxRecDepth 100000 in
set_option maxHeartbeats 1000000 in
theorem bspairs_calls (n c d : Nat) (q p : Option Addr) (xs ys : List Nat) (hn : n ≤ 1000000000) (w : World) (hs : Bs w q n xs) (hs2 : Bs w p n ys) :
    Calls Tryz.prog 140 #[.agg #[], .slice q n c, .slice p n d] w fun e w' => ∃ v, e = .returned v ∧ Ow w' w.heap.size v (List.zipWith Gf.mul xs ys) ∧ But (fun _ => False) w w' := by
  have hs' := hs.alloc (.cells #[] 73)
  have hs2' := hs2.alloc (.cells #[] 73)
  go_enter Tryz.func140, Tryz.ntmps140
  go_wp2_with fail
  refine (fpairs2_calls n c d q p xs ys hn _ hs' hs2').mono ?_
  rintro e w1 ⟨v, rfl, hO, hB⟩
  go_wp2
  go_ret
  exact ⟨_, rfl, hO.mono (by simp), hB.box _⟩
theorem meach1 (T : Nat) (w : World) : (method 293 67 (.agg #[.pointer (some ⟨T, 0, none⟩)]) "erratum/field.each").run Tryz.prog w = .ok (132, .agg #[.pointer (some ⟨T, 0, none⟩)]) w := by kernel_rfl
theorem meach2 (w : World) : (method 293 73 (.agg #[]) "erratum/field.each").run Tryz.prog w = .ok (139, .agg #[]) w := by kernel_rfl
theorem meach3 (w : World) : (method 293 74 (.agg #[]) "erratum/field.each").run Tryz.prog w = .ok (149, .agg #[]) w := by kernel_rfl
theorem mpairs1 (T : Nat) (w : World) : (method 293 67 (.agg #[.pointer (some ⟨T, 0, none⟩)]) "erratum/field.pairs").run Tryz.prog w = .ok (133, .agg #[.pointer (some ⟨T, 0, none⟩)]) w := by kernel_rfl
theorem mpairs2 (w : World) : (method 293 73 (.agg #[]) "erratum/field.pairs").run Tryz.prog w = .ok (140, .agg #[]) w := by kernel_rfl
theorem mpairs3 (w : World) : (method 293 74 (.agg #[]) "erratum/field.pairs").run Tryz.prog w = .ok (150, .agg #[]) w := by kernel_rfl
set_option maxRecDepth 100000 in
set_option maxHeartbeats 1000000 in
theorem feach_calls (k B T a n c : Nat) (q : Option Addr) (xs : List Nat) (ha : a < 256) (hn : n ≤ 1000000000) (hnc : n ≤ c) (w : World) (h : Fd k B T w) (hs : Bs w q n xs) (hq : Off T n q) :
    Calls Tryz.prog 46 #[.pointer (some ⟨B, 0, none⟩), .int .u8 a, .slice q n c] w fun e w' => ∃ v, e = .returned v ∧ Ow w' w.heap.size v (xs.map (Gf.mul a)) ∧ Fd k B T w' ∧ But (· = T) w w' := by
  rcases way_lt h.k1 h.k3 with rfl | rfl | rfl
  · have hw : w.cell? ⟨B, 1, none⟩ = some (.iface 67 (.agg #[.pointer (some ⟨T, 0, none⟩)])) := h.way
    have hm := meach1 T
    go_enter Tryz.func46, Tryz.ntmps46
    go_wp2_with fail
    refine (bteach_calls T a n c q xs ha hn _ (h.tab rfl).1 hs hq).mono ?_
    rintro e w1 ⟨v, rfl, hO, hA, hB⟩
    go_wp2
    go_ret
    exact ⟨_, rfl, hO, h.tabled' hA hB, hB⟩
  · have hw : w.cell? ⟨B, 1, none⟩ = some (.iface 73 (.agg #[])) := h.way
    have hm := meach2
    go_enter Tryz.func46, Tryz.ntmps46
    go_wp2_with fail
    refine (bseach_calls a n c q xs ha hn _ hs).mono ?_
    rintro e w1 ⟨v, rfl, hO, hB⟩
    go_wp2
    go_ret
    exact ⟨_, rfl, hO, h.but hB id id, hB.mono (fun _ => False.elim)⟩
  · have hw : w.cell? ⟨B, 1, none⟩ = some (.iface 74 (.agg #[])) := h.way
    have hm := meach3
    go_enter Tryz.func46, Tryz.ntmps46
    go_wp2_with fail
    refine (bleach_calls a n c q xs ha hn hnc _ hs).mono ?_
    rintro e w1 ⟨v, rfl, hO, hB⟩
    go_wp2
    go_ret
    exact ⟨_, rfl, hO, h.below hB, But.of_below hB⟩

theorem bs_take {W : World} {q : Option Addr} {n : Nat} {xs : List Nat} (h : Bs W q n xs) (k : Nat) (hk : k ≤ n) : Bs W q k (xs.take k) := by
  refine ⟨by rw [List.length_take, h.len]; omega, Nat.le_trans hk h.max, fun i hi => ?_, fun i => ?_⟩
  · obtain ⟨a, e, hl, hc⟩ := h.cell i (by omega)
    refine ⟨a, e, hl, ?_⟩
    rw [hc]
    simp [List.getD, hi]
  · by_cases hi : i < k
    · have := h.byte i
      simpa [List.getD, hi] using this
    · simp [List.getD, List.getElem?_take, hi]
theorem zip_take (xs ys : List Nat) (k : Nat) (hk : k = min xs.length ys.length) : List.zipWith Gf.mul (xs.take k) (ys.take k) = List.zipWith Gf.mul xs ys := by
  apply List.ext_getElem?
  intro i
  simp only [List.getElem?_zipWith, List.getElem?_take]
  by_cases hi : i < k
  · simp [hi]
  · rcases (by omega : xs.length ≤ i ∨ ys.length ≤ i) with h | h
    · simp [hi, List.getElem?_eq_none h]
    · simp [hi, List.getElem?_eq_none h]
set_option maxRecDepth 100000 in
set_option maxHeartbeats 1000000 in
theorem fpairs_calls (k B T n m c d : Nat) (q p : Option Addr) (xs ys : List Nat) (hn : n ≤ 1000000000) (hm : m ≤ 1000000000) (hnc : n ≤ c) (hmd : m ≤ d) (w : World) (h : Fd k B T w) (hs : Bs w q n xs) (hs2 : Bs w p m ys) (hq : Off T n q) (hp : Off T m p) :
    Calls Tryz.prog 69 #[.pointer (some ⟨B, 0, none⟩), .slice q n c, .slice p m d] w fun e w' => ∃ v, e = .returned v ∧ Ow w' w.heap.size v (List.zipWith Gf.mul xs ys) ∧ Fd k B T w' ∧ But (· = T) w w' := by
  have hL1 := hs.len
  have hL2 := hs2.len
  obtain ⟨z, hz⟩ : ∃ z, z = min n m := ⟨_, rfl⟩
  have e1 := bs_take hs z (by omega)
  have e2 := bs_take hs2 z (by omega)
  rw [← zip_take xs ys z (by omega)]
  obtain ⟨us, hus⟩ : ∃ us, xs.take z = us := ⟨_, rfl⟩
  obtain ⟨vs, hvs⟩ : ∃ vs, ys.take z = vs := ⟨_, rfl⟩
  rw [hus] at e1
  rw [hvs] at e2
  rw [hus, hvs]
  clear hus hvs hL1 hL2 hs hs2
  have hcase : (z = n ∧ n ≤ m) ∨ (z = m ∧ m < n) := by omega
  have HS : Hid (Bs w q z us ∧ Bs w p z vs ∧ Off T z q ∧ Off T z p) := ⟨e1, e2, hq.le (by omega), hp.le (by omega)⟩
  have HFd : Hid (Fd k B T w) := h
  clear hz e1 e2 hq hp
  rcases way_lt h.k1 h.k3 with rfl | rfl | rfl
  · have hw : w.cell? ⟨B, 1, none⟩ = some (.iface 67 (.agg #[.pointer (some ⟨T, 0, none⟩)])) := h.way
    have hmm := mpairs1 T
    go_enter Tryz.func69, Tryz.ntmps69
    clear h
    rcases hcase with ⟨rfl, hc⟩ | ⟨rfl, hc⟩
    all_goals
      have hi1 : (z : Int) ≤ (c : Int) := by omega
      have hi2 : (z : Int) ≤ (d : Int) := by omega
      go_wp2
      go_region_held3 (fun w' => w'.cell? ⟨B, 1, none⟩ = some (.iface 67 (.agg #[.pointer (some ⟨T, 0, none⟩)])))
        (first | exact hw1 | (go_keep; done))
        (first | (go_at_call 133; refine (btpairs_calls T z c d q p us vs (by omega) _ (HFd.out.drew.tab rfl).1 HS.out.1.drew HS.out.2.1.drew HS.out.2.2.1 HS.out.2.2.2).mono ?_; rintro e w1 ⟨v, rfl, hO, hA, hB⟩; have hw1 := (HFd.out.drew.tabled' hA hB).way))
      go_wp2
      go_ret
      exact ⟨_, rfl, hO, HFd.out.drew.tabled' hA hB, (But.refl _ w).drew.trans hB⟩
  · have hw : w.cell? ⟨B, 1, none⟩ = some (.iface 73 (.agg #[])) := h.way
    have hmm := mpairs2
    go_enter Tryz.func69, Tryz.ntmps69
    clear h
    rcases hcase with ⟨rfl, hc⟩ | ⟨rfl, hc⟩
    all_goals
      have hi1 : (z : Int) ≤ (c : Int) := by omega
      have hi2 : (z : Int) ≤ (d : Int) := by omega
      go_wp2
      go_region_held3 (fun w' => w'.cell? ⟨B, 1, none⟩ = some (.iface 73 (.agg #[])))
        (first | exact hw1 | (go_keep; done))
        (first | (go_at_call 140; refine (bspairs_calls z c d q p us vs (by omega) _ HS.out.1.drew HS.out.2.1.drew).mono ?_; rintro e w1 ⟨v, rfl, hO, hB⟩; have hw1 := (HFd.out.drew.but hB id id).way))
      go_wp2
      go_ret
      exact ⟨_, rfl, hO, HFd.out.drew.but hB id id, (But.refl _ w).drew.trans (hB.mono (fun _ => False.elim))⟩
  · have hw : w.cell? ⟨B, 1, none⟩ = some (.iface 74 (.agg #[])) := h.way
    have hmm := mpairs3
    go_enter Tryz.func69, Tryz.ntmps69
    clear h
    rcases hcase with ⟨rfl, hc⟩ | ⟨rfl, hc⟩
    all_goals
      have hi1 : (z : Int) ≤ (c : Int) := by omega
      have hi2 : (z : Int) ≤ (d : Int) := by omega
      go_wp2
      go_region_held3 (fun w' => w'.cell? ⟨B, 1, none⟩ = some (.iface 74 (.agg #[])))
        (first | exact hw1 | (go_keep; done))
        (first | (go_at_call 150; refine (blpairs_calls z c d q p us vs (by omega) (by omega) (by omega) _ HS.out.1.drew HS.out.2.1.drew).mono ?_; rintro e w1 ⟨v, rfl, hO, hB⟩; have hw1 := (HFd.out.drew.below hB).way))
      go_wp2
      go_ret
      exact ⟨_, rfl, hO, HFd.out.drew.below hB, (But.refl _ w).drew.trans (But.of_below hB)⟩

/-- All bytes XORed. -/
def xsum (l : List Nat) : Nat := l.foldl (· ^^^ ·) 0
theorem xsum_snoc (l : List Nat) (x : Nat) : xsum (l ++ [x]) = xsum l ^^^ x := by simp [xsum]
theorem xsum_lt (l : List Nat) (h : ∀ i, l.getD i 0 < 256) (k : Nat) : xsum (l.take k) < 256 := by
  induction k with
  | zero => simp [xsum]
  | succ k ih =>
    by_cases hk : k < l.length
    · have e : l.take (k + 1) = l.take k ++ [l.getD k 0] := by
        rw [List.take_add_one, List.getElem?_eq_getElem hk]
        simp [List.getD, hk]
      rw [e, xsum_snoc]
      exact Gf.xor_lt8 ih (h k)
    · have e : l.take (k + 1) = l.take k := by rw [List.take_of_length_le (by omega), List.take_of_length_le (by omega)]
      rw [e]; exact ih
theorem take_snoc (l : List Nat) (k : Nat) (hk : k < l.length) : l.take (k + 1) = l.take k ++ [l.getD k 0] := by
  rw [List.take_add_one, List.getElem?_eq_getElem hk]
  simp [List.getD, hk]
theorem zip_byte (xs ys : List Nat) (hx : ∀ i, xs.getD i 0 < 256) (i : Nat) : (List.zipWith Gf.mul xs ys).getD i 0 < 256 := by
  have h1 := hx i
  simp only [List.getD, List.getElem?_zipWith] at h1 ⊢
  cases h2 : xs[i]? with
  | none => simp
  | some a =>
    cases h3 : ys[i]? with
    | none => simp
    | some b =>
      rw [h2] at h1
      exact Gf.mul_lt a b h1
theorem map_byte (a : Nat) (xs : List Nat) (ha : a < 256) (i : Nat) : (xs.map (Gf.mul a)).getD i 0 < 256 := by
  simp only [List.getD, List.getElem?_map]
  cases xs[i]? with
  | none => simp
  | some b => exact Gf.mul_lt a b ha
set_option maxRecDepth 100000 in
set_option maxHeartbeats 1000000 in
theorem fdot_calls (k B T n m c d : Nat) (q p : Option Addr) (xs ys : List Nat) (hn : n ≤ 1000000000) (hm : m ≤ 1000000000) (hnc : n ≤ c) (hmd : m ≤ d) (w : World) (h : Fd k B T w) (hs : Bs w q n xs) (hs2 : Bs w p m ys) (hq : Off T n q) (hp : Off T m p) :
    Calls Tryz.prog 61 #[.pointer (some ⟨B, 0, none⟩), .slice q n c, .slice p m d] w fun e w' => e = .returned (.int .u8 (xsum (List.zipWith Gf.mul xs ys) : Nat)) ∧ Fd k B T w' ∧ But (· = T) w w' := by
  have hby := zip_byte xs ys hs.byte
  obtain ⟨zs, hzs⟩ : ∃ zs, List.zipWith Gf.mul xs ys = zs := ⟨_, rfl⟩
  have K := fpairs_calls k B T n m c d q p xs ys hn hm hnc hmd w h hs hs2 hq hp
  rw [hzs] at hby K
  rw [hzs]
  clear hzs
  go_enter Tryz.func61, Tryz.ntmps61
  go_wp2_with fail
  refine K.mono ?_
  rintro e w1 ⟨v, rfl, hO, hF, hB⟩
  obtain ⟨qv, cv, rfl, hb⟩ := hO.bs hby
  have HB : Hid (Bs w1 qv zs.length zs ∧ Fd k B T w1 ∧ But (· = T) w w1) := ⟨hb, hF, hB⟩
  have hmax := hb.max
  clear K hO hF hB hb h hs hs2 hq hp
  obtain ⟨L, hL⟩ : ∃ L, zs.length = L := ⟨_, rfl⟩
  rw [hL] at HB hmax
  rw [hL]
  have HL : Hid (zs.length = L) := hL
  have HY : Hid (∀ i, zs.getD i 0 < 256) := hby
  clear hL hby
  go_wp2
  go_loopw [7, 15] (fun s i wr => ∃ k : Nat, k ≤ L ∧ i = .int .i64 (k : Int) ∧ s = .int .u8 (xsum (zs.take k) : Nat) ∧ wr = w1) (fun _ i _ => L - (intOf i).toNat)
  case atStart => exact ⟨0, by omega, rfl, rfl, rfl⟩
  case round =>
    obtain ⟨j, hj, rfl, rfl, rfl⟩ := hrel
    by_cases hlt : j < L
    · have hi : (j : Int) < (L : Int) := by omega
      obtain ⟨a, rfl, la, ca⟩ := HB.out.1.cell j hlt
      have HT : Hid (xsum (zs.take (j + 1)) = xsum (zs.take j) ^^^ zs.getD j 0) := by
        show xsum (zs.take (j + 1)) = _
        rw [take_snoc zs j (by rw [HL.out]; exact hlt), xsum_snoc]
      have h1 := xsum_lt zs HY.out j
      have h2 := HY.out j
      obtain ⟨x, hx⟩ : ∃ x, xsum (zs.take j) = x := ⟨_, rfl⟩
      obtain ⟨y, hy⟩ : ∃ y, zs.getD j 0 = y := ⟨_, rfl⟩
      rw [hx] at HT h1
      rw [hy] at HT h2 ca
      rw [hx]
      have hxor := u8_xor_nat x y h1 h2
      clear hx hy
      go_wp2
      go_roundw
      case rel => exact ⟨j + 1, by omega, by go_num, by rw [HT.out], by trivial⟩
      case measure => simp [intOf]; omega
    · have e8 : j = L := by omega
      subst e8
      have he : zs.take j = zs := List.take_of_length_le (by rw [HL.out]; exact Nat.le_refl _)
      rw [he]
      go_wp2
      go_ret
      exact ⟨rfl, HB.out.2⟩
end Go.Proofs
/- append of a list that is read, whether it is nil or not; parts of lists that are read. Conditions: bounds on lengths. -/
namespace Go.Proofs
open Go.RowKit Go.ChangeShapes Go.WideShapes
/-- A part of a list that is read, however it came. -/
theorem bs_sub {W : World} {q : Option Addr} {n : Nat} {xs : List Nat} (h : Bs W q n xs) (c K N : Nat) (hK : K ≤ N) (hN : N ≤ n) (hc : n ≤ c) : Bs W (if c = K then q else q.map (fun x => x.add K)) (N - K) ((List.range (N - K)).map fun i => xs.getD (K + i) 0) := by
  by_cases h0 : N - K = 0
  · rw [h0]
    exact ⟨rfl, by omega, fun i hi => absurd hi (Nat.not_lt_zero i), fun i => by simp⟩
  · rw [if_neg (by omega)]
    obtain ⟨a, rfl, _⟩ := h.cell 0 (by omega)
    exact bs_part h a rfl K (N - K) (by omega)
theorem off_sub {T n : Nat} {q : Option Addr} (h : Off T n q) (c K N : Nat) (hN : N ≤ n) : Off T (N - K) (if c = K then q else q.map (fun x => x.add K)) := by
  intro h0 a e
  split at e
  · exact h (by omega) a e
  · cases q with
    | none => cases e
    | some b =>
      cases e
      rw [block_add]
      exact h (by omega) b rfl

theorem run_append_none (W : World) (base : Nat) (v : Value) (xs : List Nat) (c : Nat) (hown : Ow W base v xs) :
    (Builtin.append_ #[24, 24] 24 #[v, .slice none 0 c]).run Tryz.prog W = .ok v W := by
  obtain ⟨i, hi, hz, hsz, hby⟩ := info_parts info_u8
  have ht := Tryz.underlying24
  rcases hown.2 with ⟨rfl, _⟩ | ⟨g, cap, cur, rfl, _, hgb, hle, _⟩
  · simp [Builtin.append_, run_underlying ht, sizeOf, typeInfo, hi, Builtin.lenOf, Builtin.firstCells]
  · simp [Builtin.append_, run_underlying ht, sizeOf, typeInfo, hi, Builtin.lenOf, Builtin.firstCells, hle, storeCells]
theorem run_append_list (W : World) (base : Nat) (v : Value) (xs : List Nat) (q : Option Addr) (n c : Nat) (ys : List Nat) (hown : Ow W base v xs) (hs : Bs W q n ys) (hn : xs.length + n ≤ 10000000000) (hb : base ≤ W.heap.size) :
    ∃ v' W', (Builtin.append_ #[24, 24] 24 #[v, .slice q n c]).run Tryz.prog W = .ok v' W' ∧ Ow W' base v' (xs ++ ys) ∧ W.grownBy W' v.ownBlock := by
  have hl := hs.len
  cases q with
  | none =>
    have h0 : n = 0 := by
      rcases Nat.eq_zero_or_pos n with h | h
      · exact h
      · obtain ⟨_, e, _⟩ := hs.cell 0 h; cases e
    subst h0
    obtain rfl : ys = [] := List.length_eq_zero_iff.1 hl
    exact ⟨v, W, run_append_none W base v xs c hown, by rw [List.append_nil]; exact hown, ⟨rfl, rfl, rfl, Nat.le_refl _, fun _ _ _ => rfl⟩⟩
  | some ad =>
    subst hl
    exact run_append_bytes W base v xs ad c ys hown (fun j hj => by
      obtain ⟨a, e, _, hc⟩ := hs.cell j hj
      cases e
      exact hc) hn hb

theorem bs_at {W : World} {ad : Addr} {n : Nat} {xs : List Nat} (h : Bs W (some ad) n xs) (i x : Nat) (hi : i < n) (hx : xs.getD i 0 = x) : W.cell? (ad.add i) = some (.int .u8 (x : Nat)) := by
  obtain ⟨a, e, _, hc⟩ := h.cell i hi
  cases e
  rw [hc, hx]
end Go.Proofs
/- Lists of bytes that a call has told, of a length that is named. -/
namespace Go.Proofs
open Go.RowKit
theorem Ow.tell {W : World} {base : Nat} {v : Value} {xs : List Nat} {n : Nat} (h : Ow W base v xs) (hx : ∀ i, xs.getD i 0 < 256) (hl : xs.length = n) : ∃ q c, v = .slice q n c ∧ Bs W q n xs ∧ n ≤ c ∧ ∀ T, T < base → Off T n q := by
  subst hl; exact h.told hx
end Go.Proofs
