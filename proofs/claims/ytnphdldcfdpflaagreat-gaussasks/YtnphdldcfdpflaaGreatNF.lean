/- Texts laid together: MxF, GInv. Each says its own conditions. -/
import Derived.Test.YtnphdldcfdpflaaGreatNC
import Derived.Test.YtnphdldcfdpflaaGreatMI
import Derived.Test.YtnphdldcfdpflaaGreatND
/- The walks of matrix.blank, rowsOf and its iterator: the rows of a right matrix, one by one. Conditions: no more than 300 rows and 300 columns. -/
namespace Go.Proofs
open Go.RowKit Go.Shelf Go.ChangeShapes Go.WideShapes
open Mx (Mat cells upd prt lay mx rowL)
open Pol (Byt ofL)
attribute [local go_sem] Oper.semAt_some

/-- A row's number. -/
abbrev Rw (R : Nat) := { i : Nat // i < R }
abbrev rwv (q : Option Addr) (C R : Nat) (x : Rw R) : Array Value := #[.int .i64 ((x.1 : Nat) : Int), .slice (rowAt q C (x.1 * C)) C C]
/-- The first k rows. -/
def upR (R : Nat) : Nat → List (Rw R)
  | 0 => []
  | k + 1 => if h : k < R then upR R k ++ [⟨k, h⟩] else upR R k
theorem upR_length (R : Nat) : ∀ k, k ≤ R → (upR R k).length = k
  | 0, _ => rfl
  | k + 1, h => by rw [upR, dif_pos (by omega), List.length_append, upR_length R k (by omega)]; rfl
theorem upR_succ (R k : Nat) (h : k < R) : upR R (k + 1) = upR R k ++ [⟨k, h⟩] := by rw [upR, dif_pos h]
/-- A round keeps the matrix' box. -/
def KeepsM (B : Nat) (W W' : World) : Prop := ∀ i v, W.cell? ⟨B, i, none⟩ = some v → W'.cell? ⟨B, i, none⟩ = some v
theorem keepsM_t {B : Nat} {X Y Z : World} (h : KeepsM B X Y) (k : KeepsM B Y Z) : KeepsM B X Z := fun i v e => k i v (h i v e)
theorem keepsM_b {B : Nat} (W : World) (l : Nat) (o o' : Obj) (hl : W.heap[l]? = some o) (ho : o.isCells = false) : KeepsM B W (W.putObj l o') :=
  fun _ _ h => cell_kept h (grownBy_putObj' W l o') (fun r e => by cases e; exact ⟨o, hl, ho⟩)
theorem keepsM_but {S : Nat → Prop} {B : Nat} {W W' : World} (h : But S W W') (hB : ¬ S B) : KeepsM B W W' := fun i _ e => (h.cell (p := ⟨B, i, none⟩) (World.block_lt_of_cell? _ _ e) hB).trans e
theorem Mb.keeps {W W' : World} {B : Nat} {v0 v1 v2 : Value} (h : Mb W B v0 v1 v2) (k : KeepsM B W W') : Mb W' B v0 v1 v2 := ⟨k 0 _ h.c0, k 1 _ h.c1, k 2 _ h.c2⟩
theorem grown_of_below {W W' : World} (h : Below W.heap.size W W') : W.grownBy W' none := ⟨h.os, h.tape, h.output, h.size, fun k hk _ => h.block k hk⟩

theorem rowsOf_calls (m : Nat) (R C : Nat) (q : Option Addr) (n c : Nat) (w : World) :
    CallsIn Fence.wide m Tryz.prog 46 #[.agg #[.int .i64 (R : Nat), .int .i64 (C : Nat), .slice q n c]] w fun e w' => e = .returned (.func (.func 61) #[] #[.pointer (some ⟨w.heap.size, 0, none⟩)]) ∧ w.alloc (.cells #[.int .i64 (R : Nat), .int .i64 (C : Nat), .slice q n c] 24) = w' := by
  refine callsIn_of_wp Tryz.func46 rfl trivial ?_ rfl
  simp only [Tryz.ntmps46, List.size_toArray, List.length_cons, List.length_nil, Nat.reduceAdd, Nat.reduceSub, Array.replicate_succ, Array.replicate_zero, List.push_toArray, List.append_toArray, List.nil_append, List.cons_append]
  gi_wp2
  go_ret
  exact ⟨rfl, rfl⟩

set_option maxRecDepth 100000 in
set_option maxHeartbeats 2000000 in
theorem rowsOf1_stops (m : Nat) (hm : 2 ≤ m) (Bn : Nat) (R C : Nat) (q : Option Addr) (n c : Nat) (hn : n = R * C) (hc : n ≤ c) (hR : R ≤ 300) (hC : C ≤ 300) (w : World) (hM : Mb w Bn (.int .i64 (R : Nat)) (.int .i64 (C : Nat)) (.slice q n c)) :
    SeqStopsK Fence.wide m Tryz.prog 61 #[.pointer (some ⟨Bn, 0, none⟩)] (rwv q C R) (KeepsM Bn) (fun ys => ys = upR R R) (fun _ => True) R w :=
  fun l J Jx W hW hJ hJx hY h0 => by
  have hMW : Mb W Bn (.int .i64 (R : Nat)) (.int .i64 (C : Nat)) (.slice q n c) := hM.below hW
  clear hM hW hJx
  refine callsIn_of_wp Tryz.func61 rfl trivial ?_ rfl
  simp only [Tryz.ntmps61, List.size_toArray, List.length_cons, List.length_nil, Nat.reduceAdd, Nat.reduceSub, Array.replicate_succ, Array.replicate_zero, List.push_toArray, List.append_toArray, List.nil_append, List.cons_append]
  have HM : Hid (Mb W Bn (.int .i64 (R : Nat)) (.int .i64 (C : Nat)) (.slice q n c) ∧ n = R * C ∧ n ≤ c) := ⟨hMW, hn, hc⟩
  clear hMW hn hc
  have hfn : ∀ f, Fence.wide.fn f := fun _ => trivial
  have hm1 : 1 ≤ m := by omega
  have b0 := (HM.out.1).c0
  have b1 := (HM.out.1).c1
  have b2 := (HM.out.1).c2
  gi_wp2
  clear b0 b1 b2
  gi_loopw [6] (fun i wr => ∃ j : Nat, j ≤ R ∧ i = .int .i64 (j : Int) ∧ J (upR R j) wr ∧ Mb wr Bn (.int .i64 (R : Nat)) (.int .i64 (C : Nat)) (.slice q n c)) (fun i _ => R - (intOf i).toNat)
  case atStart => exact ⟨0, by omega, rfl, h0, HM.out.1⟩
  case round =>
    obtain ⟨j, hj, rfl, hJs, hb⟩ := hrel
    by_cases hlt : j < R
    · have hji : (j : Int) < (R : Int) := by omega
      obtain ⟨o, ho⟩ : ∃ o, o = j * C := ⟨_, rfl⟩
      have K := mpiece_calls R C j o q n c hlt HM.out.2.1 ho HM.out.2.2 hR (by omega) wr
      have HB : Hid (Mb wr Bn (.int .i64 (R : Nat)) (.int .i64 (C : Nat)) (.slice q n c) ∧ J (upR R j) wr ∧ o = j * C) := ⟨hb, hJs, ho⟩
      have HY : Hid (∀ pre x W1, J pre W1 → pre.length < R → YieldAt Fence.wide (m - 1) Tryz.prog l (rwv q C R x) W1 fun e W' => (e = .returned (.bool true) ∧ J (pre ++ [x]) W' ∧ KeepsM Bn W1 W') ∨ (e = .returned (.bool false) ∧ Jx (pre ++ [x]) W')) := hY
      have b0 := (hb).c0
      have b1 := (hb).c1
      have b2 := (hb).c2
      clear hb hJs ho hY h0
      gi_wp2_with fail
      refine (callsIn_wide.2 K).mono ?_
      rintro e w1 ⟨rfl, hb1⟩
      clear K
      clear b0 b1 b2
      have hJ1 : J (upR R j) w1 := hJ _ _ _ none HB.out.2.1 (grown_of_below hb1) (fun r e => by cases e)
      have hYk := HY.out (upR R j) ⟨j, hlt⟩ w1 hJ1 (by rw [upR_length R j (by omega)]; exact hlt)
      rw [← upR_succ R j hlt] at hYk
      dsimp only [rwv] at hYk
      rw [← HB.out.2.2] at hYk
      have HB1 : Hid (Mb w1 Bn (.int .i64 (R : Nat)) (.int .i64 (C : Nat)) (.slice q n c)) := HB.out.1.below hb1
      obtain ⟨fn, tmps, assign, body, hy, hR'⟩ := hYk
      clear hb1 hJ1
      gi_wp2
      refine hR'.mono ?_
      rintro e W3 (⟨rfl, hJ3, hk3⟩ | ⟨rfl, hJx3⟩)
      · have HB3 : Hid (Mb W3 Bn (.int .i64 (R : Nat)) (.int .i64 (C : Nat)) (.slice q n c) ∧ J (upR R (j + 1)) W3) := ⟨HB1.out.keeps hk3, hJ3⟩
        clear hk3 hJ3
        gi_wp2
        go_roundw
        case rel => exact ⟨j + 1, by omega, by go_num, HB3.out.2, HB3.out.1⟩
        case measure => simp [intOf]; omega
      · gi_wp2
        refine bodyPost_ret (results_none rfl _ _ _) rfl ?_
        exact ⟨⟨_, rfl⟩, .inr ⟨_, trivial, hJx3⟩⟩
    · obtain rfl : j = R := by omega
      clear hb
      gi_wp2
      go_end0
      exact ⟨⟨_, rfl⟩, .inl ⟨_, rfl, hJs⟩⟩

set_option maxRecDepth 100000 in
set_option maxHeartbeats 1000000 in
theorem mblank_calls (R C n : Nat) (hn : n = R * C) (hR : R ≤ 300) (hC : C ≤ 300) (w : World) :
    Calls Tryz.prog 45 #[.int .i64 (R : Nat), .int .i64 (C : Nat)] w fun e w' => ∃ G, e = .returned (.agg #[.int .i64 (R : Nat), .int .i64 (C : Nat), .slice (some ⟨G, 0, none⟩) n n]) ∧ Wk w' w.heap.size G n R C (fun _ _ => 0) ∧ Below w.heap.size w w' := by
  have e1 : (R : Int) * (C : Int) = (n : Int) := by rw [hn]; exact (Int.natCast_mul R C).symm
  have h2 : n ≤ 90000 := by rw [hn]; exact Nat.mul_le_mul hR hC
  have hmk := make_bytes n (by omega)
  have HW : Hid (∀ o, Wk ((w.alloc o).alloc (.cells (madeCells #[.int .u8 0] n) 5)) w.heap.size (w.heap.size + 1) n R C (fun _ _ => 0)) := fun o => by
    have := wk_made (w.alloc o) (base := w.heap.size) (by simp) R C n hn (by omega)
    simpa using this
  clear hn
  go_enter Tryz.func45, Tryz.ntmps45
  go_wp2
  exact bodyPost_ret (results_cell Tryz.results45 rfl (load3 (by simp [go_sem]) (by simp [go_sem]) (by simp [go_sem]))) rfl ⟨_, rfl, HW.out _, ((Below.refl _ w).alloc (Nat.le_refl _) _).alloc (by simp) _⟩

/-- Is a row among these? -/
def hasR {R : Nat} (pre : List (Rw R)) (a : Nat) : Bool := pre.any fun x => x.1 == a
theorem hasR_nil {R : Nat} (a : Nat) : hasR (R := R) [] a = false := rfl
theorem hasR_snoc {R : Nat} (pre : List (Rw R)) (x : Rw R) (a : Nat) : hasR (pre ++ [x]) a = (hasR pre a || x.1 == a) := by simp [hasR]
theorem hasR_up {R : Nat} (a : Nat) : ∀ k, k ≤ R → hasR (upR R k) a = decide (a < k)
  | 0, _ => by simp [upR, hasR]
  | k + 1, h => by
    rw [upR_succ R k (by omega), hasR_snoc, hasR_up a k (by omega), Bool.eq_iff_iff]
    simp only [Bool.or_eq_true, decide_eq_true_eq, beq_iff_eq]; omega
/-- 1 from corner to corner, where rows have come. -/
def oneF {R : Nat} (pre : List (Rw R)) : Mat := fun a b => if hasR pre a = true ∧ a = b then 1 else 0
theorem oneF_snoc {R N : Nat} (pre : List (Rw R)) (x : Rw R) : Mx.Eq N N (upd (oneF pre) x.1 x.1 (GF.of 1)) (oneF (pre ++ [x])) := fun a b _ _ => by
  unfold upd oneF
  rw [hasR_snoc]
  by_cases e : a = x.1 ∧ b = x.1
  · obtain ⟨rfl, h⟩ := e
    rw [if_pos ⟨rfl, h⟩, if_pos ⟨by simp, h.symm⟩]; rfl
  · rw [if_neg e]
    by_cases h : hasR pre a = true ∧ a = b
    · rw [if_pos h, if_pos ⟨by rw [h.1]; rfl, h.2⟩]
    · rw [if_neg h, if_neg]
      rintro ⟨h1, rfl⟩
      simp only [Bool.or_eq_true, beq_iff_eq] at h1
      rcases h1 with h1 | h1
      · exact h ⟨h1, rfl⟩
      · exact e ⟨h1.symm, h1.symm⟩
theorem oneF_end {N : Nat} : Mx.Eq N N (oneF (upR N N)) Mx.id1 := fun a b ha _ => by
  unfold oneF Mx.id1 Mx.dl
  rw [hasR_up a N (Nat.le_refl _), decide_eq_true ha]
  simp
theorem wk_own {β : Type} {base G n R C : Nat} (f : β → Mat) : Own (fun (s : β) W => Wk W base G n R C (f s)) := fun s X Y row hs hg hr =>
  ⟨hs.1, ow_own (β := Unit) base _ (fun _ => cells R C (f s)) () X Y row hs.2 hg hr⟩

theorem rowAt_some {G C o : Nat} (h : 0 < C) : rowAt (some ⟨G, 0, none⟩) C o = some ⟨G, o, none⟩ := by
  unfold rowAt; rw [if_neg (by omega)]
  show some ((⟨G, 0, none⟩ : Addr).add o) = _
  have hadd : (⟨G, 0, none⟩ : Addr).add o = ⟨G, o, none⟩ := by unfold Addr.add; split <;> simp_all
  rw [hadd]
theorem own_and {β : Type} {B : Nat} {I J : β → World → Prop} (h : OwnFrom B I) (k : OwnFrom B J) : OwnFrom B (fun s W => I s W ∧ J s W) := fun s X Y row hs hg hr => ⟨h s X Y row hs.1 hg hr, k s X Y row hs.2 hg hr⟩

theorem mb_set3 {W : World} {B : Nat} (h : Z3 W B) (v0 v1 v2 : Value) : Mb (((W.setCell ⟨B, 0, none⟩ v0).setCell ⟨B, 1, none⟩ v1).setCell ⟨B, 2, none⟩ v2) B v0 v1 v2 := by
  have h0 := h.c0
  have h1 := h.c1
  have h2 := h.c2
  exact ⟨by simp [go_sem, h0], by simp [go_sem, h1], by simp [go_sem, h2]⟩
theorem Mb.load {W : World} {B : Nat} {v0 v1 v2 : Value} (h : Mb W B v0 v1 v2) : (loadVar 24 ⟨B, 0, none⟩).run Tryz.prog W = .ok (.agg #[v0, v1, v2]) W := load3 h.c0 h.c1 h.c2
theorem but_putObj (W : World) (D : Nat) (o : Obj) : But (· = D) W (W.putObj D o) := by
  have hg := grownBy_putObj' W D o
  exact ⟨hg.os, hg.tape, hg.output, hg.size, fun k hk hs => hg.block k hk (fun e => by cases e; exact hs rfl)⟩

set_option maxRecDepth 100000 in
set_option maxHeartbeats 2000000 in
theorem mone_in (D : Nat) (hD : 4 ≤ D) (N n : Nat) (hN : N ≤ 300) (hn : n = N * N) (w : World) :
    CallsIn Fence.wide D Tryz.prog 24 #[.int .i64 (N : Nat)] w fun e w' => ∃ v, e = .returned (.agg #[.int .i64 (N : Nat), .int .i64 (N : Nat), v]) ∧ Ow w' w.heap.size v (Mx.oneL N) ∧ Below w.heap.size w w' := by
  refine callsIn_of_wp_marks Tryz.func24 rfl trivial ?_ rfl
  simp only [Tryz.ntmps24, List.size_toArray, List.length_cons, List.length_nil, Nat.reduceAdd, Nat.reduceSub, Array.replicate_succ, Array.replicate_zero, List.push_toArray, List.append_toArray, List.nil_append, List.cons_append]
  have hfn : ∀ f, Fence.wide.fn f := fun _ => trivial
  have hD1 : 1 ≤ D := by omega
  obtain ⟨A, hA⟩ : ∃ A, w.heap.size = A := ⟨_, rfl⟩
  obtain ⟨P1, hP1⟩ : ∃ P1, w.alloc (.cells #[.int .i64 0, .int .i64 0, .slice none 0 0] 24) = P1 := ⟨_, rfl⟩
  obtain ⟨P2, hP2⟩ : ∃ P2, P1.alloc (.cells #[.int .i64 (N : Int)] 3) = P2 := ⟨_, rfl⟩
  have hs1 : P1.heap.size = A + 1 := by rw [← hP1, ← hA]; simp
  have hns := ns_one P1 (N : Int) (wf_i64 (by omega) (by omega))
  rw [hs1, hP2] at hns
  have K1 := minside_calls (some ⟨A + 1, 0, none⟩) 1 1 [(N : Int)] true (by simp [side]; omega) P2 hns (by decide)
  have K2 := mblank_calls N N n hn hN hN P2
  have HP : Hid (Z3 P2 A ∧ Below A w P2 ∧ P2.heap.size = A + 2 ∧ n = N * N) := by
    have h1 := z3_new w
    rw [hP1, hA] at h1
    exact ⟨h1.below (hP2 ▸ (Below.refl _ _).alloc (Nat.le_refl _) _), by rw [← hP2, ← hP1, ← hA]; exact ((Below.refl _ w).alloc (Nat.le_refl _) _).alloc (by simp) _, by rw [← hP2]; simp [hs1], hn⟩
  clear hns hn
  gi_wp2_with fail
  refine (callsIn_wide.2 K1).mono ?_
  rintro e w1 ⟨rfl, rfl⟩
  clear K1
  gi_wp2_with fail
  refine (callsIn_wide.2 K2).mono ?_
  rintro e w2 ⟨G, rfl, hW2, hb2⟩
  clear K2
  obtain ⟨X, hX⟩ : ∃ X, w2.heap.size = X := ⟨_, rfl⟩
  obtain ⟨W3, hW3⟩ : ∃ W3, w2.alloc (.cells #[.int .i64 (N : Nat), .int .i64 (N : Nat), .slice (some ⟨G, 0, none⟩) n n] 24) = W3 := ⟨_, rfl⟩
  have HT3 : Hid (Z3 W3 A ∧ Below A w W3 ∧ Mb W3 X (.int .i64 (N : Nat)) (.int .i64 (N : Nat)) (.slice (some ⟨G, 0, none⟩) n n) ∧ Wk W3 (A + 2) G n N N (fun _ _ => 0) ∧ A + 2 ≤ G ∧ G < X ∧ W3.heap.size = X + 1) := by
    have h1 : Below w2.heap.size w2 W3 := hW3 ▸ (Below.refl _ w2).alloc (Nat.le_refl _) _
    have hlt := hW2.lt
    rw [HP.out.2.2.1] at hW2 hlt
    have h2 := hb2.trans (h1.mono hb2.size)
    have h3 := HP.out.2.1.size
    refine ⟨HP.out.1.below h2, HP.out.2.1.trans (h2.mono (by rw [HP.out.2.2.1]; omega)), ?_, hW2.below h1, hlt.1, hX ▸ hlt.2, ?_⟩
    · rw [← hX, ← hW3]; exact mb_new w2 _ _ _
    · rw [← hX, ← hW3]; simp
  clear hW2 hb2
  have K4 := rowsOf_calls (D - 1) N N (some ⟨G, 0, none⟩) n n W3
  obtain ⟨W4, hW4⟩ : ∃ W4, W3.alloc (.cells #[.int .i64 (N : Nat), .int .i64 (N : Nat), .slice (some ⟨G, 0, none⟩) n n] 24) = W4 := ⟨_, rfl⟩
  rw [hW4, HT3.out.2.2.2.2.2.2] at K4
  have b0 := (HT3.out.2.2.1).c0
  have b1 := (HT3.out.2.2.1).c1
  have b2 := (HT3.out.2.2.1).c2
  gi_wp2_with fail
  refine K4.mono ?_
  rintro e w5 ⟨rfl, rfl⟩
  clear K4
  clear b0 b1 b2
  gi_wp2
  have HT4 : Hid (Z3 W4 A ∧ Below A w W4 ∧ Mb W4 X (.int .i64 (N : Nat)) (.int .i64 (N : Nat)) (.slice (some ⟨G, 0, none⟩) n n) ∧ Wk W4 (A + 2) G n N N (fun _ _ => 0) ∧ W4.heap.size = X + 2) := by
    have h1 : Below W3.heap.size W3 W4 := hW4 ▸ (Below.refl _ W3).alloc (Nat.le_refl _) _
    have hs := HT3.out.2.2.2.2.2.2
    have h := HT3.out
    have hAX : A ≤ X := by omega
    exact ⟨h.1.below h1, h.2.1.trans (h1.mono (by omega)), h.2.2.1.below h1, h.2.2.2.1.below h1, by rw [← hW4]; simp [hs]⟩
  have hMb : Mb W4 (X + 1) (.int .i64 (N : Nat)) (.int .i64 (N : Nat)) (.slice (some ⟨G, 0, none⟩) n n) := by
    have := mb_new W3 (.int .i64 (N : Nat)) (.int .i64 (N : Nat)) (.slice (some ⟨G, 0, none⟩) n n)
    rw [hW4, HT3.out.2.2.2.2.2.2] at this
    exact this
  have hGX : G < X := HT3.out.2.2.2.2.2.1
  have hsz : W4.heap.size = X + 2 := HT4.out.2.2.2.2
  refine wpIn_rangeFunc_ownG rfl hD1 (gf := 61) (lb := #[.pointer (some ⟨X + 1, 0, none⟩)]) rfl trivial (enters_of Tryz.func61 (by kernel_rfl) rfl)
    (rowsOf1_stops (D - 1) (by omega) (X + 1) N N (some ⟨G, 0, none⟩) n n HP.out.2.2.2 (Nat.le_refl _) hN hN W4 hMb) keepsM_t (fun W l o o' _ h1 h2 _ => keepsM_b W l o o' h1 h2) (Below.refl _ _) (fun _ => rfl)
    (fun pre W => Wk W (A + 2) G n N N (oneF pre) ∧ But (· = G) W4 W)
    (fun _ _ _ => False)
    (own_and ((wk_own oneF).from _) (ownFrom_but (Nat.le_refl _)))
    (fun _ _ _ _ _ hs _ _ => hs)
    ⟨HT4.out.2.2.2.1.congr (fun a b _ _ => by unfold oneF; rw [if_neg]; rintro ⟨h, _⟩; cases h), But.refl _ _⟩
    (fun t => { tmps := #[.int .i64 (N : Nat), undef, .pointer (some ⟨A, 0, none⟩), .pointer (some ⟨X, 0, none⟩), .int .i64 ((t.1 : Nat) : Int), .slice (rowAt (some ⟨G, 0, none⟩) N (t.1 * N)) N N, .int .i64 (N : Nat), .slice (some ⟨A + 1, 0, none⟩) 1 1, .bool true, .bool false, undef, .int .i64 (N : Nat), .int .i64 (N : Nat), .agg #[.int .i64 (N : Nat), .int .i64 (N : Nat), .slice (some ⟨G, 0, none⟩) n n], .agg #[.int .i64 (N : Nat), .int .i64 (N : Nat), .slice (some ⟨G, 0, none⟩) n n], .func (.func 61) #[] #[.pointer (some ⟨X + 1, 0, none⟩)], .int .i64 ((t.1 : Nat) : Int), .slice (rowAt (some ⟨G, 0, none⟩) N (t.1 * N)) N N, undef, undef, undef, undef], defers := [] }) ?assign ?body ?done ?stop
  case assign =>
    intro l t W K hK
    obtain ⟨i, hi⟩ := t
    dsimp only [rwv] at hK ⊢
    obtain ⟨qr, hqr⟩ : ∃ qr, rowAt (some ⟨G, 0, none⟩) N (i * N) = qr := ⟨_, rfl⟩
    rw [hqr] at hK ⊢
    gi_wp2
    exact hK
  case body =>
    rintro l pre t W ⟨hW, hB⟩ _
    have hsn := oneF_snoc (N := N) pre t
    obtain ⟨i, hi⟩ := t
    dsimp only at hsn ⊢
    have hii : (i : Int) < (N : Int) := by omega
    obtain ⟨o, ho⟩ : ∃ o, o = i * N := ⟨_, rfl⟩
    rw [← ho, rowAt_some (by omega)]
    obtain ⟨cx, cf⟩ := hW.cell (j := i) hi hi ho
    obtain ⟨x, hx⟩ : ∃ x, (oneF pre i i).val = x := ⟨_, rfl⟩
    rw [hx] at cx
    have HN : Hid (Wk (W.setCell ⟨G, o + i, none⟩ (.int .u8 1)) (A + 2) G n N N (oneF (pre ++ [⟨i, hi⟩])) ∧ But (· = G) W (W.setCell ⟨G, o + i, none⟩ (.int .u8 1)) ∧ But (· = G) W4 (W.setCell ⟨G, o + i, none⟩ (.int .u8 1))) :=
      ⟨(hW.set (x := 1) hi hi ho (by decide)).congr hsn, (But.refl (· = G) W).setCell (p := ⟨G, o + i, none⟩) (.inl rfl) _, hB.setCell (p := ⟨G, o + i, none⟩) (.inl rfl) _⟩
    clear hsn hW hB hx ho
    gi_wp2
    exact ⟨keepsFrom_but HN.out.2.1 (fun k hk => by omega), keepsM_but HN.out.2.1 (by omega), HN.out.1, HN.out.2.2⟩
  case done =>
    rintro D' ys' W hD' rfl ⟨hW, hB⟩ hK
    have HZ : Hid (Mb W X (.int .i64 (N : Nat)) (.int .i64 (N : Nat)) (.slice (some ⟨G, 0, none⟩) n n) ∧ Z3 W A ∧ Wk W (A + 2) G n N N Mx.id1 ∧ Below A w W ∧ A + 2 ≤ G) := by
      have h := HT4.out
      have hG := HT3.out.2.2.2.2.1
      have hs := h.2.2.2.2
      exact ⟨h.2.2.1.but hB (by omega), h.1.but hB (by omega), hW.congr oneF_end, h.2.1.trans (hB.below (by omega) (fun k hk => by omega)), hG⟩
    clear hW hB
    have b0 := (HZ.out.1).c0
    have b1 := (HZ.out.1).c1
    have b2 := (HZ.out.1).c2
    have z0 := (HZ.out.2.1).c0
    have z1 := (HZ.out.2.1).c1
    have z2 := (HZ.out.2.1).c2
    have f0 := HZ.out.2.1.f0
    have f1 := HZ.out.2.1.f1
    have f2 := HZ.out.2.1.f2
    gi_wp2
    have hAG := HZ.out.2.2.2.2
    have hbt := but_set3 W A (.int .i64 (N : Nat)) (.int .i64 (N : Nat)) (.slice (some ⟨G, 0, none⟩) n n)
    have hm := mb_set3 HZ.out.2.1 (.int .i64 (N : Nat)) (.int .i64 (N : Nat)) (.slice (some ⟨G, 0, none⟩) n n)
    obtain ⟨W6, hW6⟩ : ∃ W6, ((W.setCell ⟨A, 0, none⟩ (.int .i64 (N : Nat))).setCell ⟨A, 1, none⟩ (.int .i64 (N : Nat))).setCell ⟨A, 2, none⟩ (.slice (some ⟨G, 0, none⟩) n n) = W6 := ⟨_, rfl⟩
    rw [hW6] at hbt hm ⊢
    have hK6 : W6.heap[D']? = some (.deferred (some [])) := (hbt.block D' (Array.getElem?_eq_some_iff.1 hK).1 (by omega)).trans hK
    have hb7 := but_putObj W6 D' (.deferred none)
    refine ⟨by simp, .inl ⟨_, _, rfl, run_takeDeferred hK6, ?_⟩⟩
    refine ⟨_, results_cell Tryz.results24 rfl (hm.but hb7 (by omega)).load, _, rfl, ?_, ?_⟩
    · have h1 := (HZ.out.2.2.1.but hbt (by have := HZ.out.2.2.2.2; omega)).but hb7 (by omega)
      exact h1.2.mono (by omega)
    · rw [hA]
      have hsW := HZ.out.2.2.2.1.size
      exact (HZ.out.2.2.2.1.trans (hbt.below (by omega) (fun k hk => by omega))).trans (hb7.below (by have := hbt.size; omega) (fun k hk => by omega))
  case stop =>
    rintro D' c' pre W _ _ h _
    exact h.elim
theorem mone_calls (N : Nat) (hN : N ≤ 300) (w : World) :
    Calls Tryz.prog 24 #[.int .i64 (N : Nat)] w fun e w' => ∃ v, e = .returned (.agg #[.int .i64 (N : Nat), .int .i64 (N : Nat), v]) ∧ Ow w' w.heap.size v (Mx.oneL N) ∧ Below w.heap.size w w' :=
  (callsIn_wide (n := 4)).1 (mone_in 4 (by omega) N _ hN rfl w)
end Go.Proofs
/- The walk of gauss.Inverse. Conditions: any numbers of rows and columns, and cells of bytes; a field that Of has made. -/
namespace Go.Proofs
open Go.RowKit Go.ChangeShapes Go.WideShapes
open Mx (Mat cells upd prt lay mx rowL bes IsEch Sol dot IsInv oneL dl)
open Pol (Byt ofL toL)

set_option maxRecDepth 100000 in
set_option maxHeartbeats 1000000 in
theorem mone_none (z : Int) (h1 : -9223372036854775808 ≤ z) (h2 : z < 9223372036854775808) (h : side z = false) (w : World) :
    Calls Tryz.prog 24 #[.int .i64 z] w fun e w' => e = .returned (.agg #[.int .i64 0, .int .i64 0, .slice none 0 0]) ∧ Below w.heap.size w w' := by
  obtain ⟨A, hA⟩ : ∃ A, w.heap.size = A := ⟨_, rfl⟩
  obtain ⟨P1, hP1⟩ : ∃ P1, w.alloc (.cells #[.int .i64 0, .int .i64 0, .slice none 0 0] 24) = P1 := ⟨_, rfl⟩
  obtain ⟨P2, hP2⟩ : ∃ P2, P1.alloc (.cells #[.int .i64 z] 3) = P2 := ⟨_, rfl⟩
  have hs1 : P1.heap.size = A + 1 := by rw [← hP1, ← hA]; simp
  have hns := ns_one P1 z (wf_i64 h1 h2)
  rw [hs1, hP2] at hns
  have K1 := minside_calls (some ⟨A + 1, 0, none⟩) 1 1 [z] false (by simp [h]) P2 hns (by decide)
  have HP : Hid (Z3 P2 A ∧ Below A w P2) := by
    have h1 := z3_new w
    rw [hP1, hA] at h1
    exact ⟨h1.below (hP2 ▸ (Below.refl _ _).alloc (Nat.le_refl _) _), by rw [← hP2, ← hP1, ← hA]; exact ((Below.refl _ w).alloc (Nat.le_refl _) _).alloc (by simp) _⟩
  clear hns h h1 h2
  go_enter Tryz.func24, Tryz.ntmps24
  go_wp2_with fail
  refine K1.mono ?_
  rintro e w1 ⟨rfl, rfl⟩
  clear K1
  have b0 := (HP.out.1).c0
  have b1 := (HP.out.1).c1
  have b2 := (HP.out.1).c2
  have f0 := HP.out.1.f0
  have f1 := HP.out.1.f1
  have f2 := HP.out.1.f2
  go_wp2
  have hbt := but_set3 w1 A (.int .i64 0) (.int .i64 0) (.slice none 0 0)
  subst hA
  exact bodyPost_ret (results_cell Tryz.results24 rfl (load_set3 HP.out.1 _ _ _)) rfl ⟨rfl, HP.out.2.trans (hbt.below HP.out.2.size (fun k hk => by omega))⟩

/-- What is told of any matrix: its inverse, or that there is none. -/
def InO (R C : Int) (n : Nat) (xs : List Nat) (m : Nat) (zs : List Nat) (ok : Bool) : Prop :=
  (ok = true ∧ rightB R C n = true ∧ R = (m : Int) ∧ C = (m : Int) ∧ IsInv m xs zs) ∨ (ok = false ∧ m = 0 ∧ zs = [] ∧ (rightB R C n = true → R = C → ∀ ys, ¬ IsInv R.toNat xs ys))
theorem inO_exists (R C : Int) (n : Nat) (xs : List Nat) : ∃ m zs ok, InO R C n xs m zs ok := by
  by_cases h : rightB R C n = true ∧ R = C ∧ ∃ ys, IsInv R.toNat xs ys
  · obtain ⟨h1, h2, ys, h3⟩ := h
    obtain ⟨r, c, e1, e2, _⟩ := right_split h1
    have e3 : R.toNat = r := by omega
    rw [e3] at h3
    exact ⟨r, ys, true, .inl ⟨rfl, h1, e1, by omega, h3⟩⟩
  · exact ⟨0, [], false, .inr ⟨rfl, rfl, rfl, fun a b ys c => h ⟨a, b, ys, c⟩⟩⟩
namespace Mx
theorem inv_sol {n : Nat} {xs zs : List Nat} (h : IsInv n xs zs) (j : Nat) (hj : j < n) : Sol n n (mx n xs) (fun i => mx n (oneL n) i j) (fun t => mx n zs t j) := by
  obtain ⟨E, r, l, hE⟩ := ech_exists n n (mx n xs)
  have hr := rank_inv hE h.inv
  subst hr
  refine ⟨fun i hi => ?_, fun c hc hf => ?_⟩
  · rw [show mx r (oneL r) i j = dl i j from mx_cells r r id1 i j hi hj]
    exact h.inv i j hi hj
  · obtain ⟨x, h1, h2, _⟩ := hf
    have h3 := hE.trivial h1 c hc
    rw [h2] at h3
    exact absurd h3 GF.one_ne_zero
theorem sol_inv {n : Nat} {xs zs : List Nat} (hl : zs.length = n * n) (hb : Byt zs) (h : ∀ j, j < n → Sol n n (mx n xs) (fun i => mx n (oneL n) i j) (fun t => mx n zs t j)) : IsInv n xs zs :=
  isInv_cols hl hb fun j hj i hi => by
    rw [(h j hj).eq i hi]; exact mx_cells n n id1 i j hi hj
end Mx
open Classical in
theorem inO_sa {R C : Int} {n : Nat} {xs : List Nat} {m : Nat} {zs : List Nat} {ok : Bool} (h : InO R C n xs m zs ok) (hRC : R = C) (N : Nat) (hN : rightB R C n = true → R = (N : Int)) (Rb : Int) (ys : List Nat) (hb : rightB R C n = true → Rb = R ∧ ys = oneL N) : SaO R C n xs Rb N ys m m zs ok := by
  rcases h with ⟨h1, h2, h3, h4, h5⟩ | ⟨h1, h2, h3, h4⟩
  · have e1 := hN h2
    obtain ⟨e2, rfl⟩ := hb h2
    have e3 : m = N := by omega
    subst e3
    have e4 : R.toNat = m := by omega
    exact .inl ⟨h1, h2, e2.symm, h4, rfl, h5.len, h5.byt, fun j hj => by rw [e4]; exact Mx.inv_sol h5 j hj⟩
  · refine .inr ⟨h1, h2, h2, h3, fun a _ => ?_⟩
    have e1 := hN a
    obtain ⟨e2, rfl⟩ := hb a
    have e3 : R.toNat = N := by omega
    have e4 : C.toNat = N := by omega
    rw [e3, e4]
    refine Classical.byContradiction fun hc => h4 a hRC (cells N N fun t j => if h : ∃ x : Nat → GF, ∀ i, i < N → dot N (mx N xs i) x = mx N (oneL N) i j then Classical.choose h t else 0) ?_
    rw [e3]
    refine Mx.isInv_cols (Mx.cells_length _ _ _) (Mx.cells_byt _ _ _) fun j hj i hi => ?_
    have hx : ∃ x : Nat → GF, ∀ i, i < N → dot N (mx N xs i) x = mx N (oneL N) i j := Classical.byContradiction fun hno => hc ⟨j, hj, fun x hx => hno ⟨x, hx⟩⟩
    have h6 := Classical.choose_spec hx i hi
    rw [show mx N (oneL N) i j = dl i j from Mx.mx_cells N N Mx.id1 i j hi hj] at h6
    rw [← h6]
    refine Mx.dot_congr (fun _ _ => rfl) fun t ht => ?_
    rw [Mx.mx_cells N N _ t j ht hj, dif_pos hx]

set_option maxRecDepth 100000 in
set_option maxHeartbeats 4000000 in
theorem ginv_calls (k B T : Nat) (R C : Int) (q : Option Addr) (n c : Nat) (xs : List Nat) (m : Nat) (zs : List Nat) (ok : Bool) (hE : InO R C n xs m zs ok) (hR1 : -9223372036854775808 ≤ R) (hR2 : R < 9223372036854775808) (hC1 : -9223372036854775808 ≤ C) (hC2 : C < 9223372036854775808)
    (hnc : n ≤ c) (w : World) (hs : Bs w q n xs) (hF : Fd k B T w) :
    Calls Tryz.prog 21 #[.pointer (some ⟨B, 0, none⟩), .agg #[.int .i64 R, .int .i64 C, .slice q n c]] w fun e w' => ∃ v, e = .returned (.tuple #[.agg #[.int .i64 (m : Nat), .int .i64 (m : Nat), v], .bool ok]) ∧ Ow w' w.heap.size v zs ∧ Fd k B T w' ∧ But (· = T) w w' := by
  obtain ⟨A, hA⟩ : ∃ A, w.heap.size = A := ⟨_, rfl⟩
  obtain ⟨P2, hP2⟩ : ∃ P2, (w.alloc (.cells #[.int .i64 R, .int .i64 C, .slice q n c] 24)).alloc (.cells #[.int .i64 0, .int .i64 0, .slice none 0 0] 24) = P2 := ⟨_, rfl⟩
  have HP : Hid (Mb P2 A (.int .i64 R) (.int .i64 C) (.slice q n c) ∧ Z3 P2 (A + 1) ∧ Below A w P2 ∧ P2.heap.size = A + 2) := by
    have s1 : (w.alloc (.cells #[.int .i64 R, .int .i64 C, .slice q n c] 24)).heap.size = A + 1 := by rw [← hA]; simp
    have m1 := mb_new w (.int .i64 R) (.int .i64 C) (.slice q n c)
    have m3 := z3_new (w.alloc (.cells #[.int .i64 R, .int .i64 C, .slice q n c] 24))
    rw [hA] at m1
    rw [s1] at m3
    rw [← hP2]
    exact ⟨m1.below ((Below.refl _ _).alloc (Nat.le_refl _) _), m3, hA ▸ ((Below.refl _ w).alloc (Nat.le_refl _) _).alloc (by simp) _, by rw [← hA]; simp⟩
  by_cases hRC : R = C
  · subst hRC
    -- what One tells
    have K1 : ∃ (N : Nat) (Rb : Int) (ys : List Nat), (rightB R R n = true → R = (N : Int)) ∧ (rightB R R n = true → Rb = R ∧ ys = oneL N) ∧ N ≤ 300 ∧ ys.length = N * N ∧ Byt ys ∧ (rightB R R n = true → R = Rb → N * N = R.toNat * N) ∧
        Hid (∀ W, Calls Tryz.prog 24 #[.int .i64 R] W fun e w' => ∃ qv cv, e = .returned (.agg #[.int .i64 Rb, .int .i64 (N : Nat), .slice qv (N * N) cv]) ∧ Below W.heap.size W w' ∧ Bs w' qv (N * N) ys ∧ N * N ≤ cv) := by
      by_cases hsd : side R = true
      · obtain ⟨h1, h2⟩ := side_true.1 hsd
        obtain ⟨N, hN⟩ : ∃ N : Nat, R = (N : Int) := ⟨R.toNat, by omega⟩
        refine ⟨N, R, oneL N, fun _ => hN, fun _ => ⟨rfl, rfl⟩, by omega, Mx.cells_length _ _ _, Mx.cells_byt _ _ _, fun _ _ => by rw [hN]; rfl, fun W => ?_⟩
        subst hN
        refine (mone_calls N (by omega) W).mono ?_
        rintro e w' ⟨v, rfl, hO, hb⟩
        obtain ⟨qv, cv, rfl, hS, hc, -⟩ := hO.tell (n := N * N) (Mx.cells_byt _ _ _) (Mx.cells_length _ _ _)
        exact ⟨qv, cv, rfl, hb, hS, hc⟩
      · have hnr : rightB R R n ≠ true := fun h => hsd (by unfold rightB at h; simp only [Bool.and_eq_true] at h; exact h.1.1)
        refine ⟨0, 0, [], fun h => absurd h hnr, fun h => absurd h hnr, by omega, rfl, fun i => by simp, fun h => absurd h hnr, fun W => ?_⟩
        refine (mone_none R hR1 hR2 (by simpa using hsd) W).mono ?_
        rintro e w' ⟨rfl, hb⟩
        exact ⟨none, 0, rfl, hb, bs_none w', Nat.le_refl _⟩
    obtain ⟨N, Rb, ys, g1, g2, g3, g4, g5, g6, K1⟩ := K1
    have hSa := inO_sa hE rfl N g1 Rb ys g2
    have hb0 : Below w.heap.size w P2 := hA.symm ▸ HP.out.2.2.1
    have K2 : Hid (∀ W qv cv, Below P2.heap.size P2 W → Bs W qv (N * N) ys → N * N ≤ cv → Calls Tryz.prog 41 #[.pointer (some ⟨B, 0, none⟩), .agg #[.int .i64 R, .int .i64 R, .slice q n c], .agg #[.int .i64 Rb, .int .i64 (N : Nat), .slice qv (N * N) cv]] W fun e w' => ∃ q5 m5 c5, e = .returned (.tuple #[.agg #[.int .i64 (m : Nat), .int .i64 (m : Nat), .slice q5 m5 c5], .bool ok]) ∧ Hid (Ow w' (A + 2) (.slice q5 m5 c5) zs ∧ Fd k B T w' ∧ But (· = T) w w' ∧ Z3 w' (A + 1) ∧ Mb w' A (.int .i64 R) (.int .i64 R) (.slice q n c) ∧ W.heap.size ≤ w'.heap.size)) := fun W qv cv hb hS hc => by
      have hbw := hb0.trans (hb.mono (by have := HP.out.2.2.2; have := hb0.size; omega))
      refine (gsolve_calls k B T R R Rb q qv n c (N * N) N cv xs ys m m zs ok hSa hR1 hR2 hC1 hC2 hnc hc g3 g6 W (hs.below hbw) hS (hF.below hbw)).mono ?_
      rintro e w' ⟨v, rfl, hO, hF', hb'⟩
      obtain ⟨q5, m5, c5, rfl⟩ := hO.isSlice
      have hTA := hF.lt
      have hsz := hb.size
      have hp := HP.out.2.2.2
      exact ⟨q5, m5, c5, rfl, hO.mono (by omega), hF', (But.of_below hbw).trans hb', (HP.out.2.1.below hb).but hb' (by omega), (HP.out.1.below hb).but hb' (by omega), hb'.size⟩
    have HF : Hid (T < A ∧ B < A) := ⟨hA ▸ hF.lt, hA ▸ hF.blt⟩
    clear hs hF hE hSa hb0 hR1 hR2 hC1 hC2 g1 g2 g3 g4 g5 g6
    have a0 := (HP.out.1).c0
    have a1 := (HP.out.1).c1
    have a2 := (HP.out.1).c2
    go_enter Tryz.func21, Tryz.ntmps21
    go_wp2
    have HK : Hid (∀ W, Below P2.heap.size P2 W → W.cell? ⟨A, 0, none⟩ = some (.int .i64 R) ∧ W.cell? ⟨A, 1, none⟩ = some (.int .i64 R) ∧ W.cell? ⟨A, 2, none⟩ = some (.slice q n c)) := fun W hb => by
      have h := HP.out.1.below hb
      exact ⟨h.c0, h.c1, h.c2⟩
    have hT0 : Below P2.heap.size P2 P2.drew := (Below.refl _ P2).drew
    go_region_held3 (fun w' => w'.cell? ⟨A, 0, none⟩ = some (.int .i64 R) ∧ w'.cell? ⟨A, 1, none⟩ = some (.int .i64 R) ∧ w'.cell? ⟨A, 2, none⟩ = some (.slice q n c))
      (first | exact HK.out _ hT0 | exact HK.out _ hT3 | exact ⟨H5.out.2.2.2.2.1.c0, H5.out.2.2.2.2.1.c1, H5.out.2.2.2.2.1.c2⟩ | (go_keep; done))
      (first
        | (go_at_call 24; refine (K1.out _).mono ?_; rintro e w3 ⟨qv, cv, rfl, hT3', hS3, hc3⟩; have hT3 := hT0.trans (hT3'.mono (by simp)))
        | (go_at_call 41; refine (K2.out _ _ _ hT3 hS3 hc3).mono ?_; rintro e w5 ⟨q5, m5, c5, rfl, H5⟩; have z0 := H5.out.2.2.2.1.c0; have z1 := H5.out.2.2.2.1.c1; have z2 := H5.out.2.2.2.1.c2; have f0 := H5.out.2.2.2.1.f0; have f1 := H5.out.2.2.2.1.f1; have f2 := H5.out.2.2.2.1.f2))
    clear K1 K2 HK hT0 hT3 hT3' hS3 hc3 z0 z1 z2 f0 f1 f2
    clear a0 a1 a2
    go_wp2
    have hbt := but_set3 w5 (A + 1) (.int .i64 (m : Nat)) (.int .i64 (m : Nat)) (.slice q5 m5 c5)
    subst hA
    have hbw : But (· = T) w (((w5.setCell ⟨w.heap.size + 1, 0, none⟩ (.int .i64 (m : Nat))).setCell ⟨w.heap.size + 1, 1, none⟩ (.int .i64 (m : Nat))).setCell ⟨w.heap.size + 1, 2, none⟩ (.slice q5 m5 c5)) := H5.out.2.2.1.past hbt (fun k hk => by omega)
    exact bodyPost_ret (results_two Tryz.results21 rfl (load_set3 H5.out.2.2.2.1 _ _ _)) rfl ⟨_, rfl, (H5.out.1.block fun k hk => hbt.block k (H5.out.1.lt k hk).2 (by have := (H5.out.1.lt k hk).1; omega)).mono (by omega), H5.out.2.1.but hbt (by have := HF.out; omega) (by have := HF.out; omega), hbw⟩
  · obtain ⟨rfl, rfl, rfl⟩ : ok = false ∧ m = 0 ∧ zs = [] := by
      rcases hE with ⟨_, _, h3, h4, _⟩ | ⟨h1, h2, h3, _⟩
      · exact absurd (h3.trans h4.symm) hRC
      · exact ⟨h1, h2, h3⟩
    have HF : Hid (Fd k B T w) := hF
    have hne : (R != C) = true := by simpa using hRC
    clear hs hF hE hRC hR1 hR2 hC1 hC2
    have a0 := (HP.out.1).c0
    have a1 := (HP.out.1).c1
    have a2 := (HP.out.1).c2
    have z0 := (HP.out.2.1).c0
    have z1 := (HP.out.2.1).c1
    have z2 := (HP.out.2.1).c2
    have f0 := HP.out.2.1.f0
    have f1 := HP.out.2.1.f1
    have f2 := HP.out.2.1.f2
    go_enter Tryz.func21, Tryz.ntmps21
    go_wp2
    have hbt := but_set3 P2 (A + 1) (.int .i64 0) (.int .i64 0) (.slice none 0 0)
    subst hA
    have hbw := HP.out.2.2.1.trans (hbt.below HP.out.2.2.1.size (fun k hk => by omega))
    exact bodyPost_ret (results_two Tryz.results21 rfl (load_set3 HP.out.2.1 _ _ _)) rfl ⟨_, rfl, ow_nil _ _, HF.out.below hbw, But.of_below hbw⟩
end Go.Proofs
