/- The walks of matrix.blank, rowsOf and its iterator: the rows of a right matrix, one by one. Conditions: no more than 300 rows and 300 columns. -/
import Derived.Test.YtbikchgkglllkaaGreatNC
import Derived.Test.YtbikchgkglllkaaGreatMI
namespace Go.Proofs
open Go.RowKit Go.Shelf Go.ChangeShapes Go.WideShapes
open Mx (Mat cells upd prt lay mx rowL)
open Pol (Byt ofL)
attribute [local go_sem] Oper.semAt_some

/-- A row's number. -/
abbrev Rw (R : Nat) := { i : Nat // i < R }
abbrev rwv (q : Option Addr) (C R : Nat) (x : Rw R) : Array Value := #[.int .i64 ((x.1 : Nat) : Int), .slice (rowAt q C (x.1 * C)) C C]
/-- The first k rows. -/
def upR (R : Nat) : Nat → List (Rw R)
  | 0 => []
  | k + 1 => if h : k < R then upR R k ++ [⟨k, h⟩] else upR R k
theorem upR_length (R : Nat) : ∀ k, k ≤ R → (upR R k).length = k
  | 0, _ => rfl
  | k + 1, h => by rw [upR, dif_pos (by omega), List.length_append, upR_length R k (by omega)]; rfl
theorem upR_succ (R k : Nat) (h : k < R) : upR R (k + 1) = upR R k ++ [⟨k, h⟩] := by rw [upR, dif_pos h]
/-- A round keeps the matrix' box. -/
def KeepsM (B : Nat) (W W' : World) : Prop := ∀ i v, W.cell? ⟨B, i, none⟩ = some v → W'.cell? ⟨B, i, none⟩ = some v
theorem keepsM_t {B : Nat} {X Y Z : World} (h : KeepsM B X Y) (k : KeepsM B Y Z) : KeepsM B X Z := fun i v e => k i v (h i v e)
theorem keepsM_b {B : Nat} (W : World) (l : Nat) (o o' : Obj) (hl : W.heap[l]? = some o) (ho : o.isCells = false) : KeepsM B W (W.putObj l o') :=
  fun _ _ h => cell_kept h (grownBy_putObj' W l o') (fun r e => by cases e; exact ⟨o, hl, ho⟩)
theorem keepsM_but {S : Nat → Prop} {B : Nat} {W W' : World} (h : But S W W') (hB : ¬ S B) : KeepsM B W W' := fun i _ e => (h.cell (p := ⟨B, i, none⟩) (World.block_lt_of_cell? _ _ e) hB).trans e
theorem Mb.keeps {W W' : World} {B : Nat} {v0 v1 v2 : Value} (h : Mb W B v0 v1 v2) (k : KeepsM B W W') : Mb W' B v0 v1 v2 := ⟨k 0 _ h.c0, k 1 _ h.c1, k 2 _ h.c2⟩
theorem grown_of_below {W W' : World} (h : Below W.heap.size W W') : W.grownBy W' none := ⟨h.os, h.tape, h.output, h.size, fun k hk _ => h.block k hk⟩

theorem rowsOf_calls (m : Nat) (R C : Nat) (q : Option Addr) (n c : Nat) (w : World) :
    CallsIn Fence.wide m Tryz.prog 60 #[.agg #[.int .i64 (R : Nat), .int .i64 (C : Nat), .slice q n c]] w fun e w' => e = .returned (.func (.func 67) #[] #[.pointer (some ⟨w.heap.size, 0, none⟩)]) ∧ w.alloc (.cells #[.int .i64 (R : Nat), .int .i64 (C : Nat), .slice q n c] 43) = w' := by
  refine callsIn_of_wp Tryz.func60 rfl trivial ?_ rfl
  simp only [Tryz.ntmps60, List.size_toArray, List.length_cons, List.length_nil, Nat.reduceAdd, Nat.reduceSub, Array.replicate_succ, Array.replicate_zero, List.push_toArray, List.append_toArray, List.nil_append, List.cons_append]
  gi_wp2
  go_ret
  exact ⟨rfl, rfl⟩

set_option maxRecDepth 100000 in
set_option maxHeartbeats 2000000 in
theorem rowsOf1_stops (m : Nat) (hm : 2 ≤ m) (Bn : Nat) (R C : Nat) (q : Option Addr) (n c : Nat) (hn : n = R * C) (hc : n ≤ c) (hR : R ≤ 300) (hC : C ≤ 300) (w : World) (hM : Mb w Bn (.int .i64 (R : Nat)) (.int .i64 (C : Nat)) (.slice q n c)) :
    SeqStopsK Fence.wide m Tryz.prog 67 #[.pointer (some ⟨Bn, 0, none⟩)] (rwv q C R) (KeepsM Bn) (fun ys => ys = upR R R) (fun _ => True) R w :=
  fun l J Jx W hW hJ hJx hY h0 => by
  have hMW : Mb W Bn (.int .i64 (R : Nat)) (.int .i64 (C : Nat)) (.slice q n c) := hM.below hW
  clear hM hW hJx
  refine callsIn_of_wp Tryz.func67 rfl trivial ?_ rfl
  simp only [Tryz.ntmps67, List.size_toArray, List.length_cons, List.length_nil, Nat.reduceAdd, Nat.reduceSub, Array.replicate_succ, Array.replicate_zero, List.push_toArray, List.append_toArray, List.nil_append, List.cons_append]
  have HM : Hid (Mb W Bn (.int .i64 (R : Nat)) (.int .i64 (C : Nat)) (.slice q n c) ∧ n = R * C ∧ n ≤ c) := ⟨hMW, hn, hc⟩
  clear hMW hn hc
  have hfn : ∀ f, Fence.wide.fn f := fun _ => trivial
  have hm1 : 1 ≤ m := by omega
  have b0 := (HM.out.1).c0
  have b1 := (HM.out.1).c1
  have b2 := (HM.out.1).c2
  gi_wp2
  clear b0 b1 b2
  gi_loopw [6] (fun i wr => ∃ j : Nat, j ≤ R ∧ i = .int .i64 (j : Int) ∧ J (upR R j) wr ∧ Mb wr Bn (.int .i64 (R : Nat)) (.int .i64 (C : Nat)) (.slice q n c)) (fun i _ => R - (intOf i).toNat)
  case atStart => exact ⟨0, by omega, rfl, h0, HM.out.1⟩
  case round =>
    obtain ⟨j, hj, rfl, hJs, hb⟩ := hrel
    by_cases hlt : j < R
    · have hji : (j : Int) < (R : Int) := by omega
      obtain ⟨o, ho⟩ : ∃ o, o = j * C := ⟨_, rfl⟩
      have K := mpiece_calls R C j o q n c hlt HM.out.2.1 ho HM.out.2.2 hR (by omega) wr
      have HB : Hid (Mb wr Bn (.int .i64 (R : Nat)) (.int .i64 (C : Nat)) (.slice q n c) ∧ J (upR R j) wr ∧ o = j * C) := ⟨hb, hJs, ho⟩
      have HY : Hid (∀ pre x W1, J pre W1 → pre.length < R → YieldAt Fence.wide (m - 1) Tryz.prog l (rwv q C R x) W1 fun e W' => (e = .returned (.bool true) ∧ J (pre ++ [x]) W' ∧ KeepsM Bn W1 W') ∨ (e = .returned (.bool false) ∧ Jx (pre ++ [x]) W')) := hY
      have b0 := (hb).c0
      have b1 := (hb).c1
      have b2 := (hb).c2
      clear hb hJs ho hY h0
      gi_wp2_with fail
      refine (callsIn_wide.2 K).mono ?_
      rintro e w1 ⟨rfl, hb1⟩
      clear K
      clear b0 b1 b2
      have hJ1 : J (upR R j) w1 := hJ _ _ _ none HB.out.2.1 (grown_of_below hb1) (fun r e => by cases e)
      have hYk := HY.out (upR R j) ⟨j, hlt⟩ w1 hJ1 (by rw [upR_length R j (by omega)]; exact hlt)
      rw [← upR_succ R j hlt] at hYk
      dsimp only [rwv] at hYk
      rw [← HB.out.2.2] at hYk
      have HB1 : Hid (Mb w1 Bn (.int .i64 (R : Nat)) (.int .i64 (C : Nat)) (.slice q n c)) := HB.out.1.below hb1
      obtain ⟨fn, tmps, assign, body, hy, hR'⟩ := hYk
      clear hb1 hJ1
      gi_wp2
      refine hR'.mono ?_
      rintro e W3 (⟨rfl, hJ3, hk3⟩ | ⟨rfl, hJx3⟩)
      · have HB3 : Hid (Mb W3 Bn (.int .i64 (R : Nat)) (.int .i64 (C : Nat)) (.slice q n c) ∧ J (upR R (j + 1)) W3) := ⟨HB1.out.keeps hk3, hJ3⟩
        clear hk3 hJ3
        gi_wp2
        go_roundw
        case rel => exact ⟨j + 1, by omega, by go_num, HB3.out.2, HB3.out.1⟩
        case measure => simp [intOf]; omega
      · gi_wp2
        refine bodyPost_ret (results_none rfl _ _ _) rfl ?_
        exact ⟨⟨_, rfl⟩, .inr ⟨_, trivial, hJx3⟩⟩
    · obtain rfl : j = R := by omega
      clear hb
      gi_wp2
      go_end0
      exact ⟨⟨_, rfl⟩, .inl ⟨_, rfl, hJs⟩⟩

/-- Is a row among these? -/
def hasR {R : Nat} (pre : List (Rw R)) (a : Nat) : Bool := pre.any fun x => x.1 == a
theorem hasR_nil {R : Nat} (a : Nat) : hasR (R := R) [] a = false := rfl
theorem hasR_snoc {R : Nat} (pre : List (Rw R)) (x : Rw R) (a : Nat) : hasR (pre ++ [x]) a = (hasR pre a || x.1 == a) := by simp [hasR]
theorem hasR_up {R : Nat} (a : Nat) : ∀ k, k ≤ R → hasR (upR R k) a = decide (a < k)
  | 0, _ => by simp [upR, hasR]
  | k + 1, h => by
    rw [upR_succ R k (by omega), hasR_snoc, hasR_up a k (by omega), Bool.eq_iff_iff]
    simp only [Bool.or_eq_true, decide_eq_true_eq, beq_iff_eq]; omega
/-- 1 from corner to corner, where rows have come. -/
def oneF {R : Nat} (pre : List (Rw R)) : Mat := fun a b => if hasR pre a = true ∧ a = b then 1 else 0
theorem oneF_snoc {R N : Nat} (pre : List (Rw R)) (x : Rw R) : Mx.Eq N N (upd (oneF pre) x.1 x.1 (GF.of 1)) (oneF (pre ++ [x])) := fun a b _ _ => by
  unfold upd oneF
  rw [hasR_snoc]
  by_cases e : a = x.1 ∧ b = x.1
  · obtain ⟨rfl, h⟩ := e
    rw [if_pos ⟨rfl, h⟩, if_pos ⟨by simp, h.symm⟩]; rfl
  · rw [if_neg e]
    by_cases h : hasR pre a = true ∧ a = b
    · rw [if_pos h, if_pos ⟨by rw [h.1]; rfl, h.2⟩]
    · rw [if_neg h, if_neg]
      rintro ⟨h1, rfl⟩
      simp only [Bool.or_eq_true, beq_iff_eq] at h1
      rcases h1 with h1 | h1
      · exact h ⟨h1, rfl⟩
      · exact e ⟨h1.symm, h1.symm⟩
theorem oneF_end {N : Nat} : Mx.Eq N N (oneF (upR N N)) Mx.id1 := fun a b ha _ => by
  unfold oneF Mx.id1 Mx.dl
  rw [hasR_up a N (Nat.le_refl _), decide_eq_true ha]
  simp
theorem wk_own {β : Type} {base G n R C : Nat} (f : β → Mat) : Own (fun (s : β) W => Wk W base G n R C (f s)) := fun s X Y row hs hg hr =>
  ⟨hs.1, ow_own (β := Unit) base _ (fun _ => cells R C (f s)) () X Y row hs.2 hg hr⟩

theorem rowAt_some {G C o : Nat} (h : 0 < C) : rowAt (some ⟨G, 0, none⟩) C o = some ⟨G, o, none⟩ := by
  unfold rowAt; rw [if_neg (by omega)]
  show some ((⟨G, 0, none⟩ : Addr).add o) = _
  have hadd : (⟨G, 0, none⟩ : Addr).add o = ⟨G, o, none⟩ := by unfold Addr.add; split <;> simp_all
  rw [hadd]
theorem own_and {β : Type} {B : Nat} {I J : β → World → Prop} (h : OwnFrom B I) (k : OwnFrom B J) : OwnFrom B (fun s W => I s W ∧ J s W) := fun s X Y row hs hg hr => ⟨h s X Y row hs.1 hg hr, k s X Y row hs.2 hg hr⟩

theorem mb_set3 {W : World} {B : Nat} (h : Z3 W B) (v0 v1 v2 : Value) : Mb (((W.setCell ⟨B, 0, none⟩ v0).setCell ⟨B, 1, none⟩ v1).setCell ⟨B, 2, none⟩ v2) B v0 v1 v2 := by
  have h0 := h.c0
  have h1 := h.c1
  have h2 := h.c2
  exact ⟨by simp [go_sem, h0], by simp [go_sem, h1], by simp [go_sem, h2]⟩
theorem Mb.load {W : World} {B : Nat} {v0 v1 v2 : Value} (h : Mb W B v0 v1 v2) : (loadVar 43 ⟨B, 0, none⟩).run Tryz.prog W = .ok (.agg #[v0, v1, v2]) W := load3 h.c0 h.c1 h.c2
theorem but_putObj (W : World) (D : Nat) (o : Obj) : But (· = D) W (W.putObj D o) := by
  have hg := grownBy_putObj' W D o
  exact ⟨hg.os, hg.tape, hg.output, hg.size, fun k hk hs => hg.block k hk (fun e => by cases e; exact hs rfl)⟩

end Go.Proofs
