/- The walk of slices.Chunk at sixty-four, and of its iterator: parts of sixty-four bytes, the last one shorter. Conditions: a list of at most a thousand million, its capacity no less than its length. -/
import Derived.Test.YtphhehppcfddgaaGreatBits
import Derived.Test.YtphhehppcfddgaaGreatPower
import Derived.Test.YtphhehppcfddgaaGreatOwn
namespace Go.Proofs
open Go.RowKit Go.Shelf
attribute [local go_sem] Oper.semAt_some

/-- A part: which one. -/
abbrev Ck (n : Nat) := { j : Nat // 64 * j < n }
/-- How long it is. -/
def ckn (n j : Nat) : Nat := min 64 (n - 64 * j)
abbrev ckv (a : Addr) (n : Nat) (x : Ck n) : Array Value := #[.slice (some (a.add (64 * x.1))) (ckn n x.1) (ckn n x.1)]
def ckUpto (n : Nat) : Nat → List (Ck n)
  | 0 => []
  | k + 1 => if h : 64 * k < n then ckUpto n k ++ [⟨k, h⟩] else ckUpto n k
theorem ckUpto_length (n k : Nat) : (ckUpto n k).length ≤ k := by
  induction k with
  | zero => exact Nat.le_refl _
  | succ k ih =>
    unfold ckUpto
    split
    · simp; exact ih
    · omega
/-- A round keeps what the two captured boxes hold. -/
def KeepsTwo (A B : Nat) (W W' : World) : Prop := KeepsCell A W W' ∧ KeepsCell B W W'
theorem keepsTwo_t {A B : Nat} {X Y Z : World} (h : KeepsTwo A B X Y) (k : KeepsTwo A B Y Z) : KeepsTwo A B X Z := ⟨keepsCell_t h.1 k.1, keepsCell_t h.2 k.2⟩
theorem keepsTwo_b {A B : Nat} (W : World) (l : Nat) (o o' : Obj) (hl : W.heap[l]? = some o) (ho : o.isCells = false) : KeepsTwo A B W (W.putObj l o') := ⟨keepsCell_b W l o o' hl ho, keepsCell_b W l o o' hl ho⟩

theorem chunk_calls (m : Nat) (q : Option Addr) (n c : Nat) (w : World) :
    CallsIn Fence.wide m Tryz.prog 114 #[.slice q n c, .int .i64 64] w fun e w' => e = .returned (.func (.func 122) #[] #[.pointer (some ⟨w.heap.size, 0, none⟩), .pointer (some ⟨w.heap.size + 1, 0, none⟩)]) ∧ (w.alloc (.cells #[.slice q n c] 22)).alloc (.cells #[.int .i64 64] 3) = w' := by
  refine callsIn_of_wp Tryz.func114 rfl trivial ?_ rfl
  simp only [Tryz.ntmps114, List.size_toArray, List.length_cons, List.length_nil, Nat.reduceAdd, Nat.reduceSub, Array.replicate_succ, Array.replicate_zero, List.push_toArray, List.append_toArray, List.nil_append, List.cons_append]
  gi_wp2
  go_ret
  exact ⟨rfl, rfl⟩

set_option maxRecDepth 100000 in
set_option maxHeartbeats 1000000 in
theorem chunk1_stops (m : Nat) (hm : 1 ≤ m) (A B : Nat) (a : Addr) (q : Option Addr) (n c : Nat) (hq : 0 < n → q = some a) (hn : n ≤ 1000000000) (hnc : n ≤ c) (w : World) (hA : A < w.heap.size) (hB : B < w.heap.size)
    (hcA : w.cell? ⟨A, 0, none⟩ = some (.slice q n c)) (hcB : w.cell? ⟨B, 0, none⟩ = some (.int .i64 64)) :
    SeqStopsK Fence.wide m Tryz.prog 122 #[.pointer (some ⟨A, 0, none⟩), .pointer (some ⟨B, 0, none⟩)] (ckv a n) (KeepsTwo A B) (fun xs => xs = ckUpto n ((n + 63) / 64)) (fun _ => True) ((n + 63) / 64) w :=
  fun l J Jx W hW hJ hJx hY h0 => by
  have hcAW := (hW.cell (p := ⟨A, 0, none⟩) hA).trans hcA
  have hcBW := (hW.cell (p := ⟨B, 0, none⟩) hB).trans hcB
  clear hcA hcB hW
  refine callsIn_of_wp Tryz.func122 rfl trivial ?_ rfl
  simp only [Tryz.ntmps122, List.size_toArray, List.length_cons, List.length_nil, Nat.reduceAdd, Nat.reduceSub, Array.replicate_succ, Array.replicate_zero, List.push_toArray, List.append_toArray, List.nil_append, List.cons_append]
  gi_wp2
  gi_loopw [4] (fun i wr => ∃ k : Nat, k ≤ (n + 63) / 64 ∧ i = .int .i64 ((64 * k : Nat) : Int) ∧ J (ckUpto n k) wr ∧ wr.cell? ⟨A, 0, none⟩ = some (.slice q n c) ∧ wr.cell? ⟨B, 0, none⟩ = some (.int .i64 64))
    (fun i _ => n - (intOf i).toNat)
  case atStart => exact ⟨0, by omega, rfl, h0, hcAW, hcBW⟩
  case round =>
    obtain ⟨k, hk, rfl, hJs, hca, hcb⟩ := hrel
    have hmx : Tryz.prog.follows .mixedOrders = true := by kernel_rfl
    obtain ⟨i, hi⟩ : ∃ i, 64 * k = i := ⟨_, rfl⟩
    by_cases hz : n ≤ 64 * k
    · have ek : k = (n + 63) / 64 := by omega
      have hni : ¬ ((i : Int) < (n : Int)) := by omega
      rw [hi]
      gi_wp2
      go_end0
      exact ⟨⟨_, rfl⟩, .inl (ek ▸ hJs)⟩
    · have hlt : 64 * k < n := by omega
      have hni : ((i : Int) < (n : Int)) := by omega
      have hJd : J (ckUpto n k) wr.drew := hJ _ _ _ none hJs ⟨rfl, rfl, rfl, Nat.le_refl _, fun _ _ _ => rfl⟩ (fun r e => by cases e)
      obtain ⟨fn, tmps, assign, body, hy, hR⟩ := hY (ckUpto n k) ⟨k, hlt⟩ wr.drew hJd (by have := ckUpto_length n k; omega)
      have eu : ckUpto n (k + 1) = ckUpto n k ++ [⟨k, hlt⟩] := by simp [ckUpto, hlt]
      rw [← eu] at hR
      dsimp only [ckv] at hy
      rw [hi] at hy
      obtain rfl : q = some a := hq (by omega)
      clear hq hJd hJs eu hY
      rw [hi]
      have hin : (i : Int) ≤ (n : Int) := by omega
      have hi0 : (0 : Int) ≤ (i : Int) := by omega
      have hcase : (n - i < 64 ∧ ckn n k = n - i) ∨ (64 ≤ n - i ∧ ckn n k = 64) := by unfold ckn; omega
      rcases hcase with ⟨hs, he⟩ | ⟨hs, he⟩
      all_goals
        rw [he] at hy
        have h1 : ((n - i : Nat) : Int) = (n : Int) - (i : Int) := by omega
        gi_wp2
        gi_region_o
        gi_wp2
        refine hR.mono ?_
        rintro e W3 (⟨rfl, hJ3, hk3⟩ | ⟨rfl, hJx3⟩)
        · have hc3 : W3.cell? ⟨A, 0, none⟩ = some (.slice (some a) n c) := hk3.1 _ (by rw [World.cell?_drew]; exact hca)
          have hd3 : W3.cell? ⟨B, 0, none⟩ = some (.int .i64 64) := hk3.2 _ (by rw [World.cell?_drew]; exact hcb)
          gi_wp2
          go_roundw
          case rel => exact ⟨k + 1, by omega, by simp; omega, hJ3, hc3, hd3⟩
          case measure => simp [intOf]; omega
        · gi_wp2
          refine bodyPost_ret (results_none rfl _ _ _) rfl ?_
          exact ⟨⟨_, rfl⟩, .inr ⟨_, trivial, hJx3⟩⟩
end Go.Proofs
