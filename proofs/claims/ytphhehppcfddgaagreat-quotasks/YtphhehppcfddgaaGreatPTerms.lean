/- The walk of poly.terms and of its iterator: the powers of x whose coefficient is not 0, each with it, from the greatest on. Conditions: a list of bytes, its capacity no less than its length. -/
import Derived.Test.YtphhehppcfddgaaGreatBits
import Derived.Test.YtphhehppcfddgaaGreatOwn
namespace Go.Proofs
open Go.RowKit Go.Shelf
attribute [local go_sem] Oper.semAt_some

/-- A place of a list. -/
abbrev Tm (n : Nat) := { i : Nat // i < n }
abbrev tmv (xs : List Nat) (n : Nat) (x : Tm n) : Array Value := #[.int .i64 ((x.1 : Nat) : Int), .int .u8 ((xs.getD x.1 0 : Nat) : Int)]
/-- What has come when k places are gone through. -/
def tmK (xs : List Nat) (n : Nat) : Nat → List (Tm n)
  | 0 => []
  | k + 1 => if h : k < n ∧ xs.getD (n - 1 - k) 0 ≠ 0 then tmK xs n k ++ [⟨n - 1 - k, by omega⟩] else tmK xs n k
/-- What has come when the places from j on are. -/
def tmD (xs : List Nat) (n j : Nat) : List (Tm n) := tmK xs n (n - j)
theorem tmK_length (xs : List Nat) (n k : Nat) : (tmK xs n k).length ≤ k := by
  induction k with
  | zero => exact Nat.le_refl _
  | succ k ih =>
    unfold tmK
    split
    · simp; exact ih
    · omega
theorem tmD_top (xs : List Nat) (n : Nat) : tmD xs n n = [] := by unfold tmD; rw [Nat.sub_self]; rfl
theorem tmD_some (xs : List Nat) (n m : Nat) (hm : m < n) (h : xs.getD m 0 ≠ 0) : tmD xs n m = tmD xs n (m + 1) ++ [⟨m, hm⟩] := by
  unfold tmD
  obtain ⟨k, hk⟩ : ∃ k, n - (m + 1) = k := ⟨_, rfl⟩
  have e1 : n - m = k + 1 := by omega
  have e2 : n - 1 - k = m := by omega
  rw [e1, hk]
  conv => lhs; unfold tmK
  rw [dif_pos ⟨by omega, by rw [e2]; exact h⟩]
  congr 2
  exact Subtype.ext e2
theorem tmD_none (xs : List Nat) (n m : Nat) (hm : m < n) (h : xs.getD m 0 = 0) : tmD xs n m = tmD xs n (m + 1) := by
  unfold tmD
  obtain ⟨k, hk⟩ : ∃ k, n - (m + 1) = k := ⟨_, rfl⟩
  have e1 : n - m = k + 1 := by omega
  have e2 : n - 1 - k = m := by omega
  rw [e1, hk]
  conv => lhs; unfold tmK
  rw [dif_neg (fun c => c.2 (by rw [e2]; exact h))]
/-- A round keeps what the captured box holds, and the list itself. -/
def KeepsP (B : Nat) (q : Option Addr) (n : Nat) (W W' : World) : Prop := KeepsCell B W W' ∧ ∀ a, q = some a → ∀ i, i < n → ∀ v, W.cell? (a.add i) = some v → W'.cell? (a.add i) = some v
theorem keepsP_t {B n : Nat} {q : Option Addr} {X Y Z : World} (h : KeepsP B q n X Y) (k : KeepsP B q n Y Z) : KeepsP B q n X Z := ⟨keepsCell_t h.1 k.1, fun a e i hi v hv => k.2 a e i hi v (h.2 a e i hi v hv)⟩
theorem keepsP_b {B n : Nat} {q : Option Addr} (W : World) (l : Nat) (o o' : Obj) (hl : W.heap[l]? = some o) (ho : o.isCells = false) : KeepsP B q n W (W.putObj l o') :=
  ⟨keepsCell_b W l o o' hl ho, fun _ _ _ _ _ h => cell_kept h (grownBy_putObj' W l o') (fun r e => by cases e; exact ⟨o, hl, ho⟩)⟩
theorem KeepsP.refl (B : Nat) (q : Option Addr) (n : Nat) (W : World) : KeepsP B q n W W := ⟨KeepsCell.refl _ _, fun _ _ _ _ _ h => h⟩
theorem KeepsP.drew {B n : Nat} {q : Option Addr} {W W' : World} (h : KeepsP B q n W W') : KeepsP B q n W W'.drew := ⟨h.1.drew, fun a e i hi v hv => by simpa using h.2 a e i hi v hv⟩
theorem Bs.keeps {B n : Nat} {q : Option Addr} {xs : List Nat} {W W' : World} (h : Bs W q n xs) (k : KeepsP B q n W W') (hs : W.heap.size ≤ W'.heap.size) : Bs W' q n xs :=
  ⟨h.len, h.max, fun i hi => by obtain ⟨a, e, hl, hc⟩ := h.cell i hi; exact ⟨a, e, Nat.lt_of_lt_of_le hl hs, k.2 a e i hi _ hc⟩, h.byte⟩

theorem terms_calls (m : Nat) (q : Option Addr) (n c : Nat) (w : World) :
    CallsIn Fence.wide m Tryz.prog 41 #[.slice q n c] w fun e w' => e = .returned (.func (.func 42) #[] #[.pointer (some ⟨w.heap.size, 0, none⟩)]) ∧ w.alloc (.cells #[.slice q n c] 22) = w' := by
  refine callsIn_of_wp Tryz.func41 rfl trivial ?_ rfl
  simp only [Tryz.ntmps41, List.size_toArray, List.length_cons, List.length_nil, Nat.reduceAdd, Nat.reduceSub, Array.replicate_succ, Array.replicate_zero, List.push_toArray, List.append_toArray, List.nil_append, List.cons_append]
  gi_wp2
  go_ret
  exact ⟨rfl, rfl⟩

set_option maxHeartbeats 1000000 in
theorem terms1_stops (m : Nat) (hm : 1 ≤ m) (Bn : Nat) (q : Option Addr) (n c : Nat) (xs : List Nat) (w : World) (hb : Bn < w.heap.size) (hc : w.cell? ⟨Bn, 0, none⟩ = some (.slice q n c)) (hs : Bs w q n xs) :
    SeqStopsK Fence.wide m Tryz.prog 42 #[.pointer (some ⟨Bn, 0, none⟩)] (tmv xs n) (KeepsP Bn q n) (fun ys => ys = tmD xs n 0) (fun ys => ∃ j, j < n ∧ xs.getD j 0 ≠ 0 ∧ ys = tmD xs n j) n w :=
  fun l J Jx W hW hJ hJx hY h0 => by
  have hcW : W.cell? ⟨Bn, 0, none⟩ = some (.slice q n c) := (hW.cell (p := ⟨Bn, 0, none⟩) hb).trans hc
  have hsW : Bs W q n xs := hs.below hW
  have hmax := hs.max
  clear hc hW hs
  refine callsIn_of_wp Tryz.func42 rfl trivial ?_ rfl
  simp only [Tryz.ntmps42, List.size_toArray, List.length_cons, List.length_nil, Nat.reduceAdd, Nat.reduceSub, Array.replicate_succ, Array.replicate_zero, List.push_toArray, List.append_toArray, List.nil_append, List.cons_append]
  have HS : Hid (Bs W q n xs) := hsW
  clear hsW
  have hw0 : wrap64 ((n : Int) - 1) = (n : Int) - 1 := by unfold wrap64; omega
  gi_wp2
  gi_loopw [3] (fun i wr => ∃ j : Nat, j ≤ n ∧ i = .int .i64 ((j : Int) - 1) ∧ J (tmD xs n j) wr ∧ wr.cell? ⟨Bn, 0, none⟩ = some (.slice q n c) ∧ ∀ i, i < n → ∃ a, q = some a ∧ wr.cell? (a.add i) = some (.int .u8 (xs.getD i 0 : Nat)))
    (fun i _ => (intOf i + 1).toNat)
  case atStart =>
    refine ⟨n, Nat.le_refl _, rfl, ?_, hcW, fun i hi => ?_⟩
    · rw [tmD_top]; exact h0
    · obtain ⟨a, e, _, hc⟩ := HS.out.cell i hi
      exact ⟨a, e, hc⟩
  case round =>
    obtain ⟨j, hj, rfl, hJs, hcs, hcells⟩ := hrel
    cases j with
    | zero =>
      have e0 : ((0 : Nat) : Int) - 1 = -1 := by omega
      rw [e0]
      clear hcells HS
      gi_wp2
      go_end0
      exact ⟨⟨_, rfl⟩, .inl ⟨_, rfl, hJs⟩⟩
    | succ k =>
      have e0 : ((k + 1 : Nat) : Int) - 1 = (k : Int) := by omega
      rw [e0]
      have hlt : k < n := by omega
      obtain ⟨a, ha, hca⟩ := hcells k hlt
      have hbx := HS.out.byte k
      have hYk := hY (tmD xs n (k + 1)) ⟨k, hlt⟩ wr hJs (by have := tmK_length xs n (n - (k + 1)); unfold tmD; omega)
      have H1 := tmD_some xs n k hlt
      have H2 := tmD_none xs n k hlt
      have HC : Hid (∀ i, i < n → ∃ a, q = some a ∧ wr.cell? (a.add i) = some (.int .u8 (xs.getD i 0 : Nat))) := hcells
      dsimp only [tmv] at hYk
      obtain ⟨b, hbe⟩ : ∃ b, xs.getD k 0 = b := ⟨_, rfl⟩
      rw [hbe] at hca hbx hYk H1 H2
      clear hcells hY
      have hcan := hca
      subst ha
      have hki : (k : Int) < (n : Int) := by omega
      have hw1 : wrap64 ((k : Int) - 1) = (k : Int) - 1 := by unfold wrap64; omega
      by_cases hz : b = 0
      · subst hz
        have H3 := H2 rfl
        clear H1 H2 hYk hbx
        gi_wp2
        refine ⟨fun _ h => (by cases h), ?_⟩
        gi_wp2
        go_roundw
        case rel =>
          refine ⟨k, by omega, rfl, ?_, hcs, HC.out⟩
          rw [H3]; exact hJs
        case measure => simp [intOf]
      · have H3 := H1 hz
        have hnz : ((b : Int) != 0) = true := by simp; omega
        obtain ⟨fn, tmps, assign, body, hy, hR⟩ := hYk
        rw [← H3] at hR
        have HP : Hid (tmD xs n k = tmD xs n (k + 1) ++ [⟨k, hlt⟩]) := H3
        have HZ : Hid (k < n ∧ xs.getD k 0 ≠ 0) := ⟨hlt, by rw [hbe]; exact hz⟩
        clear H1 H2 H3 hbe
        gi_wp2
        refine hR.mono ?_
        rintro e W3 (⟨rfl, hJ3, hk3⟩ | ⟨rfl, hJx3⟩)
        · have hc3 : W3.cell? ⟨Bn, 0, none⟩ = some (.slice (some a) n c) := hk3.1 _ hcs
          have HC3 : Hid (∀ i, i < n → ∃ a', some a = some a' ∧ W3.cell? (a'.add i) = some (.int .u8 (xs.getD i 0 : Nat))) := fun i hi => by
            obtain ⟨a', e', h'⟩ := HC.out i hi
            exact ⟨a', e', hk3.2 a' e' i hi _ h'⟩
          clear hk3
          gi_wp2
          go_roundw
          case rel => exact ⟨k, by omega, rfl, hJ3, hc3, HC3.out⟩
          case measure => simp [intOf]
        · gi_wp2
          refine bodyPost_ret (results_none rfl _ _ _) rfl ?_
          exact ⟨⟨_, rfl⟩, .inr ⟨_, ⟨k, HZ.out.1, HZ.out.2, rfl⟩, hJx3⟩⟩
end Go.Proofs
