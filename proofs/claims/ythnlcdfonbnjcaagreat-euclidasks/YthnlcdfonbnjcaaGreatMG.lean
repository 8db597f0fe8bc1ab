/- Texts laid together: PTerms, PDeg, Chunk, FdLnL, App2, FdLnP, FdL, BEq, PNorm, Told, PolyX, RfH, PAddTo, PAdd, PMulR, RoundH, PMul, Tls, AppZ, Mk, RDeg. Each says its own conditions. -/
import Derived.RangeFuncBox
import Derived.Deep.RegionHeld3
import Derived.Laws.BytesArg
import Derived.Laws.Strings
import Derived.RegionCalls
import Derived.Deep.RegionWith
import Derived.Deep.RegionHeldLaw
import Derived.Deep.DeepCutAuto
import Derived.RangeFuncCalls
import Derived.OrdersIn
import Derived.TacticsInMore
import Derived.Lib.AppendStr
import Derived.Test.YthnlcdfonbnjcaaGreatMC
import Derived.Test.YthnlcdfonbnjcaaGreatMO
import Derived.Test.YthnlcdfonbnjcaaGreatMA
import Derived.Test.YthnlcdfonbnjcaaGreatMF
/- The walk of poly.terms and of its iterator: the powers of x whose coefficient is not 0, each with it, from the greatest on. Conditions: a list of bytes, its capacity no less than its length. -/
namespace Go.Proofs
open Go.RowKit Go.Shelf
attribute [local go_sem] Oper.semAt_some

/-- A place of a list. -/
abbrev Tm (n : Nat) := { i : Nat // i < n }
abbrev tmv (xs : List Nat) (n : Nat) (x : Tm n) : Array Value := #[.int .i64 ((x.1 : Nat) : Int), .int .u8 ((xs.getD x.1 0 : Nat) : Int)]
/-- What has come when k places are gone through. -/
def tmK (xs : List Nat) (n : Nat) : Nat → List (Tm n)
  | 0 => []
  | k + 1 => if h : k < n ∧ xs.getD (n - 1 - k) 0 ≠ 0 then tmK xs n k ++ [⟨n - 1 - k, by omega⟩] else tmK xs n k
/-- What has come when the places from j on are. -/
def tmD (xs : List Nat) (n j : Nat) : List (Tm n) := tmK xs n (n - j)
theorem tmK_length (xs : List Nat) (n k : Nat) : (tmK xs n k).length ≤ k := by
  induction k with
  | zero => exact Nat.le_refl _
  | succ k ih =>
    unfold tmK
    split
    · simp; exact ih
    · omega
theorem tmD_top (xs : List Nat) (n : Nat) : tmD xs n n = [] := by unfold tmD; rw [Nat.sub_self]; rfl
theorem tmD_some (xs : List Nat) (n m : Nat) (hm : m < n) (h : xs.getD m 0 ≠ 0) : tmD xs n m = tmD xs n (m + 1) ++ [⟨m, hm⟩] := by
  unfold tmD
  obtain ⟨k, hk⟩ : ∃ k, n - (m + 1) = k := ⟨_, rfl⟩
  have e1 : n - m = k + 1 := by omega
  have e2 : n - 1 - k = m := by omega
  rw [e1, hk]
  conv => lhs; unfold tmK
  rw [dif_pos ⟨by omega, by rw [e2]; exact h⟩]
  congr 2
  exact Subtype.ext e2
theorem tmD_none (xs : List Nat) (n m : Nat) (hm : m < n) (h : xs.getD m 0 = 0) : tmD xs n m = tmD xs n (m + 1) := by
  unfold tmD
  obtain ⟨k, hk⟩ : ∃ k, n - (m + 1) = k := ⟨_, rfl⟩
  have e1 : n - m = k + 1 := by omega
  have e2 : n - 1 - k = m := by omega
  rw [e1, hk]
  conv => lhs; unfold tmK
  rw [dif_neg (fun c => c.2 (by rw [e2]; exact h))]
/-- A round keeps what the captured box holds, and the list itself. -/
def KeepsP (B : Nat) (q : Option Addr) (n : Nat) (W W' : World) : Prop := KeepsCell B W W' ∧ ∀ a, q = some a → ∀ i, i < n → ∀ v, W.cell? (a.add i) = some v → W'.cell? (a.add i) = some v
theorem keepsP_t {B n : Nat} {q : Option Addr} {X Y Z : World} (h : KeepsP B q n X Y) (k : KeepsP B q n Y Z) : KeepsP B q n X Z := ⟨keepsCell_t h.1 k.1, fun a e i hi v hv => k.2 a e i hi v (h.2 a e i hi v hv)⟩
theorem keepsP_b {B n : Nat} {q : Option Addr} (W : World) (l : Nat) (o o' : Obj) (hl : W.heap[l]? = some o) (ho : o.isCells = false) : KeepsP B q n W (W.putObj l o') :=
  ⟨keepsCell_b W l o o' hl ho, fun _ _ _ _ _ h => cell_kept h (grownBy_putObj' W l o') (fun r e => by cases e; exact ⟨o, hl, ho⟩)⟩
theorem KeepsP.refl (B : Nat) (q : Option Addr) (n : Nat) (W : World) : KeepsP B q n W W := ⟨KeepsCell.refl _ _, fun _ _ _ _ _ h => h⟩
theorem KeepsP.drew {B n : Nat} {q : Option Addr} {W W' : World} (h : KeepsP B q n W W') : KeepsP B q n W W'.drew := ⟨h.1.drew, fun a e i hi v hv => by simpa using h.2 a e i hi v hv⟩
theorem Bs.keeps {B n : Nat} {q : Option Addr} {xs : List Nat} {W W' : World} (h : Bs W q n xs) (k : KeepsP B q n W W') (hs : W.heap.size ≤ W'.heap.size) : Bs W' q n xs :=
  ⟨h.len, h.max, fun i hi => by obtain ⟨a, e, hl, hc⟩ := h.cell i hi; exact ⟨a, e, Nat.lt_of_lt_of_le hl hs, k.2 a e i hi _ hc⟩, h.byte⟩

theorem terms_calls (m : Nat) (q : Option Addr) (n c : Nat) (w : World) :
    CallsIn Fence.wide m Tryz.prog 31 #[.slice q n c] w fun e w' => e = .returned (.func (.func 55) #[] #[.pointer (some ⟨w.heap.size, 0, none⟩)]) ∧ w.alloc (.cells #[.slice q n c] 22) = w' := by
  refine callsIn_of_wp Tryz.func31 rfl trivial ?_ rfl
  simp only [Tryz.ntmps31, List.size_toArray, List.length_cons, List.length_nil, Nat.reduceAdd, Nat.reduceSub, Array.replicate_succ, Array.replicate_zero, List.push_toArray, List.append_toArray, List.nil_append, List.cons_append]
  gi_wp2
  go_ret
  exact ⟨rfl, rfl⟩

set_option maxHeartbeats 1000000 in
theorem terms1_stops (m : Nat) (hm : 1 ≤ m) (Bn : Nat) (q : Option Addr) (n c : Nat) (xs : List Nat) (w : World) (hb : Bn < w.heap.size) (hc : w.cell? ⟨Bn, 0, none⟩ = some (.slice q n c)) (hs : Bs w q n xs) :
    SeqStopsK Fence.wide m Tryz.prog 55 #[.pointer (some ⟨Bn, 0, none⟩)] (tmv xs n) (KeepsP Bn q n) (fun ys => ys = tmD xs n 0) (fun ys => ∃ j, j < n ∧ xs.getD j 0 ≠ 0 ∧ ys = tmD xs n j) n w :=
  fun l J Jx W hW hJ hJx hY h0 => by
  have hcW : W.cell? ⟨Bn, 0, none⟩ = some (.slice q n c) := (hW.cell (p := ⟨Bn, 0, none⟩) hb).trans hc
  have hsW : Bs W q n xs := hs.below hW
  have hmax := hs.max
  clear hc hW hs
  refine callsIn_of_wp Tryz.func55 rfl trivial ?_ rfl
  simp only [Tryz.ntmps55, List.size_toArray, List.length_cons, List.length_nil, Nat.reduceAdd, Nat.reduceSub, Array.replicate_succ, Array.replicate_zero, List.push_toArray, List.append_toArray, List.nil_append, List.cons_append]
  have HS : Hid (Bs W q n xs) := hsW
  clear hsW
  have hw0 : wrap64 ((n : Int) - 1) = (n : Int) - 1 := by unfold wrap64; omega
  gi_wp2
  gi_loopw [3] (fun i wr => ∃ j : Nat, j ≤ n ∧ i = .int .i64 ((j : Int) - 1) ∧ J (tmD xs n j) wr ∧ wr.cell? ⟨Bn, 0, none⟩ = some (.slice q n c) ∧ ∀ i, i < n → ∃ a, q = some a ∧ wr.cell? (a.add i) = some (.int .u8 (xs.getD i 0 : Nat)))
    (fun i _ => (intOf i + 1).toNat)
  case atStart =>
    refine ⟨n, Nat.le_refl _, rfl, ?_, hcW, fun i hi => ?_⟩
    · rw [tmD_top]; exact h0
    · obtain ⟨a, e, _, hc⟩ := HS.out.cell i hi
      exact ⟨a, e, hc⟩
  case round =>
    obtain ⟨j, hj, rfl, hJs, hcs, hcells⟩ := hrel
    cases j with
    | zero =>
      have e0 : ((0 : Nat) : Int) - 1 = -1 := by omega
      rw [e0]
      clear hcells HS
      gi_wp2
      go_end0
      exact ⟨⟨_, rfl⟩, .inl ⟨_, rfl, hJs⟩⟩
    | succ k =>
      have e0 : ((k + 1 : Nat) : Int) - 1 = (k : Int) := by omega
      rw [e0]
      have hlt : k < n := by omega
      obtain ⟨a, ha, hca⟩ := hcells k hlt
      have hbx := HS.out.byte k
      have hYk := hY (tmD xs n (k + 1)) ⟨k, hlt⟩ wr hJs (by have := tmK_length xs n (n - (k + 1)); unfold tmD; omega)
      have H1 := tmD_some xs n k hlt
      have H2 := tmD_none xs n k hlt
      have HC : Hid (∀ i, i < n → ∃ a, q = some a ∧ wr.cell? (a.add i) = some (.int .u8 (xs.getD i 0 : Nat))) := hcells
      dsimp only [tmv] at hYk
      obtain ⟨b, hbe⟩ : ∃ b, xs.getD k 0 = b := ⟨_, rfl⟩
      rw [hbe] at hca hbx hYk H1 H2
      clear hcells hY
      have hcan := hca
      subst ha
      have hki : (k : Int) < (n : Int) := by omega
      have hw1 : wrap64 ((k : Int) - 1) = (k : Int) - 1 := by unfold wrap64; omega
      by_cases hz : b = 0
      · subst hz
        have H3 := H2 rfl
        clear H1 H2 hYk hbx
        gi_wp2
        refine ⟨fun _ h => (by cases h), ?_⟩
        gi_wp2
        go_roundw
        case rel =>
          refine ⟨k, by omega, rfl, ?_, hcs, HC.out⟩
          rw [H3]; exact hJs
        case measure => simp [intOf]
      · have H3 := H1 hz
        have hnz : ((b : Int) != 0) = true := by simp; omega
        obtain ⟨fn, tmps, assign, body, hy, hR⟩ := hYk
        rw [← H3] at hR
        have HP : Hid (tmD xs n k = tmD xs n (k + 1) ++ [⟨k, hlt⟩]) := H3
        have HZ : Hid (k < n ∧ xs.getD k 0 ≠ 0) := ⟨hlt, by rw [hbe]; exact hz⟩
        clear H1 H2 H3 hbe
        gi_wp2
        refine hR.mono ?_
        rintro e W3 (⟨rfl, hJ3, hk3⟩ | ⟨rfl, hJx3⟩)
        · have hc3 : W3.cell? ⟨Bn, 0, none⟩ = some (.slice (some a) n c) := hk3.1 _ hcs
          have HC3 : Hid (∀ i, i < n → ∃ a', some a = some a' ∧ W3.cell? (a'.add i) = some (.int .u8 (xs.getD i 0 : Nat))) := fun i hi => by
            obtain ⟨a', e', h'⟩ := HC.out i hi
            exact ⟨a', e', hk3.2 a' e' i hi _ h'⟩
          clear hk3
          gi_wp2
          go_roundw
          case rel => exact ⟨k, by omega, rfl, hJ3, hc3, HC3.out⟩
          case measure => simp [intOf]
        · gi_wp2
          refine bodyPost_ret (results_none rfl _ _ _) rfl ?_
          exact ⟨⟨_, rfl⟩, .inr ⟨_, ⟨k, HZ.out.1, HZ.out.2, rfl⟩, hJx3⟩⟩
end Go.Proofs
/- The walks of poly.Deg and poly.normal. Conditions: a list of bytes, its capacity no less than its length; d less 1 is its degree. -/
namespace Go.Proofs
open Go.RowKit Go.Shelf
attribute [local go_sem] Oper.semAt_some

theorem tmD_mem (xs : List Nat) (n i : Nat) (hi : i < n) (h : xs.getD i 0 ≠ 0) : ∀ k j, j + k = i → ⟨i, hi⟩ ∈ tmD xs n j := by
  intro k
  induction k with
  | zero =>
    intro j e
    obtain rfl : j = i := by omega
    rw [tmD_some xs n j hi h]
    simp
  | succ k ih =>
    intro j e
    have := ih (j + 1) (by omega)
    by_cases hj : xs.getD j 0 = 0
    · rw [tmD_none xs n j (by omega) hj]; exact this
    · rw [tmD_some xs n j (by omega) hj]; exact List.mem_append.2 (.inl this)
theorem tmD_nil {xs : List Nat} {n j : Nat} (hl : xs.length = n) (h : tmD xs n j = []) (i : Nat) (hi : j ≤ i) : xs.getD i 0 = 0 := by
  by_cases hn : i < n
  · by_cases h0 : xs.getD i 0 = 0
    · exact h0
    · have := tmD_mem xs n i hn h0 (i - j) j (by omega)
      rw [h] at this
      exact absurd this (List.not_mem_nil)
  · simp [List.getD, List.getElem?_eq_none (show xs.length ≤ i by omega)]
theorem dg_all {xs : List Nat} {n d : Nat} (hl : xs.length = n) (hd : Pol.Dg d (Pol.ofL xs)) (h : tmD xs n 0 = []) : d = 0 :=
  hd.unique ⟨fun i _ => by show GF.of _ = 0; rw [tmD_nil hl h i (Nat.zero_le _)]; rfl, fun e => absurd rfl e⟩
theorem dg_first {xs : List Nat} {n d j : Nat} {x : Tm n} (hl : xs.length = n) (hb : Pol.Byt xs) (hd : Pol.Dg d (Pol.ofL xs)) (hj : j < n) (h0 : xs.getD j 0 ≠ 0) (h : [x] = tmD xs n j) : d = x.1 + 1 := by
  rw [tmD_some xs n j hj h0] at h
  have h1 : tmD xs n (j + 1) = [] ∧ x = ⟨j, hj⟩ := by
    cases hc : tmD xs n (j + 1) with
    | nil => rw [hc] at h; simpa using h
    | cons y ys => rw [hc] at h; simp at h
  obtain ⟨h2, rfl⟩ := h1
  refine hd.unique ⟨fun i hi => ?_, fun _ e => ?_⟩
  · show GF.of _ = 0
    rw [tmD_nil hl h2 i hi]; rfl
  · exact h0 ((GF.of_eq_zero _ (hb _)).1 e)

set_option maxRecDepth 100000 in
set_option maxHeartbeats 2000000 in
theorem pdeg_in (m : Nat) (hm : 3 ≤ m) (q : Option Addr) (n c : Nat) (xs : List Nat) (d : Nat) (hd : Pol.Dg d (Pol.ofL xs)) (w : World) (hs : Bs w q n xs) :
    CallsIn Fence.wide m Tryz.prog 15 #[.slice q n c] w fun e w' => e = .returned (.int .i64 ((d : Int) - 1)) ∧ Below w.heap.size w w' := by
  refine callsIn_of_wp_marks Tryz.func15 rfl trivial ?_ rfl
  simp only [Tryz.ntmps15, List.size_toArray, List.length_cons, List.length_nil, Nat.reduceAdd, Nat.reduceSub, Array.replicate_succ, Array.replicate_zero, List.push_toArray, List.append_toArray, List.nil_append, List.cons_append]
  have hfn : ∀ f, Fence.wide.fn f := fun _ => trivial
  have hm1 : 1 ≤ m := by omega
  have HL : Hid (xs.length = n ∧ Pol.Byt xs) := ⟨hs.len, hs.byte⟩
  have HD : Hid (Pol.Dg d (Pol.ofL xs)) := hd
  have HS : Hid (Bs w q n xs) := hs
  clear hd hs
  gi_wp2_with (gi_at_call 31; refine (terms_calls (m - 1) q n c _).mono ?_; rintro e w' ⟨rfl, rfl⟩)
  obtain ⟨R, hR⟩ : ∃ R, w.heap.size = R := ⟨_, rfl⟩
  obtain ⟨W0, hW0⟩ : ∃ W0, (w.alloc (.cells #[.int .i64 0] 3)).alloc (.cells #[.slice q n c] 22) = W0 := ⟨_, rfl⟩
  have c0 : W0.cell? ⟨R, 0, none⟩ = some (.int .i64 0) := by rw [← hW0, ← hR]; simp [go_sem]
  have f0 : W0.frozen? ⟨R, 0, none⟩ = false := by rw [← hW0, ← hR]; simp [go_sem]
  have c1 : W0.cell? ⟨R + 1, 0, none⟩ = some (.slice q n c) := by rw [← hW0, ← hR]; simp [go_sem]
  have hsz : W0.heap.size = R + 2 := by rw [← hW0, ← hR]; simp
  have hB0 : Below R w W0 := by rw [← hW0, ← hR]; exact ((Below.refl _ w).alloc (Nat.le_refl _) _).alloc (by simp) _
  have hs0 : Bs W0 q n xs := HS.out.below (hR.symm ▸ hB0)
  rw [hW0, hR]
  clear hW0 HS
  refine wpIn_rangeFunc_ownF rfl hm1 (gf := 55) (lb := #[.pointer (some ⟨R + 1, 0, none⟩)]) rfl trivial (enters_of Tryz.func55 (by kernel_rfl) rfl)
    (terms1_stops (m - 1) (by omega) (R + 1) q n c xs _ (by omega) c1 hs0) keepsP_t (fun W l o o' _ h1 h2 _ => keepsP_b W l o o' h1 h2) (Below.refl _ _) (fun _ => rfl)
    (fun pre W => (pre = [] ∧ W.cell? ⟨R, 0, none⟩ = some (.int .i64 0) ∧ W.frozen? ⟨R, 0, none⟩ = false) ∧ Below R w W)
    (fun c pre W => (c = .ret ∧ ∃ x : Tm n, pre = [x] ∧ W.cell? ⟨R, 0, none⟩ = some (.int .i64 ((x.1 : Nat) : Int))) ∧ Below R w W)
    (OwnFrom.and (Own.from (fun s A B row hs hg hr => ⟨hs.1, cell_kept hs.2.1 hg hr, (frozen_kept hs.2.1 hg hr).trans hs.2.2⟩) _) (ownFrom_below (by omega) (by omega)))
    (fun c => OwnFrom.and (Own.from (fun s A B row hs hg hr => ⟨hs.1, by obtain ⟨x, h1, h2⟩ := hs.2; exact ⟨x, h1, cell_kept h2 hg hr⟩⟩) _) (ownFrom_below (by omega) (by omega)))
    ⟨⟨rfl, c0, f0⟩, hB0⟩
    (fun x => { tmps := #[.slice q n c, undef, .pointer (some ⟨R, 0, none⟩), .int .i64 ((x.1 : Nat) : Int), .slice q n c, .func (.func 55) #[] #[.pointer (some ⟨R + 1, 0, none⟩)], .int .i64 ((x.1 : Nat) : Int), .int .u8 ((xs.getD x.1 0 : Nat) : Int), undef], defers := [] }) ?assign ?body ?done ?stop
  case assign =>
    intro l x W K hK
    obtain ⟨i, hi⟩ := x
    dsimp only [tmv] at hK ⊢
    obtain ⟨b, hb⟩ : ∃ b, xs.getD i 0 = b := ⟨_, rfl⟩
    rw [hb] at hK ⊢
    gi_wp2
    exact hK
  case body =>
    rintro l pre x W ⟨⟨rfl, hc, hf⟩, hB⟩ _
    obtain ⟨i, hi⟩ := x
    dsimp only
    obtain ⟨b, hb⟩ : ∃ b, xs.getD i 0 = b := ⟨_, rfl⟩
    rw [hb]
    clear c0 f0 c1 hB0 hs0
    gi_wp2
    exact ⟨KeepsOthers.setCell _ _ _, ⟨rfl, ⟨i, hi⟩, rfl, World.cell?_setCell_same' _ _ _ (by rw [hc]; rfl)⟩, hB.setCell (p := ⟨R, 0, none⟩) (Nat.le_refl _) _⟩
  case done =>
    rintro D ys W hD rfl ⟨⟨hn, hc, hf⟩, hB⟩ hK
    have e0 := dg_all HL.out.1 HD.out hn
    subst e0
    gi_wp2
    have hK' := (KeepsOthers.setCell W ⟨R, 0, none⟩ (.int .i64 (-1))).same D _ hK rfl
    refine ⟨by simp, .inl ⟨_, _, rfl, run_takeDeferred hK', ?_⟩⟩
    have hc5 := cell_kept (World.cell?_setCell_same' W ⟨R, 0, none⟩ (.int .i64 (-1)) (by rw [hc]; rfl)) (grownBy_putObj' _ D (.deferred none)) (fun r e => by cases e; exact ⟨_, hK', rfl⟩)
    refine ⟨.int .i64 (-1), ?_, rfl, by rw [hR]; exact (hB.setCell (p := ⟨R, 0, none⟩) (Nat.le_refl _) _).trans (belowK_b (w := w) (by omega) _ D _ _ (by omega) hK' rfl rfl)⟩
    simp [results, Tryz.f15, go_sem, hc5]
  case stop =>
    rintro D c pre W hD ⟨j, hj, h0, hp⟩ ⟨⟨rfl, x, rfl, hc⟩, hB⟩ hK
    have e0 := dg_first HL.out.1 HL.out.2 HD.out hj h0 hp
    subst e0
    gi_wp2
    refine ⟨by simp, .inl ⟨_, _, rfl, run_takeDeferred hK, ?_⟩⟩
    have hc5 := cell_kept hc (grownBy_putObj' _ D (.deferred none)) (fun r e => by cases e; exact ⟨_, hK, rfl⟩)
    refine ⟨.int .i64 ((x.1 : Nat) : Int), ?_, congrArg (fun z => Ending.returned (.int .i64 z)) (by omega), by rw [hR]; exact hB.trans (belowK_b (w := w) (by omega) W D _ _ (by omega) hK rfl rfl)⟩
    simp [results, Tryz.f15, go_sem, hc5]
theorem pdeg_calls (q : Option Addr) (n c : Nat) (xs : List Nat) (d : Nat) (hd : Pol.Dg d (Pol.ofL xs)) (w : World) (hs : Bs w q n xs) :
    Calls Tryz.prog 15 #[.slice q n c] w fun e w' => e = .returned (.int .i64 ((d : Int) - 1)) ∧ Below w.heap.size w w' :=
  (callsIn_wide (n := 3)).1 (pdeg_in 3 (by omega) q n c xs d hd w hs)

set_option maxHeartbeats 1000000 in
theorem pnormal_calls (q : Option Addr) (n c : Nat) (xs : List Nat) (d : Nat) (hd : Pol.Dg d (Pol.ofL xs)) (hnc : n ≤ c) (w : World) (hs : Bs w q n xs) :
    Calls Tryz.prog 33 #[.slice q n c] w fun e w' => e = .returned (.slice q d c) ∧ Below w.heap.size w w' := by
  have hdn : d ≤ n := by have := hd.le (Pol.ofL_bd xs); rw [hs.len] at this; exact this
  have K := pdeg_calls q n c xs d hd w hs
  have hmax := hs.max
  have hi : (d : Int) ≤ (c : Int) := by omega
  have h0 : wrap64 ((d : Int) - 1 + 1) = (d : Int) := by unfold wrap64; omega
  clear hs hd
  go_enter Tryz.func33, Tryz.ntmps33
  go_wp2_with (go_at_call 15; refine K.mono ?_; rintro e w1 ⟨rfl, hb⟩)
  go_ret
  exact ⟨rfl, hb⟩
end Go.Proofs
/- The walk of slices.Chunk at sixty-four, and of its iterator: parts of sixty-four bytes, the last one shorter. Conditions: a list of at most a thousand million, its capacity no less than its length. -/
namespace Go.Proofs
open Go.RowKit Go.Shelf
attribute [local go_sem] Oper.semAt_some

/-- A part: which one. -/
abbrev Ck (n : Nat) := { j : Nat // 64 * j < n }
/-- How long it is. -/
def ckn (n j : Nat) : Nat := min 64 (n - 64 * j)
abbrev ckv (a : Addr) (n : Nat) (x : Ck n) : Array Value := #[.slice (some (a.add (64 * x.1))) (ckn n x.1) (ckn n x.1)]
def ckUpto (n : Nat) : Nat → List (Ck n)
  | 0 => []
  | k + 1 => if h : 64 * k < n then ckUpto n k ++ [⟨k, h⟩] else ckUpto n k
theorem ckUpto_length (n k : Nat) : (ckUpto n k).length ≤ k := by
  induction k with
  | zero => exact Nat.le_refl _
  | succ k ih =>
    unfold ckUpto
    split
    · simp; exact ih
    · omega
/-- A round keeps what the two captured boxes hold. -/
def KeepsTwo (A B : Nat) (W W' : World) : Prop := KeepsCell A W W' ∧ KeepsCell B W W'
theorem keepsTwo_t {A B : Nat} {X Y Z : World} (h : KeepsTwo A B X Y) (k : KeepsTwo A B Y Z) : KeepsTwo A B X Z := ⟨keepsCell_t h.1 k.1, keepsCell_t h.2 k.2⟩
theorem keepsTwo_b {A B : Nat} (W : World) (l : Nat) (o o' : Obj) (hl : W.heap[l]? = some o) (ho : o.isCells = false) : KeepsTwo A B W (W.putObj l o') := ⟨keepsCell_b W l o o' hl ho, keepsCell_b W l o o' hl ho⟩

theorem chunk_calls (m : Nat) (q : Option Addr) (n c : Nat) (w : World) :
    CallsIn Fence.wide m Tryz.prog 137 #[.slice q n c, .int .i64 64] w fun e w' => e = .returned (.func (.func 143) #[] #[.pointer (some ⟨w.heap.size, 0, none⟩), .pointer (some ⟨w.heap.size + 1, 0, none⟩)]) ∧ (w.alloc (.cells #[.slice q n c] 22)).alloc (.cells #[.int .i64 64] 3) = w' := by
  refine callsIn_of_wp Tryz.func137 rfl trivial ?_ rfl
  simp only [Tryz.ntmps137, List.size_toArray, List.length_cons, List.length_nil, Nat.reduceAdd, Nat.reduceSub, Array.replicate_succ, Array.replicate_zero, List.push_toArray, List.append_toArray, List.nil_append, List.cons_append]
  gi_wp2
  go_ret
  exact ⟨rfl, rfl⟩

set_option maxRecDepth 100000 in
set_option maxHeartbeats 1000000 in
theorem chunk1_stops (m : Nat) (hm : 1 ≤ m) (A B : Nat) (a : Addr) (q : Option Addr) (n c : Nat) (hq : 0 < n → q = some a) (hn : n ≤ 1000000000) (hnc : n ≤ c) (w : World) (hA : A < w.heap.size) (hB : B < w.heap.size)
    (hcA : w.cell? ⟨A, 0, none⟩ = some (.slice q n c)) (hcB : w.cell? ⟨B, 0, none⟩ = some (.int .i64 64)) :
    SeqStopsK Fence.wide m Tryz.prog 143 #[.pointer (some ⟨A, 0, none⟩), .pointer (some ⟨B, 0, none⟩)] (ckv a n) (KeepsTwo A B) (fun xs => xs = ckUpto n ((n + 63) / 64)) (fun _ => True) ((n + 63) / 64) w :=
  fun l J Jx W hW hJ hJx hY h0 => by
  have hcAW := (hW.cell (p := ⟨A, 0, none⟩) hA).trans hcA
  have hcBW := (hW.cell (p := ⟨B, 0, none⟩) hB).trans hcB
  clear hcA hcB hW
  refine callsIn_of_wp Tryz.func143 rfl trivial ?_ rfl
  simp only [Tryz.ntmps143, List.size_toArray, List.length_cons, List.length_nil, Nat.reduceAdd, Nat.reduceSub, Array.replicate_succ, Array.replicate_zero, List.push_toArray, List.append_toArray, List.nil_append, List.cons_append]
  gi_wp2
  gi_loopw [4] (fun i wr => ∃ k : Nat, k ≤ (n + 63) / 64 ∧ i = .int .i64 ((64 * k : Nat) : Int) ∧ J (ckUpto n k) wr ∧ wr.cell? ⟨A, 0, none⟩ = some (.slice q n c) ∧ wr.cell? ⟨B, 0, none⟩ = some (.int .i64 64))
    (fun i _ => n - (intOf i).toNat)
  case atStart => exact ⟨0, by omega, rfl, h0, hcAW, hcBW⟩
  case round =>
    obtain ⟨k, hk, rfl, hJs, hca, hcb⟩ := hrel
    have hmx : Tryz.prog.follows .mixedOrders = true := by kernel_rfl
    obtain ⟨i, hi⟩ : ∃ i, 64 * k = i := ⟨_, rfl⟩
    by_cases hz : n ≤ 64 * k
    · have ek : k = (n + 63) / 64 := by omega
      have hni : ¬ ((i : Int) < (n : Int)) := by omega
      rw [hi]
      gi_wp2
      go_end0
      exact ⟨⟨_, rfl⟩, .inl (ek ▸ hJs)⟩
    · have hlt : 64 * k < n := by omega
      have hni : ((i : Int) < (n : Int)) := by omega
      have hJd : J (ckUpto n k) wr.drew := hJ _ _ _ none hJs ⟨rfl, rfl, rfl, Nat.le_refl _, fun _ _ _ => rfl⟩ (fun r e => by cases e)
      obtain ⟨fn, tmps, assign, body, hy, hR⟩ := hY (ckUpto n k) ⟨k, hlt⟩ wr.drew hJd (by have := ckUpto_length n k; omega)
      have eu : ckUpto n (k + 1) = ckUpto n k ++ [⟨k, hlt⟩] := by simp [ckUpto, hlt]
      rw [← eu] at hR
      dsimp only [ckv] at hy
      rw [hi] at hy
      obtain rfl : q = some a := hq (by omega)
      clear hq hJd hJs eu hY
      rw [hi]
      have hin : (i : Int) ≤ (n : Int) := by omega
      have hi0 : (0 : Int) ≤ (i : Int) := by omega
      have hcase : (n - i < 64 ∧ ckn n k = n - i) ∨ (64 ≤ n - i ∧ ckn n k = 64) := by unfold ckn; omega
      rcases hcase with ⟨hs, he⟩ | ⟨hs, he⟩
      all_goals
        rw [he] at hy
        have h1 : ((n - i : Nat) : Int) = (n : Int) - (i : Int) := by omega
        gi_wp2
        gi_region_o
        gi_wp2
        refine hR.mono ?_
        rintro e W3 (⟨rfl, hJ3, hk3⟩ | ⟨rfl, hJx3⟩)
        · have hc3 : W3.cell? ⟨A, 0, none⟩ = some (.slice (some a) n c) := hk3.1 _ (by rw [World.cell?_drew]; exact hca)
          have hd3 : W3.cell? ⟨B, 0, none⟩ = some (.int .i64 64) := hk3.2 _ (by rw [World.cell?_drew]; exact hcb)
          gi_wp2
          go_roundw
          case rel => exact ⟨k + 1, by omega, by simp; omega, hJ3, hc3, hd3⟩
          case measure => simp [intOf]; omega
        · gi_wp2
          refine bodyPost_ret (results_none rfl _ _ _) rfl ?_
          exact ⟨⟨_, rfl⟩, .inr ⟨_, trivial, hJx3⟩⟩
end Go.Proofs
/- The walks of field's backend of lanes, for lists: each, pairs. Conditions: lists of at most a thousand million bytes, no longer than their capacities. -/
namespace Go.Proofs
open Go.RowKit Go.Shelf Go.ChangeShapes Go.WideShapes
attribute [local go_sem] Oper.semAt_some
attribute [local go_sem ↓ high] builtin_ap
attribute [local go_sem] ap_sem

/-- make([]byte, 0, n). -/
theorem make_bytes0 (n : Nat) (hn : n ≤ 281474976710656) (w : World) :
    (Instr.makeSlice 22 (.int .i64 0) (.int .i64 (n : Int))).run Tryz.prog w = .ok (.slice (some ⟨w.heap.size, 0, none⟩) 0 n) (w.alloc (.cells (madeCells #[.int .u8 0] n) 5)) := by
  obtain ⟨i, hi, hz, hs, hb⟩ := info_parts info_u8
  have hr := run_make (P := Tryz.prog) w 22 5 i (.int .u8 0) Tryz.underlying22 hi hz .i64 .i64 0 n (by omega) (by omega) (by rw [hb]; omega) (by omega)
  simp only [Int.toNat_natCast, hs, Nat.mul_one] at hr
  exact hr
theorem ow_made0 (W : World) {base : Nat} (hb : base ≤ W.heap.size) (n : Nat) (hn : n ≤ 281474976710656) : Ow (W.alloc (.cells (madeCells #[.int .u8 0] n) 5)) base (.slice (some ⟨W.heap.size, 0, none⟩) 0 n) [] :=
  ⟨rfl, .inr ⟨W.heap.size, n, madeCells #[.int .u8 0] n, rfl, hb, World.alloc_heap_new W _, Nat.zero_le _, by unfold maxLen; omega, by rw [size_madeCells]; simp, rfl⟩⟩
/-- The products of the parts that have come. -/
def eachC (xs : List Nat) (a n : Nat) (x : Ck n) : List Nat := (List.range (ckn n x.1)).map fun i => Gf.mul (xs.getD (64 * x.1 + i) 0) a
def eachF (xs : List Nat) (a n : Nat) (pre : List (Ck n)) : List Nat := pre.flatMap (eachC xs a n)
theorem eachF_snoc (xs : List Nat) (a n : Nat) (pre : List (Ck n)) (x : Ck n) : eachF xs a n (pre ++ [x]) = eachF xs a n pre ++ eachC xs a n x := by simp [eachF]
theorem eachC_length (xs : List Nat) (a n : Nat) (x : Ck n) : (eachC xs a n x).length = ckn n x.1 := by simp [eachC]
theorem ckn_le (n j : Nat) : ckn n j ≤ 64 := Nat.min_le_left _ _
theorem eachF_length (xs : List Nat) (a n : Nat) (pre : List (Ck n)) : (eachF xs a n pre).length ≤ 64 * pre.length := by
  induction pre with
  | nil => simp [eachF]
  | cons x l ih =>
    have e : eachF xs a n (x :: l) = eachC xs a n x ++ eachF xs a n l := by simp [eachF]
    rw [e, List.length_append, eachC_length, List.length_cons]
    have := ckn_le n x.1
    omega
theorem eachF_upto (xs : List Nat) (a n k : Nat) : eachF xs a n (ckUpto n k) = (List.range (min n (64 * k))).map fun i => Gf.mul (xs.getD i 0) a := by
  induction k with
  | zero => simp [ckUpto, eachF]
  | succ k ih =>
    by_cases h : 64 * k < n
    · have e : ckUpto n (k + 1) = ckUpto n k ++ [⟨k, h⟩] := by simp [ckUpto, h]
      rw [e, eachF_snoc, ih]
      have e1 : min n (64 * k) = 64 * k := by omega
      have e2 : min n (64 * (k + 1)) = 64 * k + ckn n k := by unfold ckn; omega
      rw [e1, e2, List.range_add, List.map_append, List.map_map]
      rfl
    · have e : ckUpto n (k + 1) = ckUpto n k := by simp [ckUpto, h]
      rw [e, ih]
      have e1 : min n (64 * k) = min n (64 * (k + 1)) := by omega
      rw [e1]
theorem eachF_all (xs : List Nat) (a n : Nat) (ha : a < 256) (hx : ∀ i, xs.getD i 0 < 256) (hn : xs.length = n) : eachF xs a n (ckUpto n ((n + 63) / 64)) = xs.map (Gf.mul a) := by
  rw [eachF_upto]
  have e : min n (64 * ((n + 63) / 64)) = n := by omega
  rw [e, ← hn, ← range_map (Gf.mul a) xs]
  apply List.map_congr_left
  intro i _
  exact Gf.mul_comm _ _ (hx i) ha

theorem lunpack_at (l : Nat → Nat) (hl : ∀ n, n < 64 → l n < 256) (w : World) :
    Calls Tryz.prog 138 #[V8 l] w fun e w' => ∃ g c, e = .returned (.slice (some ⟨g, 0, none⟩) 64 c) ∧ w.heap.size ≤ g ∧ 64 ≤ c ∧ (∀ i, i < 64 → w'.cell? ⟨g, i, none⟩ = some (.int .u8 (l i : Nat))) ∧ Below w.heap.size w w' :=
  (lunpack_calls l hl w).mono fun e w' ⟨v, he, hO, hb⟩ => by
    rcases hO.shape with ⟨_, h0⟩ | ⟨g, c, rfl, h1, _, h3, _, h5, _⟩
    · have := ll_length l
      rw [h0] at this
      exact absurd this (by decide)
    · rw [ll_length] at h3 h5 he
      refine ⟨g, c, he, h1, h3, fun i hi => ?_, hb⟩
      rw [h5 i hi, ll_at, if_pos hi]
/-- 'out = append(out, told...)': behind the append and the store into the variable's box. -/
theorem appended0 {W w1 : World} {n₀ B : Nat} {v v' : Value} {xs ys : List Nat} (hv : Boxed W B 22 v) (hrow : Ow W n₀ v xs) (hn₀ : n₀ ≤ W.heap.size) (hB : n₀ ≤ B) (hown' : Ow w1 n₀ v' ys) (hgrow : W.grownBy w1 v.ownBlock) :
    Boxed w1 B 22 v ∧ Boxed (w1.setCell ⟨B, 0, none⟩ v') B 22 v' ∧ Ow (w1.setCell ⟨B, 0, none⟩ v') n₀ v' ys ∧ KeepsOthers W (w1.setCell ⟨B, 0, none⟩ v') ∧ Below n₀ W (w1.setCell ⟨B, 0, none⟩ v') := by
  have hv1 : Boxed w1 B 22 v := hv.kept hgrow (hv.not_row (by decide) hrow)
  refine ⟨hv1, hv1.set v', World.ownsRow.kept hown' (grownBy_setCell' w1 B v') (.inr (hv1.not_row (by decide) hown').symm), ?_, ?_⟩
  · refine (KeepsOthers.of_grownBy hgrow fun j o ej hj => ?_).trans (KeepsOthers.setCell _ _ _)
    rcases hrow.2 with ⟨rfl, _⟩ | ⟨g, cap, cur, rfl, _, hgb, _⟩
    · simp [Value.ownBlock] at ej
    · obtain rfl : g = j := by simpa [Value.ownBlock] using ej
      rw [hgb] at hj; cases hj; rfl
  · refine ((Below.refl n₀ W).grown hgrow hn₀ fun j ej => ?_).setCell (p := ⟨B, 0, none⟩) hB v'
    exact (hrow.lt j ej).1
theorem other0 {W w1 : World} {n₀ B C : Nat} {t : TypeId} {v v' u : Value} {xs : List Nat} (hu : Boxed W C t u) (ht : t ≠ 5) (hne : C ≠ B) (hrow : Ow W n₀ v xs) (hgrow : W.grownBy w1 v.ownBlock) : Boxed (w1.setCell ⟨B, 0, none⟩ v') C t u :=
  (hu.kept hgrow (hu.not_row ht hrow)).other hne v'
theorem boxed_below {W W' : World} {B : Nat} {t : TypeId} {v : Value} (h : Boxed W B t v) (hb : Below W.heap.size W W') : Boxed W' B t v := (hb.block B h.lt).trans h
theorem keepsCell_boxed {W W' : World} {B : Nat} {t : TypeId} {v : Value} (h : Boxed W B t v) (h' : Boxed W' B t v) : KeepsCell B W W' := fun u hu => by rw [h.cell] at hu; rw [h'.cell]; exact hu
theorem bs_part {W : World} {q : Option Addr} {n : Nat} {xs : List Nat} (h : Bs W q n xs) (ad : Addr) (hq : q = some ad) (k m : Nat) (hk : k + m ≤ n) : Bs W (some (ad.add k)) m ((List.range m).map fun i => xs.getD (k + i) 0) := by
  refine ⟨by simp, Nat.le_trans (by omega) h.max, fun i hi => ?_, fun i => ?_⟩
  · obtain ⟨a, e, hl, hc⟩ := h.cell (k + i) (by omega)
    obtain rfl : a = ad := Option.some.inj (e.symm.trans hq)
    refine ⟨_, rfl, by rw [block_add]; exact hl, ?_⟩
    rw [Addr.add_add, hc]
    simp [List.getD, hi]
  · by_cases hi : i < m
    · have := h.byte (k + i)
      simpa [List.getD, hi] using this
    · simp [List.getD, hi]

set_option maxRecDepth 100000 in
set_option maxHeartbeats 2000000 in
theorem bleach_in (m : Nat) (hm : 3 ≤ m) (a n c : Nat) (q : Option Addr) (xs : List Nat) (ha : a < 256) (hn : n ≤ 1000000000) (hnc : n ≤ c) (w : World) (hs : Bs w q n xs) :
    CallsIn Fence.wide m Tryz.prog 131 #[.agg #[], .int .u8 a, .slice q n c] w fun e w' => ∃ v, e = .returned v ∧ Ow w' w.heap.size v (xs.map (Gf.mul a)) ∧ Below w.heap.size w w' := by
  have HS : Hid (Bs w q n xs) := hs
  have hmk := make_bytes0 n (by omega)
  have HE : Hid (eachF xs a n (ckUpto n ((n + 63) / 64)) = xs.map (Gf.mul a)) := eachF_all xs a n ha hs.byte hs.len
  obtain ⟨ad, had⟩ : ∃ ad, 0 < n → q = some ad := by
    cases q with
    | none => exact ⟨⟨0, 0, none⟩, fun h => by obtain ⟨_, e, _⟩ := hs.cell 0 h; cases e⟩
    | some x => exact ⟨x, fun _ => rfl⟩
  clear hs
  refine callsIn_of_wp_marks Tryz.func131 rfl trivial ?_ rfl
  simp only [Tryz.ntmps131, List.size_toArray, List.length_cons, List.length_nil, Nat.reduceAdd, Nat.reduceSub, Array.replicate_succ, Array.replicate_zero, List.push_toArray, List.append_toArray, List.nil_append, List.cons_append]
  have hfn : ∀ f, Fence.wide.fn f := fun _ => trivial
  have hm1 : 1 ≤ m := by omega
  gi_wp2_with (gi_at_call 137; refine (chunk_calls (m - 1) q n c _).mono ?_; rintro e w' ⟨rfl, rfl⟩)
  clear hmk
  obtain ⟨R, hR⟩ : ∃ R, w.heap.size = R := ⟨_, rfl⟩
  obtain ⟨W0, hW0⟩ : ∃ W0, ((((((w.alloc (.cells #[] 59)).alloc (.cells #[.int .u8 (a : Int)] 5)).alloc (.cells (madeCells #[.int .u8 0] n) 5)).alloc (.cells #[.slice (some ⟨w.heap.size + 1 + 1, 0, none⟩) 0 n] 22)).alloc (.cells #[.slice q n c] 22)).alloc (.cells #[.int .i64 64] 3)) = W0 := ⟨_, rfl⟩
  have hsz : W0.heap.size = R + 6 := by rw [← hW0, ← hR]; simp
  have hB0 : Below R w W0 := by
    rw [← hW0, ← hR]; exact ((((((Below.refl _ w).alloc (Nat.le_refl _) _).alloc (by simp) _).alloc (by simp; omega) _).alloc (by simp; omega) _).alloc (by simp; omega) _).alloc (by simp; omega) _
  have i1 : W0.cell? ⟨R + 1, 0, none⟩ = some (.int .u8 (a : Int)) := by rw [← hW0, ← hR]; simp [go_sem]
  have i2 : Boxed W0 (R + 1 + 1 + 1) 22 (.slice (some ⟨R + 1 + 1, 0, none⟩) 0 n) := by
    have := (Boxed.new (((w.alloc (.cells #[] 59)).alloc (.cells #[.int .u8 (a : Int)] 5)).alloc (.cells (madeCells #[.int .u8 0] n) 5)) 22 (.slice (some ⟨w.heap.size + 1 + 1, 0, none⟩) 0 n)).alloc (.cells #[.slice q n c] 22) |>.alloc (.cells #[.int .i64 64] 3)
    rw [hW0] at this
    simpa [hR] using this
  have i3 : Ow W0 (R + 1 + 1) (.slice (some ⟨R + 1 + 1, 0, none⟩) 0 n) [] := by
    have := (((ow_made0 ((w.alloc (.cells #[] 59)).alloc (.cells #[.int .u8 (a : Int)] 5)) (base := R + 1 + 1) (by simp; omega) n (by omega)).alloc (.cells #[.slice (some ⟨w.heap.size + 1 + 1, 0, none⟩) 0 n] 22)).alloc (.cells #[.slice q n c] 22)).alloc (.cells #[.int .i64 64] 3)
    rw [hW0] at this
    simpa [hR] using this
  have i4 : Boxed W0 (R + 1 + 1 + 1 + 1) 22 (.slice q n c) := by
    have := (Boxed.new ((((w.alloc (.cells #[] 59)).alloc (.cells #[.int .u8 (a : Int)] 5)).alloc (.cells (madeCells #[.int .u8 0] n) 5)).alloc (.cells #[.slice (some ⟨w.heap.size + 1 + 1, 0, none⟩) 0 n] 22)) 22 (.slice q n c)).alloc (.cells #[.int .i64 64] 3)
    rw [hW0] at this
    simpa [hR] using this
  have i5 : Boxed W0 (R + 1 + 1 + 1 + 1 + 1) 3 (.int .i64 64) := by
    have := Boxed.new (((((w.alloc (.cells #[] 59)).alloc (.cells #[.int .u8 (a : Int)] 5)).alloc (.cells (madeCells #[.int .u8 0] n) 5)).alloc (.cells #[.slice (some ⟨w.heap.size + 1 + 1, 0, none⟩) 0 n] 22)).alloc (.cells #[.slice q n c] 22)) 3 (.int .i64 64)
    rw [hW0] at this
    simpa [hR] using this
  rw [hW0, hR]
  clear hW0
  refine wpIn_rangeFunc_ownF rfl hm1 (gf := 143) (lb := #[.pointer (some ⟨R + 1 + 1 + 1 + 1, 0, none⟩), .pointer (some ⟨R + 1 + 1 + 1 + 1 + 1, 0, none⟩)]) rfl trivial (enters_of Tryz.func143 (by kernel_rfl) rfl)
    (chunk1_stops (m - 1) (by omega) (R + 1 + 1 + 1 + 1) (R + 1 + 1 + 1 + 1 + 1) ad q n c had hn hnc _ (by omega) (by omega) i4.cell i5.cell) keepsTwo_t (fun W l o o' _ h1 h2 _ => keepsTwo_b W l o o' h1 h2) (Below.refl _ _) (fun _ => rfl)
    (fun pre W => ((W.cell? ⟨R + 1, 0, none⟩ = some (.int .u8 (a : Int)) ∧ Boxed W (R + 1 + 1 + 1 + 1) 22 (.slice q n c) ∧ Boxed W (R + 1 + 1 + 1 + 1 + 1) 3 (.int .i64 64)) ∧ ∃ v, Boxed W (R + 1 + 1 + 1) 22 v ∧ W.ownsRow (R + 1 + 1) 5 1 v (eachF xs a n pre).length (ob (eachF xs a n pre)) ∧ True) ∧ Below R w W)
    (fun _ _ _ => False)
    (OwnFrom.and (OwnFrom.and (OwnFrom.and (Own.from (fun s A B row hs hg hr => cell_kept hs hg hr) _) (OwnFrom.and (Own.from (boxed_own _ _ _) _) (Own.from (boxed_own _ _ _) _))) (Own.from (holdsRow_own _ _ _ _ _ _ _ _) _)) (ownFrom_below (by omega) (by omega)))
    (fun _ _ _ _ _ hs _ _ => hs)
    ⟨⟨⟨i1, i4, i5⟩, ⟨_, i2, i3, trivial⟩⟩, hB0⟩
    (fun x => { tmps := #[.agg #[], .int .u8 a, .slice q n c, .pointer (some ⟨R, 0, none⟩), .pointer (some ⟨R + 1, 0, none⟩), undef, .slice none 0 0, .pointer (some ⟨R + 1 + 1 + 1, 0, none⟩), .slice (some (ad.add (64 * x.1))) (ckn n x.1) (ckn n x.1), undef, .slice q n c, .int .i64 n, .slice (some ⟨R + 1 + 1, 0, none⟩) 0 n, .slice q n c, .func (.func 143) #[] #[.pointer (some ⟨R + 1 + 1 + 1 + 1, 0, none⟩), .pointer (some ⟨R + 1 + 1 + 1 + 1 + 1, 0, none⟩)], .slice (some (ad.add (64 * x.1))) (ckn n x.1) (ckn n x.1), undef, undef, undef, undef, undef, undef, undef, undef, undef, undef, undef, undef], defers := [] }) ?assign ?body ?done ?stop
  case assign =>
    intro l x W K hK
    gi_wp2
    exact hK
  case body =>
    rintro l pre x W ⟨⟨⟨hcA, hC1, hC2⟩, v, hv, hrow0, _⟩, hB⟩ hlen
    have hrow : Ow W (R + 1 + 1) v (eachF xs a n pre) := hrow0
    clear i1 i2 i3 i4 i5 hB0 hrow0
    have hmx : Tryz.prog.follows .mixedOrders = true := by kernel_rfl
    obtain ⟨j, hj⟩ := x
    obtain rfl : q = some ad := had (by omega)
    obtain ⟨e, he⟩ : ∃ e, ckn n j = e := ⟨_, rfl⟩
    have he1 : 1 ≤ e ∧ e ≤ 64 ∧ 64 * j + e ≤ n := by rw [← he]; unfold ckn; omega
    have hd : 1 ≤ m - 1 - 1 := by omega
    obtain ⟨f, hf⟩ : ∃ f : Nat → Nat, (fun i => if i < e then xs.getD (64 * j + i) 0 else 0) = f := ⟨_, rfl⟩
    have hf1 : ∀ i, i < e → f i = xs.getD (64 * j + i) 0 := fun i hi => by rw [← hf]; exact if_pos hi
    have hf2 : ∀ i, i < 64 → f i < 256 := fun i _ => by
      rw [← hf]; dsimp only; split
      · exact HS.out.byte _
      · decide
    have KP : Hid (∀ W', Below R w W' → Calls Tryz.prog 139 #[.slice (some (ad.add (64 * j))) e e] W' fun e' w' => e' = .returned (V8 f) ∧ Below W'.heap.size W' w') := fun W' hW' =>
      lpack_calls (some (ad.add (64 * j))) e e ((List.range e).map fun i => xs.getD (64 * j + i) 0) f (fun i _ => by
        rw [← hf]
        by_cases hi : i < e
        · simp [List.getD, hi]
        · simp [List.getD, hi]) W' (bs_part (HS.out.below (hR.symm ▸ hW')) ad rfl (64 * j) e he1.2.2)
    have KS : Hid (∀ W', Calls Tryz.prog 135 #[V8 f, .int .u8 a] W' fun e' w' => e' = .returned (V8 (fun i => Gf.mul (f i) a)) ∧ Below W'.heap.size W' w') := fun W' => lscale_calls f _ a hf2 ha (fun _ _ => rfl) W'
    have KU : Hid (∀ W', Calls Tryz.prog 138 #[V8 (fun i => Gf.mul (f i) a)] W' fun e' w' => ∃ g c, e' = .returned (.slice (some ⟨g, 0, none⟩) 64 c) ∧ W'.heap.size ≤ g ∧ 64 ≤ c ∧ (∀ i, i < 64 → w'.cell? ⟨g, i, none⟩ = some (.int .u8 (Gf.mul (f i) a : Nat))) ∧ Below W'.heap.size W' w') := fun W' => lunpack_at _ (fun i hi => Gf.mul_lt _ _ (hf2 i hi)) W'
    clear hf
    rw [he]
    have HI : Hid (Boxed W (R + 1 + 1 + 1 + 1) 22 (.slice (some ad) n c) ∧ Boxed W (R + 1 + 1 + 1 + 1 + 1) 3 (.int .i64 64) ∧ Boxed W (R + 1 + 1 + 1) 22 v ∧ Ow W (R + 1 + 1) v (eachF xs a n pre) ∧ Below R w W) := ⟨hC1, hC2, hv, hrow, hB⟩
    have hlA := World.block_lt_of_cell? _ _ hcA
    have HcA : Hid (W.cell? ⟨R + 1, 0, none⟩ = some (.int .u8 (a : Int))) := hcA
    clear hC1 hC2 hv hrow hB
    gi_wp2
    gi_region_with_o (first
      | (gi_at_call 139; refine (CallsIn.inRound l (callsIn_wide.2 (KP.out _ HI.out.2.2.2.2.drew))).mono ?_; rintro e' w1 ⟨rfl, hb1⟩; have hcA1 := (hb1.cell (p := ⟨R + 1, 0, none⟩) hlA).trans HcA.out)
      | (gi_at_call 135; refine (CallsIn.inRound l (callsIn_wide.2 (KS.out _))).mono ?_; rintro e' w2 ⟨rfl, hb2⟩)
      | (gi_at_call 138; refine (CallsIn.inRound l (callsIn_wide.2 (KU.out _))).mono ?_; rintro e' w3 ⟨g, cg, rfl, hg, hcg, hcells, hb3⟩))
    all_goals
      have hbw : Below W.heap.size W w3 := (Below.refl W.heap.size W).drew.trans ((hb1.trans ((hb2.trans (hb3.mono hb2.size)).mono hb1.size)) : Below W.heap.size W.drew w3)
      have hJ : Boxed w3.drew (R + 1 + 1 + 1) 22 v ∧ Ow w3.drew (R + 1 + 1) v (eachF xs a n pre) := ⟨boxed_below HI.out.2.2.1 hbw.drew, (HI.out.2.2.2.1.below hbw).drew⟩
      have hlE := eachF_length xs a n pre
      have hlC : (eachC xs a n ⟨j, hj⟩).length = e := (eachC_length xs a n ⟨j, hj⟩).trans he
      have hRW : R + 1 + 1 ≤ W.heap.size := by have := HI.out.2.2.1.lt; omega
      have hR3 : R + 1 + 1 ≤ w3.drew.heap.size := Nat.le_trans hRW hbw.size
      have hsn := eachF_snoc xs a n pre ⟨j, hj⟩
      obtain ⟨v', W', hap, hO', hgr⟩ := run_append_bytes w3.drew (R + 1 + 1) v (eachF xs a n pre) ⟨g, 0, none⟩ cg (eachC xs a n ⟨j, hj⟩) hJ.2 (fun i hi => by
        rw [hlC] at hi
        have e1 : (⟨g, 0, none⟩ : Addr).add i = ⟨g, i, none⟩ := by unfold Addr.add; split <;> simp_all
        rw [e1, World.cell?_drew, hcells i (by omega), hf1 i hi]
        unfold eachC
        have hi' : i < ckn n j := by rw [he]; exact hi
        simp [List.getD, hi']) (by omega) hR3
      rw [hlC] at hap
      rw [← hsn] at hO'
      have hsh : ∃ g' n' c', v' = .slice (some ⟨g', 0, none⟩) n' c' := by
        rcases hO'.shape with ⟨_, h0⟩ | ⟨g', c', h1, _⟩
        · have := congrArg List.length h0
          rw [hsn, List.length_append, hlC] at this
          simp at this
          omega
        · exact ⟨g', _, c', h1⟩
      obtain ⟨g', n', c', rfl⟩ := hsh
      have ha1 := ap_ok hap
      have ha2 := ap_v hap
      have ha3 := ap_w hap
      obtain ⟨b1, b2, b3, b4, b5⟩ := appended0 hJ.1 hJ.2 hR3 (by omega : R + 1 + 1 ≤ R + 1 + 1 + 1) hO' hgr
      have k1 := other0 (B := R + 1 + 1 + 1) (v' := .slice (some ⟨g', 0, none⟩) n' c') (boxed_below HI.out.1 hbw.drew) (by decide) (by omega) hJ.2 hgr
      have k2 := other0 (B := R + 1 + 1 + 1) (v' := .slice (some ⟨g', 0, none⟩) n' c') (boxed_below HI.out.2.1 hbw.drew) (by decide) (by omega) hJ.2 hgr
      have hcA3 : w3.drew.cell? ⟨R + 1, 0, none⟩ = some (.int .u8 (a : Int)) := (hbw.drew.cell (p := ⟨R + 1, 0, none⟩) hlA).trans HcA.out
      have HZ : Hid (KeepsOthers W (W'.setCell ⟨R + 1 + 1 + 1, 0, none⟩ (.slice (some ⟨g', 0, none⟩) n' c')) ∧ KeepsTwo (R + 1 + 1 + 1 + 1) (R + 1 + 1 + 1 + 1 + 1) W (W'.setCell ⟨R + 1 + 1 + 1, 0, none⟩ (.slice (some ⟨g', 0, none⟩) n' c')) ∧
          ((((W'.setCell ⟨R + 1 + 1 + 1, 0, none⟩ (.slice (some ⟨g', 0, none⟩) n' c')).cell? ⟨R + 1, 0, none⟩ = some (.int .u8 (a : Int)) ∧ Boxed (W'.setCell ⟨R + 1 + 1 + 1, 0, none⟩ (.slice (some ⟨g', 0, none⟩) n' c')) (R + 1 + 1 + 1 + 1) 22 (.slice (some ad) n c) ∧ Boxed (W'.setCell ⟨R + 1 + 1 + 1, 0, none⟩ (.slice (some ⟨g', 0, none⟩) n' c')) (R + 1 + 1 + 1 + 1 + 1) 3 (.int .i64 64)) ∧ ∃ v, Boxed (W'.setCell ⟨R + 1 + 1 + 1, 0, none⟩ (.slice (some ⟨g', 0, none⟩) n' c')) (R + 1 + 1 + 1) 22 v ∧ (W'.setCell ⟨R + 1 + 1 + 1, 0, none⟩ (.slice (some ⟨g', 0, none⟩) n' c')).ownsRow (R + 1 + 1) 5 1 v (eachF xs a n (pre ++ [⟨j, hj⟩])).length (ob (eachF xs a n (pre ++ [⟨j, hj⟩]))) ∧ True) ∧ Below R w (W'.setCell ⟨R + 1 + 1 + 1, 0, none⟩ (.slice (some ⟨g', 0, none⟩) n' c')))) :=
        ⟨(keepsOthers_below hbw.drew).trans b4, ⟨keepsCell_boxed HI.out.1 k1, keepsCell_boxed HI.out.2.1 k2⟩, ⟨⟨(b5.cell (p := ⟨R + 1, 0, none⟩) (by simp)).trans hcA3, k1, k2⟩, ⟨_, b2, b3, trivial⟩⟩, HI.out.2.2.2.2.trans ((hbw.drew.mono (by omega)).trans (b5.mono (by omega)))⟩
      have cP := hJ.1.cell
      have c1 := b1.cell
      have f1 := b1.frozen
      have hle : (e : Int) ≤ (cg : Int) := by omega
      clear hcells hb1 hb2 hb3 hO' hlE hlC b1 b2 b3 b4 b5 hJ hap hsn k1 k2 hcA3 hf1 hf2 KP KS KU HcA hcA
      gi_wp2
      gi_region_o
      all_goals (gi_wp2; exact HZ.out)
  case done =>
    rintro D ys W hD hS ⟨⟨⟨hcA, hC1, hC2⟩, v, hv, hrow0, _⟩, hB⟩ hK
    obtain rfl : ys = _ := hS
    rw [HE.out] at hrow0
    have cP := hv.cell
    have HZ : Hid (Ow W R v (xs.map (Gf.mul a)) ∧ Below R w W) := ⟨Ow.mono (show Ow W (R + 1 + 1) v (xs.map (Gf.mul a)) from hrow0) (by omega), hB⟩
    clear hrow0 hB hC1 hC2 hcA hv
    gi_wp2
    refine ⟨by simp, .inl ⟨_, _, rfl, run_takeDeferred hK, ?_⟩⟩
    refine ⟨_, results_tmp rfl _ _ _, _, rfl, ownsRow_putObj (show W.ownsRow w.heap.size 5 1 v (xs.map (Gf.mul a)).length (ob (xs.map (Gf.mul a))) from hR.symm ▸ HZ.out.1) _ hK rfl, ?_⟩
    rw [hR]
    exact HZ.out.2.trans (belowK_b (w := w) (by omega) W D _ _ (by omega) hK rfl rfl)
  case stop =>
    rintro D c pre W _ _ h _
    exact h.elim
end Go.Proofs
/- append of a list that is read, whether it is nil or not; parts of lists that are read. Conditions: bounds on lengths. -/
namespace Go.Proofs
open Go.RowKit Go.ChangeShapes Go.WideShapes
theorem run_append_none (W : World) (base : Nat) (v : Value) (xs : List Nat) (c : Nat) (hown : Ow W base v xs) :
    (Builtin.append_ #[22, 22] 22 #[v, .slice none 0 c]).run Tryz.prog W = .ok v W := by
  obtain ⟨i, hi, hz, hsz, hby⟩ := info_parts info_u8
  have ht := Tryz.underlying22
  rcases hown.2 with ⟨rfl, _⟩ | ⟨g, cap, cur, rfl, _, hgb, hle, _⟩
  · simp [Builtin.append_, run_underlying ht, sizeOf, typeInfo, hi, Builtin.lenOf, Builtin.firstCells]
  · simp [Builtin.append_, run_underlying ht, sizeOf, typeInfo, hi, Builtin.lenOf, Builtin.firstCells, hle, storeCells]
theorem run_append_list (W : World) (base : Nat) (v : Value) (xs : List Nat) (q : Option Addr) (n c : Nat) (ys : List Nat) (hown : Ow W base v xs) (hs : Bs W q n ys) (hn : xs.length + n ≤ 10000000000) (hb : base ≤ W.heap.size) :
    ∃ v' W', (Builtin.append_ #[22, 22] 22 #[v, .slice q n c]).run Tryz.prog W = .ok v' W' ∧ Ow W' base v' (xs ++ ys) ∧ W.grownBy W' v.ownBlock := by
  have hl := hs.len
  cases q with
  | none =>
    have h0 : n = 0 := by
      rcases Nat.eq_zero_or_pos n with h | h
      · exact h
      · obtain ⟨_, e, _⟩ := hs.cell 0 h; cases e
    subst h0
    obtain rfl : ys = [] := List.length_eq_zero_iff.1 hl
    exact ⟨v, W, run_append_none W base v xs c hown, by rw [List.append_nil]; exact hown, ⟨rfl, rfl, rfl, Nat.le_refl _, fun _ _ _ => rfl⟩⟩
  | some ad =>
    subst hl
    exact run_append_bytes W base v xs ad c ys hown (fun j hj => by
      obtain ⟨a, e, _, hc⟩ := hs.cell j hj
      cases e
      exact hc) hn hb

end Go.Proofs
/- The walk of field's backend of lanes, for pairs of lists. Conditions: lists of one length, of at most a thousand million bytes, no longer than their capacities. -/
namespace Go.Proofs
open Go.RowKit Go.Shelf Go.ChangeShapes Go.WideShapes
attribute [local go_sem] Oper.semAt_some
attribute [local go_sem ↓ high] builtin_ap
attribute [local go_sem] ap_sem

end Go.Proofs
/- The walks of a field's calls on lists: Each, Pairs, Dot. Conditions: lists of at most a thousand million bytes, no longer than their capacities; a field that Of has made, and lists that do not lie in its table. -/
namespace Go.Proofs
open Go.RowKit Go.ChangeShapes Go.WideShapes

theorem Fd.tabled' {B T : Nat} {W W' : World} (h : Fd 1 B T W) (hm : Any T W') (hb : But (· = T) W W') : Fd 1 B T W' :=
  have hB : ¬ B = T := fun e => (h.tab rfl).2 e.symm
  ⟨h.k1, h.k3, (hb.cell (p := ⟨B, 0, none⟩) h.blt hB).trans h.num, (hb.cell (p := ⟨B, 1, none⟩) h.blt hB).trans h.way, fun e => ⟨hm, (h.tab e).2⟩, Nat.lt_of_lt_of_le h.lt hb.size⟩
theorem But.box {S : Nat → Prop} {w w1 : World} (o : Obj) (h : But S (w.alloc o) w1) : But S w w1 := ((But.refl S w).alloc o).trans h
theorem bleach_calls (a n c : Nat) (q : Option Addr) (xs : List Nat) (ha : a < 256) (hn : n ≤ 1000000000) (hnc : n ≤ c) (w : World) (hs : Bs w q n xs) :
    Calls Tryz.prog 131 #[.agg #[], .int .u8 a, .slice q n c] w fun e w' => ∃ v, e = .returned v ∧ Ow w' w.heap.size v (xs.map (Gf.mul a)) ∧ Below w.heap.size w w' :=
  (callsIn_wide (n := 3)).1 (bleach_in 3 (by omega) a n c q xs ha hn hnc w hs)

set_option maxRecDepth 100000 in
set_option maxHeartbeats 1000000 in
theorem bteach_calls (T a n c : Nat) (q : Option Addr) (xs : List Nat) (ha : a < 256) (hn : n ≤ 1000000000) (w : World) (hT : Any T w) (hs : Bs w q n xs) (hq : Off T n q) :
    Calls Tryz.prog 117 #[.agg #[.pointer (some ⟨T, 0, none⟩)], .int .u8 a, .slice q n c] w fun e w' => ∃ v, e = .returned v ∧ Ow w' w.heap.size v (xs.map (Gf.mul a)) ∧ Any T w' ∧ But (· = T) w w' := by
  have hT' := hT.but ((But.refl (fun _ => False) w).alloc (.cells #[.pointer (some ⟨T, 0, none⟩)] 52)) id
  have hs' := hs.alloc (.cells #[.pointer (some ⟨T, 0, none⟩)] 52)
  go_enter Tryz.func117, Tryz.ntmps117
  go_wp2_with fail
  refine (feach1_calls T a n c q xs ha hn _ hT' hs' hq).mono ?_
  rintro e w1 ⟨v, rfl, hO, hA, hB⟩
  go_wp2
  go_ret
  exact ⟨_, rfl, hO.mono (by simp), hA, hB.box _⟩
set_option maxRecDepth 100000 in
set_option maxHeartbeats 1000000 in
theorem bseach_calls (a n c : Nat) (q : Option Addr) (xs : List Nat) (ha : a < 256) (hn : n ≤ 1000000000) (w : World) (hs : Bs w q n xs) :
    Calls Tryz.prog 122 #[.agg #[], .int .u8 a, .slice q n c] w fun e w' => ∃ v, e = .returned v ∧ Ow w' w.heap.size v (xs.map (Gf.mul a)) ∧ But (fun _ => False) w w' := by
  have hs' := hs.alloc (.cells #[] 58)
  go_enter Tryz.func122, Tryz.ntmps122
  go_wp2_with fail
  refine (feach2_calls a n c q xs ha hn _ hs').mono ?_
  rintro e w1 ⟨v, rfl, hO, hB⟩
  go_wp2
  go_ret
  exact ⟨_, rfl, hO.mono (by simp), hB.box _⟩
theorem meach1 (T : Nat) (w : World) : (method 280 52 (.agg #[.pointer (some ⟨T, 0, none⟩)]) "erratum/field.each").run Tryz.prog w = .ok (117, .agg #[.pointer (some ⟨T, 0, none⟩)]) w := by kernel_rfl
theorem meach2 (w : World) : (method 280 58 (.agg #[]) "erratum/field.each").run Tryz.prog w = .ok (122, .agg #[]) w := by kernel_rfl
theorem meach3 (w : World) : (method 280 59 (.agg #[]) "erratum/field.each").run Tryz.prog w = .ok (131, .agg #[]) w := by kernel_rfl
set_option maxRecDepth 100000 in
set_option maxHeartbeats 1000000 in
theorem feach_calls (k B T a n c : Nat) (q : Option Addr) (xs : List Nat) (ha : a < 256) (hn : n ≤ 1000000000) (hnc : n ≤ c) (w : World) (h : Fd k B T w) (hs : Bs w q n xs) (hq : Off T n q) :
    Calls Tryz.prog 41 #[.pointer (some ⟨B, 0, none⟩), .int .u8 a, .slice q n c] w fun e w' => ∃ v, e = .returned v ∧ Ow w' w.heap.size v (xs.map (Gf.mul a)) ∧ Fd k B T w' ∧ But (· = T) w w' := by
  rcases way_lt h.k1 h.k3 with rfl | rfl | rfl
  · have hw : w.cell? ⟨B, 1, none⟩ = some (.iface 52 (.agg #[.pointer (some ⟨T, 0, none⟩)])) := h.way
    have hm := meach1 T
    go_enter Tryz.func41, Tryz.ntmps41
    go_wp2_with fail
    refine (bteach_calls T a n c q xs ha hn _ (h.tab rfl).1 hs hq).mono ?_
    rintro e w1 ⟨v, rfl, hO, hA, hB⟩
    go_wp2
    go_ret
    exact ⟨_, rfl, hO, h.tabled' hA hB, hB⟩
  · have hw : w.cell? ⟨B, 1, none⟩ = some (.iface 58 (.agg #[])) := h.way
    have hm := meach2
    go_enter Tryz.func41, Tryz.ntmps41
    go_wp2_with fail
    refine (bseach_calls a n c q xs ha hn _ hs).mono ?_
    rintro e w1 ⟨v, rfl, hO, hB⟩
    go_wp2
    go_ret
    exact ⟨_, rfl, hO, h.but hB id id, hB.mono (fun _ => False.elim)⟩
  · have hw : w.cell? ⟨B, 1, none⟩ = some (.iface 59 (.agg #[])) := h.way
    have hm := meach3
    go_enter Tryz.func41, Tryz.ntmps41
    go_wp2_with fail
    refine (bleach_calls a n c q xs ha hn hnc _ hs).mono ?_
    rintro e w1 ⟨v, rfl, hO, hB⟩
    go_wp2
    go_ret
    exact ⟨_, rfl, hO, h.below hB, But.of_below hB⟩

theorem bs_take {W : World} {q : Option Addr} {n : Nat} {xs : List Nat} (h : Bs W q n xs) (k : Nat) (hk : k ≤ n) : Bs W q k (xs.take k) := by
  refine ⟨by rw [List.length_take, h.len]; omega, Nat.le_trans hk h.max, fun i hi => ?_, fun i => ?_⟩
  · obtain ⟨a, e, hl, hc⟩ := h.cell i (by omega)
    refine ⟨a, e, hl, ?_⟩
    rw [hc]
    simp [List.getD, hi]
  · by_cases hi : i < k
    · have := h.byte i
      simpa [List.getD, hi] using this
    · simp [List.getD, List.getElem?_take, hi]
theorem take_snoc (l : List Nat) (k : Nat) (hk : k < l.length) : l.take (k + 1) = l.take k ++ [l.getD k 0] := by
  rw [List.take_add_one, List.getElem?_eq_getElem hk]
  simp [List.getD, hk]
theorem map_byte (a : Nat) (xs : List Nat) (ha : a < 256) (i : Nat) : (xs.map (Gf.mul a)).getD i 0 < 256 := by
  simp only [List.getD, List.getElem?_map]
  cases xs[i]? with
  | none => simp
  | some b => exact Gf.mul_lt a b ha
end Go.Proofs
/- The walk of bytes.Equal. Conditions: lists of bytes. -/
namespace Go.Proofs
open Go.RowKit Go.ChangeShapes Go.WideShapes
open Pol (ofL Byt)
end Go.Proofs
/- The walks of poly.Norm, Coef, Cut, Same and Scale. Conditions: lists of at most a thousand million bytes, no longer than their capacities. -/
namespace Go.Proofs
open Go.RowKit Go.ChangeShapes Go.WideShapes
attribute [local go_sem ↓ high] builtin_ap
attribute [local go_sem] ap_sem
open Pol (IsN Dg ofL Byt)

theorem Bs.byt {W : World} {q : Option Addr} {n : Nat} {xs : List Nat} (h : Bs W q n xs) : Byt xs := h.byte
set_option maxHeartbeats 1000000 in
theorem pnorm_calls (q : Option Addr) (n c : Nat) (xs zs : List Nat) (hz : IsN zs (ofL xs)) (hn : n ≤ 1000000000) (hnc : n ≤ c) (w : World) (hs : Bs w q n xs) :
    Calls Tryz.prog 39 #[.slice q n c] w fun e w' => ∃ v, e = .returned v ∧ Ow w' w.heap.size v zs ∧ Below w.heap.size w w' := by
  obtain ⟨d, hd, hg⟩ := Pol.dg_list xs
  rw [hs.len] at hd
  have K := pnormal_calls q n c xs d hg hnc w hs
  obtain rfl := hz.unique (Pol.isN_take hs.byt hg)
  have HS : Hid (Bs w q d (xs.take d)) := bs_take hs d hd
  clear hs hz hg
  obtain ⟨zs, hzs⟩ : ∃ zs, xs.take d = zs := ⟨_, rfl⟩
  rw [hzs] at HS ⊢
  clear hzs
  go_enter Tryz.func39, Tryz.ntmps39
  go_wp2_with (go_at_call 33; refine K.mono ?_; rintro e w1 ⟨rfl, hb⟩; obtain ⟨v1, W1, hap, hO, hg⟩ := run_append_list w1 w.heap.size (.slice none 0 0) [] q d c zs (ow_nil _ _) (HS.out.below hb) (by simp; omega) hb.size; have ha1 := ap_ok hap; have ha2 := ap_v hap; have ha3 := ap_w hap)
  go_ret
  exact ⟨_, rfl, hO, hb.grown hg hb.size (fun k hk => by cases hk)⟩

/-- A coefficient. -/
def cof (xs : List Nat) (i : Int) : Nat := if 0 ≤ i then xs.getD i.toNat 0 else 0
set_option maxHeartbeats 1000000 in
theorem pcoef_calls (q : Option Addr) (n c : Nat) (xs : List Nat) (i : Int) (w : World) (hs : Bs w q n xs) :
    Calls Tryz.prog 22 #[.slice q n c, .int .i64 i] w fun e w' => e = .returned (.int .u8 (cof xs i : Nat)) ∧ w' = w := by
  have hmax := hs.max
  rcases Int.lt_or_le i 0 with h | h
  · have e : cof xs i = 0 := by unfold cof; rw [if_neg (by omega)]
    rw [e]
    go_enter Tryz.func22, Tryz.ntmps22
    go_wp2
    go_ret
    exact ⟨rfl, rfl⟩
  · obtain ⟨k, rfl⟩ := Int.eq_ofNat_of_zero_le h
    have e : cof xs (k : Int) = xs.getD k 0 := by unfold cof; rw [if_pos (by omega)]; rfl
    rw [e]
    by_cases hk : k < n
    · obtain ⟨a, rfl, _, hc⟩ := hs.cell k hk
      obtain ⟨x, hx⟩ : ∃ x, xs.getD k 0 = x := ⟨_, rfl⟩
      rw [hx] at hc ⊢
      clear hs
      have h1 : ¬ (k : Int) < 0 := by omega
      have h2 : ¬ (n : Int) ≤ (k : Int) := by omega
      have h3 : (k : Int) < (n : Int) := by omega
      go_enter Tryz.func22, Tryz.ntmps22
      go_wp2
      go_ret
      exact ⟨rfl, rfl⟩
    · have hl := hs.len
      have e2 : xs.getD k 0 = 0 := by simp [List.getD, List.getElem?_eq_none (show xs.length ≤ k by omega)]
      rw [e2]
      have h1 : ¬ (k : Int) < 0 := by omega
      have h2 : (n : Int) ≤ (k : Int) := by omega
      clear hs
      go_enter Tryz.func22, Tryz.ntmps22
      go_wp2
      go_ret
      exact ⟨rfl, rfl⟩
/-- The front of a list that a call has made. -/
theorem Ow.front {W : World} {base : Nat} {v : Value} {q : Option Addr} {n c d : Nat} {xs : List Nat} (h : Ow W base v xs) (e : v = .slice q n c) (hd : d ≤ n) : Ow W base (.slice q d c) (xs.take d) := by
  subst e
  obtain ⟨h1, h2⟩ := h
  rcases h2 with ⟨e, h0⟩ | ⟨g, cap, cur, e, hb, hg, hle, hm, hc, ht⟩
  · cases e
    obtain rfl : d = 0 := by omega
    rw [List.take_zero]
    exact ow_nil W base
  · cases e
    have hn : d ≤ xs.length := hd
    refine ⟨by simp [ob], .inr ⟨g, _, cur, ?_, hb, hg, ?_, hm, hc, ?_⟩⟩
    · rw [List.length_take]; congr 1; omega
    · rw [List.length_take]; omega
    · rw [List.length_take, Nat.mul_one, Nat.min_eq_left hn]
      have : ob (xs.take d) = (ob xs).take d := by simp [ob, List.map_take]
      rw [this, ← ht, List.take_take, Nat.mul_one, Nat.min_eq_left hn]
set_option maxHeartbeats 1000000 in
theorem pscale_calls (k B T a n c : Nat) (q : Option Addr) (xs zs : List Nat) (ha : a < 256) (hz : IsN zs (Pol.smul (GF.of a) (ofL xs))) (hn : n ≤ 1000000000) (hnc : n ≤ c) (w : World) (h : Fd k B T w) (hs : Bs w q n xs) (hq : Off T n q) :
    Calls Tryz.prog 35 #[.pointer (some ⟨B, 0, none⟩), .int .u8 a, .slice q n c] w fun e w' => ∃ v, e = .returned v ∧ Ow w' w.heap.size v zs ∧ Fd k B T w' ∧ But (· = T) w w' := by
  have K := feach_calls k B T a n c q xs ha hn hnc w h hs hq
  have e1 : ofL (xs.map (Gf.mul a)) = Pol.smul (GF.of a) (ofL xs) := Pol.ofL_map a ha hs.byt
  have hby := map_byte a xs ha
  have hlm : (xs.map (Gf.mul a)).length = n := by rw [List.length_map]; exact hs.len
  obtain ⟨ys, hys⟩ : ∃ ys, xs.map (Gf.mul a) = ys := ⟨_, rfl⟩
  rw [hys] at K e1 hby hlm
  clear hys h hs hq
  obtain ⟨d, hd, hg⟩ := Pol.dg_list ys
  rw [hlm] at hd
  obtain rfl := hz.unique (e1 ▸ Pol.isN_take (show Byt ys from hby) hg)
  have K2 : Hid (∀ W p C, n ≤ C → Bs W p n ys → Calls Tryz.prog 33 #[.slice p n C] W fun e w' => e = .returned (.slice p d C) ∧ Below W.heap.size W w') := fun W p C hC hW => pnormal_calls p n C ys d hg hC W hW
  clear hz e1 hg
  go_enter Tryz.func35, Tryz.ntmps35
  go_wp2_with fail
  refine K.mono ?_
  rintro e w1 ⟨v, rfl, hO, hF, hb⟩
  obtain ⟨p, C, rfl, hS, hC, -⟩ := hO.told hby
  rw [hlm] at hS hC hO ⊢
  clear K
  go_wp2_with fail
  refine (K2.out w1 p C hC hS).mono ?_
  rintro e w2 ⟨rfl, hb2⟩
  clear K2
  go_wp2
  go_ret
  exact ⟨_, rfl, (hO.front rfl hd).below hb2, hF.below hb2, hb.trans (But.of_below hb2)⟩
end Go.Proofs
/- Lists of bytes that a call has told, of a length that is named. -/
namespace Go.Proofs
open Go.RowKit
theorem Ow.tell {W : World} {base : Nat} {v : Value} {xs : List Nat} {n : Nat} (h : Ow W base v xs) (hx : ∀ i, xs.getD i 0 < 256) (hl : xs.length = n) : ∃ q c, v = .slice q n c ∧ Bs W q n xs ∧ n ≤ c ∧ ∀ T, T < base → Off T n q := by
  subst hl; exact h.told hx
end Go.Proofs
/- Normal lists of sums, products and multiples; lists of literals. -/
namespace Go.Proofs
open Go.RowKit
namespace Pol
theorem bd_mul {a b : Nat} {p q : Pol} (hp : Bd a p) (hq : Bd b q) : Bd (a + b) (mul p q) := by
  cases a with
  | zero => rw [bd_zero hp, zero_mul]; exact Bd.zero _
  | succ a =>
    cases b with
    | zero => rw [bd_zero hq, mul_zero]; exact Bd.zero _
    | succ b => exact (hp.mul hq).mono_le (by omega)
theorem isN_mul (xs ys : List Nat) : ∃ zs, IsN zs (mul (ofL xs) (ofL ys)) ∧ zs.length ≤ xs.length + ys.length := isN_of_bd (bd_mul (ofL_bd xs) (ofL_bd ys))
theorem isN_add (xs ys : List Nat) : ∃ zs, IsN zs (add (ofL xs) (ofL ys)) ∧ zs.length ≤ xs.length + ys.length := isN_of_bd (((ofL_bd xs).mono_le (by omega)).add ((ofL_bd ys).mono_le (by omega)))
theorem isN_norm (xs : List Nat) : ∃ zs, IsN zs (ofL xs) ∧ zs.length ≤ xs.length := isN_of_bd (ofL_bd xs)
theorem isN_smul (a : GF) (xs : List Nat) : ∃ zs, IsN zs (smul a (ofL xs)) ∧ zs.length ≤ xs.length := isN_of_bd ((ofL_bd xs).smul a)
end Pol
/-- A list of literals. -/
theorem bs_lit (W : World) (xs : List Nat) (hx : Pol.Byt xs) (hl : xs.length ≤ 1000) : Bs (W.alloc (.cells ⟨ob xs⟩ 5)) (some ⟨W.heap.size, 0, none⟩) xs.length xs :=
  ⟨rfl, by omega, fun i hi => ⟨_, rfl, by simp, by
    have e1 : (⟨W.heap.size, 0, none⟩ : Addr).add i = ⟨W.heap.size, i, none⟩ := by unfold Addr.add; split <;> simp_all
    rw [e1, World.cell?_alloc_at _ _ _ _ rfl]
    show (⟨ob xs⟩ : Array Value)[i]? = _
    rw [List.getElem?_toArray]
    exact ob_at xs i hi⟩, hx⟩
/-- The same, its cells and its block as a walk spells them. -/
theorem bs_lits (W : World) (A : Array Value) (xs : List Nat) (h n : Nat) (hA : A = ⟨ob xs⟩) (hh : h = W.heap.size) (hn : n = xs.length) (hx : xs.all (· < 256) = true) (hl : xs.length ≤ 1000) : Bs (W.alloc (.cells A 5)) (some ⟨h, 0, none⟩) n xs := by
  subst hA hh hn
  exact bs_lit W xs (fun i => by
    simp only [List.getD]
    cases hx' : xs[i]? with
    | none => decide
    | some x => simpa using List.all_eq_true.1 hx x (List.mem_of_getElem? hx')) hl
theorem off_new {W : World} {T n : Nat} (hT : T < W.heap.size) : Off T n (some ⟨W.heap.size, 0, none⟩) := fun _ a e => by cases e; show ¬ W.heap.size = T; omega
end Go.Proofs
/- What rounds of a range over a function keep: boxes, fields, lists that are owned. Nothing of the program. -/
namespace Go.Proofs
open Go.RowKit Go.Shelf Go.ChangeShapes Go.WideShapes
theorem But.past {S T : Nat → Prop} {a b c : World} (h : But S a b) (k : But T b c) (hT : ∀ i, T i → a.heap.size ≤ i) : But S a c :=
  ⟨k.os.trans h.os, k.tape.trans h.tape, k.output.trans h.output, Nat.le_trans h.size k.size, fun i hi hs => (k.block i (Nat.lt_of_lt_of_le hi h.size) (fun t => by have := hT i t; omega)).trans (h.block i hi hs)⟩
theorem ownFrom_but {β : Type} {S : Nat → Prop} {B : Nat} {w : World} (hB : w.heap.size ≤ B) : OwnFrom B (fun (_ : β) W => But S w W) := fun _ X Y row hs hg hr =>
  ⟨hg.os.trans hs.os, hg.tape.trans hs.tape, hg.output.trans hs.output, Nat.le_trans hs.size hg.size, fun k hk hS => (hg.block k (Nat.lt_of_lt_of_le hk hs.size) (fun e => by have := (hr k e.symm).1; omega)).trans (hs.block k hk hS)⟩
theorem ow_own {β : Type} (base : Nat) (v : Value) (f : β → List Nat) : Own (fun s W => Ow W base v (f s)) := fun s X Y row hs hg hrow => by
  have hs' : Ow X base v (f s) := hs
  refine hs'.block (fun k hk => hg.block k (hs'.lt k hk).2 (fun e => ?_))
  obtain ⟨o, ho, hc⟩ := hrow k e.symm
  rcases hs'.2 with ⟨e1, _⟩ | ⟨g, cap, cur, e1, _, hg', _⟩
  · rw [e1] at hk; cases hk
  · rw [e1] at hk
    cases hk
    rw [hg'] at ho
    cases ho
    cases hc
theorem boxed_set {W : World} {B : Nat} {t : TypeId} {v : Value} (h : Boxed W B t v) {p : Addr} (hp : ¬ B = p.block) (u : Value) : Boxed (W.setCell p u) B t v := (Below.heap_setCell _ _ _ _ (fun e => hp (by first | exact e | exact e.symm))).trans h
theorem keepsFrom_but {S : Nat → Prop} {B : Nat} {W W' : World} (h : But S W W') (hS : ∀ k, S k → k < B) : KeepsFrom B W W' :=
  ⟨h.size, fun k o hk h0 _ => (h.block k (Array.getElem?_eq_some_iff.1 h0).1 (fun s => by have := hS k s; omega)).trans h0⟩
theorem ownFrom_fd {β : Type} {k B T C : Nat} (hB : B < C) (hT : T < C) : OwnFrom C (fun (_ : β) W => Fd k B T W) := fun _ X Y row hs hg hr =>
  Fd.but hs (S := fun i => some i = row) ⟨hg.os, hg.tape, hg.output, hg.size, fun i hi hn => hg.block i hi hn⟩ (fun e => by have := (hr B e.symm).1; omega) (fun e => by have := (hr T e.symm).1; omega)
theorem boxed_but {S : Nat → Prop} {W W' : World} {B : Nat} {t : TypeId} {v : Value} (h : Boxed W B t v) (hb : But S W W') (hs : ¬ S B) : Boxed W' B t v := (hb.block B h.lt hs).trans h
end Go.Proofs
/- The walk of poly.addTo: polynomials are added to a part of a list of the caller's own. Conditions: each is no longer than the part, and lies in another block. -/
namespace Go.Proofs
open Go.RowKit Go.Shelf Go.ChangeShapes Go.WideShapes
attribute [local go_sem] Oper.semAt_some
open Pol (IsN Dg ofL Byt)

/-! What the rounds add up. -/
def adF (o : Nat) (xs s : List Nat) {n : Nat} (pre : List (Tm n)) : List Nat := pre.foldl (fun s x => s.set (o + x.1) (s.getD (o + x.1) 0 ^^^ xs.getD x.1 0)) s
theorem adF_snoc (o : Nat) (xs s : List Nat) {n : Nat} (pre : List (Tm n)) (x : Tm n) : adF o xs s (pre ++ [x]) = (adF o xs s pre).set (o + x.1) ((adF o xs s pre).getD (o + x.1) 0 ^^^ xs.getD x.1 0) := by simp [adF]
theorem adF_length (o : Nat) (xs s : List Nat) {n : Nat} (pre : List (Tm n)) : (adF o xs s pre).length = s.length := by
  suffices h : ∀ (pre : List (Tm n)) (s : List Nat), (pre.foldl (fun s x => s.set (o + x.1) (s.getD (o + x.1) 0 ^^^ xs.getD x.1 0)) s).length = s.length from h pre s
  intro pre
  induction pre with
  | nil => exact fun s => rfl
  | cons x l ih => intro s; rw [List.foldl_cons, ih, List.length_set]
theorem getD_set (s : List Nat) (i v k : Nat) : (s.set i v).getD k 0 = if i = k ∧ k < s.length then v else s.getD k 0 := by
  simp only [List.getD, List.getElem?_set]
  by_cases h : i = k
  · subst h
    by_cases h2 : i < s.length
    · rw [if_pos rfl, if_pos h2, if_pos ⟨rfl, h2⟩]; rfl
    · rw [if_pos rfl, if_neg h2, if_neg (fun c => h2 c.2), List.getElem?_eq_none (by omega)]
  · rw [if_neg h, if_neg (fun c => h c.1)]
theorem adF_byt (o : Nat) {xs s : List Nat} (hx : Byt xs) (hs : Byt s) {n : Nat} (pre : List (Tm n)) : Byt (adF o xs s pre) := by
  suffices h : ∀ (pre : List (Tm n)) (s : List Nat), Byt s → Byt (pre.foldl (fun s x => s.set (o + x.1) (s.getD (o + x.1) 0 ^^^ xs.getD x.1 0)) s) from h pre s hs
  intro pre
  induction pre with
  | nil => exact fun s h => h
  | cons x l ih =>
    intro s h
    rw [List.foldl_cons]
    refine ih _ (fun i => ?_)
    rw [getD_set]
    split
    · exact Gf.xor_lt8 (h _) (hx _)
    · exact h i
theorem adF_at (o : Nat) (xs s : List Nat) (n : Nat) (hl : o + n ≤ s.length) (k : Nat) : ∀ t j, j + t = n → (adF o xs s (tmD xs n j)).getD k 0 = if o + j ≤ k ∧ k < o + n then s.getD k 0 ^^^ xs.getD (k - o) 0 else s.getD k 0 := by
  intro t
  induction t with
  | zero =>
    intro j e
    obtain rfl : j = n := by omega
    rw [tmD_top, if_neg (by omega)]; rfl
  | succ t ih =>
    intro j e
    have h := ih (j + 1) (by omega)
    by_cases hj : xs.getD j 0 = 0
    · rw [tmD_none xs n j (by omega) hj, h]
      by_cases h1 : o + (j + 1) ≤ k ∧ k < o + n
      · rw [if_pos h1, if_pos (by omega)]
      · rw [if_neg h1]
        by_cases h2 : k = o + j
        · rw [if_pos (by omega), show k - o = j by omega, hj, Nat.xor_zero]
        · rw [if_neg (by omega)]
    · rw [tmD_some xs n j (by omega) hj, adF_snoc, getD_set, adF_length]
      by_cases h2 : o + j = k
      · have h3 := h
        rw [if_neg (by omega)] at h3
        rw [if_pos ⟨h2, by omega⟩, if_pos (by omega)]
        show (adF o xs s (tmD xs n (j + 1))).getD (o + j) 0 ^^^ xs.getD j 0 = _
        rw [h2, h3, show k - o = j by omega]
      · rw [if_neg (fun c => h2 c.1), h]
        by_cases h1 : o + (j + 1) ≤ k ∧ k < o + n
        · rw [if_pos h1, if_pos (by omega)]
        · rw [if_neg h1, if_neg (by omega)]
/-- A list with a polynomial added from place o on. -/
def addL (o : Nat) (s xs : List Nat) : List Nat := adF o xs s (tmD xs xs.length 0)
theorem addL_length (o : Nat) (s xs : List Nat) : (addL o s xs).length = s.length := adF_length _ _ _ _
theorem addL_byt (o : Nat) {s xs : List Nat} (hs : Byt s) (hx : Byt xs) : Byt (addL o s xs) := adF_byt o hx hs _
theorem addL_ofL (o : Nat) {s xs : List Nat} (hs : Byt s) (hx : Byt xs) (hl : o + xs.length ≤ s.length) : ofL (addL o s xs) = Pol.add (ofL s) (Pol.up o (ofL xs)) := by
  funext k
  show GF.of ((addL o s xs).getD k 0) = GF.of (s.getD k 0) + (if o ≤ k then GF.of (xs.getD (k - o) 0) else 0)
  unfold addL
  rw [adF_at o xs s xs.length hl k xs.length 0 (by omega)]
  by_cases h1 : o ≤ k
  · rw [if_pos h1]
    by_cases h2 : k < o + xs.length
    · rw [if_pos ⟨by omega, h2⟩, GF.of_xor _ _ (hs _) (hx _)]
    · have e : xs.getD (k - o) 0 = 0 := by simp [List.getD, List.getElem?_eq_none (show xs.length ≤ k - o by omega)]
      rw [if_neg (fun c => h2 c.2), e, GF.of_zero, GF.add_zero]
  · rw [if_neg (by omega), if_neg h1, GF.add_zero]
def addAll (o : Nat) (s : List Nat) (ls : List (List Nat)) : List Nat := ls.foldl (addL o) s
theorem addAll_length (o : Nat) (ls : List (List Nat)) : ∀ s, (addAll o s ls).length = s.length := by
  induction ls with
  | nil => exact fun s => rfl
  | cons x l ih => intro s; show (addAll o (addL o s x) l).length = _; rw [ih, addL_length]

theorem addAll_byt (o : Nat) (ls : List (List Nat)) : ∀ s, Byt s → (∀ l ∈ ls, Byt l) → Byt (addAll o s ls) := by
  induction ls with
  | nil => exact fun s h _ => h
  | cons x l ih => exact fun s h hl => ih _ (addL_byt o h (hl x (List.mem_cons_self ..))) (fun y hy => hl y (List.mem_cons_of_mem _ hy))
theorem addAll_snoc (o : Nat) (ls : List (List Nat)) (x s : List Nat) : addAll o s (ls ++ [x]) = addL o (addAll o s ls) x := by simp [addAll]

/-! The marks that ranges over functions leave for the function's return. -/
def Marks (n : Nat) (W : World) : Nat → List Deferred → Prop
  | _, [] => True
  | b, d :: ds => ∃ D, d = { target := .collected D, args := #[] } ∧ n ≤ D ∧ D < b ∧ W.heap[D]? = some (.deferred (some [])) ∧ Marks n W D ds
theorem Marks.mono {n : Nat} {W : World} : ∀ {ds : List Deferred} {b b' : Nat}, Marks n W b ds → b ≤ b' → Marks n W b' ds
  | [], _, _, _, _ => trivial
  | _ :: _, _, _, ⟨D, e, h1, h2, h3⟩, hb => ⟨D, e, h1, by omega, h3⟩
theorem Marks.kept {n : Nat} {W W' : World} : ∀ {ds : List Deferred} {b : Nat}, Marks n W b ds → (∀ D, n ≤ D → D < b → W.heap[D]? = some (.deferred (some [])) → W'.heap[D]? = some (.deferred (some []))) → Marks n W' b ds
  | [], _, _, _ => trivial
  | _ :: _, _, ⟨D, e, h1, h2, h3, h4⟩, h => ⟨D, e, h1, h2, h D h1 h2 h3, h4.kept (fun D' a b c => h D' a (by omega) c)⟩
/-- All marks are taken: what was no mark lies as it lay. -/
theorem leaves_marks {F : Fence} {m : Nat} {P : Program} {fn : Func} {tmps : Array Value} {R : Ending → World → Prop} {n : Nat} : ∀ (ds : List Deferred) (b : Nat) (W : World), Marks n W b ds →
    (∀ W', But (fun k => n ≤ k ∧ W.heap[k]? = some (.deferred (some []))) W W' → LeavesIn F m P fn tmps R [] .returning W') → LeavesInM F m P fn tmps R ds .returning W
  | [], _, W, _, h => h W (But.refl _ _)
  | _ :: ds, b, W, ⟨D, e, h1, h2, h3, h4⟩, h => by
    subst e
    have hlt : D < W.heap.size := (Array.getElem?_eq_some_iff.1 h3).1
    have hg := grownBy_putObj' W D (.deferred none)
    have hb1 : But (fun k => n ≤ k ∧ W.heap[k]? = some (.deferred (some []))) W (W.putObj D (.deferred none)) :=
      ⟨hg.os, hg.tape, hg.output, hg.size, fun k hk hs => hg.block k hk (fun e => by cases e; exact hs ⟨h1, h3⟩)⟩
    have hD : ∀ k, k ≠ D → (W.putObj D (.deferred none)).heap[k]? = some (.deferred (some [])) → W.heap[k]? = some (.deferred (some [])) := fun k hk e => by
      by_cases hl : k < W.heap.size
      · rw [← hg.block k hl (fun e' => hk (by cases e'; rfl))]; exact e
      · have : (W.putObj D (.deferred none)).heap.size = W.heap.size := by simp [World.putObj]
        have := (Array.getElem?_eq_some_iff.1 e).1
        omega
    refine ⟨by simp, .inl ⟨D, _, rfl, run_takeDeferred h3, ?_⟩⟩
    refine leaves_marks ds D _ (h4.kept (fun D' _ h6 h7 => (hg.block D' (by omega) (fun e => by cases e; omega)).trans h7)) (fun W' hW' => h W' (hb1.trans (hW'.mono (fun k ⟨hk1, hk2⟩ => ?_))))
    by_cases e : k = D
    · subst e; exact ⟨h1, h3⟩
    · exact ⟨hk1, hD k e hk2⟩

theorem ownFrom_marks {β : Type} {B n b : Nat} (hb : b ≤ B) (ds : List Deferred) : OwnFrom B (fun (_ : β) W => Marks n W b ds) := fun _ X Y row hs hg hr =>
  Marks.kept hs (fun D _ h2 h3 => (hg.block D (Array.getElem?_eq_some_iff.1 h3).1 (fun e => by have := (hr D e.symm).1; omega)).trans h3)
theorem KeepsP.setCell {B n g o : Nat} {q : Option Addr} {W W' : World} (h : KeepsP B q n W W') (hB : g ≠ B) (hq : Off g n q) (v : Value) : KeepsP B q n W (W'.setCell ⟨g, o, none⟩ v) :=
  ⟨h.1.setCell hB v, fun a e i hi u hu => (World.cell?_setCell_other _ _ _ _ (fun c => hq (by omega) a e (by rw [← block_add a i, ← c]))).trans (h.2 a e i hi u hu)⟩

/-- A slice, and the bytes that it holds. -/
structure Sl where
  q : Option Addr
  n : Nat
  c : Nat
  xs : List Nat
/-- A list of slices in memory, each to be read, none longer than m, none in block g. -/
def Sls (w : World) (h g m : Nat) (ls : List Sl) : Prop := ∀ j (hj : j < ls.length), w.cell? ⟨h, j, none⟩ = some (.slice ls[j].q ls[j].n ls[j].c) ∧ Bs w ls[j].q ls[j].n ls[j].xs ∧ ls[j].n ≤ m ∧ Off g ls[j].n ls[j].q
theorem sub_succ_lt (K r : Nat) (h : r < K) : K - ((r + 1 : Nat) : Int).toNat < K - ((r : Nat) : Int).toNat := by omega
set_option maxRecDepth 100000 in
set_option maxHeartbeats 4000000 in
theorem paddTo_in (d : Nat) (hd : 3 ≤ d) (base g o m cm N cap h cK : Nat) (s : List Nat) (ls : List Sl) (hN : N = s.length) (hom : o + m ≤ N) (hsb : Byt s) (hK : ls.length ≤ 1000) (hgh : ¬ h = g) (w : World) (hhw : h < w.heap.size) (hO : Ow w base (.slice (some ⟨g, 0, none⟩) N cap) s) (hls : Sls w h g m ls) :
    CallsIn Fence.wide d Tryz.prog 40 #[.slice (some ⟨g, o, none⟩) m cm, .slice (some ⟨h, 0, none⟩) ls.length cK] w fun e w' => (∃ v, e = .returned v) ∧ Ow w' base (.slice (some ⟨g, 0, none⟩) N cap) (addAll o s (ls.map (·.xs))) ∧ But (· = g) w w' := by
  refine callsIn_of_wp_marks Tryz.func40 rfl trivial ?_ rfl
  simp only [Tryz.ntmps40, List.size_toArray, List.length_cons, List.length_nil, Nat.reduceAdd, Nat.reduceSub, Array.replicate_succ, Array.replicate_zero, List.push_toArray, List.append_toArray, List.nil_append, List.cons_append]
  have hfn : ∀ f, Fence.wide.fn f := fun _ => trivial
  have hd1 : 1 ≤ d := by omega
  obtain ⟨K, hKe⟩ : ∃ K, ls.length = K := ⟨_, rfl⟩
  rw [hKe]
  have HE : Hid (ls.length = K) := hKe
  have HO : Hid (Ow w base (.slice (some ⟨g, 0, none⟩) N cap) s) := hO
  have hgw : g < w.heap.size := (hO.lt g rfl).2
  have HL : Hid (Sls w h g m ls) := hls
  have HBy : Hid (Byt s) := hsb
  rw [hKe] at hK
  clear hO hls hsb hKe
  obtain ⟨R, hR⟩ : ∃ R, w.heap.size = R := ⟨_, rfl⟩
  gi_wp2
  rw [hR] at hgw hhw
  refine wpIn_loop (fun a' wr => ∃ (r : Nat) (u5 u11 u12 u13 u14 u15 u25 : Value) (ds : List Deferred), r ≤ K ∧ a' = { tmps := #[.slice (some ⟨g, o, none⟩) m cm, .slice (some ⟨h, 0, none⟩) K cK, .pointer (some ⟨R, 0, none⟩), undef, undef, u5, undef, undef, .slice (some ⟨h, 0, none⟩) K cK, .int .i64 (K : Int), .int .i64 (r : Int), u11, u12, u13, u14, u15, undef, undef, undef, undef, undef, undef, undef, undef, undef, u25], defers := ds } ∧
      Ow wr base (.slice (some ⟨g, 0, none⟩) N cap) (addAll o s ((ls.take r).map (·.xs))) ∧ Boxed wr R 22 (.slice (some ⟨g, o, none⟩) m cm) ∧ But (· = g) w wr ∧ Marks R wr wr.heap.size ds)
    (fun a' _ => K - (intOf (a'.tmps.getD 10 undef)).toNat) ?_ ?_
  · refine ⟨0, _, _, _, _, _, _, _, [], Nat.zero_le _, rfl, ?_, ?_, ?_, trivial⟩
    · exact HO.out.alloc _
    · rw [← hR]; exact Boxed.new w _ _
    · exact (But.refl _ w).alloc _
  · rintro a' wr ⟨r, u5, u11, u12, u13, u14, u15, u25, ds, hr, rfl, hOr, hBx, hBut, hMk⟩
    have hsz := hBx.lt
    have hlsb : ∀ l ∈ ls.map (·.xs), Byt l := fun l hl => by
      obtain ⟨x, hx, rfl⟩ := List.mem_map.1 hl
      obtain ⟨j, hj, rfl⟩ := List.mem_iff_getElem.1 hx
      exact (HL.out j hj).2.1.byt
    by_cases hlt : r < K
    · have hi : (r : Int) < (K : Int) := by omega
      have hrl : r < ls.length := by rw [HE.out]; exact hlt
      obtain ⟨hc0, hS0, hle, hoff⟩ := HL.out r hrl
      have HT : Hid (addAll o s ((ls.take (r + 1)).map (·.xs)) = addL o (addAll o s ((ls.take r).map (·.xs))) ls[r].xs) := by
        show _ = _
        have e : ls.take (r + 1) = ls.take r ++ [ls[r]] := by rw [List.take_add_one, List.getElem?_eq_getElem hrl]; rfl
        rw [e, List.map_append, ← addAll_snoc]; rfl
      have hcb : Byt (addAll o s ((ls.take r).map (·.xs))) := addAll_byt o _ s HBy.out (fun l hl => hlsb l (by
        obtain ⟨x, hx, rfl⟩ := List.mem_map.1 hl
        exact List.mem_map.2 ⟨x, List.mem_of_mem_take hx, rfl⟩))
      have hcl := addAll_length o ((ls.take r).map (·.xs)) s
      obtain ⟨cur, hcur⟩ : ∃ cur, addAll o s ((ls.take r).map (·.xs)) = cur := ⟨_, rfl⟩
      obtain ⟨⟨q, n, c, xs⟩, hL⟩ : ∃ l, ls[r] = l := ⟨_, rfl⟩
      rw [hL] at hc0 hS0 hle hoff HT
      rw [hcur] at hOr HT hcb hcl
      rw [← hN] at hcl
      dsimp only at hc0 hS0 hle hoff HT
      have hc1 : wr.cell? ⟨h, r, none⟩ = some (.slice q n c) := (hBut.cell (p := ⟨h, r, none⟩) (hR.symm ▸ hhw) hgh).trans hc0
      have hS1 : Bs wr q n xs := hS0.but hBut hoff
      clear hlsb hc0 hS0 hL hcur
      have HS : Hid (Bs wr q n xs ∧ Off g n q ∧ Byt cur ∧ Ow wr base (.slice (some ⟨g, 0, none⟩) N cap) cur ∧ But (· = g) w wr ∧ Marks R wr wr.heap.size ds) := ⟨hS1, hoff, hcb, hOr, hBut, hMk⟩
      clear hS1 hoff hcb hOr hBut hMk
      gi_wp2_with (gi_at_call 31; refine (terms_calls (d - 1) q n c _).mono ?_; rintro e w' ⟨rfl, rfl⟩)
      obtain ⟨Q, hQ⟩ : ∃ Q, wr.heap.size = Q := ⟨_, rfl⟩
      obtain ⟨W0, hW0⟩ : ∃ W0, wr.alloc (.cells #[.slice q n c] 22) = W0 := ⟨_, rfl⟩
      have i1 : Ow W0 base (.slice (some ⟨g, 0, none⟩) N cap) cur := by rw [← hW0]; exact HS.out.2.2.2.1.alloc _
      have i2 : Boxed W0 R 22 (.slice (some ⟨g, o, none⟩) m cm) := by rw [← hW0]; exact hBx.alloc _
      have i3 : W0.cell? ⟨Q, 0, none⟩ = some (.slice q n c) := by rw [← hW0, ← hQ]; exact (Boxed.new wr _ _).cell
      have i4 : But (· = g) w W0 := by rw [← hW0]; exact HS.out.2.2.2.2.1.alloc _
      have i5 : Marks R W0 Q ds := by rw [← hW0, ← hQ]; exact HS.out.2.2.2.2.2.kept (fun D _ h2 h3 => (Below.heap_alloc _ _ _ h2).trans h3)
      have i6 : Bs W0 q n xs := by rw [← hW0]; exact HS.out.1.alloc _
      have hs0 : W0.heap.size = Q + 1 := by rw [← hW0, ← hQ]; simp
      rw [hW0, hQ]
      have hRQ : R < Q := by omega
      have hgQ : ¬ g = Q := by omega
      have hRs : w.heap.size ≤ Q + 1 := by omega
      have HX : Hid (Byt xs ∧ xs.length = n) := ⟨HS.out.1.byt, HS.out.1.len⟩
      have HY : Hid (Byt cur ∧ Off g n q) := ⟨HS.out.2.2.1, HS.out.2.1⟩
      clear hW0 HS hc1 hBx
      rename_i Q1 Q2 K' hK'
      refine wpIn_mono (Q := fun e a W => e = .normal ∧ ∃ D, Q + 1 ≤ D ∧ a = { tmps := #[.slice (some ⟨g, o, none⟩) m cm, .slice (some ⟨h, 0, none⟩) K cK, .pointer (some ⟨R, 0, none⟩), undef, undef, .slice q n c, undef, undef, .slice (some ⟨h, 0, none⟩) K cK, .int .i64 (K : Int), .int .i64 (r : Int), .bool true, .pointer (some ⟨h, r, none⟩), .slice q n c, .slice q n c, .func (.func 55) #[] #[.pointer (some ⟨Q, 0, none⟩)], undef, undef, undef, undef, undef, undef, undef, undef, undef, u25], defers := { target := .collected D, args := #[] } :: ds } ∧
          Ow W base (.slice (some ⟨g, 0, none⟩) N cap) (adF o xs cur (tmD xs n 0)) ∧ Boxed W R 22 (.slice (some ⟨g, o, none⟩) m cm) ∧ But (· = g) w W ∧ Marks R W Q ds ∧ W.heap[D]? = some (.deferred (some []))) ?_ ?_
      · clear hK'
        clear K' Q2 Q1
        refine wpIn_rangeFunc_ownF rfl hd1 (gf := 55) (lb := #[.pointer (some ⟨Q, 0, none⟩)]) rfl trivial (enters_of Tryz.func55 (by kernel_rfl) rfl)
          (terms1_stops (d - 1) (by omega) Q q n c xs _ (by omega) i3 i6) keepsP_t (fun W l o o' _ h1 h2 _ => keepsP_b W l o o' h1 h2) (Below.refl _ _) (fun _ => rfl)
          (fun pre W => ((Ow W base (.slice (some ⟨g, 0, none⟩) N cap) (adF o xs cur pre) ∧ Boxed W R 22 (.slice (some ⟨g, o, none⟩) m cm)) ∧ But (· = g) w W) ∧ Marks R W Q ds)
          (fun _ _ _ => False)
          (OwnFrom.and (OwnFrom.and (OwnFrom.and (Own.from (ow_own _ _ _) _) (Own.from (boxed_own _ _ _) _)) (ownFrom_but (by omega))) (ownFrom_marks (by omega) _))
          (fun _ _ _ _ _ hs _ _ => hs)
          ⟨⟨⟨i1, i2⟩, i4⟩, i5⟩
          (fun x => { tmps := #[.slice (some ⟨g, o, none⟩) m cm, .slice (some ⟨h, 0, none⟩) K cK, .pointer (some ⟨R, 0, none⟩), undef, undef, .slice q n c, .int .i64 ((x.1 : Nat) : Int), .int .u8 ((xs.getD x.1 0 : Nat) : Int), .slice (some ⟨h, 0, none⟩) K cK, .int .i64 (K : Int), .int .i64 (r : Int), .bool true, .pointer (some ⟨h, r, none⟩), .slice q n c, .slice q n c, .func (.func 55) #[] #[.pointer (some ⟨Q, 0, none⟩)], .int .i64 ((x.1 : Nat) : Int), .int .u8 ((xs.getD x.1 0 : Nat) : Int), undef, undef, undef, undef, undef, undef, undef, u25], defers := [] }) ?assign ?body ?done ?stop
        case assign =>
          intro l x W K hK
          obtain ⟨i, hi⟩ := x
          dsimp only [tmv] at hK ⊢
          obtain ⟨b, hb⟩ : ∃ b, xs.getD i 0 = b := ⟨_, rfl⟩
          rw [hb] at hK ⊢
          gi_wp2
          exact hK
        case body =>
          rintro l pre x W ⟨⟨⟨hOw, hBx⟩, hBut⟩, hMk⟩ _
          clear i1 i2 i3 i4 i5 i6
          obtain ⟨i, hin⟩ := x
          dsimp only
          have hAl := adF_length o xs cur pre
          have hAb := adF_byt o HX.out.1 HY.out.1 pre (o + i)
          have hxb := HX.out.1 i
          have hsn := adF_snoc o xs cur pre ⟨i, hin⟩
          dsimp only at hsn
          obtain ⟨A, hA⟩ : ∃ A, adF o xs cur pre = A := ⟨_, rfl⟩
          rw [hA] at hAl hAb hOw hsn
          obtain ⟨hc, hf⟩ := hOw.at (by omega) (o + i) (by omega)
          obtain ⟨b, hb⟩ : ∃ b, xs.getD i 0 = b := ⟨_, rfl⟩
          obtain ⟨y, hy⟩ : ∃ y, A.getD (o + i) 0 = y := ⟨_, rfl⟩
          rw [hb] at hxb hsn ⊢
          rw [hy] at hAb hc hsn
          have hxor := u8_xor_nat y b hAb hxb
          have hii : (i : Int) < (m : Int) := by omega
          have hcB := hBx.cell
          have HZ : Hid (adF o xs cur (pre ++ [⟨i, hin⟩]) = A.set (o + i) (y ^^^ b)) := hsn
          have HW : Hid (Ow W base (.slice (some ⟨g, 0, none⟩) N cap) A ∧ Boxed W R 22 (.slice (some ⟨g, o, none⟩) m cm) ∧ But (· = g) w W ∧ Marks R W Q ds ∧ A.length = N) := ⟨hOw, hBx, hBut, hMk, by omega⟩
          clear hsn hOw hBx hBut hMk hA hAl hb hy
          gi_wp2
          refine ⟨KeepsOthers.setCell _ _ _, (KeepsP.refl _ _ _ W).setCell hgQ HY.out.2 _, ⟨⟨?_, boxed_set HW.out.2.1 (by show ¬ R = g; omega) _⟩, HW.out.2.2.1.setCell (.inl rfl) _⟩, HW.out.2.2.2.1.kept (fun D _ _ h3 => (KeepsOthers.setCell W ⟨g, o + i, none⟩ _).same D _ h3 rfl)⟩
          rw [HZ.out]
          exact HW.out.1.set HW.out.2.2.2.2.symm (o + i) _
        case done =>
          rintro D ys W hD rfl ⟨⟨⟨hOw, hBx⟩, hBut⟩, hMk⟩ hK
          exact ⟨rfl, D, hs0 ▸ hD, rfl, hOw, hBx, hBut, hMk, hK⟩
        case stop =>
          rintro D c pre W _ _ h _
          exact h.elim
      · rintro e a W ⟨rfl, D, hD, rfl, hOw, hBx, hBut, hMk, hK⟩
        clear i1 i2 i3 i4 i5 i6
        have HW : Hid (Ow W base (.slice (some ⟨g, 0, none⟩) N cap) (adF o xs cur (tmD xs n 0)) ∧ Boxed W R 22 (.slice (some ⟨g, o, none⟩) m cm) ∧ But (· = g) w W ∧ Marks R W Q ds ∧ W.heap[D]? = some (.deferred (some []))) := ⟨hOw, hBx, hBut, hMk, hK⟩
        clear hOw hBx hBut hMk
        have hQD : Q ≤ D := Nat.le_of_succ_le hD
        have hRD : R ≤ D := Nat.le_trans (Nat.le_of_lt hRQ) hQD
        have HF : Q2 .normal { tmps := #[.slice (some ⟨g, o, none⟩) m cm, .slice (some ⟨h, 0, none⟩) K cK, .pointer (some ⟨R, 0, none⟩), undef, undef, .slice q n c, undef, undef, .slice (some ⟨h, 0, none⟩) K cK, .int .i64 (K : Int), .int .i64 ((r + 1 : Nat) : Int), .bool true, .pointer (some ⟨h, r, none⟩), .slice q n c, .slice q n c, .func (.func 55) #[] #[.pointer (some ⟨Q, 0, none⟩)], undef, undef, undef, undef, undef, undef, undef, undef, undef, .int .i64 ((r + 1 : Nat) : Int)], defers := { target := .collected D, args := #[] } :: ds } W := by
          refine ⟨⟨r + 1, _, _, _, _, _, _, _, _, hlt, rfl, ?_, HW.out.2.1, HW.out.2.2.1, ⟨D, rfl, hRD, (Array.getElem?_eq_some_iff.1 HW.out.2.2.2.2).1, HW.out.2.2.2.2, HW.out.2.2.2.1.mono hQD⟩⟩, ?_⟩
          · rw [HT.out]
            unfold addL
            rw [HX.out.2]
            exact HW.out.1
          · exact sub_succ_lt K r hlt
        rw [Int.natCast_succ r] at HF
        refine hK' _ _ ?_
        clear hK' HW HT HX HY
        clear_value Q2
        clear K' hK
        gi_wp2
        exact HF
    · have e8 : r = K := by omega
      subst e8
      have ht : ls.take r = ls := List.take_of_length_le (by rw [HE.out]; exact Nat.le_refl _)
      rw [ht] at hOr
      have HW : Hid (Ow wr base (.slice (some ⟨g, 0, none⟩) N cap) (addAll o s (ls.map (·.xs))) ∧ But (· = g) w wr ∧ Marks R wr wr.heap.size ds) := ⟨hOr, hBut, hMk⟩
      clear hOr hBut hMk hBx ht hlsb
      gi_wp2
      refine leaves_marks ds _ wr HW.out.2.2 (fun W' hW' => ?_)
      exact ⟨_, results_none rfl _ _ _, ⟨_, rfl⟩, HW.out.1.block (fun k hk => by
        cases hk
        exact hW'.block g (Nat.lt_trans hgw hsz) (fun c => Nat.not_lt.2 c.1 hgw)), HW.out.2.1.past hW' (fun i hi => Nat.le_trans (Nat.le_of_eq hR) hi.1)⟩
end Go.Proofs
/- The walks of poly.Add and poly.Shift. Conditions: lists of at most a thousand million bytes, no longer than their capacities. -/
namespace Go.Proofs
open Go.RowKit Go.ChangeShapes Go.WideShapes
attribute [local go_sem ↓ high] builtin_ap
attribute [local go_sem] ap_sem
open Pol (IsN Dg ofL Byt)

theorem paddTo_calls (base g o m cm N cap h cK : Nat) (s : List Nat) (ls : List Sl) (ll : List (List Nat)) (hll : ls.map (·.xs) = ll) (K : Nat) (hKl : K = ls.length) (hN : N = s.length) (hom : o + m ≤ N) (hsb : Byt s) (hK : K ≤ 1000) (hgh : ¬ h = g) (w : World) (hhw : h < w.heap.size) (hO : Ow w base (.slice (some ⟨g, 0, none⟩) N cap) s) (hls : Sls w h g m ls) :
    Calls Tryz.prog 40 #[.slice (some ⟨g, o, none⟩) m cm, .slice (some ⟨h, 0, none⟩) K cK] w fun e w' => (∃ v, e = .returned v) ∧ Ow w' base (.slice (some ⟨g, 0, none⟩) N cap) (addAll o s ll) ∧ But (· = g) w w' := by
  subst hKl hll
  exact (callsIn_wide (n := 3)).1 (paddTo_in 3 (by omega) base g o m cm N cap h cK s ls hN hom hsb hK hgh w hhw hO hls)
theorem add_two {N : Nat} {xs ys : List Nat} (hx : Byt xs) (hy : Byt ys) (h1 : xs.length ≤ N) (h2 : ys.length ≤ N) : ofL (addAll 0 (List.replicate N 0) [xs, ys]) = Pol.add (ofL xs) (ofL ys) := by
  show ofL (addL 0 (addL 0 (List.replicate N 0) xs) ys) = _
  rw [addL_ofL 0 (addL_byt 0 (Pol.byt_rep N) hx) hy (by rw [addL_length, List.length_replicate]; omega), addL_ofL 0 (Pol.byt_rep N) hx (by rw [List.length_replicate]; omega), Pol.ofL_rep, Pol.up_zero, Pol.up_zero, Pol.zero_add]
set_option maxRecDepth 100000 in
set_option maxHeartbeats 1000000 in
theorem padd_calls (q p : Option Addr) (n c m d : Nat) (xs ys zs : List Nat) (hz : IsN zs (Pol.add (ofL xs) (ofL ys))) (hn : n ≤ 1000000000) (hm : m ≤ 1000000000) (w : World) (hx : Bs w q n xs) (hy : Bs w p m ys) :
    Calls Tryz.prog 58 #[.slice q n c, .slice p m d] w fun e w' => ∃ v, e = .returned v ∧ Ow w' w.heap.size v zs ∧ Below w.heap.size w w' := by
  obtain ⟨N, hN⟩ : ∃ N : Nat, max n m = N := ⟨_, rfl⟩
  have hmk := make_bytes N (by omega)
  have hcase : (N = n ∧ (m : Int) ≤ (n : Int)) ∨ (N = m ∧ (n : Int) < (m : Int)) := by omega
  obtain ⟨R, hR⟩ : ∃ R, w.heap.size = R := ⟨_, rfl⟩
  obtain ⟨W0, hW0⟩ : ∃ W0, (w.alloc (.cells (madeCells #[.int .u8 0] N) 5)).alloc (.cells #[.slice q n c, .slice p m d] 22) = W0 := ⟨_, rfl⟩
  have i1 : Ow W0 R (.slice (some ⟨R, 0, none⟩) N N) (List.replicate N 0) := by rw [← hW0, ← hR]; exact (ow_made w (Nat.le_refl _) N (by omega)).alloc _
  have i2 : But (fun _ => False) w W0 := by rw [← hW0]; exact ((But.refl _ w).alloc _).alloc _
  have i3 : Below R w W0 := hR ▸ i2.below (Nat.le_refl _) (fun _ => False.elim)
  have hs0 : W0.heap.size = R + 2 := by rw [← hW0, ← hR]; simp
  have i4 : W0.cell? ⟨R + 1, 0, none⟩ = some (.slice q n c) := by rw [← hW0, ← hR]; simp [go_sem]
  have i5 : W0.cell? ⟨R + 1, 1, none⟩ = some (.slice p m d) := by rw [← hW0, ← hR]; simp [go_sem]
  have i6 : Sls W0 (R + 1) R N [⟨q, n, c, xs⟩, ⟨p, m, d, ys⟩] := by
    intro j hj
    match j, hj with
    | 0, _ => exact ⟨i4, hx.below (hR.symm ▸ i3), by show n ≤ N; omega, hx.off (Nat.le_of_eq hR)⟩
    | 1, _ => exact ⟨i5, hy.below (hR.symm ▸ i3), by show m ≤ N; omega, hy.off (Nat.le_of_eq hR)⟩
  have K1 := paddTo_calls R R 0 N N N N (R + 1) 2 (List.replicate N 0) [⟨q, n, c, xs⟩, ⟨p, m, d, ys⟩] [xs, ys] rfl 2 rfl (by rw [List.length_replicate]) (by omega) (Pol.byt_rep N) (by omega) (by omega) W0 (by omega) i1 i6
  have hlx := hx.len
  have hly := hy.len
  have e1 : ofL (addAll 0 (List.replicate N 0) [xs, ys]) = Pol.add (ofL xs) (ofL ys) := add_two hx.byt hy.byt (by omega) (by omega)
  have hb : Byt (addAll 0 (List.replicate N 0) [xs, ys]) := addAll_byt 0 _ _ (Pol.byt_rep N) (fun l hl => by
    simp at hl
    rcases hl with rfl | rfl
    · exact hx.byt
    · exact hy.byt)
  have hl : (addAll 0 (List.replicate N 0) [xs, ys]).length = N := by rw [addAll_length, List.length_replicate]
  obtain ⟨us, hus⟩ : ∃ us, addAll 0 (List.replicate N 0) [xs, ys] = us := ⟨_, rfl⟩
  rw [hus] at K1 e1 hb hl
  obtain ⟨i, hi, hg⟩ := Pol.dg_list us
  rw [hl] at hi
  obtain rfl := hz.unique (e1 ▸ Pol.isN_take hb hg)
  have K2 : Hid (∀ W, Bs W (some ⟨R, 0, none⟩) N us → Calls Tryz.prog 33 #[.slice (some ⟨R, 0, none⟩) N N] W fun e w' => e = .returned (.slice (some ⟨R, 0, none⟩) i N) ∧ Below W.heap.size W w') := fun W hW => pnormal_calls _ N N us i hg (Nat.le_refl _) W hW
  have HB : Hid (Below R w W0) := i3
  clear hz e1 hg hx hy hus i1 i2 i3 i4 i5 i6 hs0
  clear hN
  go_enter Tryz.func58, Tryz.ntmps58
  rcases hcase with ⟨rfl, hc⟩ | ⟨rfl, hc⟩
  all_goals
    go_wp2_with fail
    refine K1.mono ?_
    rintro e w1 ⟨⟨v, rfl⟩, hO, hb1⟩
    have hb2 : Below R W0 w1 := hb1.below (by have := HB.out.size; omega) (fun k hk => Nat.le_of_eq hk.symm)
    have HB2 : Hid (Below R w w1 ∧ Ow w1 R (.slice (some ⟨R, 0, none⟩) N N) us) := ⟨HB.out.trans hb2, hO⟩
    obtain ⟨q1, c1, e1, hS, -, -⟩ := hO.tell hb hl
    cases e1
    clear hO hb1 hb2 K1 HB
    go_wp2_with fail
    refine (K2.out w1 hS).mono ?_
    rintro e w2 ⟨rfl, hb3⟩
    go_wp2
    go_ret
    subst hR
    exact ⟨_, rfl, (HB2.out.2.front rfl hi).below hb3, HB2.out.1.trans (hb3.mono HB2.out.1.size)⟩

end Go.Proofs
/- What the rounds of poly.Mul add up, and the two calls of a round. Conditions: bytes; a field that Of has made. -/
namespace Go.Proofs
open Go.RowKit Go.Shelf Go.ChangeShapes Go.WideShapes
attribute [local go_sem] Oper.semAt_some
open Pol (IsN Dg ofL Byt)

/-! What the rounds add up. -/
def mlF (us vs s : List Nat) {n : Nat} (pre : List (Tm n)) : List Nat := pre.foldl (fun s x => addL x.1 s (vs.map (Gf.mul (us.getD x.1 0)))) s
theorem mlF_snoc (us vs s : List Nat) {n : Nat} (pre : List (Tm n)) (x : Tm n) : mlF us vs s (pre ++ [x]) = addL x.1 (mlF us vs s pre) (vs.map (Gf.mul (us.getD x.1 0))) := by simp [mlF]
theorem mlF_length (us vs s : List Nat) {n : Nat} (pre : List (Tm n)) : (mlF us vs s pre).length = s.length := by
  suffices h : ∀ (pre : List (Tm n)) (s : List Nat), (pre.foldl (fun s x => addL x.1 s (vs.map (Gf.mul (us.getD x.1 0)))) s).length = s.length from h pre s
  intro pre
  induction pre with
  | nil => exact fun s => rfl
  | cons x l ih => intro s; rw [List.foldl_cons, ih, addL_length]
theorem mlF_byt {us vs s : List Nat} (hu : Byt us) (hs : Byt s) {n : Nat} (pre : List (Tm n)) : Byt (mlF us vs s pre) := by
  suffices h : ∀ (pre : List (Tm n)) (s : List Nat), Byt s → Byt (pre.foldl (fun s x => addL x.1 s (vs.map (Gf.mul (us.getD x.1 0)))) s) from h pre s hs
  intro pre
  induction pre with
  | nil => exact fun s h => h
  | cons x l ih =>
    intro s h
    rw [List.foldl_cons]
    exact ih _ (addL_byt _ h (map_byte _ vs (hu _)))
theorem mlF_ofL {us vs : List Nat} {n L : Nat} (hu : Byt us) (hv : Byt vs) (hn : us.length = n) (hL : n + vs.length ≤ L + 1) : ∀ t j, j + t = n → ofL (mlF us vs (List.replicate L 0) (tmD us n j)) = Pol.add (Pol.mul (ofL us) (ofL vs)) (Pol.mul (Pol.cut j (ofL us)) (ofL vs)) := by
  intro t
  induction t with
  | zero =>
    intro j e
    obtain rfl : j = n := by omega
    rw [tmD_top, Pol.cut_bd (hn ▸ Pol.ofL_bd us), Pol.add_self]
    exact Pol.ofL_rep L
  | succ t ih =>
    intro j e
    have h := ih (j + 1) (by omega)
    rw [Pol.mul_cut_succ] at h
    by_cases hj : us.getD j 0 = 0
    · have e0 : ofL us j = 0 := by unfold ofL; rw [hj]; rfl
      rw [tmD_none us n j (by omega) hj, h, e0, Pol.zero_smul]
      congr 1
      funext i
      show _ + (if j ≤ i then (0 : GF) else 0) = _
      split <;> exact GF.add_zero _
    · rw [tmD_some us n j (by omega) hj, mlF_snoc]
      rw [addL_ofL j (mlF_byt hu (Pol.byt_rep L) _) (map_byte _ vs (hu _)) (by rw [mlF_length, List.length_replicate, List.length_map]; omega), h, Pol.ofL_map _ (hu _) hv]
      have e1 : GF.of (us.getD j 0) = ofL us j := rfl
      rw [e1, Pol.add_assoc, Pol.add_assoc, Pol.add_self, Pol.add_zero]
theorem mlF_all {us vs : List Nat} {n L : Nat} (hu : Byt us) (hv : Byt vs) (hn : us.length = n) (hL : n + vs.length ≤ L + 1) : ofL (mlF us vs (List.replicate L 0) (tmD us n 0)) = Pol.mul (ofL us) (ofL vs) := by
  rw [mlF_ofL hu hv hn hL n 0 (by omega), Pol.cut_zero, Pol.zero_mul, Pol.add_zero]
theorem mlF_nrm {us vs : List Nat} {n L : Nat} (hu : Byt us) (hv : Byt vs) (hn : us.length = n) (hL : n + vs.length = L + 1) (h1 : Pol.Nrm us) (h2 : Pol.Nrm vs) (hn0 : n ≠ 0) (hv0 : vs.length ≠ 0) : IsN (mlF us vs (List.replicate L 0) (tmD us n 0)) (Pol.mul (ofL us) (ofL vs)) := by
  refine ⟨fun _ e => ?_, mlF_byt hu (Pol.byt_rep L) _, mlF_all hu hv hn (by omega)⟩
  rw [mlF_length, List.length_replicate] at e
  have h3 := congrFun (mlF_all hu hv hn (show n + vs.length ≤ L + 1 by omega)) (L - 1)
  have h4 : ofL (mlF us vs (List.replicate L 0) (tmD us n 0)) (L - 1) = 0 := by unfold ofL; rw [e]; rfl
  have d1 := h1.dg hu
  have d2 := h2.dg hv
  obtain ⟨a, ha⟩ : ∃ a, us.length = a + 1 := ⟨us.length - 1, by omega⟩
  obtain ⟨b, hb⟩ : ∃ b, vs.length = b + 1 := ⟨vs.length - 1, by omega⟩
  rw [ha] at d1
  rw [hb] at d2
  have d3 := (d1.mul d2).top (by omega)
  rw [show a + b + 1 - 1 = L - 1 by omega, ← h3] at d3
  exact d3 h4

theorem keepsP_but {S : Nat → Prop} {B n : Nat} {q : Option Addr} {W W' : World} (h : But S W W') (hB : ¬ S B) (hq : 0 < n → ∀ a, q = some a → ¬ S a.block) : KeepsP B q n W W' :=
  ⟨fun v e => (h.cell (p := ⟨B, 0, none⟩) (World.block_lt_of_cell? _ _ e) hB).trans e, fun a e i hi v hv => (h.cell (World.block_lt_of_cell? _ _ hv) (by rw [block_add]; exact hq (by omega) a e)).trans hv⟩

/-- What Mul's boxes hold between two rounds. -/
structure MI (R M k B T L : Nat) (w : World) (many : Value) (s : List Nat) (W : World) : Prop where
  bf : Boxed W R 29 (.pointer (some ⟨B, 0, none⟩))
  bm : Boxed W M 22 many
  bp : Boxed W (M + 1 + 1) 22 (.slice (some ⟨M + 1, 0, none⟩) L L)
  ow : Ow W R (.slice (some ⟨M + 1, 0, none⟩) L L) s
  fd : Fd k B T W
  but : But (· = T) w W
theorem mi_own {β : Type} {R M k B T L C : Nat} {w : World} {many : Value} (f : β → List Nat) (hw : w.heap.size ≤ C) (hB : B < C) (hT : T < C) : OwnFrom C (fun (x : β) W => MI R M k B T L w many (f x) W) := fun x X Y row hs hg hr =>
  have hr' : ∀ r, row = some r → ∃ o : Obj, X.heap[r]? = some o ∧ o.isCells = false := fun r e => (hr r e).2
  ⟨boxed_own (β := Unit) R _ (fun _ => _) () X Y row hs.bf hg hr', boxed_own (β := Unit) M _ (fun _ => _) () X Y row hs.bm hg hr', boxed_own (β := Unit) (M + 1 + 1) _ (fun _ => _) () X Y row hs.bp hg hr', ow_own (β := Unit) R _ (fun _ => f x) () X Y row hs.ow hg hr', ownFrom_fd (β := Unit) hB hT () X Y row hs.fd hg hr, ownFrom_but (β := Unit) hw () X Y row hs.but hg hr⟩
theorem mul_round (R M k B T L : Nat) (w : World) (qm : Option Addr) (nm cm : Nat) (s vs : List Nat) (W : World) (b i : Nat) (hR : w.heap.size = R) (hM : R < M) (hT : T < R) (hB : B < R) (h : MI R M k B T L w (.slice qm nm cm) s W) (hv : Bs w qm nm vs) (hq : Off T nm qm) (hb : b < 256) (hi : i + nm ≤ L) (hs : Byt s) (hl : s.length = L) (hn : nm ≤ 1000000000) (hc : nm ≤ cm) :
    Calls Tryz.prog 41 #[.pointer (some ⟨B, 0, none⟩), .int .u8 b, .slice qm nm cm] W.drew fun e w1 => ∃ qe ce, e = .returned (.slice qe nm ce) ∧ (w1.cell? ⟨R, 0, none⟩ = some (.pointer (some ⟨B, 0, none⟩)) ∧ w1.cell? ⟨M, 0, none⟩ = some (.slice qm nm cm) ∧ w1.cell? ⟨M + 1 + 1, 0, none⟩ = some (.slice (some ⟨M + 1, 0, none⟩) L L)) ∧
      Hid (Calls Tryz.prog 40 #[.slice (some ⟨M + 1, i, none⟩) (L - i) (L - i), .slice (some ⟨w1.heap.size, 0, none⟩) 1 1] (w1.alloc (.cells #[.slice qe nm ce] 22)) fun e w3 => (∃ v, e = .returned v) ∧ Hid (MI R M k B T L w (.slice qm nm cm) (addL i s (vs.map (Gf.mul b))) w3 ∧ But (fun k => k = T ∨ k = M + 1) W w3)) := by
  have hby := map_byte b vs hb
  have hlm : (vs.map (Gf.mul b)).length = nm := by rw [List.length_map]; exact hv.len
  have hsz := h.bp.lt
  refine (feach_calls k B T b nm cm qm vs hb hn hc W.drew h.fd.drew ((hv.but h.but hq).drew) hq).mono ?_
  rintro e w1 ⟨v, rfl, hO, hF, hB1⟩
  obtain ⟨qe, ce, rfl, hS, hC, hQ⟩ := hO.tell hby hlm
  have hB2 : But (· = T) W w1 := (But.refl _ W).drew.trans hB1
  have hbp : Boxed w1 (M + 1 + 1) 22 (.slice (some ⟨M + 1, 0, none⟩) L L) := boxed_but h.bp hB2 (by omega)
  refine ⟨qe, ce, rfl, ⟨(boxed_but h.bf hB2 (by omega)).cell, (boxed_but h.bm hB2 (by omega)).cell, hbp.cell⟩, ?_⟩
  have hw1 : W.heap.size ≤ w1.heap.size := hB2.size
  have hOw : Ow w1 R (.slice (some ⟨M + 1, 0, none⟩) L L) s := h.ow.block (fun k hk => by cases hk; exact hB2.block (M + 1) (by omega) (by omega))
  have K := paddTo_calls R (M + 1) i (L - i) (L - i) L L w1.heap.size 1 s [⟨qe, nm, ce, vs.map (Gf.mul b)⟩] [vs.map (Gf.mul b)] rfl 1 rfl hl.symm (by omega) hs (by omega) (by omega) (w1.alloc (.cells #[.slice qe nm ce] 22)) (by simp) (hOw.alloc _) (by
    intro j hj
    match j, hj with
    | 0, _ => exact ⟨(Boxed.new w1 _ _).cell, hS.alloc _, by show nm ≤ L - i; omega, hQ (M + 1) (by show M + 1 < W.heap.size; omega)⟩)
  refine K.mono ?_
  rintro e w3 ⟨hv3, hO3, hB3⟩
  have hB4 : But (· = M + 1) w1 w3 := ((But.refl _ w1).alloc _).trans hB3
  refine ⟨hv3, ⟨boxed_but (boxed_but h.bf hB2 (by omega)) hB4 (by omega), boxed_but (boxed_but h.bm hB2 (by omega)) hB4 (by omega), boxed_but hbp hB4 (by omega), hO3, hF.but hB4 (by omega) (by omega), (h.but.trans hB2).past hB4 (fun k hk => by omega)⟩, (hB2.mono (fun k hk => .inl hk)).trans (hB4.mono (fun k hk => .inr hk))⟩
end Go.Proofs
/- A region that draws its order, in a round of a range over a function: it may be walked as anywhere else. Nothing of the program. -/
namespace Go.Proofs
open Go.RowKit

/-- No operation is a defer statement. -/
def noDefer (ops : Array Oper) : Bool := ops.all fun o => match o.op with | .defer _ => false | _ => true
theorem noDefer_at {ops : Array Oper} (h : noDefer ops = true) {i : Nat} {o : Oper} (ho : ops[i]? = some o) : ∀ c, o.op ≠ .defer c := by
  intro c e
  obtain ⟨hi, rfl⟩ := Array.getElem?_eq_some_iff.1 ho
  have := Array.all_eq_true.1 h i hi
  simp only [e] at this
  cases this
theorem semAt_plain {o : Oper} (h : ∀ c, o.op ≠ .defer c) (l : Nat) (ρ : Operand → Value) : o.semAt (some l) ρ = execOp ρ o := by
  unfold Oper.semAt
  split
  · rename_i c _ e; exact absurd e (h c)
  · rfl
section
variable {P : Program} {ops : Array Oper} {Q : Exit → Act → World → Prop} {md : Region.Mode} {S : World → Prop} {l n : Nat}
theorem wpOp_round (hL : ¬ LetsOut Q) (hnd : noDefer ops = true) {i : Nat} {K K' : Act → World → Prop} (hK : ∀ a w, K a w → K' a w) {a : Act} {w : World} (h : wpOp P ops Q i K a w) : wpOpIn (Fence.wide.inRound l) n P ops Q i K' a w := by
  unfold wpOp at h
  unfold wpOpIn
  cases ho : ops[i]? with
  | none => rw [ho] at h; exact hK _ _ h
  | some o =>
    rw [ho] at h
    simp only at h ⊢
    by_cases hw : Region.wanted o (yielded ops a.tmps) = true
    · rw [if_pos hw] at h ⊢
      rcases h with h | h
      · refine ⟨fun _ _ => trivial, ?_⟩
        have e : o.semAt (Fence.wide.inRound l).round a.eval = execOp a.eval o := semAt_plain (noDefer_at hnd ho) l a.eval
        rw [e]
        unfold Oper.wp at h
        generalize (execOp a.eval o).run P w = r at h ⊢
        cases r with
        | ok x w' =>
          cases x with
          | value u => exact hK _ _ h
          | skip => exact hK _ _ h
          | defer d => exact hK _ _ h
          | enter f args =>
            refine ⟨(fun e => absurd (show false = true from e) Bool.false_ne_true), CallsIn.inRound l (callsIn_wide.2 (Calls.mono h ?_))⟩
            intro e w'' he
            cases e with
            | returned v => exact hK _ _ he
            | panicked c => exact he
            | outgrown => exact he
          | row row args => exact ⟨(fun e => absurd (show false = true from e) Bool.false_ne_true), fun c cs _ => let ⟨v, w', r, s⟩ := h c cs; ⟨v, w', hK _ _ r, stepsIn_wide.2 s⟩⟩
          | _ => exact h.elim
        | halt x w' =>
          cases x with
          | panic v => exact h
          | _ => exact h.elim
      · exact absurd h.2 hL
    · rw [if_neg hw] at h ⊢
      exact ⟨fun _ _ => trivial, hK _ _ h⟩
theorem wpAny_round (hL : ¬ LetsOut Q) (hnd : noDefer ops = true) : ∀ (fuel : Nat) (listed : Array Bool) (a : Act) (w : World), wpAny P md ops Q fuel listed a w → wpAnyIn (Fence.wide.inRound l) n P md ops Q fuel listed a w
  | 0, _, _, _, h => h
  | fuel + 1, _, _, _, h => ⟨h.1, fun i hi => wpOp_round hL hnd (fun a w k => wpAny_round hL hnd fuel _ a w k) (h.2 i hi)⟩
theorem region_held_round {id : Nat} {a : Act} {w : World} (hm : P.follows .mixedOrders = true) (hL : ¬ LetsOut Q) (hnd : noDefer ops = true) (hS : S w.drew)
    (h : S w.drew → wpAnyH P .any ops Q S ops.size (Array.replicate ops.size false) a w.drew) : (Code.region id ops true).wpIn (Fence.wide.inRound l) n P Q a w :=
  wpIn_region_any hm (wpAny_round hL hnd _ _ _ _ (wpAny_of_held _ _ _ _ (h hS)))
end
end Go.Proofs
/- The walk of poly.Mul. Conditions: lists of at most a hundred million bytes, no longer than their capacities; a field that Of has made, and lists that do not lie in its table. -/
namespace Go.Proofs
open Go.RowKit Go.Shelf Go.ChangeShapes Go.WideShapes
attribute [local go_sem] Oper.semAt_some
open Pol (IsN Dg ofL Byt)

set_option maxRecDepth 100000 in
set_option maxHeartbeats 4000000 in
theorem pmul_in (D : Nat) (hD : 3 ≤ D) (k B T n c m d : Nat) (q p : Option Addr) (xs ys zs : List Nat) (hz : IsN zs (Pol.mul (ofL xs) (ofL ys))) (hn : n ≤ 100000000) (hm : m ≤ 100000000) (hnc : n ≤ c) (hmd : m ≤ d) (w : World) (h : Fd k B T w) (hx : Bs w q n xs) (hy : Bs w p m ys) (hq : Off T n q) (hp : Off T m p) :
    CallsIn Fence.wide D Tryz.prog 21 #[.pointer (some ⟨B, 0, none⟩), .slice q n c, .slice p m d] w fun e w' => ∃ v, e = .returned v ∧ Ow w' w.heap.size v zs ∧ Fd k B T w' ∧ But (· = T) w w' := by
  obtain ⟨i, hi, hg⟩ := Pol.dg_list xs
  obtain ⟨j, hj, hk⟩ := Pol.dg_list ys
  rw [hx.len] at hi
  rw [hy.len] at hj
  have HN : Hid (IsN (xs.take i) (ofL xs) ∧ IsN (ys.take j) (ofL ys) ∧ (xs.take i).length = i ∧ (ys.take j).length = j) := ⟨Pol.isN_take hx.byt hg, Pol.isN_take hy.byt hk, by rw [List.length_take, hx.len]; omega, by rw [List.length_take, hy.len]; omega⟩
  have HZ : Hid (IsN zs (Pol.mul (ofL xs) (ofL ys))) := hz
  have K1 : Hid (∀ W, Below w.heap.size w W → Calls Tryz.prog 33 #[.slice q n c] W fun e w' => e = .returned (.slice q i c) ∧ Below W.heap.size W w') := fun W hW => pnormal_calls q n c xs i hg hnc W (hx.below hW)
  have K2 : Hid (∀ W, Below w.heap.size w W → Calls Tryz.prog 33 #[.slice p m d] W fun e w' => e = .returned (.slice p j d) ∧ Below W.heap.size W w') := fun W hW => pnormal_calls p m d ys j hk hmd W (hy.below hW)
  have HS : Hid (Bs w q i (xs.take i) ∧ Bs w p j (ys.take j) ∧ Off T i q ∧ Off T j p ∧ Fd k B T w) := ⟨bs_take hx i hi, bs_take hy j hj, hq.le hi, hp.le hj, h⟩
  obtain ⟨us, hus⟩ : ∃ us, xs.take i = us := ⟨_, rfl⟩
  obtain ⟨vs, hvs⟩ : ∃ vs, ys.take j = vs := ⟨_, rfl⟩
  rw [hus] at HN HS
  rw [hvs] at HN HS
  clear hz hg hk hx hy hq hp h hus hvs
  refine callsIn_of_wp_marks Tryz.func21 rfl trivial ?_ rfl
  simp only [Tryz.ntmps21, List.size_toArray, List.length_cons, List.length_nil, Nat.reduceAdd, Nat.reduceSub, Array.replicate_succ, Array.replicate_zero, List.push_toArray, List.append_toArray, List.nil_append, List.cons_append]
  have hfn : ∀ f, Fence.wide.fn f := fun _ => trivial
  have hD1 : 1 ≤ D := by omega
  obtain ⟨R, hR⟩ : ∃ R, w.heap.size = R := ⟨_, rfl⟩
  have hB0 : Below R w (w.alloc (.cells #[.pointer (some ⟨B, 0, none⟩)] 29)) := hR ▸ (Below.refl _ w).alloc (Nat.le_refl _) _
  have hs0 : (w.alloc (.cells #[.pointer (some ⟨B, 0, none⟩)] 29)).heap.size = R + 1 := by rw [← hR]; simp
  have hbx : Boxed (w.alloc (.cells #[.pointer (some ⟨B, 0, none⟩)] 29)) R 29 (.pointer (some ⟨B, 0, none⟩)) := hR ▸ Boxed.new w _ _
  have K3 : Hid (Calls Tryz.prog 33 #[.slice q n c] (w.alloc (.cells #[.pointer (some ⟨B, 0, none⟩)] 29)) fun e w' => e = .returned (.slice q i c) ∧ Hid (Below R w w' ∧ Boxed w' R 29 (.pointer (some ⟨B, 0, none⟩)))) := by
    refine (K1.out _ (hR.symm ▸ hB0)).mono ?_
    rintro e w1 ⟨rfl, hb⟩
    exact ⟨rfl, hB0.trans (hb.mono (by omega)), boxed_below hbx hb⟩
  have K4 : Hid (∀ W, Hid (Below R w W ∧ Boxed W R 29 (.pointer (some ⟨B, 0, none⟩))) → Calls Tryz.prog 33 #[.slice p m d] W fun e w' => e = .returned (.slice p j d) ∧ Hid (Below R w w' ∧ Boxed w' R 29 (.pointer (some ⟨B, 0, none⟩))) ∧ w'.cell? ⟨R, 0, none⟩ = some (.pointer (some ⟨B, 0, none⟩)) ∧ R < w'.heap.size) := fun W hW => by
    refine (K2.out _ (hR.symm ▸ hW.out.1)).mono ?_
    rintro e w1 ⟨rfl, hb⟩
    have hb3 := boxed_below hW.out.2 hb
    exact ⟨rfl, ⟨hW.out.1.trans (hb.mono (by have := hW.out.2.lt; omega)), hb3⟩, hb3.cell, hb3.lt⟩
  clear hB0 hs0 hbx K1 K2
  by_cases h0 : i = 0 ∨ j = 0
  · have e0 : zs = [] := by
      have hz0 := HZ.out
      rcases h0 with h | h
      · rw [(HN.out.1.nil_iff).1 (HN.out.2.2.1.trans h), Pol.zero_mul] at hz0
        exact Pol.isN_zero hz0
      · rw [(HN.out.2.1.nil_iff).1 (HN.out.2.2.2.trans h), Pol.mul_zero] at hz0
        exact Pol.isN_zero hz0
    subst e0
    have HX : Hid (∀ W, Hid (Below R w W ∧ Boxed W R 29 (.pointer (some ⟨B, 0, none⟩))) → ∀ o, Ow (W.alloc o) w.heap.size (.slice none 0 0) [] ∧ Fd k B T (W.alloc o) ∧ But (· = T) w (W.alloc o)) := fun W hW o =>
      ⟨ow_nil _ _, (HS.out.2.2.2.2.below (hR.symm ▸ hW.out.1)).alloc o, (But.of_below (hR.symm ▸ hW.out.1)).alloc o⟩
    rcases Nat.lt_or_ge j i with hij | hij
    · obtain rfl : j = 0 := by omega
      have hij' : (0 : Int) < (i : Int) := by omega
      gi_wp2_with (first
        | (gi_at_call 33; with_reducible refine (callsIn_wide.2 K3.out).mono ?_; rintro e w1 ⟨rfl, H1⟩; clear K3)
        | (gi_at_call 33; refine (callsIn_wide.2 (K4.out w1 H1)).mono ?_; rintro e w2 ⟨rfl, H2, cR, hRw⟩; clear K4))
      refine ⟨_, results_tmp rfl _ _ _, .slice none 0 0, rfl, HX.out w2 H2 _⟩
    · obtain rfl : i = 0 := by omega
      have hij' : ¬ (j : Int) < 0 := by omega
      gi_wp2_with (first
        | (gi_at_call 33; with_reducible refine (callsIn_wide.2 K3.out).mono ?_; rintro e w1 ⟨rfl, H1⟩; clear K3)
        | (gi_at_call 33; refine (callsIn_wide.2 (K4.out w1 H1)).mono ?_; rintro e w2 ⟨rfl, H2, cR, hRw⟩; clear K4))
      all_goals
        refine ⟨_, results_tmp rfl _ _ _, .slice none 0 0, rfl, HX.out w2 H2 _⟩
  · rcases Nat.lt_or_ge j i with hij | hij
    · have hij' : (j : Int) < (i : Int) := by omega
      obtain ⟨L, hL⟩ : ∃ L : Nat, i + j = L + 1 := ⟨i + j - 1, by omega⟩
      have hL1 : (j : Int) + (i : Int) - 1 = (L : Int) := by omega
      have hf0 : ((j : Int) == 0) = false := by simp; omega
      have hmk := make_bytes L (by omega)
      have HE : Hid (mlF vs us (List.replicate L 0) (tmD vs j 0) = zs) := by
        have e1 : Pol.mul (ofL vs) (ofL us) = Pol.mul (ofL xs) (ofL ys) := (HN.out.2.1.eq ▸ HN.out.1.eq ▸ Pol.mul_comm (ofL vs) (ofL us))
        have e2 := mlF_nrm (us := vs) (vs := us) (n := j) (L := L) HN.out.2.1.byt HN.out.1.byt (by have := HN.out.2.2; omega) (by have := HN.out.2.2; omega) HN.out.2.1.nrm HN.out.1.nrm (by omega) (by have := HN.out.2.2; omega)
        exact (e1 ▸ e2).unique HZ.out
      gi_wp2_with (first
        | (gi_at_call 33; with_reducible refine (callsIn_wide.2 K3.out).mono ?_; rintro e w1 ⟨rfl, H1⟩; clear K3)
        | (gi_at_call 33; refine (callsIn_wide.2 (K4.out w1 H1)).mono ?_; rintro e w2 ⟨rfl, H2, cR, hRw⟩; clear K4)
        | (gi_at_call 31; refine (terms_calls (D - 1) p j d _).mono ?_; rintro e w' ⟨rfl, rfl⟩))
      obtain ⟨M, hM⟩ : ∃ M, w2.heap.size = M := ⟨_, rfl⟩
      obtain ⟨W0, hW0⟩ : ∃ W0, ((((w2.alloc (.cells #[.slice q i c] 22)).alloc (.cells (madeCells #[.int .u8 0] L) 5)).alloc (.cells #[.slice (some ⟨M + 1, 0, none⟩) L L] 22)).alloc (.cells #[.slice p j d] 22)) = W0 := ⟨_, rfl⟩
      have hs0 : W0.heap.size = M + 1 + 1 + 1 + 1 := by rw [← hW0, ← hM]; simp
      have hb0 : Below w2.heap.size w2 W0 := by
        rw [← hW0]; exact ((((Below.refl _ w2).alloc (Nat.le_refl _) _).alloc (by simp) _).alloc (by simp; omega) _).alloc (by simp; omega) _
      have hFd := HS.out.2.2.2.2
      have hT : T < R := hR ▸ hFd.lt
      have hB : B < R := hR ▸ hFd.blt
      have i0 : MI R M k B T L w (.slice q i c) (List.replicate L 0) W0 := by
        refine ⟨boxed_below H2.out.2 hb0, ?_, ?_, ?_, (hFd.below (hR.symm ▸ H2.out.1)).below hb0, (But.of_below (hR.symm ▸ H2.out.1)).trans (But.of_below hb0)⟩
        · rw [← hW0, ← hM]; exact ((Boxed.new w2 _ _).alloc _).alloc _ |>.alloc _
        · rw [← hW0]
          have e := (Boxed.new ((w2.alloc (.cells #[.slice q i c] 22)).alloc (.cells (madeCells #[.int .u8 0] L) 5)) 22 (.slice (some ⟨M + 1, 0, none⟩) L L)).alloc (.cells #[.slice p j d] 22)
          simpa [hM] using e
        · rw [← hW0]
          have e := ((ow_made (w2.alloc (.cells #[.slice q i c] 22)) (base := R) (by simp; omega) L (by omega)).alloc (.cells #[.slice (some ⟨M + 1, 0, none⟩) L L] 22)).alloc (.cells #[.slice p j d] 22)
          simpa [hM] using e
      have i3 : W0.cell? ⟨M + 1 + 1 + 1, 0, none⟩ = some (.slice p j d) := by
        rw [← hW0]
        have e := (Boxed.new (((w2.alloc (.cells #[.slice q i c] 22)).alloc (.cells (madeCells #[.int .u8 0] L) 5)).alloc (.cells #[.slice (some ⟨M + 1, 0, none⟩) L L] 22)) 22 (.slice p j d)).cell
        simpa [hM] using e
      have HF : Hid (Bs w p j vs ∧ Off T j p ∧ Bs w q i us ∧ Off T i q) := ⟨HS.out.2.1, HS.out.2.2.2.1, HS.out.1, HS.out.2.2.1⟩
      have i4 : Bs W0 p j vs := (HF.out.1.below (hR.symm ▸ H2.out.1)).below hb0
      have hRM : R < M := by omega
      rw [hM, hW0]
      rename_i Q1 K' hK'
      refine wpIn_mono (Q := fun e a W => e = .normal ∧ ∃ D', W0.heap.size ≤ D' ∧ a = { tmps := #[.pointer (some ⟨B, 0, none⟩), .slice q n c, .slice p m d, .pointer (some ⟨R, 0, none⟩), undef, undef, .slice none 0 0, .slice p j d, .pointer (some ⟨M, 0, none⟩), .pointer (some ⟨M + 1 + 1, 0, none⟩), undef, undef, .slice q n c, .slice q i c, .slice p m d, .slice p j d, .slice q i c, .int .i64 (i : Int), .slice p j d, .int .i64 (j : Int), .bool true, .slice p j d, .slice q i c, .pointer (some ⟨B, 0, none⟩), .bool false, .bool false, .slice p j d, .int .i64 (j : Int), .bool false, .bool false, .slice p j d, .int .i64 (j : Int), .slice q i c, .int .i64 (i : Int), .int .i64 ((j : Int) + (i : Int)), .int .i64 (L : Int), .slice (some ⟨M + 1, 0, none⟩) L L, .slice p j d, .func (.func 55) #[] #[.pointer (some ⟨M + 1 + 1 + 1, 0, none⟩)], undef, undef, undef, undef, undef, undef, undef, undef, undef, undef, undef, undef], defers := [{ target := .collected D', args := #[] }] } ∧
          MI R M k B T L w (.slice q i c) (mlF vs us (List.replicate L 0) (tmD vs j 0)) W ∧ W.heap[D']? = some (.deferred (some []))) ?_ ?_
      · clear hK'
        clear K' Q1
        refine wpIn_rangeFunc_ownG rfl hD1 (gf := 55) (lb := #[.pointer (some ⟨M + 1 + 1 + 1, 0, none⟩)]) rfl trivial (enters_of Tryz.func55 (by kernel_rfl) rfl)
          (terms1_stops (D - 1) (by omega) (M + 1 + 1 + 1) p j d vs _ (by omega) i3 i4) keepsP_t (fun W l o o' _ h1 h2 _ => keepsP_b W l o o' h1 h2) (Below.refl _ _) (fun _ => rfl)
          (fun pre W => MI R M k B T L w (.slice q i c) (mlF vs us (List.replicate L 0) pre) W)
          (fun _ _ _ => False)
          (mi_own _ (by omega) (by omega) (by omega))
          (fun _ _ _ _ _ hs _ _ => hs)
          i0
          (fun x => { tmps := #[.pointer (some ⟨B, 0, none⟩), .slice q n c, .slice p m d, .pointer (some ⟨R, 0, none⟩), undef, undef, .slice none 0 0, .slice p j d, .pointer (some ⟨M, 0, none⟩), .pointer (some ⟨M + 1 + 1, 0, none⟩), .int .i64 ((x.1 : Nat) : Int), .int .u8 ((vs.getD x.1 0 : Nat) : Int), .slice q n c, .slice q i c, .slice p m d, .slice p j d, .slice q i c, .int .i64 (i : Int), .slice p j d, .int .i64 (j : Int), .bool true, .slice p j d, .slice q i c, .pointer (some ⟨B, 0, none⟩), .bool false, .bool false, .slice p j d, .int .i64 (j : Int), .bool false, .bool false, .slice p j d, .int .i64 (j : Int), .slice q i c, .int .i64 (i : Int), .int .i64 ((j : Int) + (i : Int)), .int .i64 (L : Int), .slice (some ⟨M + 1, 0, none⟩) L L, .slice p j d, .func (.func 55) #[] #[.pointer (some ⟨M + 1 + 1 + 1, 0, none⟩)], .int .i64 ((x.1 : Nat) : Int), .int .u8 ((vs.getD x.1 0 : Nat) : Int), undef, undef, undef, undef, undef, undef, undef, undef, undef, undef], defers := [] }) ?assign ?body ?done ?stop
        case assign =>
          intro l x W K hK
          obtain ⟨i', hi'⟩ := x
          dsimp only [tmv] at hK ⊢
          obtain ⟨b, hb⟩ : ∃ b, vs.getD i' 0 = b := ⟨_, rfl⟩
          rw [hb] at hK ⊢
          gi_wp2
          exact hK
        case body =>
          rintro l pre x W hI _
          clear i0 i3 i4 hb0
          obtain ⟨t, ht⟩ := x
          dsimp only
          have hbb : vs.getD t 0 < 256 := HF.out.1.byt t
          have hsn := mlF_snoc vs us (List.replicate L 0) pre ⟨t, ht⟩
          dsimp only at hsn
          have hAb := mlF_byt (vs := us) HF.out.1.byt (Pol.byt_rep L) pre
          have hAl : (mlF vs us (List.replicate L 0) pre).length = L := by rw [mlF_length, List.length_replicate]
          obtain ⟨A, hA⟩ : ∃ A, mlF vs us (List.replicate L 0) pre = A := ⟨_, rfl⟩
          obtain ⟨b, hb⟩ : ∃ b, vs.getD t 0 = b := ⟨_, rfl⟩
          rw [hA] at hI hsn hAb hAl
          rw [hb] at hsn hbb ⊢
          have KE := mul_round R M k B T L w q i c A us W b t hR hRM hT hB hI HF.out.2.2.1 HF.out.2.2.2 hbb (by omega) hAb hAl (by omega) (by omega)
          have c1 := hI.bf.cell
          have c2 := hI.bm.cell
          have c3 := hI.bp.cell
          have hne : ¬ L = t := by omega
          have hle : (t : Int) ≤ (L : Int) := by omega
          have HP : Hid (mlF vs us (List.replicate L 0) (pre ++ [⟨t, ht⟩]) = addL t A (us.map (Gf.mul b))) := hsn
          have hmx : Tryz.prog.follows .mixedOrders = true := by kernel_rfl
          have hd : 1 ≤ D - 1 - 1 := by omega
          clear hsn hI hA hb hAb hAl
          gi_wp2
          refine wpIn_mono (Q := fun e _ W' => e = .normal ∧ Hid (MI R M k B T L w (.slice q i c) (addL t A (us.map (Gf.mul b))) W' ∧ But (fun k => k = T ∨ k = M + 1) W W')) ?_ ?_
          · have hS : W.drew.cell? ⟨R, 0, none⟩ = some (.pointer (some ⟨B, 0, none⟩)) ∧ W.drew.cell? ⟨M, 0, none⟩ = some (.slice q i c) ∧ W.drew.cell? ⟨M + 1 + 1, 0, none⟩ = some (.slice (some ⟨M + 1, 0, none⟩) L L) := ⟨c1, c2, c3⟩
            refine region_held_round (S := fun w' => w'.cell? ⟨R, 0, none⟩ = some (.pointer (some ⟨B, 0, none⟩)) ∧ w'.cell? ⟨M, 0, none⟩ = some (.slice q i c) ∧ w'.cell? ⟨M + 1 + 1, 0, none⟩ = some (.slice (some ⟨M + 1, 0, none⟩) L L)) hmx (fun ⟨_, _, e, _⟩ => by cases e) (by kernel_rfl) hS (fun hS => ?_)
            refine wpAnyH_take (i := 0) (v := .slice (some ⟨M + 1, 0, none⟩) L L) rfl (by kernel_rfl) (by kernel_rfl) (by kernel_rfl) (fun _ _ _ h => by cases h.1) (Or.inl ⟨by rfl, ?_⟩) hS ?_
            · intro w' ⟨_, _, h3⟩
              go_simp
            (try dsimp only [Act.put])
            refine wpAnyH_take (i := 1) (v := .int .i64 (t : Int)) rfl (by kernel_rfl) (by kernel_rfl) (by kernel_rfl) (fun _ _ _ h => by cases h.1) (Or.inl ⟨by rfl, ?_⟩) hS ?_
            · intro w' _
              go_simp
            (try dsimp only [Act.put])
            refine wpAnyH_take (i := 2) (v := .slice (some ⟨M + 1, t, none⟩) (L - t) (L - t)) rfl (by kernel_rfl) (by kernel_rfl) (by kernel_rfl) (fun _ _ _ h => by cases h.1) (Or.inl ⟨by rfl, ?_⟩) hS ?_
            · intro w' _
              go_simp
            (try dsimp only [Act.put])
            refine wpAnyH_take (i := 3) (v := .pointer (some ⟨B, 0, none⟩)) rfl (by kernel_rfl) (by kernel_rfl) (by kernel_rfl) (fun _ _ _ h => by cases h.1) (Or.inl ⟨by rfl, ?_⟩) hS ?_
            · intro w' ⟨h1, _, _⟩
              go_simp
            (try dsimp only [Act.put])
            refine wpAnyH_take (i := 4) (v := .int .u8 (b : Int)) rfl (by kernel_rfl) (by kernel_rfl) (by kernel_rfl) (fun _ _ _ h => by cases h.1) (Or.inl ⟨by rfl, ?_⟩) hS ?_
            · intro w' _
              go_simp
            (try dsimp only [Act.put])
            refine wpAnyH_take (i := 5) (v := .slice q i c) rfl (by kernel_rfl) (by kernel_rfl) (by kernel_rfl) (fun _ _ _ h => by cases h.1) (Or.inl ⟨by rfl, ?_⟩) hS ?_
            · intro w' ⟨_, h2, _⟩
              go_simp
            (try dsimp only [Act.put])
            refine wpAnyH_ready (rs := [6]) (by kernel_rfl) (by simp) ?_
            refine AllReadyH.cons rfl (fun K hK => ?_) AllReadyH.nil
            go_simp
            refine KE.mono ?_
            rintro e' w1 ⟨qe, ce, rfl, c4, KA⟩
            refine hK.out _ _ c4 (fun _ => ?_)
            clear hK K
            (try dsimp only [Act.put])
            refine wpAnyH_ready (rs := [7]) (by kernel_rfl) (by simp) ?_
            refine AllReadyH.cons rfl (fun K hK => ?_) AllReadyH.nil
            go_simp
            refine hK.out _ _ ⟨cell_alloc_l _ c4.1, cell_alloc_l _ c4.2.1, cell_alloc_l _ c4.2.2⟩ (fun _ => ?_)
            clear hK K
            (try dsimp only [Act.put])
            refine wpAnyH_ready (rs := [8]) (by kernel_rfl) (by simp) ?_
            refine AllReadyH.cons rfl (fun K hK => ?_) AllReadyH.nil
            go_simp
            refine KA.out.mono ?_
            rintro e' w3 ⟨⟨v3, rfl⟩, HQ⟩
            refine hK.out _ _ ⟨HQ.out.1.bf.cell, HQ.out.1.bm.cell, HQ.out.1.bp.cell⟩ (fun _ => ?_)
            exact wpAnyH_done (by kernel_rfl) ⟨rfl, HQ⟩ _
          · rintro e a W' ⟨rfl, HQ⟩
            refine ⟨keepsFrom_but HQ.out.2 (fun k hk => by omega), keepsP_but HQ.out.2 (by omega) (fun h1 a e hk => ?_), ?_⟩
            · rcases hk with hk | hk
              · exact HF.out.2.1 h1 a e hk
              · obtain ⟨a', e', hl', _⟩ := HF.out.1.cell 0 h1
                obtain rfl : a' = a := Option.some.inj (e'.symm.trans e)
                omega
            · show MI R M k B T L w (.slice q i c) (mlF vs us (List.replicate L 0) (pre ++ [⟨t, ht⟩])) W'
              rw [HP.out]; exact HQ.out.1
        case done =>
          rintro D' ys' W hD' rfl hI hK
          exact ⟨rfl, D', hD', rfl, hI, hK⟩
        case stop =>
          rintro D' c' pre W _ _ h _
          exact h.elim
      · rintro e a W ⟨rfl, D', hD', rfl, hI, hK⟩
        rw [HE.out] at hI
        have cP := hI.bp.cell
        have hg := grownBy_putObj' W D' (.deferred none)
        have hb1 : But (· = D') W (W.putObj D' (.deferred none)) := ⟨hg.os, hg.tape, hg.output, hg.size, fun k hk hs => hg.block k hk (fun e => by cases e; exact hs rfl)⟩
        have HW : Hid (Ow (W.putObj D' (.deferred none)) R (.slice (some ⟨M + 1, 0, none⟩) L L) zs ∧ Fd k B T (W.putObj D' (.deferred none)) ∧ But (· = T) w (W.putObj D' (.deferred none))) :=
          ⟨hI.ow.block (fun k hk => by cases hk; exact hb1.block (M + 1) (by have := hI.bp.lt; omega) (by omega)), hI.fd.but hb1 (by omega) (by omega), hI.but.past hb1 (fun k hk => by omega)⟩
        clear hI hb1 hg
        refine hK' _ _ ?_
        clear hK'
        clear K'
        gi_wp2
        refine ⟨by simp, .inl ⟨_, _, rfl, run_takeDeferred hK, ?_⟩⟩
        rw [hR]
        exact ⟨_, results_tmp rfl _ _ _, .slice (some ⟨M + 1, 0, none⟩) L L, rfl, HW.out⟩
    · have hij' : (i : Int) ≤ (j : Int) := by omega
      obtain ⟨L, hL⟩ : ∃ L : Nat, i + j = L + 1 := ⟨i + j - 1, by omega⟩
      have hL1 : (i : Int) + (j : Int) - 1 = (L : Int) := by omega
      have hf0 : ((i : Int) == 0) = false := by simp; omega
      have hmk := make_bytes L (by omega)
      have HE : Hid (mlF us vs (List.replicate L 0) (tmD us i 0) = zs) := by
        have e1 : Pol.mul (ofL us) (ofL vs) = Pol.mul (ofL xs) (ofL ys) := (HN.out.2.1.eq ▸ HN.out.1.eq ▸ rfl)
        have e2 := mlF_nrm (us := us) (vs := vs) (n := i) (L := L) HN.out.1.byt HN.out.2.1.byt (by have := HN.out.2.2; omega) (by have := HN.out.2.2; omega) HN.out.1.nrm HN.out.2.1.nrm (by omega) (by have := HN.out.2.2; omega)
        exact (e1 ▸ e2).unique HZ.out
      gi_wp2_with (first
        | (gi_at_call 33; with_reducible refine (callsIn_wide.2 K3.out).mono ?_; rintro e w1 ⟨rfl, H1⟩; clear K3)
        | (gi_at_call 33; refine (callsIn_wide.2 (K4.out w1 H1)).mono ?_; rintro e w2 ⟨rfl, H2, cR, hRw⟩; clear K4)
        | (gi_at_call 31; refine (terms_calls (D - 1) q i c _).mono ?_; rintro e w' ⟨rfl, rfl⟩))
      obtain ⟨M, hM⟩ : ∃ M, w2.heap.size = M := ⟨_, rfl⟩
      obtain ⟨W0, hW0⟩ : ∃ W0, ((((w2.alloc (.cells #[.slice p j d] 22)).alloc (.cells (madeCells #[.int .u8 0] L) 5)).alloc (.cells #[.slice (some ⟨M + 1, 0, none⟩) L L] 22)).alloc (.cells #[.slice q i c] 22)) = W0 := ⟨_, rfl⟩
      have hs0 : W0.heap.size = M + 1 + 1 + 1 + 1 := by rw [← hW0, ← hM]; simp
      have hb0 : Below w2.heap.size w2 W0 := by
        rw [← hW0]; exact ((((Below.refl _ w2).alloc (Nat.le_refl _) _).alloc (by simp) _).alloc (by simp; omega) _).alloc (by simp; omega) _
      have hFd := HS.out.2.2.2.2
      have hT : T < R := hR ▸ hFd.lt
      have hB : B < R := hR ▸ hFd.blt
      have i0 : MI R M k B T L w (.slice p j d) (List.replicate L 0) W0 := by
        refine ⟨boxed_below H2.out.2 hb0, ?_, ?_, ?_, (hFd.below (hR.symm ▸ H2.out.1)).below hb0, (But.of_below (hR.symm ▸ H2.out.1)).trans (But.of_below hb0)⟩
        · rw [← hW0, ← hM]; exact ((Boxed.new w2 _ _).alloc _).alloc _ |>.alloc _
        · rw [← hW0]
          have e := (Boxed.new ((w2.alloc (.cells #[.slice p j d] 22)).alloc (.cells (madeCells #[.int .u8 0] L) 5)) 22 (.slice (some ⟨M + 1, 0, none⟩) L L)).alloc (.cells #[.slice q i c] 22)
          simpa [hM] using e
        · rw [← hW0]
          have e := ((ow_made (w2.alloc (.cells #[.slice p j d] 22)) (base := R) (by simp; omega) L (by omega)).alloc (.cells #[.slice (some ⟨M + 1, 0, none⟩) L L] 22)).alloc (.cells #[.slice q i c] 22)
          simpa [hM] using e
      have i3 : W0.cell? ⟨M + 1 + 1 + 1, 0, none⟩ = some (.slice q i c) := by
        rw [← hW0]
        have e := (Boxed.new (((w2.alloc (.cells #[.slice p j d] 22)).alloc (.cells (madeCells #[.int .u8 0] L) 5)).alloc (.cells #[.slice (some ⟨M + 1, 0, none⟩) L L] 22)) 22 (.slice q i c)).cell
        simpa [hM] using e
      have HF : Hid (Bs w q i us ∧ Off T i q ∧ Bs w p j vs ∧ Off T j p) := ⟨HS.out.1, HS.out.2.2.1, HS.out.2.1, HS.out.2.2.2.1⟩
      have i4 : Bs W0 q i us := (HF.out.1.below (hR.symm ▸ H2.out.1)).below hb0
      have hRM : R < M := by omega
      rw [hM, hW0]
      rename_i Q1 K' hK'
      refine wpIn_mono (Q := fun e a W => e = .normal ∧ ∃ D', W0.heap.size ≤ D' ∧ a = { tmps := #[.pointer (some ⟨B, 0, none⟩), .slice q n c, .slice p m d, .pointer (some ⟨R, 0, none⟩), undef, undef, .slice none 0 0, .slice q i c, .pointer (some ⟨M, 0, none⟩), .pointer (some ⟨M + 1 + 1, 0, none⟩), undef, undef, .slice q n c, .slice q i c, .slice p m d, .slice p j d, .slice q i c, .int .i64 (i : Int), .slice p j d, .int .i64 (j : Int), .bool false, undef, undef, .pointer (some ⟨B, 0, none⟩), .bool false, .bool false, .slice q i c, .int .i64 (i : Int), .bool false, .bool false, .slice q i c, .int .i64 (i : Int), .slice p j d, .int .i64 (j : Int), .int .i64 ((i : Int) + (j : Int)), .int .i64 (L : Int), .slice (some ⟨M + 1, 0, none⟩) L L, .slice q i c, .func (.func 55) #[] #[.pointer (some ⟨M + 1 + 1 + 1, 0, none⟩)], undef, undef, undef, undef, undef, undef, undef, undef, undef, undef, undef, undef], defers := [{ target := .collected D', args := #[] }] } ∧
          MI R M k B T L w (.slice p j d) (mlF us vs (List.replicate L 0) (tmD us i 0)) W ∧ W.heap[D']? = some (.deferred (some []))) ?_ ?_
      · clear hK'
        clear K' Q1
        refine wpIn_rangeFunc_ownG rfl hD1 (gf := 55) (lb := #[.pointer (some ⟨M + 1 + 1 + 1, 0, none⟩)]) rfl trivial (enters_of Tryz.func55 (by kernel_rfl) rfl)
          (terms1_stops (D - 1) (by omega) (M + 1 + 1 + 1) q i c us _ (by omega) i3 i4) keepsP_t (fun W l o o' _ h1 h2 _ => keepsP_b W l o o' h1 h2) (Below.refl _ _) (fun _ => rfl)
          (fun pre W => MI R M k B T L w (.slice p j d) (mlF us vs (List.replicate L 0) pre) W)
          (fun _ _ _ => False)
          (mi_own _ (by omega) (by omega) (by omega))
          (fun _ _ _ _ _ hs _ _ => hs)
          i0
          (fun x => { tmps := #[.pointer (some ⟨B, 0, none⟩), .slice q n c, .slice p m d, .pointer (some ⟨R, 0, none⟩), undef, undef, .slice none 0 0, .slice q i c, .pointer (some ⟨M, 0, none⟩), .pointer (some ⟨M + 1 + 1, 0, none⟩), .int .i64 ((x.1 : Nat) : Int), .int .u8 ((us.getD x.1 0 : Nat) : Int), .slice q n c, .slice q i c, .slice p m d, .slice p j d, .slice q i c, .int .i64 (i : Int), .slice p j d, .int .i64 (j : Int), .bool false, undef, undef, .pointer (some ⟨B, 0, none⟩), .bool false, .bool false, .slice q i c, .int .i64 (i : Int), .bool false, .bool false, .slice q i c, .int .i64 (i : Int), .slice p j d, .int .i64 (j : Int), .int .i64 ((i : Int) + (j : Int)), .int .i64 (L : Int), .slice (some ⟨M + 1, 0, none⟩) L L, .slice q i c, .func (.func 55) #[] #[.pointer (some ⟨M + 1 + 1 + 1, 0, none⟩)], .int .i64 ((x.1 : Nat) : Int), .int .u8 ((us.getD x.1 0 : Nat) : Int), undef, undef, undef, undef, undef, undef, undef, undef, undef, undef], defers := [] }) ?assign ?body ?done ?stop
        case assign =>
          intro l x W K hK
          obtain ⟨i', hi'⟩ := x
          dsimp only [tmv] at hK ⊢
          obtain ⟨b, hb⟩ : ∃ b, us.getD i' 0 = b := ⟨_, rfl⟩
          rw [hb] at hK ⊢
          gi_wp2
          exact hK
        case body =>
          rintro l pre x W hI _
          clear i0 i3 i4 hb0
          obtain ⟨t, ht⟩ := x
          dsimp only
          have hbb : us.getD t 0 < 256 := HF.out.1.byt t
          have hsn := mlF_snoc us vs (List.replicate L 0) pre ⟨t, ht⟩
          dsimp only at hsn
          have hAb := mlF_byt (vs := vs) HF.out.1.byt (Pol.byt_rep L) pre
          have hAl : (mlF us vs (List.replicate L 0) pre).length = L := by rw [mlF_length, List.length_replicate]
          obtain ⟨A, hA⟩ : ∃ A, mlF us vs (List.replicate L 0) pre = A := ⟨_, rfl⟩
          obtain ⟨b, hb⟩ : ∃ b, us.getD t 0 = b := ⟨_, rfl⟩
          rw [hA] at hI hsn hAb hAl
          rw [hb] at hsn hbb ⊢
          have KE := mul_round R M k B T L w p j d A vs W b t hR hRM hT hB hI HF.out.2.2.1 HF.out.2.2.2 hbb (by omega) hAb hAl (by omega) (by omega)
          have c1 := hI.bf.cell
          have c2 := hI.bm.cell
          have c3 := hI.bp.cell
          have hne : ¬ L = t := by omega
          have hle : (t : Int) ≤ (L : Int) := by omega
          have HP : Hid (mlF us vs (List.replicate L 0) (pre ++ [⟨t, ht⟩]) = addL t A (vs.map (Gf.mul b))) := hsn
          have hmx : Tryz.prog.follows .mixedOrders = true := by kernel_rfl
          have hd : 1 ≤ D - 1 - 1 := by omega
          clear hsn hI hA hb hAb hAl
          gi_wp2
          refine wpIn_mono (Q := fun e _ W' => e = .normal ∧ Hid (MI R M k B T L w (.slice p j d) (addL t A (vs.map (Gf.mul b))) W' ∧ But (fun k => k = T ∨ k = M + 1) W W')) ?_ ?_
          · have hS : W.drew.cell? ⟨R, 0, none⟩ = some (.pointer (some ⟨B, 0, none⟩)) ∧ W.drew.cell? ⟨M, 0, none⟩ = some (.slice p j d) ∧ W.drew.cell? ⟨M + 1 + 1, 0, none⟩ = some (.slice (some ⟨M + 1, 0, none⟩) L L) := ⟨c1, c2, c3⟩
            refine region_held_round (S := fun w' => w'.cell? ⟨R, 0, none⟩ = some (.pointer (some ⟨B, 0, none⟩)) ∧ w'.cell? ⟨M, 0, none⟩ = some (.slice p j d) ∧ w'.cell? ⟨M + 1 + 1, 0, none⟩ = some (.slice (some ⟨M + 1, 0, none⟩) L L)) hmx (fun ⟨_, _, e, _⟩ => by cases e) (by kernel_rfl) hS (fun hS => ?_)
            refine wpAnyH_take (i := 0) (v := .slice (some ⟨M + 1, 0, none⟩) L L) rfl (by kernel_rfl) (by kernel_rfl) (by kernel_rfl) (fun _ _ _ h => by cases h.1) (Or.inl ⟨by rfl, ?_⟩) hS ?_
            · intro w' ⟨_, _, h3⟩
              go_simp
            (try dsimp only [Act.put])
            refine wpAnyH_take (i := 1) (v := .int .i64 (t : Int)) rfl (by kernel_rfl) (by kernel_rfl) (by kernel_rfl) (fun _ _ _ h => by cases h.1) (Or.inl ⟨by rfl, ?_⟩) hS ?_
            · intro w' _
              go_simp
            (try dsimp only [Act.put])
            refine wpAnyH_take (i := 2) (v := .slice (some ⟨M + 1, t, none⟩) (L - t) (L - t)) rfl (by kernel_rfl) (by kernel_rfl) (by kernel_rfl) (fun _ _ _ h => by cases h.1) (Or.inl ⟨by rfl, ?_⟩) hS ?_
            · intro w' _
              go_simp
            (try dsimp only [Act.put])
            refine wpAnyH_take (i := 3) (v := .pointer (some ⟨B, 0, none⟩)) rfl (by kernel_rfl) (by kernel_rfl) (by kernel_rfl) (fun _ _ _ h => by cases h.1) (Or.inl ⟨by rfl, ?_⟩) hS ?_
            · intro w' ⟨h1, _, _⟩
              go_simp
            (try dsimp only [Act.put])
            refine wpAnyH_take (i := 4) (v := .int .u8 (b : Int)) rfl (by kernel_rfl) (by kernel_rfl) (by kernel_rfl) (fun _ _ _ h => by cases h.1) (Or.inl ⟨by rfl, ?_⟩) hS ?_
            · intro w' _
              go_simp
            (try dsimp only [Act.put])
            refine wpAnyH_take (i := 5) (v := .slice p j d) rfl (by kernel_rfl) (by kernel_rfl) (by kernel_rfl) (fun _ _ _ h => by cases h.1) (Or.inl ⟨by rfl, ?_⟩) hS ?_
            · intro w' ⟨_, h2, _⟩
              go_simp
            (try dsimp only [Act.put])
            refine wpAnyH_ready (rs := [6]) (by kernel_rfl) (by simp) ?_
            refine AllReadyH.cons rfl (fun K hK => ?_) AllReadyH.nil
            go_simp
            refine KE.mono ?_
            rintro e' w1 ⟨qe, ce, rfl, c4, KA⟩
            refine hK.out _ _ c4 (fun _ => ?_)
            clear hK K
            (try dsimp only [Act.put])
            refine wpAnyH_ready (rs := [7]) (by kernel_rfl) (by simp) ?_
            refine AllReadyH.cons rfl (fun K hK => ?_) AllReadyH.nil
            go_simp
            refine hK.out _ _ ⟨cell_alloc_l _ c4.1, cell_alloc_l _ c4.2.1, cell_alloc_l _ c4.2.2⟩ (fun _ => ?_)
            clear hK K
            (try dsimp only [Act.put])
            refine wpAnyH_ready (rs := [8]) (by kernel_rfl) (by simp) ?_
            refine AllReadyH.cons rfl (fun K hK => ?_) AllReadyH.nil
            go_simp
            refine KA.out.mono ?_
            rintro e' w3 ⟨⟨v3, rfl⟩, HQ⟩
            refine hK.out _ _ ⟨HQ.out.1.bf.cell, HQ.out.1.bm.cell, HQ.out.1.bp.cell⟩ (fun _ => ?_)
            exact wpAnyH_done (by kernel_rfl) ⟨rfl, HQ⟩ _
          · rintro e a W' ⟨rfl, HQ⟩
            refine ⟨keepsFrom_but HQ.out.2 (fun k hk => by omega), keepsP_but HQ.out.2 (by omega) (fun h1 a e hk => ?_), ?_⟩
            · rcases hk with hk | hk
              · exact HF.out.2.1 h1 a e hk
              · obtain ⟨a', e', hl', _⟩ := HF.out.1.cell 0 h1
                obtain rfl : a' = a := Option.some.inj (e'.symm.trans e)
                omega
            · show MI R M k B T L w (.slice p j d) (mlF us vs (List.replicate L 0) (pre ++ [⟨t, ht⟩])) W'
              rw [HP.out]; exact HQ.out.1
        case done =>
          rintro D' ys' W hD' rfl hI hK
          exact ⟨rfl, D', hD', rfl, hI, hK⟩
        case stop =>
          rintro D' c' pre W _ _ h _
          exact h.elim
      · rintro e a W ⟨rfl, D', hD', rfl, hI, hK⟩
        rw [HE.out] at hI
        have cP := hI.bp.cell
        have hg := grownBy_putObj' W D' (.deferred none)
        have hb1 : But (· = D') W (W.putObj D' (.deferred none)) := ⟨hg.os, hg.tape, hg.output, hg.size, fun k hk hs => hg.block k hk (fun e => by cases e; exact hs rfl)⟩
        have HW : Hid (Ow (W.putObj D' (.deferred none)) R (.slice (some ⟨M + 1, 0, none⟩) L L) zs ∧ Fd k B T (W.putObj D' (.deferred none)) ∧ But (· = T) w (W.putObj D' (.deferred none))) :=
          ⟨hI.ow.block (fun k hk => by cases hk; exact hb1.block (M + 1) (by have := hI.bp.lt; omega) (by omega)), hI.fd.but hb1 (by omega) (by omega), hI.but.past hb1 (fun k hk => by omega)⟩
        clear hI hb1 hg
        refine hK' _ _ ?_
        clear hK'
        clear K'
        gi_wp2
        refine ⟨by simp, .inl ⟨_, _, rfl, run_takeDeferred hK, ?_⟩⟩
        rw [hR]
        exact ⟨_, results_tmp rfl _ _ _, .slice (some ⟨M + 1, 0, none⟩) L L, rfl, HW.out⟩
theorem pmul_calls (k B T n c m d : Nat) (q p : Option Addr) (xs ys zs : List Nat) (hz : IsN zs (Pol.mul (ofL xs) (ofL ys))) (hn : n ≤ 100000000) (hm : m ≤ 100000000) (hnc : n ≤ c) (hmd : m ≤ d) (w : World) (h : Fd k B T w) (hx : Bs w q n xs) (hy : Bs w p m ys) (hq : Off T n q) (hp : Off T m p) :
    Calls Tryz.prog 21 #[.pointer (some ⟨B, 0, none⟩), .slice q n c, .slice p m d] w fun e w' => ∃ v, e = .returned v ∧ Ow w' w.heap.size v zs ∧ Fd k B T w' ∧ But (· = T) w w' :=
  (callsIn_wide (n := 3)).1 (pmul_in 3 (by omega) k B T n c m d q p xs ys zs hz hn hm hnc hmd w h hx hy hq hp)
end Go.Proofs
/- A world that calls of a field have come to, and a list that is told, apart from the field's table. Nothing is walked. -/
namespace Go.Proofs
open Go.RowKit Go.ChangeShapes Go.WideShapes
open Pol (Byt)

/-- A world that calls of a field have come to. -/
structure Tw (k B T : Nat) (w W : World) : Prop where
  fd : Fd k B T W
  but : But (· = T) w W
theorem Tw.below {k B T : Nat} {w W W' : World} (h : Tw k B T w W) (hb : Below W.heap.size W W') : Tw k B T w W' := ⟨h.fd.below hb, h.but.trans (But.of_below hb)⟩
theorem Tw.next {k B T : Nat} {w W W' : World} (h : Tw k B T w W) (hF : Fd k B T W') (hb : But (· = T) W W') : Tw k B T w W' := ⟨hF, h.but.trans hb⟩
/-- A list that is told, apart from T. -/
structure Tl (W : World) (T : Nat) (q : Option Addr) (n c : Nat) (xs : List Nat) : Prop where
  bs : Bs W q n xs
  le : n ≤ c
  off : Off T n q
theorem Tl.but {W W' : World} {T n c : Nat} {q : Option Addr} {xs : List Nat} (h : Tl W T q n c xs) (hb : But (· = T) W W') : Tl W' T q n c xs := ⟨h.bs.but hb h.off, h.le, h.off⟩
theorem Tl.below {W W' : World} {T n c : Nat} {q : Option Addr} {xs : List Nat} (h : Tl W T q n c xs) (hb : Below W.heap.size W W') : Tl W' T q n c xs := ⟨h.bs.below hb, h.le, h.off⟩
theorem Ow.tl {W : World} {base T n : Nat} {v : Value} {xs : List Nat} (h : Ow W base v xs) (hT : T < base) (hx : Byt xs) (hn : xs.length = n) : ∃ q c, v = .slice q n c ∧ Tl W T q n c xs := by
  obtain ⟨q, c, e, S, C, Q⟩ := h.tell hx hn
  exact ⟨q, c, e, S, C, Q T hT⟩
end Go.Proofs
/- 'append(xs, make([]byte, z)...)' of a slice that is owned: noughts behind it. Conditions: bounds on lengths. -/
namespace Go.Proofs
open Go.RowKit

end Go.Proofs
/- make([]byte, n), read. Condition: a bound on n. -/
namespace Go.Proofs
open Go.RowKit
/-- A list of one byte, of its own. -/
theorem ow_one (W : World) {base : Nat} (hb : base ≤ W.heap.size) (x : Nat) : Ow (W.alloc (.cells #[.int .u8 (x : Nat)] 5)) base (.slice (some ⟨W.heap.size, 0, none⟩) 1 1) [x] := by
  have h := World.ownsRow_lit (base := base) (e := 5) (size := 1) W #[.int .u8 (x : Nat)] 1 hb (by unfold maxLen; omega) rfl
  exact h
end Go.Proofs
/- The walk of the document's Deg (erratumref05). Condition: a list of at most a thousand million bytes. -/
namespace Go.Proofs
open Go.RowKit Go.ChangeShapes Go.WideShapes
open Pol (IsN Dg ofL Byt)

set_option maxRecDepth 100000 in
set_option maxHeartbeats 1000000 in
theorem rdeg_calls (q : Option Addr) (n c : Nat) (xs : List Nat) (d : Nat) (hd : Dg d (ofL xs)) (hn : n ≤ 1000000000) (w : World) (hs : Bs w q n xs) :
    Calls Tryz.prog 10 #[.slice q n c] w fun e w' => e = .returned (.int .i64 ((d : Int) - 1)) ∧ w' = w := by
  have HS : Hid (Bs w q n xs) := hs
  have HD : Hid (Dg d (ofL xs)) := hd
  have h0 : Hid (Pol.Bd n (ofL xs)) := by have := Pol.ofL_bd xs; rwa [hs.len] at this
  clear hs hd
  go_enter Tryz.func10, Tryz.ntmps10
  go_wp2
  go_loopw [3] (fun i wr => ∃ j : Nat, j ≤ n ∧ i = .int .i64 ((j : Int) - 1) ∧ Pol.Bd j (ofL xs) ∧ wr = w) (fun i _ => (intOf i + 1).toNat)
  case atStart => exact ⟨n, Nat.le_refl _, rfl, h0.out, rfl⟩
  case round =>
    obtain ⟨j, hj, rfl, hbd, rfl⟩ := hrel
    cases j with
    | zero =>
      have e0 : d = 0 := HD.out.unique ⟨hbd, fun e => absurd rfl e⟩
      subst e0
      have e1 : ((0 : Nat) : Int) - 1 = -1 := by omega
      rw [e1]
      clear HS HD h0 hbd
      go_wp2
      go_ret
      exact ⟨rfl, rfl⟩
    | succ k =>
      have e1 : ((k + 1 : Nat) : Int) - 1 = (k : Int) := by omega
      rw [e1]
      have hlt : k < n := by omega
      have hki : (k : Int) < (n : Int) := by omega
      obtain ⟨a, rfl, la, ca⟩ := HS.out.cell k hlt
      have hbx := HS.out.byte k
      have HZ : Hid (xs.getD k 0 = 0 → Pol.Bd k (ofL xs)) := fun e i hi => by
        by_cases h : i = k
        · subst h; show GF.of _ = 0; rw [e]; rfl
        · exact hbd i (by omega)
      have HE : Hid (xs.getD k 0 ≠ 0 → d = k + 1) := fun e => HD.out.unique ⟨hbd, fun _ e' => e ((GF.of_eq_zero _ hbx).1 e')⟩
      obtain ⟨x, hx⟩ : ∃ x, xs.getD k 0 = x := ⟨_, rfl⟩
      rw [hx] at ca HZ HE
      clear hx la hbd hbx
      by_cases h : x = 0
      · subst h
        have HB : Hid (Pol.Bd k (ofL xs)) := HZ.out rfl
        clear HZ HE
        go_wp2
        go_roundw
        case rel => exact ⟨k, by omega, rfl, HB.out, by trivial⟩
        case measure => simp [intOf]
      · have hne : ((x : Int) != 0) = true := by simp; omega
        have e2 := HE.out h
        subst e2
        clear HZ HE HS HD h0
        go_wp2
        go_ret
        exact ⟨congrArg (fun z => Ending.returned (.int .i64 z)) e1.symm, rfl⟩
end Go.Proofs
