/- Texts laid together: PTerms, PDeg, BEq, PNorm, PolyX, Lits, RDeg. Each says its own conditions. -/
import Derived.Laws.BytesArg
import Derived.Laws.Strings
import Derived.Test.YtddhefhabhgdfaaGreatMC
import Derived.Test.YtddhefhabhgdfaaGreatMO
import Derived.Test.YtddhefhabhgdfaaGreatMA
import Derived.Test.YtddhefhabhgdfaaGreatMG
/- The walk of poly.terms and of its iterator: the powers of x whose coefficient is not 0, each with it, from the greatest on. Conditions: a list of bytes, its capacity no less than its length. -/
namespace Go.Proofs
open Go.RowKit Go.Shelf
attribute [local go_sem] Oper.semAt_some

/-- A place of a list. -/
abbrev Tm (n : Nat) := { i : Nat // i < n }
abbrev tmv (xs : List Nat) (n : Nat) (x : Tm n) : Array Value := #[.int .i64 ((x.1 : Nat) : Int), .int .u8 ((xs.getD x.1 0 : Nat) : Int)]
/-- What has come when k places are gone through. -/
def tmK (xs : List Nat) (n : Nat) : Nat → List (Tm n)
  | 0 => []
  | k + 1 => if h : k < n ∧ xs.getD (n - 1 - k) 0 ≠ 0 then tmK xs n k ++ [⟨n - 1 - k, by omega⟩] else tmK xs n k
/-- What has come when the places from j on are. -/
def tmD (xs : List Nat) (n j : Nat) : List (Tm n) := tmK xs n (n - j)
theorem tmK_length (xs : List Nat) (n k : Nat) : (tmK xs n k).length ≤ k := by
  induction k with
  | zero => exact Nat.le_refl _
  | succ k ih =>
    unfold tmK
    split
    · simp; exact ih
    · omega
theorem tmD_top (xs : List Nat) (n : Nat) : tmD xs n n = [] := by unfold tmD; rw [Nat.sub_self]; rfl
theorem tmD_some (xs : List Nat) (n m : Nat) (hm : m < n) (h : xs.getD m 0 ≠ 0) : tmD xs n m = tmD xs n (m + 1) ++ [⟨m, hm⟩] := by
  unfold tmD
  obtain ⟨k, hk⟩ : ∃ k, n - (m + 1) = k := ⟨_, rfl⟩
  have e1 : n - m = k + 1 := by omega
  have e2 : n - 1 - k = m := by omega
  rw [e1, hk]
  conv => lhs; unfold tmK
  rw [dif_pos ⟨by omega, by rw [e2]; exact h⟩]
  congr 2
  exact Subtype.ext e2
theorem tmD_none (xs : List Nat) (n m : Nat) (hm : m < n) (h : xs.getD m 0 = 0) : tmD xs n m = tmD xs n (m + 1) := by
  unfold tmD
  obtain ⟨k, hk⟩ : ∃ k, n - (m + 1) = k := ⟨_, rfl⟩
  have e1 : n - m = k + 1 := by omega
  have e2 : n - 1 - k = m := by omega
  rw [e1, hk]
  conv => lhs; unfold tmK
  rw [dif_neg (fun c => c.2 (by rw [e2]; exact h))]
/-- A round keeps what the captured box holds, and the list itself. -/
def KeepsP (B : Nat) (q : Option Addr) (n : Nat) (W W' : World) : Prop := KeepsCell B W W' ∧ ∀ a, q = some a → ∀ i, i < n → ∀ v, W.cell? (a.add i) = some v → W'.cell? (a.add i) = some v
theorem keepsP_t {B n : Nat} {q : Option Addr} {X Y Z : World} (h : KeepsP B q n X Y) (k : KeepsP B q n Y Z) : KeepsP B q n X Z := ⟨keepsCell_t h.1 k.1, fun a e i hi v hv => k.2 a e i hi v (h.2 a e i hi v hv)⟩
theorem keepsP_b {B n : Nat} {q : Option Addr} (W : World) (l : Nat) (o o' : Obj) (hl : W.heap[l]? = some o) (ho : o.isCells = false) : KeepsP B q n W (W.putObj l o') :=
  ⟨keepsCell_b W l o o' hl ho, fun _ _ _ _ _ h => cell_kept h (grownBy_putObj' W l o') (fun r e => by cases e; exact ⟨o, hl, ho⟩)⟩
theorem KeepsP.refl (B : Nat) (q : Option Addr) (n : Nat) (W : World) : KeepsP B q n W W := ⟨KeepsCell.refl _ _, fun _ _ _ _ _ h => h⟩
theorem KeepsP.drew {B n : Nat} {q : Option Addr} {W W' : World} (h : KeepsP B q n W W') : KeepsP B q n W W'.drew := ⟨h.1.drew, fun a e i hi v hv => by simpa using h.2 a e i hi v hv⟩
theorem Bs.keeps {B n : Nat} {q : Option Addr} {xs : List Nat} {W W' : World} (h : Bs W q n xs) (k : KeepsP B q n W W') (hs : W.heap.size ≤ W'.heap.size) : Bs W' q n xs :=
  ⟨h.len, h.max, fun i hi => by obtain ⟨a, e, hl, hc⟩ := h.cell i hi; exact ⟨a, e, Nat.lt_of_lt_of_le hl hs, k.2 a e i hi _ hc⟩, h.byte⟩

theorem terms_calls (m : Nat) (q : Option Addr) (n c : Nat) (w : World) :
    CallsIn Fence.wide m Tryz.prog 53 #[.slice q n c] w fun e w' => e = .returned (.func (.func 71) #[] #[.pointer (some ⟨w.heap.size, 0, none⟩)]) ∧ w.alloc (.cells #[.slice q n c] 24) = w' := by
  refine callsIn_of_wp Tryz.func53 rfl trivial ?_ rfl
  simp only [Tryz.ntmps53, List.size_toArray, List.length_cons, List.length_nil, Nat.reduceAdd, Nat.reduceSub, Array.replicate_succ, Array.replicate_zero, List.push_toArray, List.append_toArray, List.nil_append, List.cons_append]
  gi_wp2
  go_ret
  exact ⟨rfl, rfl⟩

set_option maxHeartbeats 1000000 in
theorem terms1_stops (m : Nat) (hm : 1 ≤ m) (Bn : Nat) (q : Option Addr) (n c : Nat) (xs : List Nat) (w : World) (hb : Bn < w.heap.size) (hc : w.cell? ⟨Bn, 0, none⟩ = some (.slice q n c)) (hs : Bs w q n xs) :
    SeqStopsK Fence.wide m Tryz.prog 71 #[.pointer (some ⟨Bn, 0, none⟩)] (tmv xs n) (KeepsP Bn q n) (fun ys => ys = tmD xs n 0) (fun ys => ∃ j, j < n ∧ xs.getD j 0 ≠ 0 ∧ ys = tmD xs n j) n w :=
  fun l J Jx W hW hJ hJx hY h0 => by
  have hcW : W.cell? ⟨Bn, 0, none⟩ = some (.slice q n c) := (hW.cell (p := ⟨Bn, 0, none⟩) hb).trans hc
  have hsW : Bs W q n xs := hs.below hW
  have hmax := hs.max
  clear hc hW hs
  refine callsIn_of_wp Tryz.func71 rfl trivial ?_ rfl
  simp only [Tryz.ntmps71, List.size_toArray, List.length_cons, List.length_nil, Nat.reduceAdd, Nat.reduceSub, Array.replicate_succ, Array.replicate_zero, List.push_toArray, List.append_toArray, List.nil_append, List.cons_append]
  have HS : Hid (Bs W q n xs) := hsW
  clear hsW
  have hw0 : wrap64 ((n : Int) - 1) = (n : Int) - 1 := by unfold wrap64; omega
  gi_wp2
  gi_loopw [3] (fun i wr => ∃ j : Nat, j ≤ n ∧ i = .int .i64 ((j : Int) - 1) ∧ J (tmD xs n j) wr ∧ wr.cell? ⟨Bn, 0, none⟩ = some (.slice q n c) ∧ ∀ i, i < n → ∃ a, q = some a ∧ wr.cell? (a.add i) = some (.int .u8 (xs.getD i 0 : Nat)))
    (fun i _ => (intOf i + 1).toNat)
  case atStart =>
    refine ⟨n, Nat.le_refl _, rfl, ?_, hcW, fun i hi => ?_⟩
    · rw [tmD_top]; exact h0
    · obtain ⟨a, e, _, hc⟩ := HS.out.cell i hi
      exact ⟨a, e, hc⟩
  case round =>
    obtain ⟨j, hj, rfl, hJs, hcs, hcells⟩ := hrel
    cases j with
    | zero =>
      have e0 : ((0 : Nat) : Int) - 1 = -1 := by omega
      rw [e0]
      clear hcells HS
      gi_wp2
      go_end0
      exact ⟨⟨_, rfl⟩, .inl ⟨_, rfl, hJs⟩⟩
    | succ k =>
      have e0 : ((k + 1 : Nat) : Int) - 1 = (k : Int) := by omega
      rw [e0]
      have hlt : k < n := by omega
      obtain ⟨a, ha, hca⟩ := hcells k hlt
      have hbx := HS.out.byte k
      have hYk := hY (tmD xs n (k + 1)) ⟨k, hlt⟩ wr hJs (by have := tmK_length xs n (n - (k + 1)); unfold tmD; omega)
      have H1 := tmD_some xs n k hlt
      have H2 := tmD_none xs n k hlt
      have HC : Hid (∀ i, i < n → ∃ a, q = some a ∧ wr.cell? (a.add i) = some (.int .u8 (xs.getD i 0 : Nat))) := hcells
      dsimp only [tmv] at hYk
      obtain ⟨b, hbe⟩ : ∃ b, xs.getD k 0 = b := ⟨_, rfl⟩
      rw [hbe] at hca hbx hYk H1 H2
      clear hcells hY
      have hcan := hca
      subst ha
      have hki : (k : Int) < (n : Int) := by omega
      have hw1 : wrap64 ((k : Int) - 1) = (k : Int) - 1 := by unfold wrap64; omega
      by_cases hz : b = 0
      · subst hz
        have H3 := H2 rfl
        clear H1 H2 hYk hbx
        gi_wp2
        refine ⟨fun _ h => (by cases h), ?_⟩
        gi_wp2
        go_roundw
        case rel =>
          refine ⟨k, by omega, rfl, ?_, hcs, HC.out⟩
          rw [H3]; exact hJs
        case measure => simp [intOf]
      · have H3 := H1 hz
        have hnz : ((b : Int) != 0) = true := by simp; omega
        obtain ⟨fn, tmps, assign, body, hy, hR⟩ := hYk
        rw [← H3] at hR
        have HP : Hid (tmD xs n k = tmD xs n (k + 1) ++ [⟨k, hlt⟩]) := H3
        have HZ : Hid (k < n ∧ xs.getD k 0 ≠ 0) := ⟨hlt, by rw [hbe]; exact hz⟩
        clear H1 H2 H3 hbe
        gi_wp2
        refine hR.mono ?_
        rintro e W3 (⟨rfl, hJ3, hk3⟩ | ⟨rfl, hJx3⟩)
        · have hc3 : W3.cell? ⟨Bn, 0, none⟩ = some (.slice (some a) n c) := hk3.1 _ hcs
          have HC3 : Hid (∀ i, i < n → ∃ a', some a = some a' ∧ W3.cell? (a'.add i) = some (.int .u8 (xs.getD i 0 : Nat))) := fun i hi => by
            obtain ⟨a', e', h'⟩ := HC.out i hi
            exact ⟨a', e', hk3.2 a' e' i hi _ h'⟩
          clear hk3
          gi_wp2
          go_roundw
          case rel => exact ⟨k, by omega, rfl, hJ3, hc3, HC3.out⟩
          case measure => simp [intOf]
        · gi_wp2
          refine bodyPost_ret (results_none rfl _ _ _) rfl ?_
          exact ⟨⟨_, rfl⟩, .inr ⟨_, ⟨k, HZ.out.1, HZ.out.2, rfl⟩, hJx3⟩⟩
end Go.Proofs
/- The walks of poly.Deg and poly.normal. Conditions: a list of bytes, its capacity no less than its length; d less 1 is its degree. -/
namespace Go.Proofs
open Go.RowKit Go.Shelf
attribute [local go_sem] Oper.semAt_some

theorem tmD_mem (xs : List Nat) (n i : Nat) (hi : i < n) (h : xs.getD i 0 ≠ 0) : ∀ k j, j + k = i → ⟨i, hi⟩ ∈ tmD xs n j := by
  intro k
  induction k with
  | zero =>
    intro j e
    obtain rfl : j = i := by omega
    rw [tmD_some xs n j hi h]
    simp
  | succ k ih =>
    intro j e
    have := ih (j + 1) (by omega)
    by_cases hj : xs.getD j 0 = 0
    · rw [tmD_none xs n j (by omega) hj]; exact this
    · rw [tmD_some xs n j (by omega) hj]; exact List.mem_append.2 (.inl this)
theorem tmD_nil {xs : List Nat} {n j : Nat} (hl : xs.length = n) (h : tmD xs n j = []) (i : Nat) (hi : j ≤ i) : xs.getD i 0 = 0 := by
  by_cases hn : i < n
  · by_cases h0 : xs.getD i 0 = 0
    · exact h0
    · have := tmD_mem xs n i hn h0 (i - j) j (by omega)
      rw [h] at this
      exact absurd this (List.not_mem_nil)
  · simp [List.getD, List.getElem?_eq_none (show xs.length ≤ i by omega)]
theorem dg_all {xs : List Nat} {n d : Nat} (hl : xs.length = n) (hd : Pol.Dg d (Pol.ofL xs)) (h : tmD xs n 0 = []) : d = 0 :=
  hd.unique ⟨fun i _ => by show GF.of _ = 0; rw [tmD_nil hl h i (Nat.zero_le _)]; rfl, fun e => absurd rfl e⟩
theorem dg_first {xs : List Nat} {n d j : Nat} {x : Tm n} (hl : xs.length = n) (hb : Pol.Byt xs) (hd : Pol.Dg d (Pol.ofL xs)) (hj : j < n) (h0 : xs.getD j 0 ≠ 0) (h : [x] = tmD xs n j) : d = x.1 + 1 := by
  rw [tmD_some xs n j hj h0] at h
  have h1 : tmD xs n (j + 1) = [] ∧ x = ⟨j, hj⟩ := by
    cases hc : tmD xs n (j + 1) with
    | nil => rw [hc] at h; simpa using h
    | cons y ys => rw [hc] at h; simp at h
  obtain ⟨h2, rfl⟩ := h1
  refine hd.unique ⟨fun i hi => ?_, fun _ e => ?_⟩
  · show GF.of _ = 0
    rw [tmD_nil hl h2 i hi]; rfl
  · exact h0 ((GF.of_eq_zero _ (hb _)).1 e)

set_option maxRecDepth 100000 in
set_option maxHeartbeats 2000000 in
theorem pdeg_in (m : Nat) (hm : 3 ≤ m) (q : Option Addr) (n c : Nat) (xs : List Nat) (d : Nat) (hd : Pol.Dg d (Pol.ofL xs)) (w : World) (hs : Bs w q n xs) :
    CallsIn Fence.wide m Tryz.prog 25 #[.slice q n c] w fun e w' => e = .returned (.int .i64 ((d : Int) - 1)) ∧ Below w.heap.size w w' := by
  refine callsIn_of_wp_marks Tryz.func25 rfl trivial ?_ rfl
  simp only [Tryz.ntmps25, List.size_toArray, List.length_cons, List.length_nil, Nat.reduceAdd, Nat.reduceSub, Array.replicate_succ, Array.replicate_zero, List.push_toArray, List.append_toArray, List.nil_append, List.cons_append]
  have hfn : ∀ f, Fence.wide.fn f := fun _ => trivial
  have hm1 : 1 ≤ m := by omega
  have HL : Hid (xs.length = n ∧ Pol.Byt xs) := ⟨hs.len, hs.byte⟩
  have HD : Hid (Pol.Dg d (Pol.ofL xs)) := hd
  have HS : Hid (Bs w q n xs) := hs
  clear hd hs
  gi_wp2_with (gi_at_call 53; refine (terms_calls (m - 1) q n c _).mono ?_; rintro e w' ⟨rfl, rfl⟩)
  obtain ⟨R, hR⟩ : ∃ R, w.heap.size = R := ⟨_, rfl⟩
  obtain ⟨W0, hW0⟩ : ∃ W0, (w.alloc (.cells #[.int .i64 0] 3)).alloc (.cells #[.slice q n c] 24) = W0 := ⟨_, rfl⟩
  have c0 : W0.cell? ⟨R, 0, none⟩ = some (.int .i64 0) := by rw [← hW0, ← hR]; simp [go_sem]
  have f0 : W0.frozen? ⟨R, 0, none⟩ = false := by rw [← hW0, ← hR]; simp [go_sem]
  have c1 : W0.cell? ⟨R + 1, 0, none⟩ = some (.slice q n c) := by rw [← hW0, ← hR]; simp [go_sem]
  have hsz : W0.heap.size = R + 2 := by rw [← hW0, ← hR]; simp
  have hB0 : Below R w W0 := by rw [← hW0, ← hR]; exact ((Below.refl _ w).alloc (Nat.le_refl _) _).alloc (by simp) _
  have hs0 : Bs W0 q n xs := HS.out.below (hR.symm ▸ hB0)
  rw [hW0, hR]
  clear hW0 HS
  refine wpIn_rangeFunc_ownF rfl hm1 (gf := 71) (lb := #[.pointer (some ⟨R + 1, 0, none⟩)]) rfl trivial (enters_of Tryz.func71 (by kernel_rfl) rfl)
    (terms1_stops (m - 1) (by omega) (R + 1) q n c xs _ (by omega) c1 hs0) keepsP_t (fun W l o o' _ h1 h2 _ => keepsP_b W l o o' h1 h2) (Below.refl _ _) (fun _ => rfl)
    (fun pre W => (pre = [] ∧ W.cell? ⟨R, 0, none⟩ = some (.int .i64 0) ∧ W.frozen? ⟨R, 0, none⟩ = false) ∧ Below R w W)
    (fun c pre W => (c = .ret ∧ ∃ x : Tm n, pre = [x] ∧ W.cell? ⟨R, 0, none⟩ = some (.int .i64 ((x.1 : Nat) : Int))) ∧ Below R w W)
    (OwnFrom.and (Own.from (fun s A B row hs hg hr => ⟨hs.1, cell_kept hs.2.1 hg hr, (frozen_kept hs.2.1 hg hr).trans hs.2.2⟩) _) (ownFrom_below (by omega) (by omega)))
    (fun c => OwnFrom.and (Own.from (fun s A B row hs hg hr => ⟨hs.1, by obtain ⟨x, h1, h2⟩ := hs.2; exact ⟨x, h1, cell_kept h2 hg hr⟩⟩) _) (ownFrom_below (by omega) (by omega)))
    ⟨⟨rfl, c0, f0⟩, hB0⟩
    (fun x => { tmps := #[.slice q n c, undef, .pointer (some ⟨R, 0, none⟩), .int .i64 ((x.1 : Nat) : Int), .slice q n c, .func (.func 71) #[] #[.pointer (some ⟨R + 1, 0, none⟩)], .int .i64 ((x.1 : Nat) : Int), .int .u8 ((xs.getD x.1 0 : Nat) : Int), undef], defers := [] }) ?assign ?body ?done ?stop
  case assign =>
    intro l x W K hK
    obtain ⟨i, hi⟩ := x
    dsimp only [tmv] at hK ⊢
    obtain ⟨b, hb⟩ : ∃ b, xs.getD i 0 = b := ⟨_, rfl⟩
    rw [hb] at hK ⊢
    gi_wp2
    exact hK
  case body =>
    rintro l pre x W ⟨⟨rfl, hc, hf⟩, hB⟩ _
    obtain ⟨i, hi⟩ := x
    dsimp only
    obtain ⟨b, hb⟩ : ∃ b, xs.getD i 0 = b := ⟨_, rfl⟩
    rw [hb]
    clear c0 f0 c1 hB0 hs0
    gi_wp2
    exact ⟨KeepsOthers.setCell _ _ _, ⟨rfl, ⟨i, hi⟩, rfl, World.cell?_setCell_same' _ _ _ (by rw [hc]; rfl)⟩, hB.setCell (p := ⟨R, 0, none⟩) (Nat.le_refl _) _⟩
  case done =>
    rintro D ys W hD rfl ⟨⟨hn, hc, hf⟩, hB⟩ hK
    have e0 := dg_all HL.out.1 HD.out hn
    subst e0
    gi_wp2
    have hK' := (KeepsOthers.setCell W ⟨R, 0, none⟩ (.int .i64 (-1))).same D _ hK rfl
    refine ⟨by simp, .inl ⟨_, _, rfl, run_takeDeferred hK', ?_⟩⟩
    have hc5 := cell_kept (World.cell?_setCell_same' W ⟨R, 0, none⟩ (.int .i64 (-1)) (by rw [hc]; rfl)) (grownBy_putObj' _ D (.deferred none)) (fun r e => by cases e; exact ⟨_, hK', rfl⟩)
    refine ⟨.int .i64 (-1), ?_, rfl, by rw [hR]; exact (hB.setCell (p := ⟨R, 0, none⟩) (Nat.le_refl _) _).trans (belowK_b (w := w) (by omega) _ D _ _ (by omega) hK' rfl rfl)⟩
    simp [results, Tryz.f25, go_sem, hc5]
  case stop =>
    rintro D c pre W hD ⟨j, hj, h0, hp⟩ ⟨⟨rfl, x, rfl, hc⟩, hB⟩ hK
    have e0 := dg_first HL.out.1 HL.out.2 HD.out hj h0 hp
    subst e0
    gi_wp2
    refine ⟨by simp, .inl ⟨_, _, rfl, run_takeDeferred hK, ?_⟩⟩
    have hc5 := cell_kept hc (grownBy_putObj' _ D (.deferred none)) (fun r e => by cases e; exact ⟨_, hK, rfl⟩)
    refine ⟨.int .i64 ((x.1 : Nat) : Int), ?_, congrArg (fun z => Ending.returned (.int .i64 z)) (by omega), by rw [hR]; exact hB.trans (belowK_b (w := w) (by omega) W D _ _ (by omega) hK rfl rfl)⟩
    simp [results, Tryz.f25, go_sem, hc5]
theorem pdeg_calls (q : Option Addr) (n c : Nat) (xs : List Nat) (d : Nat) (hd : Pol.Dg d (Pol.ofL xs)) (w : World) (hs : Bs w q n xs) :
    Calls Tryz.prog 25 #[.slice q n c] w fun e w' => e = .returned (.int .i64 ((d : Int) - 1)) ∧ Below w.heap.size w w' :=
  (callsIn_wide (n := 3)).1 (pdeg_in 3 (by omega) q n c xs d hd w hs)

set_option maxHeartbeats 1000000 in
theorem pnormal_calls (q : Option Addr) (n c : Nat) (xs : List Nat) (d : Nat) (hd : Pol.Dg d (Pol.ofL xs)) (hnc : n ≤ c) (w : World) (hs : Bs w q n xs) :
    Calls Tryz.prog 46 #[.slice q n c] w fun e w' => e = .returned (.slice q d c) ∧ Below w.heap.size w w' := by
  have hdn : d ≤ n := by have := hd.le (Pol.ofL_bd xs); rw [hs.len] at this; exact this
  have K := pdeg_calls q n c xs d hd w hs
  have hmax := hs.max
  have hi : (d : Int) ≤ (c : Int) := by omega
  have h0 : wrap64 ((d : Int) - 1 + 1) = (d : Int) := by unfold wrap64; omega
  clear hs hd
  go_enter Tryz.func46, Tryz.ntmps46
  go_wp2_with (go_at_call 25; refine K.mono ?_; rintro e w1 ⟨rfl, hb⟩)
  go_ret
  exact ⟨rfl, hb⟩
end Go.Proofs
/- The walk of bytes.Equal. Conditions: lists of bytes. -/
namespace Go.Proofs
open Go.RowKit Go.ChangeShapes Go.WideShapes
open Pol (ofL Byt)
end Go.Proofs
/- The walks of poly.Norm, Coef, Cut, Same and Scale. Conditions: lists of at most a thousand million bytes, no longer than their capacities. -/
namespace Go.Proofs
open Go.RowKit Go.ChangeShapes Go.WideShapes
attribute [local go_sem ↓ high] builtin_ap
attribute [local go_sem] ap_sem
open Pol (IsN Dg ofL Byt)

theorem Bs.byt {W : World} {q : Option Addr} {n : Nat} {xs : List Nat} (h : Bs W q n xs) : Byt xs := h.byte
/-- A coefficient. -/
def cof (xs : List Nat) (i : Int) : Nat := if 0 ≤ i then xs.getD i.toNat 0 else 0
set_option maxHeartbeats 1000000 in
theorem pcoef_calls (q : Option Addr) (n c : Nat) (xs : List Nat) (i : Int) (w : World) (hs : Bs w q n xs) :
    Calls Tryz.prog 26 #[.slice q n c, .int .i64 i] w fun e w' => e = .returned (.int .u8 (cof xs i : Nat)) ∧ w' = w := by
  have hmax := hs.max
  rcases Int.lt_or_le i 0 with h | h
  · have e : cof xs i = 0 := by unfold cof; rw [if_neg (by omega)]
    rw [e]
    go_enter Tryz.func26, Tryz.ntmps26
    go_wp2
    go_ret
    exact ⟨rfl, rfl⟩
  · obtain ⟨k, rfl⟩ := Int.eq_ofNat_of_zero_le h
    have e : cof xs (k : Int) = xs.getD k 0 := by unfold cof; rw [if_pos (by omega)]; rfl
    rw [e]
    by_cases hk : k < n
    · obtain ⟨a, rfl, _, hc⟩ := hs.cell k hk
      obtain ⟨x, hx⟩ : ∃ x, xs.getD k 0 = x := ⟨_, rfl⟩
      rw [hx] at hc ⊢
      clear hs
      have h1 : ¬ (k : Int) < 0 := by omega
      have h2 : ¬ (n : Int) ≤ (k : Int) := by omega
      have h3 : (k : Int) < (n : Int) := by omega
      go_enter Tryz.func26, Tryz.ntmps26
      go_wp2
      go_ret
      exact ⟨rfl, rfl⟩
    · have hl := hs.len
      have e2 : xs.getD k 0 = 0 := by simp [List.getD, List.getElem?_eq_none (show xs.length ≤ k by omega)]
      rw [e2]
      have h1 : ¬ (k : Int) < 0 := by omega
      have h2 : (n : Int) ≤ (k : Int) := by omega
      clear hs
      go_enter Tryz.func26, Tryz.ntmps26
      go_wp2
      go_ret
      exact ⟨rfl, rfl⟩
/-- The front of a list that a call has made. -/
theorem Ow.front {W : World} {base : Nat} {v : Value} {q : Option Addr} {n c d : Nat} {xs : List Nat} (h : Ow W base v xs) (e : v = .slice q n c) (hd : d ≤ n) : Ow W base (.slice q d c) (xs.take d) := by
  subst e
  obtain ⟨h1, h2⟩ := h
  rcases h2 with ⟨e, h0⟩ | ⟨g, cap, cur, e, hb, hg, hle, hm, hc, ht⟩
  · cases e
    obtain rfl : d = 0 := by omega
    rw [List.take_zero]
    exact ow_nil W base
  · cases e
    have hn : d ≤ xs.length := hd
    refine ⟨by simp [ob], .inr ⟨g, _, cur, ?_, hb, hg, ?_, hm, hc, ?_⟩⟩
    · rw [List.length_take]; congr 1; omega
    · rw [List.length_take]; omega
    · rw [List.length_take, Nat.mul_one, Nat.min_eq_left hn]
      have : ob (xs.take d) = (ob xs).take d := by simp [ob, List.map_take]
      rw [this, ← ht, List.take_take, Nat.mul_one, Nat.min_eq_left hn]
end Go.Proofs
/- Normal lists of sums, products and multiples; lists of literals. -/
namespace Go.Proofs
open Go.RowKit
namespace Pol
theorem bd_mul {a b : Nat} {p q : Pol} (hp : Bd a p) (hq : Bd b q) : Bd (a + b) (mul p q) := by
  cases a with
  | zero => rw [bd_zero hp, zero_mul]; exact Bd.zero _
  | succ a =>
    cases b with
    | zero => rw [bd_zero hq, mul_zero]; exact Bd.zero _
    | succ b => exact (hp.mul hq).mono_le (by omega)
theorem isN_mul (xs ys : List Nat) : ∃ zs, IsN zs (mul (ofL xs) (ofL ys)) ∧ zs.length ≤ xs.length + ys.length := isN_of_bd (bd_mul (ofL_bd xs) (ofL_bd ys))
theorem isN_add (xs ys : List Nat) : ∃ zs, IsN zs (add (ofL xs) (ofL ys)) ∧ zs.length ≤ xs.length + ys.length := isN_of_bd (((ofL_bd xs).mono_le (by omega)).add ((ofL_bd ys).mono_le (by omega)))
theorem isN_norm (xs : List Nat) : ∃ zs, IsN zs (ofL xs) ∧ zs.length ≤ xs.length := isN_of_bd (ofL_bd xs)
theorem isN_smul (a : GF) (xs : List Nat) : ∃ zs, IsN zs (smul a (ofL xs)) ∧ zs.length ≤ xs.length := isN_of_bd ((ofL_bd xs).smul a)
end Pol
/-- A list of literals. -/
theorem bs_lit (W : World) (xs : List Nat) (hx : Pol.Byt xs) (hl : xs.length ≤ 1000) : Bs (W.alloc (.cells ⟨ob xs⟩ 5)) (some ⟨W.heap.size, 0, none⟩) xs.length xs :=
  ⟨rfl, by omega, fun i hi => ⟨_, rfl, by simp, by
    have e1 : (⟨W.heap.size, 0, none⟩ : Addr).add i = ⟨W.heap.size, i, none⟩ := by unfold Addr.add; split <;> simp_all
    rw [e1, World.cell?_alloc_at _ _ _ _ rfl]
    show (⟨ob xs⟩ : Array Value)[i]? = _
    rw [List.getElem?_toArray]
    exact ob_at xs i hi⟩, hx⟩
/-- The same, its cells and its block as a walk spells them. -/
theorem bs_lits (W : World) (A : Array Value) (xs : List Nat) (h n : Nat) (hA : A = ⟨ob xs⟩) (hh : h = W.heap.size) (hn : n = xs.length) (hx : xs.all (· < 256) = true) (hl : xs.length ≤ 1000) : Bs (W.alloc (.cells A 5)) (some ⟨h, 0, none⟩) n xs := by
  subst hA hh hn
  exact bs_lit W xs (fun i => by
    simp only [List.getD]
    cases hx' : xs[i]? with
    | none => decide
    | some x => simpa using List.all_eq_true.1 hx x (List.mem_of_getElem? hx')) hl
theorem off_new {W : World} {T n : Nat} (hT : T < W.heap.size) : Off T n (some ⟨W.heap.size, 0, none⟩) := fun _ a e => by cases e; show ¬ W.heap.size = T; omega
end Go.Proofs
/- Polynomials of literals. Nothing of the program. -/
namespace Go.Proofs
open Go.RowKit
open Pol (IsN Dg ofL Byt)
end Go.Proofs
/- The walk of the document's Deg (erratumref05). Condition: a list of at most a thousand million bytes. -/
namespace Go.Proofs
open Go.RowKit Go.ChangeShapes Go.WideShapes
open Pol (IsN Dg ofL Byt)

set_option maxRecDepth 100000 in
set_option maxHeartbeats 1000000 in
theorem rdeg_calls (q : Option Addr) (n c : Nat) (xs : List Nat) (d : Nat) (hd : Dg d (ofL xs)) (hn : n ≤ 1000000000) (w : World) (hs : Bs w q n xs) :
    Calls Tryz.prog 78 #[.slice q n c] w fun e w' => e = .returned (.int .i64 ((d : Int) - 1)) ∧ w' = w := by
  have HS : Hid (Bs w q n xs) := hs
  have HD : Hid (Dg d (ofL xs)) := hd
  have h0 : Hid (Pol.Bd n (ofL xs)) := by have := Pol.ofL_bd xs; rwa [hs.len] at this
  clear hs hd
  go_enter Tryz.func78, Tryz.ntmps78
  go_wp2
  go_loopw [3] (fun i wr => ∃ j : Nat, j ≤ n ∧ i = .int .i64 ((j : Int) - 1) ∧ Pol.Bd j (ofL xs) ∧ wr = w) (fun i _ => (intOf i + 1).toNat)
  case atStart => exact ⟨n, Nat.le_refl _, rfl, h0.out, rfl⟩
  case round =>
    obtain ⟨j, hj, rfl, hbd, rfl⟩ := hrel
    cases j with
    | zero =>
      have e0 : d = 0 := HD.out.unique ⟨hbd, fun e => absurd rfl e⟩
      subst e0
      have e1 : ((0 : Nat) : Int) - 1 = -1 := by omega
      rw [e1]
      clear HS HD h0 hbd
      go_wp2
      go_ret
      exact ⟨rfl, rfl⟩
    | succ k =>
      have e1 : ((k + 1 : Nat) : Int) - 1 = (k : Int) := by omega
      rw [e1]
      have hlt : k < n := by omega
      have hki : (k : Int) < (n : Int) := by omega
      obtain ⟨a, rfl, la, ca⟩ := HS.out.cell k hlt
      have hbx := HS.out.byte k
      have HZ : Hid (xs.getD k 0 = 0 → Pol.Bd k (ofL xs)) := fun e i hi => by
        by_cases h : i = k
        · subst h; show GF.of _ = 0; rw [e]; rfl
        · exact hbd i (by omega)
      have HE : Hid (xs.getD k 0 ≠ 0 → d = k + 1) := fun e => HD.out.unique ⟨hbd, fun _ e' => e ((GF.of_eq_zero _ hbx).1 e')⟩
      obtain ⟨x, hx⟩ : ∃ x, xs.getD k 0 = x := ⟨_, rfl⟩
      rw [hx] at ca HZ HE
      clear hx la hbd hbx
      by_cases h : x = 0
      · subst h
        have HB : Hid (Pol.Bd k (ofL xs)) := HZ.out rfl
        clear HZ HE
        go_wp2
        go_roundw
        case rel => exact ⟨k, by omega, rfl, HB.out, by trivial⟩
        case measure => simp [intOf]
      · have hne : ((x : Int) != 0) = true := by simp; omega
        have e2 := HE.out h
        subst e2
        clear HZ HE HS HD h0
        go_wp2
        go_ret
        exact ⟨congrArg (fun z => Ending.returned (.int .i64 z)) e1.symm, rfl⟩
end Go.Proofs
