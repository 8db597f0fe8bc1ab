/- The walks of poly.Deg and poly.normal. Conditions: a list of bytes, its capacity no less than its length; d less 1 is its degree. -/
import Derived.Test.YtphhehppcfddgaaGreatPTerms
import Derived.Test.YtphhehppcfddgaaGreatPolyL
namespace Go.Proofs
open Go.RowKit Go.Shelf
attribute [local go_sem] Oper.semAt_some

theorem tmD_mem (xs : List Nat) (n i : Nat) (hi : i < n) (h : xs.getD i 0 ≠ 0) : ∀ k j, j + k = i → ⟨i, hi⟩ ∈ tmD xs n j := by
  intro k
  induction k with
  | zero =>
    intro j e
    obtain rfl : j = i := by omega
    rw [tmD_some xs n j hi h]
    simp
  | succ k ih =>
    intro j e
    have := ih (j + 1) (by omega)
    by_cases hj : xs.getD j 0 = 0
    · rw [tmD_none xs n j (by omega) hj]; exact this
    · rw [tmD_some xs n j (by omega) hj]; exact List.mem_append.2 (.inl this)
theorem tmD_nil {xs : List Nat} {n j : Nat} (hl : xs.length = n) (h : tmD xs n j = []) (i : Nat) (hi : j ≤ i) : xs.getD i 0 = 0 := by
  by_cases hn : i < n
  · by_cases h0 : xs.getD i 0 = 0
    · exact h0
    · have := tmD_mem xs n i hn h0 (i - j) j (by omega)
      rw [h] at this
      exact absurd this (List.not_mem_nil)
  · simp [List.getD, List.getElem?_eq_none (show xs.length ≤ i by omega)]
theorem dg_all {xs : List Nat} {n d : Nat} (hl : xs.length = n) (hd : Pol.Dg d (Pol.ofL xs)) (h : tmD xs n 0 = []) : d = 0 :=
  hd.unique ⟨fun i _ => by show GF.of _ = 0; rw [tmD_nil hl h i (Nat.zero_le _)]; rfl, fun e => absurd rfl e⟩
theorem dg_first {xs : List Nat} {n d j : Nat} {x : Tm n} (hl : xs.length = n) (hb : Pol.Byt xs) (hd : Pol.Dg d (Pol.ofL xs)) (hj : j < n) (h0 : xs.getD j 0 ≠ 0) (h : [x] = tmD xs n j) : d = x.1 + 1 := by
  rw [tmD_some xs n j hj h0] at h
  have h1 : tmD xs n (j + 1) = [] ∧ x = ⟨j, hj⟩ := by
    cases hc : tmD xs n (j + 1) with
    | nil => rw [hc] at h; simpa using h
    | cons y ys => rw [hc] at h; simp at h
  obtain ⟨h2, rfl⟩ := h1
  refine hd.unique ⟨fun i hi => ?_, fun _ e => ?_⟩
  · show GF.of _ = 0
    rw [tmD_nil hl h2 i hi]; rfl
  · exact h0 ((GF.of_eq_zero _ (hb _)).1 e)

set_option maxRecDepth 100000 in
set_option maxHeartbeats 2000000 in
theorem pdeg_in (m : Nat) (hm : 3 ≤ m) (q : Option Addr) (n c : Nat) (xs : List Nat) (d : Nat) (hd : Pol.Dg d (Pol.ofL xs)) (w : World) (hs : Bs w q n xs) :
    CallsIn Fence.wide m Tryz.prog 38 #[.slice q n c] w fun e w' => e = .returned (.int .i64 ((d : Int) - 1)) ∧ Below w.heap.size w w' := by
  refine callsIn_of_wp_marks Tryz.func38 rfl trivial ?_ rfl
  simp only [Tryz.ntmps38, List.size_toArray, List.length_cons, List.length_nil, Nat.reduceAdd, Nat.reduceSub, Array.replicate_succ, Array.replicate_zero, List.push_toArray, List.append_toArray, List.nil_append, List.cons_append]
  have hfn : ∀ f, Fence.wide.fn f := fun _ => trivial
  have hm1 : 1 ≤ m := by omega
  have HL : Hid (xs.length = n ∧ Pol.Byt xs) := ⟨hs.len, hs.byte⟩
  have HD : Hid (Pol.Dg d (Pol.ofL xs)) := hd
  have HS : Hid (Bs w q n xs) := hs
  clear hd hs
  gi_wp2_with (gi_at_call 41; refine (terms_calls (m - 1) q n c _).mono ?_; rintro e w' ⟨rfl, rfl⟩)
  obtain ⟨R, hR⟩ : ∃ R, w.heap.size = R := ⟨_, rfl⟩
  obtain ⟨W0, hW0⟩ : ∃ W0, (w.alloc (.cells #[.int .i64 0] 3)).alloc (.cells #[.slice q n c] 22) = W0 := ⟨_, rfl⟩
  have c0 : W0.cell? ⟨R, 0, none⟩ = some (.int .i64 0) := by rw [← hW0, ← hR]; simp [go_sem]
  have f0 : W0.frozen? ⟨R, 0, none⟩ = false := by rw [← hW0, ← hR]; simp [go_sem]
  have c1 : W0.cell? ⟨R + 1, 0, none⟩ = some (.slice q n c) := by rw [← hW0, ← hR]; simp [go_sem]
  have hsz : W0.heap.size = R + 2 := by rw [← hW0, ← hR]; simp
  have hB0 : Below R w W0 := by rw [← hW0, ← hR]; exact ((Below.refl _ w).alloc (Nat.le_refl _) _).alloc (by simp) _
  have hs0 : Bs W0 q n xs := HS.out.below (hR.symm ▸ hB0)
  rw [hW0, hR]
  clear hW0 HS
  refine wpIn_rangeFunc_ownF rfl hm1 (gf := 42) (lb := #[.pointer (some ⟨R + 1, 0, none⟩)]) rfl trivial (enters_of Tryz.func42 (by kernel_rfl) rfl)
    (terms1_stops (m - 1) (by omega) (R + 1) q n c xs _ (by omega) c1 hs0) keepsP_t (fun W l o o' _ h1 h2 _ => keepsP_b W l o o' h1 h2) (Below.refl _ _) (fun _ => rfl)
    (fun pre W => (pre = [] ∧ W.cell? ⟨R, 0, none⟩ = some (.int .i64 0) ∧ W.frozen? ⟨R, 0, none⟩ = false) ∧ Below R w W)
    (fun c pre W => (c = .ret ∧ ∃ x : Tm n, pre = [x] ∧ W.cell? ⟨R, 0, none⟩ = some (.int .i64 ((x.1 : Nat) : Int))) ∧ Below R w W)
    (OwnFrom.and (Own.from (fun s A B row hs hg hr => ⟨hs.1, cell_kept hs.2.1 hg hr, (frozen_kept hs.2.1 hg hr).trans hs.2.2⟩) _) (ownFrom_below (by omega) (by omega)))
    (fun c => OwnFrom.and (Own.from (fun s A B row hs hg hr => ⟨hs.1, by obtain ⟨x, h1, h2⟩ := hs.2; exact ⟨x, h1, cell_kept h2 hg hr⟩⟩) _) (ownFrom_below (by omega) (by omega)))
    ⟨⟨rfl, c0, f0⟩, hB0⟩
    (fun x => { tmps := #[.slice q n c, undef, .pointer (some ⟨R, 0, none⟩), .int .i64 ((x.1 : Nat) : Int), .slice q n c, .func (.func 42) #[] #[.pointer (some ⟨R + 1, 0, none⟩)], .int .i64 ((x.1 : Nat) : Int), .int .u8 ((xs.getD x.1 0 : Nat) : Int), undef], defers := [] }) ?assign ?body ?done ?stop
  case assign =>
    intro l x W K hK
    obtain ⟨i, hi⟩ := x
    dsimp only [tmv] at hK ⊢
    obtain ⟨b, hb⟩ : ∃ b, xs.getD i 0 = b := ⟨_, rfl⟩
    rw [hb] at hK ⊢
    gi_wp2
    exact hK
  case body =>
    rintro l pre x W ⟨⟨rfl, hc, hf⟩, hB⟩ _
    obtain ⟨i, hi⟩ := x
    dsimp only
    obtain ⟨b, hb⟩ : ∃ b, xs.getD i 0 = b := ⟨_, rfl⟩
    rw [hb]
    clear c0 f0 c1 hB0 hs0
    gi_wp2
    exact ⟨KeepsOthers.setCell _ _ _, ⟨rfl, ⟨i, hi⟩, rfl, World.cell?_setCell_same' _ _ _ (by rw [hc]; rfl)⟩, hB.setCell (p := ⟨R, 0, none⟩) (Nat.le_refl _) _⟩
  case done =>
    rintro D ys W hD rfl ⟨⟨hn, hc, hf⟩, hB⟩ hK
    have e0 := dg_all HL.out.1 HD.out hn
    subst e0
    gi_wp2
    have hK' := (KeepsOthers.setCell W ⟨R, 0, none⟩ (.int .i64 (-1))).same D _ hK rfl
    refine ⟨by simp, .inl ⟨_, _, rfl, run_takeDeferred hK', ?_⟩⟩
    have hc5 := cell_kept (World.cell?_setCell_same' W ⟨R, 0, none⟩ (.int .i64 (-1)) (by rw [hc]; rfl)) (grownBy_putObj' _ D (.deferred none)) (fun r e => by cases e; exact ⟨_, hK', rfl⟩)
    refine ⟨.int .i64 (-1), ?_, rfl, by rw [hR]; exact (hB.setCell (p := ⟨R, 0, none⟩) (Nat.le_refl _) _).trans (belowK_b (w := w) (by omega) _ D _ _ (by omega) hK' rfl rfl)⟩
    simp [results, Tryz.f38, go_sem, hc5]
  case stop =>
    rintro D c pre W hD ⟨j, hj, h0, hp⟩ ⟨⟨rfl, x, rfl, hc⟩, hB⟩ hK
    have e0 := dg_first HL.out.1 HL.out.2 HD.out hj h0 hp
    subst e0
    gi_wp2
    refine ⟨by simp, .inl ⟨_, _, rfl, run_takeDeferred hK, ?_⟩⟩
    have hc5 := cell_kept hc (grownBy_putObj' _ D (.deferred none)) (fun r e => by cases e; exact ⟨_, hK, rfl⟩)
    refine ⟨.int .i64 ((x.1 : Nat) : Int), ?_, congrArg (fun z => Ending.returned (.int .i64 z)) (by omega), by rw [hR]; exact hB.trans (belowK_b (w := w) (by omega) W D _ _ (by omega) hK rfl rfl)⟩
    simp [results, Tryz.f38, go_sem, hc5]
theorem pdeg_calls (q : Option Addr) (n c : Nat) (xs : List Nat) (d : Nat) (hd : Pol.Dg d (Pol.ofL xs)) (w : World) (hs : Bs w q n xs) :
    Calls Tryz.prog 38 #[.slice q n c] w fun e w' => e = .returned (.int .i64 ((d : Int) - 1)) ∧ Below w.heap.size w w' :=
  (callsIn_wide (n := 3)).1 (pdeg_in 3 (by omega) q n c xs d hd w hs)

set_option maxHeartbeats 1000000 in
theorem pnormal_calls (q : Option Addr) (n c : Nat) (xs : List Nat) (d : Nat) (hd : Pol.Dg d (Pol.ofL xs)) (hnc : n ≤ c) (w : World) (hs : Bs w q n xs) :
    Calls Tryz.prog 40 #[.slice q n c] w fun e w' => e = .returned (.slice q d c) ∧ Below w.heap.size w w' := by
  have hdn : d ≤ n := by have := hd.le (Pol.ofL_bd xs); rw [hs.len] at this; exact this
  have K := pdeg_calls q n c xs d hd w hs
  have hmax := hs.max
  have hi : (d : Int) ≤ (c : Int) := by omega
  have h0 : wrap64 ((d : Int) - 1 + 1) = (d : Int) := by unfold wrap64; omega
  clear hs hd
  go_enter Tryz.func40, Tryz.ntmps40
  go_wp2_with (go_at_call 38; refine K.mono ?_; rintro e w1 ⟨rfl, hb⟩)
  go_ret
  exact ⟨rfl, hb⟩
end Go.Proofs
