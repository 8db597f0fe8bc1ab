/- The walk of erratumlaw12.Erased: some places of a code, each once. Conditions: a list that is no great one. -/
import Derived.BigQuiet
import Derived.Test.YtjnkkokhkooegaaGreatOQ
namespace Go.Proofs
open Go.RowKit Go.ChangeShapes Go.WideShapes
attribute [local go_sem ↓ high] builtin_ap
attribute [local go_sem] ap_sem

/-- Naturals as integers. -/
def zi (L : List Nat) : List Int := L.map fun i : Nat => (i : Int)
theorem zi_length (L : List Nat) : (zi L).length = L.length := by simp [zi]
theorem mem_zi {L : List Nat} {i : Nat} : (i : Int) ∈ zi L ↔ i ∈ L := by
  unfold zi
  rw [List.mem_map]
  exact ⟨fun ⟨a, ha, e⟩ => by have : a = i := by omega
                              exact this ▸ ha, fun h => ⟨i, h, rfl⟩⟩
theorem zi_snoc (L : List Nat) (x : Nat) : zi (L ++ [x]) = zi L ++ [(x : Int)] := by simp [zi]
theorem zi_wf {L : List Nat} (h : ∀ i ∈ L, i < 1000000) : ∀ z ∈ zi L, (Lit.int .i64 z).wf = true := fun z hz => by
  obtain ⟨i, hi, rfl⟩ := List.mem_map.1 hz
  have := h i hi
  exact WalkArith.wf_i64 (by omega)
theorem zi_nodup {L : List Nat} : (zi L).Nodup ↔ L.Nodup := by
  unfold zi List.Nodup
  rw [List.pairwise_map]
  exact ⟨fun h => h.imp fun h e => h (by rw [e]), fun h => h.imp fun h e => h (by omega)⟩
/-- One place more, if there is room and it is not there. -/
def erS (N most : Nat) (out : List Nat) (x : Nat) : List Nat := if out.length < most ∧ x % N ∉ out then out ++ [x % N] else out
def erL (N most : Nat) (l : List Nat) : List Nat := l.foldl (erS N most) []
theorem erL_snoc (N most : Nat) (l : List Nat) (x : Nat) : erL N most (l ++ [x]) = erS N most (erL N most l) x := by unfold erL; rw [List.foldl_append]; rfl
theorem erL_nil (N most : Nat) : erL N most [] = [] := rfl
structure ErOk (N most : Nat) (out : List Nat) : Prop where
  len : out.length ≤ most
  lt : ∀ i ∈ out, i < N
  nd : out.Nodup
theorem erS_ok {N most x : Nat} {out : List Nat} (hN : 0 < N) (h : ErOk N most out) : ErOk N most (erS N most out x) := by
  unfold erS
  split
  · rename_i hc
    refine ⟨by rw [List.length_append]; simp; omega, fun i hi => ?_, List.pairwise_append.2 ⟨h.nd, List.pairwise_singleton _ _, fun a ha b hb => by rw [List.mem_singleton] at hb; rintro rfl; exact hc.2 (hb ▸ ha)⟩⟩
    rcases List.mem_append.1 hi with h1 | h1
    · exact h.lt i h1
    · rw [List.mem_singleton] at h1; rw [h1]; exact Nat.mod_lt _ hN
  · exact h
theorem erL_ok {N most : Nat} (hN : 0 < N) (l : List Nat) : ErOk N most (erL N most l) := by
  induction l using snoc_ind with
  | h0 => exact ⟨by simp [erL_nil], fun i hi => by simp [erL_nil] at hi, List.Pairwise.nil⟩
  | h1 l a ih => rw [erL_snoc]; exact erS_ok hN ih
theorem erL_full {N most : Nat} (l m : List Nat) (h : most ≤ (erL N most l).length) : erL N most (l ++ m) = erL N most l := by
  induction m using snoc_ind with
  | h0 => rw [List.append_nil]
  | h1 m a ih => rw [← List.append_assoc, erL_snoc, ih]; unfold erS; rw [if_neg (fun hc => by omega)]

set_option maxRecDepth 100000 in
set_option maxHeartbeats 2000000 in
theorem erased_calls (N : Nat) (K B : Int) (n c most : Nat) (q : Option Addr) (xs : List Nat) (hN : 0 < N) (hN6 : N ≤ 1000) (hm : most ≤ 1000) (w : World) (hs : Bs w q n xs) :
    Calls Tryz.prog 13 #[.agg #[.int .i64 (N : Nat), .int .i64 K, .int .i64 B], .slice q n c, .int .i64 (most : Nat)] w fun e w' => ∃ v, e = .returned v ∧ OwZ w' w.heap.size v (zi (erL N most xs)) ∧ Below w.heap.size w w' := by
  obtain ⟨R, hR⟩ : ∃ R, w.heap.size = R := ⟨_, rfl⟩
  obtain ⟨W0, hW0⟩ : ∃ W0, w.alloc (.cells #[.int .i64 (N : Nat), .int .i64 K, .int .i64 B] 26) = W0 := ⟨_, rfl⟩
  have hb0 : Below R w W0 := by rw [← hR, ← hW0]; exact (Below.refl _ w).alloc (Nat.le_refl _) _
  have hC : Cb W0 R (N : Nat) K B := by rw [← hW0, ← hR]; exact cb_new w _ _ _
  have hsz : W0.heap.size = R + 1 := by rw [← hW0, ← hR]; simp
  have HB : Hid (Bs W0 q n xs ∧ Below R w W0 ∧ Cb W0 R (N : Nat) K B ∧ W0.heap.size = R + 1 ∧ 0 < N) := ⟨hs.below (hR.symm ▸ hb0), hb0, hC, hsz, hN⟩
  clear hs hb0 hC hsz
  go_enter Tryz.func13, Tryz.ntmps13
  go_wp2
  go_loopw [7, 8] (fun v i wr => ∃ (t m : Nat) (q2 : Option Addr) (c2 : Nat), t ≤ n ∧ i = .int .i64 (t : Int) ∧ v = .slice q2 m c2 ∧ Hid ((erL N most (xs.take t)).length = m ∧ OwZ wr (R + 1) v (zi (erL N most (xs.take t))) ∧ Ns .i64 wr q2 m (zi (erL N most (xs.take t))) ∧ Below (R + 1) W0 wr)) (fun _ i _ => n - (intOf i).toNat)
  case atStart => exact ⟨0, 0, none, 0, by omega, rfl, rfl, (⟨rfl, owV_nil _ _ _, ⟨rfl, by omega, fun i hi => absurd hi (Nat.not_lt_zero i), fun z hz => by simp [erL_nil, zi] at hz⟩, Below.refl _ _⟩ : (erL N most (xs.take 0)).length = 0 ∧ _)⟩
  case round =>
    obtain ⟨t, m, q2, c2, ht, rfl, rfl, HO⟩ := hrel
    have hne : ∀ h : t < n, (t : Int) < (n : Int) := fun h => by omega
    by_cases hlt : t < n
    · have htn : t + 1 ≤ n := hlt
      by_cases hmm : m < most
      · have hi : (t : Int) < (n : Int) := by omega
        have hi0 : (0 : Int) ≤ (t : Int) := by omega
        have HKW : Hid (wrap64 ((t : Int) + 1) = (t : Int) + 1) := by have := HB.out.1.max; show wrap64 ((t : Int) + 1) = (t : Int) + 1; unfold wrap64; omega
        have hm1 : (m : Int) < (most : Int) := by omega
        have hCw := HB.out.2.2.1.but (But.of_below_at HO.out.2.2.2) (fun h => by omega)
        obtain ⟨a, ha, _, ca⟩ := (HB.out.1.below (HB.out.2.2.2.1.symm ▸ HO.out.2.2.2)).cell t hlt
        obtain ⟨x, hx⟩ : ∃ x, xs.getD t 0 = x := ⟨_, rfl⟩
        have HX : Hid (xs.getD t 0 = x) := hx
        have hx8 : x < 256 := by rw [← hx]; exact HB.out.1.byte t
        rw [hx] at ca
        subst ha
        have hu : IntKind.i64.wrap (x : Int) = (x : Int) := wrap_nat x (by omega)
        have hN0 : ((N : Int) = 0) = False := eq_false (by omega)
        have hNN : (N = 0) = False := eq_false (by omega)
        obtain ⟨r, hr⟩ : ∃ r : Nat, x % N = r := ⟨_, rfl⟩
        have hmod : (x : Int).tmod (N : Int) = (r : Int) := by rw [← hr]; exact (Int.ofNat_tmod x N).symm
        have HR : Hid (x % N = r ∧ r < N) := ⟨hr, by rw [← hr]; exact Nat.mod_lt _ HB.out.2.2.2.2⟩
        clear hx hr
        have u0 := (hCw).c0
        have u1 := (hCw).c1
        have u2 := (hCw).c2
        clear hCw
        go_wp2
        go_quiet (fail)
        obtain ⟨W2, hW2⟩ : ∃ W2, wr.drewN nq = W2 := ⟨_, rfl⟩
        rw [hW2]
        have hO2 : OwZ W2 (R + 1) (.slice q2 m c2) (zi (erL N most (xs.take t))) := hW2 ▸ HO.out.2.1.block fun _ _ => rfl
        have hN2 : Ns .i64 W2 q2 m (zi (erL N most (xs.take t))) := hW2 ▸ HO.out.2.2.1.drewN nq
        have hb2 : Below (R + 1) W0 W2 := hW2 ▸ below_drewN HO.out.2.2.2 nq
        have hl2 := HO.out.1
        clear HO
        obtain ⟨L, hL⟩ : ∃ L, erL N most (xs.take t) = L := ⟨_, rfl⟩
        rw [hL] at hO2 hN2 hl2
        have hst : erL N most (xs.take (t + 1)) = erS N most L x := by
          rw [Pol.take_snoc' xs t (by rw [HB.out.1.len]; exact hlt), erL_snoc, hL, HX.out]
        have hP := place_calls q2 m c2 (zi L) (r : Int) (by omega) W2 hN2
        have hpl : plZ (zi L) (r : Int) < 0 ↔ r ∉ L := plZ_neg.trans (not_congr mem_zi)
        obtain ⟨p, hp⟩ : ∃ p, plZ (zi L) (r : Int) = p := ⟨_, rfl⟩
        rw [hp] at hP hpl
        have hsz2 : R + 1 ≤ W2.heap.size := by have := hb2.size; have := HB.out.2.2.2.1; omega
        by_cases hin : r ∈ L
        · have hp0 : (p < 0) = False := eq_false (fun h => hpl.1 h hin)
          have HZ : Hid ((erL N most (xs.take (t + 1))).length = m ∧ OwZ W2 (R + 1) (.slice q2 m c2) (zi (erL N most (xs.take (t + 1)))) ∧ Ns .i64 W2 q2 m (zi (erL N most (xs.take (t + 1)))) ∧ Below (R + 1) W0 W2) := by
            have e : erS N most L x = L := by unfold erS; rw [if_neg (fun hc => hc.2 (by rw [HR.out.1]; exact hin))]
            rw [hst, e]; exact ⟨hl2, hO2, hN2, hb2⟩
          clear hpl hin hst hO2 hN2 hb2 hl2 hL hp hW2 u0 u1 u2 hsz2
          go_wp2_with (go_at_call 19; refine hP.mono ?_; rintro e w3 ⟨rfl, rfl⟩)
          go_roundw
          case rel => exact ⟨t + 1, m, q2, c2, htn, by rw [HKW.out]; rfl, rfl, HZ⟩
          case measure => rw [HKW.out]; simp [intOf]; omega
        · have hp0 : p < 0 := hpl.2 hin
          obtain ⟨g, cg, W3, hap, hO3, hbw⟩ := run_append_z W2 (R + 1) (.slice q2 m c2) (zi L) (r : Int) hO2 (by rw [zi_length]; omega) hsz2
          rw [zi_length, hl2] at hap hO3
          rw [← zi_snoc] at hO3
          obtain ⟨l, hle⟩ : ∃ l, m + 1 = l := ⟨_, rfl⟩
          rw [hle] at hap hO3
          have ha1 := ap_ok hap
          have ha2 := ap_v hap
          have ha3 := ap_w hap
          have e : erS N most L x = L ++ [r] := by unfold erS; rw [if_pos ⟨by omega, by rw [HR.out.1]; exact hin⟩, HR.out.1]
          rw [e] at hst
          have hok := erL_ok (N := N) (most := most) HB.out.2.2.2.2 (xs.take (t + 1))
          obtain ⟨q3, c3, e3, N3, _, _⟩ := hO3.tell_z (n := l) (zi_wf (by rw [← hst]; intro i hi; have := hok.lt i hi; omega)) (by rw [zi_length, List.length_append, hl2]; simpa using hle)
          have HZ : Hid ((erL N most (xs.take (t + 1))).length = l ∧ OwZ W3 (R + 1) (.slice (some ⟨g, 0, none⟩) l cg) (zi (erL N most (xs.take (t + 1)))) ∧ Ns .i64 W3 q3 l (zi (erL N most (xs.take (t + 1)))) ∧ Below (R + 1) W0 W3) := by
            rw [hst]
            exact ⟨by rw [List.length_append, hl2]; simpa using hle, hO3, N3, hb2.trans (hbw _ (Nat.le_refl _))⟩
          cases e3
          clear hpl hin hst hO2 hN2 hb2 hl2 hL hp hW2 hap hO3 hbw e hok N3 hle u0 u1 u2 hsz2
          go_wp2_with (go_at_call 19; refine hP.mono ?_; rintro e w3 ⟨rfl, rfl⟩)
          go_roundw
          case rel => exact ⟨t + 1, l, _, cg, htn, by rw [HKW.out]; rfl, rfl, HZ⟩
          case measure => rw [HKW.out]; simp [intOf]; omega
      · have hi : (t : Int) < (n : Int) := by omega
        have hm1 : ((m : Int) < (most : Int)) = False := eq_false (by omega)
        have HZ : Hid (OwZ wr R (.slice q2 m c2) (zi (erL N most xs)) ∧ Below R w wr) := by
          have h1 := erL_full (N := N) (most := most) (xs.take t) (xs.drop t) (by have := HO.out.1; omega)
          rw [List.take_append_drop] at h1
          rw [h1]
          exact ⟨HO.out.2.1.mono (by omega), HB.out.2.1.trans (HO.out.2.2.2.mono (by omega))⟩
        clear HO
        go_wp2
        go_ret
        exact ⟨_, rfl, hR.symm ▸ HZ.out.1, hR.symm ▸ HZ.out.2⟩
    · have hi : ((t : Int) < (n : Int)) = False := eq_false (by omega)
      have HZ : Hid (OwZ wr R (.slice q2 m c2) (zi (erL N most xs)) ∧ Below R w wr) := by
        have h1 := HO.out.2.1
        rw [List.take_of_length_le (by rw [HB.out.1.len]; omega)] at h1
        exact ⟨h1.mono (by omega), HB.out.2.1.trans (HO.out.2.2.2.mono (by omega))⟩
      clear HO
      go_wp2
      go_ret
      exact ⟨_, rfl, hR.symm ▸ HZ.out.1, hR.symm ▸ HZ.out.2⟩
/-- As a step from world to world. -/
theorem kerased (k Bf T P : Nat) (N K B Y Z : Int) (w0 : World) (X : Nat) (q : Option Addr) (n c most m : Nat) (xs es : List Nat) (hX : 0 < X) (hX6 : X ≤ 1000) (hm : most ≤ 1000) (he : erL X most xs = es) (hl : es.length = m) (W : World) (hW : Tc k Bf T P N K B w0 W) (hs : Tl W T q n c xs) :
    Calls Tryz.prog 13 #[.agg #[.int .i64 (X : Nat), .int .i64 Y, .int .i64 Z], .slice q n c, .int .i64 (most : Nat)] W fun e w' => ∃ q c, e = .returned (.slice q m c) ∧ Tz w' T q m c (zi es) ∧ Tc k Bf T P N K B w0 w' ∧ But (· = T) W w' :=
  (erased_calls X Y Z n c most q xs hX hX6 hm W hs.bs).mono fun e w' ⟨v, hr, hO, hb⟩ => by
    rw [he] at hO
    have hok := erL_ok (most := most) hX xs
    rw [he] at hok
    obtain ⟨q, c, rfl, t⟩ := hO.tz hW.lt (zi_wf fun i hi => by have := hok.lt i hi; omega) (by rw [zi_length, hl])
    exact ⟨q, c, hr, t, hW.below hb, But.of_below hb⟩
end Go.Proofs
