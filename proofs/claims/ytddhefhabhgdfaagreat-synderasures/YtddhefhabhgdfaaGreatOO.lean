/- Texts laid together: Ref12, Ref12s. Each says its own conditions. -/
import Derived.BigQuiet
import Derived.Test.YtddhefhabhgdfaaGreatOJ
import Derived.Test.YtddhefhabhgdfaaGreatOM
import Derived.Test.YtddhefhabhgdfaaGreatNY
import Derived.Test.YtddhefhabhgdfaaGreatMW
import Derived.Test.YtddhefhabhgdfaaGreatOK
/- The walks of erratumref12: Place, Erasures, Sorted. Conditions: lists that are no great ones. -/
namespace Go.Proofs
open Go.RowKit Go.ChangeShapes Go.WideShapes
attribute [local go_sem ↓ high] builtin_ap
attribute [local go_sem] ap_sem

set_option maxRecDepth 100000 in
set_option maxHeartbeats 1000000 in
theorem place_calls (q : Option Addr) (n c : Nat) (zs : List Int) (z : Int) (hn : n ≤ 1000000) (w : World) (hs : Ns .i64 w q n zs) :
    Calls Tryz.prog 24 #[.slice q n c, .int .i64 z] w fun e w' => e = .returned (.int .i64 (plZ zs z)) ∧ w' = w := by
  obtain ⟨r, hr⟩ : ∃ r, plZ zs z = r := ⟨_, rfl⟩
  have HS : Hid (Ns .i64 w q n zs ∧ plZ zs z = r) := ⟨hs, hr⟩
  rw [hr]
  clear hs hr
  go_enter Tryz.func24, Tryz.ntmps24
  go_wp2
  go_loopw [5] (fun i wr => ∃ t : Nat, t ≤ n ∧ i = .int .i64 (t : Int) ∧ Hid (z ∉ zs.take t) ∧ wr = w) (fun i _ => n - (intOf i).toNat)
  case atStart => exact ⟨0, by omega, rfl, (show z ∉ zs.take 0 by simp), rfl⟩
  case round =>
    obtain ⟨t, ht, rfl, hz, rfl⟩ := hrel
    by_cases hlt : t < n
    · have hi : (t : Int) < (n : Int) := by omega
      have hi0 : (0 : Int) ≤ (t : Int) := by omega
      have ht6 : (t : Int) ≤ 1000000 := by omega
      obtain ⟨a, rfl, la, ca⟩ := HS.out.1.cell t hlt
      have HN : Hid (∀ y, zs.getD t 0 = y → (y = z → r = (t : Int)) ∧ (¬ y = z → z ∉ zs.take (t + 1))) := fun y hy => ⟨fun e => by rw [← HS.out.2]; exact plZ_at (by rw [HS.out.1.len]; exact hlt) hz.out (hy.trans e), fun e => by
        rw [take_snoc_z zs t (by rw [HS.out.1.len]; exact hlt), List.mem_append, List.mem_singleton]
        rintro (h | h)
        · exact hz.out h
        · exact e (hy.symm.trans h.symm)⟩
      obtain ⟨y, hy⟩ : ∃ y, zs.getD t 0 = y := ⟨_, rfl⟩
      have HY : Hid (zs.getD t 0 = y) := hy
      rw [hy] at ca
      clear hy la
      by_cases hyz : y = z
      · have hyz' : (y == z) = true := by simpa using hyz
        obtain rfl : (t : Int) = r := ((HN.out y HY.out).1 hyz).symm
        clear hyz
        go_wp2
        go_ret
        exact ⟨rfl, rfl⟩
      · have hyz' : (y == z) = false := by simpa using hyz
        have HZ : Hid (z ∉ zs.take (t + 1)) := (HN.out y HY.out).2 hyz
        clear hyz
        go_wp2
        go_roundw
        case rel => exact ⟨t + 1, by omega, by go_num, HZ, trivial⟩
        case measure => simp [intOf]; omega
    · obtain rfl : t = n := by omega
      have e0 : -1 = r := by
        rw [← HS.out.2]
        have h1 := hz.out
        rw [List.take_of_length_le (by have := HS.out.1.len; omega)] at h1
        exact (plZ_none h1).symm
      subst e0
      go_wp2
      go_ret
      exact ⟨rfl, rfl⟩

theorem Ns.drewN {k : IntKind} {W : World} {q : Option Addr} {n : Nat} {zs : List Int} (h : Ns k W q n zs) (m : Nat) : Ns k (W.drewN m) q n zs := ⟨h.len, h.max, fun i hi => by obtain ⟨a, e, hl, hc⟩ := h.cell i hi; exact ⟨a, e, hl, hc⟩, h.wf⟩
theorem erB_snoc {N z : Int} {l : List Int} : erB N (l ++ [z]) = true ↔ erB N l = true ∧ outB N z = false ∧ z ∉ l := by
  unfold erB
  rw [List.any_append]
  simp only [Bool.and_eq_true, Bool.not_eq_true', Bool.or_eq_false_iff, decide_eq_true_eq, List.any_cons, List.any_nil, Bool.or_false]
  constructor
  · rintro ⟨⟨h1, h2⟩, h3⟩
    have h4 := List.pairwise_append.1 h3
    exact ⟨⟨h1, h4.1⟩, h2, fun hm => h4.2.2 z hm z (by simp) rfl⟩
  · rintro ⟨⟨h1, h3⟩, h2, h4⟩
    exact ⟨⟨h1, h2⟩, List.pairwise_append.2 ⟨h3, List.pairwise_singleton _ _, fun x hx y hy => by rw [List.mem_singleton] at hy; rintro rfl; exact h4 (hy ▸ hx)⟩⟩
theorem erB_take {N : Int} {zs : List Int} {t : Nat} (h : erB N zs = true) : erB N (zs.take t) = true := by
  unfold erB at h ⊢
  simp only [Bool.and_eq_true, Bool.not_eq_true', decide_eq_true_eq] at h ⊢
  refine ⟨?_, h.2.sublist (List.take_sublist _ _)⟩
  rw [List.any_eq_false] at h ⊢
  exact fun x hx => h.1 x (List.mem_of_mem_take hx)
theorem erB_bad {N : Int} {zs : List Int} {t : Nat} (ht : t < zs.length) (h : outB N (zs.getD t 0) = true ∨ zs.getD t 0 ∈ zs.take t) : erB N zs = false := by
  cases hb : erB N zs with
  | false => rfl
  | true =>
    have h1 := erB_take (t := t + 1) hb
    rw [take_snoc_z zs t ht] at h1
    obtain ⟨_, h2, h3⟩ := erB_snoc.1 h1
    rcases h with h | h
    · rw [h] at h2; cases h2
    · exact absurd h h3

set_option maxRecDepth 100000 in
set_option maxHeartbeats 2000000 in
theorem r12erasures_calls (N K B : Int) (q : Option Addr) (n c : Nat) (zs : List Int) (r : Int) (hr : erE N K B zs = r) (hn : n ≤ 1000000) (w : World) (hs : Ns .i64 w q n zs) :
    Calls Tryz.prog 34 #[.agg #[.int .i64 N, .int .i64 K, .int .i64 B], .slice q n c] w fun e w' => e = .returned (.int .i64 r) ∧ Below w.heap.size w w' := by
  subst hr
  obtain ⟨R, hR⟩ : ∃ R, w.heap.size = R := ⟨_, rfl⟩
  obtain ⟨W0, hW0⟩ : ∃ W0, w.alloc (.cells #[.int .i64 N, .int .i64 K, .int .i64 B] 23) = W0 := ⟨_, rfl⟩
  have hb0 : Below w.heap.size w W0 := hW0 ▸ (Below.refl _ w).alloc (Nat.le_refl _) _
  have hC : Cb W0 R N K B := by rw [← hW0, ← hR]; exact cb_new w _ _ _
  have K1 := r10right_calls N K B W0
  have HB : Hid (Below w.heap.size w W0 ∧ Cb W0 R N K B ∧ Ns .i64 W0 q n zs) := ⟨hb0, hC, hs.below hb0⟩
  clear hb0 hs
  cases hv : cdB N K B with
  | false =>
    rw [erE_no hv]
    rw [cdE_no hv] at K1
    have c0 := (hC).c0
    have c1 := (hC).c1
    have c2 := (hC).c2
    clear hC hv
    go_enter Tryz.func34, Tryz.ntmps34
    go_wp2_with (go_at_call 39; refine K1.mono ?_; rintro e w1 ⟨rfl, hb1⟩)
    go_ret
    exact ⟨rfl, HB.out.1.trans (hb1.mono HB.out.1.size)⟩
  | true =>
    rw [cdE_yes hv] at K1
    obtain ⟨r0, hr0⟩ : ∃ r0, erE N K B zs = r0 := ⟨_, rfl⟩
    have HE : Hid ((erB N zs = true → 0 = r0) ∧ (erB N zs = false → 13 = r0)) := ⟨fun h => by rw [← hr0, erE_yes hv h], fun h => by rw [← hr0, erE_bad hv h]⟩
    rw [hr0]
    have c0 := (hC).c0
    have c1 := (hC).c1
    have c2 := (hC).c2
    clear hC hv hr0
    go_enter Tryz.func34, Tryz.ntmps34
    go_wp2_with fail
    refine K1.mono ?_
    rintro e w1 ⟨rfl, hb1⟩
    clear c0 c1 c2
    have HW : Hid (Below w.heap.size w w1 ∧ Cb w1 R N K B ∧ Ns .i64 w1 q n zs) := ⟨HB.out.1.trans (hb1.mono HB.out.1.size), HB.out.2.1.below hb1, HB.out.2.2.below hb1⟩
    clear K1 hb1 HB hR hW0
    go_wp2
    go_loopw [5] (fun i wr => ∃ t : Nat, t ≤ n ∧ i = .int .i64 (t : Int) ∧ Hid (erB N (zs.take t) = true) ∧ But (fun _ => False) w1 wr) (fun i _ => n - (intOf i).toNat)
    case atStart => exact ⟨0, by omega, rfl, (show erB N (zs.take 0) = true by simp [erB]), But.refl _ _⟩
    case round =>
      obtain ⟨t, ht, rfl, hz, hB⟩ := hrel
      by_cases hlt : t < n
      · have hi : (t : Int) < (n : Int) := by omega
        have hi0 : (0 : Int) ≤ (t : Int) := by omega
        have ht6 : (t : Int) ≤ 1000000 := by omega
        have hNs := HW.out.2.2.but hB (fun _ _ _ h => h)
        have hCw := HW.out.2.1.but hB (fun h => h)
        obtain ⟨a, ha, la, ca⟩ := hNs.cell t hlt
        have htl : t < zs.length := by rw [HW.out.2.2.len]; exact hlt
        obtain ⟨z, hze⟩ : ∃ z, zs.getD t 0 = z := ⟨_, rfl⟩
        have HP : Hid (plZ zs z < (t : Int) ↔ z ∈ zs.take t) := plZ_lt htl hze
        have HBad : Hid (outB N z = true ∨ z ∈ zs.take t → 13 = r0) := fun h => HE.out.2 (erB_bad htl (by rw [hze]; exact h))
        have HGood : Hid (outB N z = false → z ∉ zs.take t → erB N (zs.take (t + 1)) = true) := fun h1 h2 => by
          have := take_snoc_z zs t htl
          rw [hze] at this
          rw [this]; exact erB_snoc.2 ⟨hz.out, h1, h2⟩
        have HT : Hid (But (fun _ => False) w1 wr) := hB
        have HNs : Hid (Ns .i64 wr q n zs) := hNs
        have C1 : Hid (∀ W, Ns .i64 W q n zs → Calls Tryz.prog 24 #[.slice q n c, .int .i64 z] W fun e w' => e = .returned (.int .i64 (plZ zs z)) ∧ w' = W) := fun W hW => place_calls q n c zs z hn W hW
        obtain ⟨p, hp⟩ : ∃ p, plZ zs z = p := ⟨_, rfl⟩
        rw [hp] at C1 HP
        rw [hze] at ca
        subst ha
        clear hp hze hB hNs la hz htl
        have c0 := (hCw).c0
        have c1 := (hCw).c1
        have c2 := (hCw).c2
        clear hCw
        by_cases h1 : z < 0
        · obtain rfl := HBad.out (.inl (by simp [outB, h1]))
          go_wp2
          go_quiet (fail)
          go_wp2
          go_ret
          exact ⟨rfl, HW.out.1.trans (below_drewN (HT.out.below (by have := HW.out.1.size; omega) (fun _ h => h.elim)) _)⟩
        · have h1' : (z < 0) = False := eq_false h1
          by_cases h2 : N ≤ z
          · obtain rfl := HBad.out (.inl (by simp [outB, h2]))
            clear h1
            go_wp2
            go_quiet (fail)
            go_wp2
            go_ret
            exact ⟨rfl, HW.out.1.trans (below_drewN (HT.out.below (by have := HW.out.1.size; omega) (fun _ h => h.elim)) _)⟩
          · have h2' : (N ≤ z) = False := eq_false h2
            have ho : outB N z = false := by simp [outB, h1, h2]
            by_cases h3 : p < (t : Int)
            · obtain rfl := HBad.out (.inr (HP.out.1 h3))
              clear h1 h2 ho
              go_wp2
              go_quiet ((go_at_call 24; with_reducible refine Calls.quiet_of_same (C1.out _ (HNs.out.drewN _))))
              go_wp2
              go_ret
              exact ⟨rfl, HW.out.1.trans (below_drewN (HT.out.below (by have := HW.out.1.size; omega) (fun _ h => h.elim)) _)⟩
            · have h3' : (p < (t : Int)) = False := eq_false h3
              have HZ : Hid (erB N (zs.take (t + 1)) = true) := HGood.out ho (fun h => h3 (HP.out.2 h))
              clear h1 h2 ho h3
              go_wp2
              go_quiet ((go_at_call 24; with_reducible refine Calls.quiet_of_same (C1.out _ (HNs.out.drewN _))))
              go_wp2
              go_roundw
              case rel => exact ⟨t + 1, by omega, by go_num, HZ, HT.out.trans (But.drewN _ _ _)⟩
              case measure => simp [intOf]; omega
      · obtain rfl : t = n := by omega
        obtain rfl := HE.out.1 (by have := hz.out; rwa [List.take_of_length_le (by have := HW.out.2.2.len; omega)] at this)
        have HT : Hid (But (fun _ => False) w1 wr) := hB
        clear hB hz
        go_wp2
        go_ret
        exact ⟨rfl, HW.out.1.trans (HT.out.below HW.out.1.size (fun _ h => h.elim))⟩
end Go.Proofs
/- The walk of erratumref12.Sorted. Conditions: a list that is no great one. -/
namespace Go.Proofs
open Go.RowKit Go.ChangeShapes Go.WideShapes
attribute [local go_sem ↓ high] builtin_ap
attribute [local go_sem] ap_sem

def lenOf : Value → Nat
  | .slice _ n _ => n
  | _ => 0
set_option maxRecDepth 100000 in
set_option maxHeartbeats 4000000 in
theorem r12sorted_calls (q : Option Addr) (n c : Nat) (zs L : List Int) (hL : IsSor zs L) (hn : n ≤ 1000000) (w : World) (hs : Ns .i64 w q n zs) :
    Calls Tryz.prog 37 #[.slice q n c] w fun e w' => ∃ v, e = .returned v ∧ OwZ w' w.heap.size v L ∧ Below w.heap.size w w' := by
  obtain ⟨R, hR⟩ : ∃ R, w.heap.size = R := ⟨_, rfl⟩
  have HS : Hid (Ns .i64 w q n zs ∧ IsSor zs L ∧ L.length ≤ n ∧ w.heap.size = R) := ⟨hs, hL, by have := hL.length_le; have := hs.len; omega, hR⟩
  clear hs hL
  go_enter Tryz.func37, Tryz.ntmps37
  go_wp2
  go_loopw [3] (fun v wr => ∃ m q2 c2, v = .slice q2 m c2 ∧ Hid (m ≤ L.length ∧ OwZ wr R v (L.take m) ∧ Ns .i64 wr q2 m (L.take m) ∧ Below R w wr)) (fun v _ => n - lenOf v)
  case atStart => exact ⟨0, none, 0, rfl, (⟨Nat.zero_le _, by rw [List.take_zero]; exact owV_nil _ _ _, ⟨by simp, by omega, fun i hi => absurd hi (Nat.not_lt_zero i), fun z hz => by simp at hz⟩, Below.refl _ _⟩ : 0 ≤ L.length ∧ _)⟩
  case round =>
    obtain ⟨m, q2, c2, rfl, HO⟩ := hrel
    by_cases hlt : m < n
    · have hmn : (m : Int) < (n : Int) := by omega
      obtain ⟨W1, hW1⟩ : ∃ W1, W1 = wr := ⟨_, rfl⟩
      have HW : Hid (m ≤ L.length ∧ OwZ W1 R (.slice q2 m c2) (L.take m) ∧ Ns .i64 W1 q2 m (L.take m) ∧ Below R w W1 ∧ Ns .i64 W1 q n zs) := by
        rw [hW1]; exact ⟨HO.out.1, HO.out.2.1, HO.out.2.2.1, HO.out.2.2.2, HS.out.1.below (HS.out.2.2.2.symm ▸ HO.out.2.2.2)⟩
      subst hW1
      clear HO
      go_wp2
      go_loopw [4, 5] (fun x i wr => ∃ t : Nat, t ≤ n ∧ i = .int .i64 (t : Int) ∧ Hid ((x = .int .i64 (-1) ∧ LstN zs (loM L m) t) ∨ ∃ r : Nat, x = .int .i64 (r : Int) ∧ LstY zs (loM L m) t r) ∧ But (fun _ => False) W1 wr) (fun _ i _ => n - (intOf i).toNat)
      case atStart => exact ⟨0, by omega, rfl, (.inl ⟨rfl, lst_zero⟩ : _ ∨ _), But.refl _ _⟩
      case round =>
        obtain ⟨t, ht, rfl, hx, hB⟩ := hrel
        by_cases htl : t < n
        · have hti : (t : Int) < (n : Int) := by omega
          have hti0 : (0 : Int) ≤ (t : Int) := by omega
          have ht6 : (t : Int) ≤ 1000000 := by omega
          have hNs := HW.out.2.2.2.2.but hB (fun _ _ _ h => h)
          have hN2 := HW.out.2.2.1.but hB (fun _ _ _ h => h)
          have HB : Hid (But (fun _ => False) W1 wr) := hB
          have HNs : Hid (Ns .i64 wr q n zs) := hNs
          obtain ⟨a, ha, la, ca⟩ := hNs.cell t htl
          obtain ⟨z, hze⟩ : ∃ z, zs.getD t 0 = z := ⟨_, rfl⟩
          rw [hze] at ca
          have HZ : Hid (zs.getD t 0 = z) := hze
          clear hB hNs hze la
          rcases Nat.eq_zero_or_pos m with h0 | h0
          · have Hg : Hid (Gt (loM L m) (zs.getD t 0)) := by rw [h0]; exact gt_zero _ _
            clear hN2
            subst ha
            have hm0 : ((m : Int) == 0) = true := by rw [h0]; rfl
            have HH : Hid (m = 0) := h0
            clear h0
            rcases hx.out with ⟨rfl, hl⟩ | ⟨r, rfl, hl⟩
            · have HX : Hid (LstY zs (loM L m) (t + 1) t) := lst_ntake hl Hg.out
              clear hl hx
              go_wp2
              go_quiet (fail)
              go_wp2
              go_roundw
              case rel => exact ⟨t + 1, by omega, by go_num, .inr ⟨t, rfl, HX.out⟩, HB.out.trans (But.drewN _ _ _)⟩
              case measure => simp [intOf]; omega
            · have hrt : r < t := hl.1
              obtain ⟨a', ea, _, cr⟩ := HNs.out.cell r (by omega)
              cases ea
              obtain ⟨x, hxe⟩ : ∃ x, zs.getD r 0 = x := ⟨_, rfl⟩
              rw [hxe] at cr
              have hrn : (r : Int) < (n : Int) := by omega
              have hr0 : (0 : Int) ≤ (r : Int) := by omega
              have hr00 : ((r : Int) < 0) = False := eq_false (by omega)
              by_cases hzx : z < x
              · have HX : Hid (LstY zs (loM L m) (t + 1) t) := lst_ytake hl Hg.out (by rw [HZ.out, hxe]; exact hzx)
                clear hl hx hxe hrt
                go_wp2
                go_quiet (fail)
                go_wp2
                go_roundw
                case rel => exact ⟨t + 1, by omega, by go_num, .inr ⟨t, rfl, HX.out⟩, HB.out.trans (But.drewN _ _ _)⟩
                case measure => simp [intOf]; omega
              · have hzx' : (z < x) = False := eq_false hzx
                have HX : Hid (LstY zs (loM L m) (t + 1) r) := lst_yskip hl (fun _ => by rw [HZ.out, hxe]; exact hzx)
                clear hl hx hxe hrt hzx
                go_wp2
                go_quiet (fail)
                go_wp2
                go_roundw
                case rel => exact ⟨t + 1, by omega, by go_num, .inr ⟨r, rfl, HX.out⟩, HB.out.trans (But.drewN _ _ _)⟩
                case measure => simp [intOf]; omega
          · obtain ⟨j, hj⟩ : ∃ j, m - 1 = j := ⟨_, rfl⟩
            have hmj : (m : Int) - 1 = (j : Int) := by omega
            have hj0 : (0 : Int) ≤ (j : Int) := by omega
            have hjm : (j : Int) < (m : Int) := by omega
            have hmm : (m : Int) ≤ 1000000 := by omega
            have hm0 : ((m : Int) == 0) = false := by simp; omega
            obtain ⟨b, hb, _, cb⟩ := hN2.cell j (by omega)
            have hlast : (L.take m).getD j 0 = L.getD (m - 1) 0 := by
              rw [hj, List.getD_eq_getElem?_getD, List.getD_eq_getElem?_getD, List.getElem?_take_of_lt (by omega)]
            rw [hlast] at cb
            obtain ⟨y, hy⟩ : ∃ y, L.getD (m - 1) 0 = y := ⟨_, rfl⟩
            have HG : Hid (Gt (loM L m) (zs.getD t 0) ↔ y < z) := by rw [← hy, ← HZ.out]; exact gt_succ h0
            rw [hy] at cb
            subst ha hb
            clear hN2 hlast hy h0 hj
            by_cases hyz : y < z
            · have Hg : Hid (Gt (loM L m) (zs.getD t 0)) := HG.out.2 hyz
              clear HG
              rcases hx.out with ⟨rfl, hl⟩ | ⟨r, rfl, hl⟩
              · have HX : Hid (LstY zs (loM L m) (t + 1) t) := lst_ntake hl Hg.out
                clear hl hx
                go_wp2
                go_quiet (fail)
                go_wp2
                go_roundw
                case rel => exact ⟨t + 1, by omega, by go_num, .inr ⟨t, rfl, HX.out⟩, HB.out.trans (But.drewN _ _ _)⟩
                case measure => simp [intOf]; omega
              · have hrt : r < t := hl.1
                obtain ⟨a', ea, _, cr⟩ := HNs.out.cell r (by omega)
                cases ea
                obtain ⟨x, hxe⟩ : ∃ x, zs.getD r 0 = x := ⟨_, rfl⟩
                rw [hxe] at cr
                have hrn : (r : Int) < (n : Int) := by omega
                have hr0 : (0 : Int) ≤ (r : Int) := by omega
                have hr00 : ((r : Int) < 0) = False := eq_false (by omega)
                by_cases hzx : z < x
                · have HX : Hid (LstY zs (loM L m) (t + 1) t) := lst_ytake hl Hg.out (by rw [HZ.out, hxe]; exact hzx)
                  clear hl hx hxe hrt
                  go_wp2
                  go_quiet (fail)
                  go_wp2
                  go_roundw
                  case rel => exact ⟨t + 1, by omega, by go_num, .inr ⟨t, rfl, HX.out⟩, HB.out.trans (But.drewN _ _ _)⟩
                  case measure => simp [intOf]; omega
                · have hzx' : (z < x) = False := eq_false hzx
                  have HX : Hid (LstY zs (loM L m) (t + 1) r) := lst_yskip hl (fun _ => by rw [HZ.out, hxe]; exact hzx)
                  clear hl hx hxe hrt hzx
                  go_wp2
                  go_quiet (fail)
                  go_wp2
                  go_roundw
                  case rel => exact ⟨t + 1, by omega, by go_num, .inr ⟨r, rfl, HX.out⟩, HB.out.trans (But.drewN _ _ _)⟩
                  case measure => simp [intOf]; omega
            · have hyz' : (y < z) = False := eq_false hyz
              have hng : ¬ Gt (loM L m) (zs.getD t 0) := fun h => hyz (HG.out.1 h)
              have HX : Hid ((u4 = .int .i64 (-1) ∧ LstN zs (loM L m) (t + 1)) ∨ ∃ r : Nat, u4 = .int .i64 (r : Int) ∧ LstY zs (loM L m) (t + 1) r) := by
                rcases hx.out with ⟨h1, hl⟩ | ⟨r, h1, hl⟩
                · exact .inl ⟨h1, lst_nskip hl hng⟩
                · exact .inr ⟨r, h1, lst_yskip hl (fun h => absurd h hng)⟩
              clear hyz hng hx HG
              go_wp2
              go_quiet (fail)
              go_wp2
              go_roundw
              case rel => exact ⟨t + 1, by omega, by go_num, HX, HB.out.trans (But.drewN _ _ _)⟩
              case measure => simp [intOf]; omega
        · obtain rfl : t = n := by omega
          have HB : Hid (But (fun _ => False) W1 wr) := hB
          have hNs := HW.out.2.2.2.2.but hB (fun _ _ _ h => h)
          have hlz : t = zs.length := HS.out.1.len.symm
          clear hB
          rcases hx.out with ⟨rfl, hl⟩ | ⟨r, rfl, hl⟩
          · have HZ : Hid (OwZ wr R (.slice q2 m c2) L ∧ Below R w wr) := by
              have hm := lst_end_no HS.out.2.1 HW.out.1 (by rw [hlz] at hl; exact hl)
              have h1 := HW.out.2.1
              rw [hm, List.take_length] at h1
              refine ⟨?_, HW.out.2.2.2.1.trans (HB.out.below (by have := HW.out.2.2.2.1.size; have := HS.out.2.2.2; omega) (fun _ h => h.elim))⟩
              rw [hm]
              exact h1.but HB.out (fun _ _ h => h)
            clear hl hx hNs hlz
            go_wp2
            go_ret
            exact ⟨_, rfl, hR.symm ▸ HZ.out.1, hR.symm ▸ HZ.out.2⟩
          · obtain ⟨hmL, hre⟩ := lst_end_yes HS.out.2.1 HW.out.1 (by rw [hlz] at hl; exact hl)
            obtain ⟨a, ha, _, cr⟩ := hNs.cell r hl.1
            subst ha
            obtain ⟨x, hxe⟩ : ∃ x, zs.getD r 0 = x := ⟨_, rfl⟩
            rw [hxe] at cr hre
            have hrn : (r : Int) < (t : Int) := by have := hl.1; omega
            have hr0 : (0 : Int) ≤ (r : Int) := by omega
            have hr00 : ((r : Int) < 0) = False := eq_false (by omega)
            have hsz : R ≤ wr.heap.size := by have := HW.out.2.2.2.1.size; have := HS.out.2.2.2; have := HB.out.size; omega
            have hO1 : OwZ wr R (.slice q2 m c2) (L.take m) := HW.out.2.1.but HB.out (fun _ _ h => h)
            have hbl : Below R w wr := HW.out.2.2.2.1.trans (HB.out.below (by have := HW.out.2.2.2.1.size; have := HS.out.2.2.2; omega) (fun _ h => h.elim))
            have hml : (L.take m).length = m := by rw [List.length_take]; omega
            obtain ⟨g, cg, W2, hap, hO2, hbw⟩ := run_append_z wr R _ _ x hO1 (by rw [hml]; omega) hsz
            have hsn : L.take m ++ [x] = L.take (m + 1) := by rw [take_snoc_z L m hmL, hre]
            rw [hml] at hap hO2
            rw [hsn] at hO2
            obtain ⟨l, hle⟩ : ∃ l, m + 1 = l := ⟨_, rfl⟩
            rw [hle] at hap hO2
            have ha1 := ap_ok hap
            have ha2 := ap_v hap
            have ha3 := ap_w hap
            obtain ⟨q3, c3, e3, N3, _, _⟩ := hO2.tell_z (n := l) (fun z hz => by
              have h1 := (HS.out.2.1.mem z).1 (List.mem_of_mem_take hz)
              exact HS.out.1.wf z h1) (by rw [List.length_take]; omega)
            have HZ : Hid (l ≤ L.length ∧ OwZ W2 R (.slice (some ⟨g, 0, none⟩) l cg) (L.take l) ∧ Ns .i64 W2 q3 l (L.take l) ∧ Below R w W2) := ⟨by omega, by rw [← hle] at hO2 ⊢; exact hO2, N3, hbl.trans (hbw _ (Nat.le_refl _))⟩
            have hlm : m < l := by omega
            cases e3
            clear hl hx hNs hlz hre hxe hsz hO1 hbl hml hap hO2 hbw hsn N3 hmL hle
            go_wp2
            go_roundw
            case rel => exact ⟨l, _, cg, rfl, HZ⟩
            case measure => simp [lenOf]; omega
    · have HZ : Hid (OwZ wr R (.slice q2 m c2) L ∧ Below R w wr) := by
        have h1 := HO.out.2.1
        rw [List.take_of_length_le (by have := HO.out.1; have := HS.out.2.2.1; omega)] at h1
        exact ⟨h1, HO.out.2.2.2⟩
      have hmn : ((m : Int) < (n : Int)) = False := eq_false (by omega)
      clear HO
      go_wp2
      go_ret
      exact ⟨_, rfl, hR.symm ▸ HZ.out.1, hR.symm ▸ HZ.out.2⟩
end Go.Proofs
