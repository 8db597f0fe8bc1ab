/- The walks of the document's answers of layer 5 (erratumref05): Deg, Norm, Coef, Same, Cut, Scale, Add. Conditions: lists of at most a thousand million bytes, no longer than their capacities. -/
import Derived.Test.YtddgakaidlclcaaPAdd
import Derived.Test.YtddgakaidlclcaaRefAny
import Derived.Test.YtddgakaidlclcaaRef01
import Derived.Test.YtddgakaidlclcaaApp1
namespace Go.Proofs
open Go.RowKit Go.ChangeShapes Go.WideShapes
attribute [local go_sem ↓ high] builtin_ap
attribute [local go_sem] ap_sem
open Pol (IsN Dg ofL Byt)

set_option maxRecDepth 100000 in
set_option maxHeartbeats 1000000 in
theorem rdeg_calls (q : Option Addr) (n c : Nat) (xs : List Nat) (d : Nat) (hd : Dg d (ofL xs)) (hn : n ≤ 1000000000) (w : World) (hs : Bs w q n xs) :
    Calls Try.prog 24 #[.slice q n c] w fun e w' => e = .returned (.int .i64 ((d : Int) - 1)) ∧ w' = w := by
  have HS : Hid (Bs w q n xs) := hs
  have HD : Hid (Dg d (ofL xs)) := hd
  have h0 : Hid (Pol.Bd n (ofL xs)) := by have := Pol.ofL_bd xs; rwa [hs.len] at this
  clear hs hd
  go_enter Try.func24, Try.ntmps24
  go_wp2
  go_loopw [3] (fun i wr => ∃ j : Nat, j ≤ n ∧ i = .int .i64 ((j : Int) - 1) ∧ Pol.Bd j (ofL xs) ∧ wr = w) (fun i _ => (intOf i + 1).toNat)
  case atStart => exact ⟨n, Nat.le_refl _, rfl, h0.out, rfl⟩
  case round =>
    obtain ⟨j, hj, rfl, hbd, rfl⟩ := hrel
    cases j with
    | zero =>
      have e0 : d = 0 := HD.out.unique ⟨hbd, fun e => absurd rfl e⟩
      subst e0
      have e1 : ((0 : Nat) : Int) - 1 = -1 := by omega
      rw [e1]
      clear HS HD h0 hbd
      go_wp2
      go_ret
      exact ⟨rfl, rfl⟩
    | succ k =>
      have e1 : ((k + 1 : Nat) : Int) - 1 = (k : Int) := by omega
      rw [e1]
      have hlt : k < n := by omega
      have hki : (k : Int) < (n : Int) := by omega
      obtain ⟨a, rfl, la, ca⟩ := HS.out.cell k hlt
      have hbx := HS.out.byte k
      have HZ : Hid (xs.getD k 0 = 0 → Pol.Bd k (ofL xs)) := fun e i hi => by
        by_cases h : i = k
        · subst h; show GF.of _ = 0; rw [e]; rfl
        · exact hbd i (by omega)
      have HE : Hid (xs.getD k 0 ≠ 0 → d = k + 1) := fun e => HD.out.unique ⟨hbd, fun _ e' => e ((GF.of_eq_zero _ hbx).1 e')⟩
      obtain ⟨x, hx⟩ : ∃ x, xs.getD k 0 = x := ⟨_, rfl⟩
      rw [hx] at ca HZ HE
      clear hx la hbd hbx
      by_cases h : x = 0
      · subst h
        have HB : Hid (Pol.Bd k (ofL xs)) := HZ.out rfl
        clear HZ HE
        go_wp2
        go_roundw
        case rel => exact ⟨k, by omega, rfl, HB.out, by trivial⟩
        case measure => simp [intOf]
      · have hne : ((x : Int) != 0) = true := by simp; omega
        have e2 := HE.out h
        subst e2
        clear HZ HE HS HD h0
        go_wp2
        go_ret
        exact ⟨congrArg (fun z => Ending.returned (.int .i64 z)) e1.symm, rfl⟩

set_option maxHeartbeats 1000000 in
theorem rnorm_calls (q : Option Addr) (n c : Nat) (xs zs : List Nat) (hz : IsN zs (ofL xs)) (hn : n ≤ 1000000000) (hnc : n ≤ c) (w : World) (hs : Bs w q n xs) :
    Calls Try.prog 23 #[.slice q n c] w fun e w' => ∃ v, e = .returned v ∧ Ow w' w.heap.size v zs ∧ Below w.heap.size w w' := by
  obtain ⟨d, hd, hg⟩ := Pol.dg_list xs
  rw [hs.len] at hd
  have K := rdeg_calls q n c xs d hg hn w hs
  obtain rfl := hz.unique (Pol.isN_take hs.byt hg)
  have HS : Hid (Bs w q d (xs.take d)) := bs_take hs d hd
  have hi : (d : Int) ≤ (c : Int) := by omega
  have h0 : wrap64 ((d : Int) - 1 + 1) = (d : Int) := by unfold wrap64; omega
  clear hs hz hg
  obtain ⟨zs, hzs⟩ : ∃ zs, xs.take d = zs := ⟨_, rfl⟩
  rw [hzs] at HS ⊢
  clear hzs
  obtain ⟨v1, W1, hap, hO, hg⟩ := run_append_list w w.heap.size (.slice none 0 0) [] q d c zs (ow_nil _ _) HS.out (by simp; omega) (Nat.le_refl _)
  have ha1 := ap_ok hap
  have ha2 := ap_v hap
  have ha3 := ap_w hap
  have HZ : Hid (Ow W1 w.heap.size v1 zs ∧ Below w.heap.size w W1) := ⟨hO, (Below.refl _ w).grown hg (Nat.le_refl _) (fun k hk => by cases hk)⟩
  clear hap hO hg HS
  go_enter Try.func23, Try.ntmps23
  go_wp2_with (go_at_call 24; refine K.mono ?_; rintro e w1 ⟨rfl, rfl⟩)
  go_ret
  exact ⟨_, rfl, HZ.out⟩

set_option maxHeartbeats 1000000 in
theorem rcoef_calls (q : Option Addr) (n c : Nat) (xs : List Nat) (i : Int) (w : World) (hs : Bs w q n xs) :
    Calls Try.prog 26 #[.slice q n c, .int .i64 i] w fun e w' => e = .returned (.int .u8 (cof xs i : Nat)) ∧ w' = w := by
  have hmax := hs.max
  rcases Int.lt_or_le i 0 with h | h
  · have e : cof xs i = 0 := by unfold cof; rw [if_neg (by omega)]
    rw [e]
    go_enter Try.func26, Try.ntmps26
    go_wp2
    go_ret
    exact ⟨rfl, rfl⟩
  · obtain ⟨k, rfl⟩ := Int.eq_ofNat_of_zero_le h
    have e : cof xs (k : Int) = xs.getD k 0 := by unfold cof; rw [if_pos (by omega)]; rfl
    rw [e]
    by_cases hk : k < n
    · obtain ⟨a, rfl, _, hc⟩ := hs.cell k hk
      obtain ⟨x, hx⟩ : ∃ x, xs.getD k 0 = x := ⟨_, rfl⟩
      rw [hx] at hc ⊢
      clear hs
      have h1 : ¬ (k : Int) < 0 := by omega
      have h2 : ¬ (n : Int) ≤ (k : Int) := by omega
      have h3 : (k : Int) < (n : Int) := by omega
      go_enter Try.func26, Try.ntmps26
      go_wp2
      go_ret
      exact ⟨rfl, rfl⟩
    · have hl := hs.len
      have e2 : xs.getD k 0 = 0 := by simp [List.getD, List.getElem?_eq_none (show xs.length ≤ k by omega)]
      rw [e2]
      have h1 : ¬ (k : Int) < 0 := by omega
      have h2 : (n : Int) ≤ (k : Int) := by omega
      clear hs
      go_enter Try.func26, Try.ntmps26
      go_wp2
      go_ret
      exact ⟨rfl, rfl⟩

set_option maxHeartbeats 1000000 in
theorem rsame_calls (q p : Option Addr) (n c m d : Nat) (xs ys : List Nat) (b : Bool) (hb : b = true ↔ ofL xs = ofL ys) (hn : n ≤ 1000000000) (hm : m ≤ 1000000000) (hnc : n ≤ c) (hmd : m ≤ d) (w : World) (hx : Bs w q n xs) (hy : Bs w p m ys) :
    Calls Try.prog 27 #[.slice q n c, .slice p m d] w fun e w' => e = .returned (.bool b) ∧ Below w.heap.size w w' := by
  obtain ⟨us, hu, _⟩ := Pol.isN_of_bd (Pol.ofL_bd xs)
  obtain ⟨vs, hv, _⟩ := Pol.isN_of_bd (Pol.ofL_bd ys)
  have hb' : b = true ↔ us = vs := hb.trans ⟨fun e => hu.unique (e ▸ hv), fun e => by rw [← hu.eq, ← hv.eq, e]⟩
  have K1 := rnorm_calls q n c xs us hu hn hnc w hx
  have K2 : Hid (∀ W, Below w.heap.size w W → Calls Try.prog 23 #[.slice p m d] W fun e w' => ∃ v, e = .returned v ∧ Ow w' W.heap.size v vs ∧ Below W.heap.size W w') := fun W hW => rnorm_calls p m d ys vs hv hm hmd W (hy.below hW)
  have HB : Hid (Byt us ∧ Byt vs ∧ (b = true ↔ us = vs)) := ⟨hu.byt, hv.byt, hb'⟩
  clear hx hy hb hb' hu hv
  go_enter Try.func27, Try.ntmps27
  go_wp2_with fail
  refine K1.mono ?_
  rintro e w1 ⟨v, rfl, hO, hb1⟩
  obtain ⟨q1, c1, rfl, S1, -, -⟩ := hO.told HB.out.1
  clear K1 hO
  go_wp2_with fail
  refine (K2.out w1 hb1).mono ?_
  rintro e w2 ⟨v, rfl, hO, hb2⟩
  obtain ⟨q2, c2, rfl, S2, -, -⟩ := hO.told HB.out.2.1
  replace S1 := S1.below hb2
  have hb3 := hb1.trans (hb2.mono hb1.size)
  clear K2 hb1 hb2 hO
  go_wp2_with fail
  refine (same_any q1 q2 _ _ c1 c2 us vs b HB.out.2.2 w2 S1 S2).mono ?_
  rintro e w3 ⟨rfl, hb4⟩
  go_wp2
  go_ret
  exact ⟨rfl, hb3.trans (hb4.mono hb3.size)⟩

set_option maxRecDepth 100000 in
set_option maxHeartbeats 1000000 in
theorem rcut_calls (q : Option Addr) (n c : Nat) (xs zs : List Nat) (k : Int) (hz : IsN zs (Pol.cut k.toNat (ofL xs))) (hn : n ≤ 1000000000) (hnc : n ≤ c) (w : World) (hs : Bs w q n xs) :
    Calls Try.prog 32 #[.slice q n c, .int .i64 k] w fun e w' => ∃ v, e = .returned v ∧ Ow w' w.heap.size v zs ∧ Below w.heap.size w w' := by
  obtain ⟨t, ht⟩ : ∃ t : Nat, min k.toNat n = t := ⟨_, rfl⟩
  have e1 : Pol.cut k.toNat (ofL xs) = ofL (xs.take t) := by
    rw [Pol.ofL_take]
    funext i
    unfold Pol.cut
    have hb := Pol.ofL_bd xs i
    rw [hs.len] at hb
    by_cases h1 : i < k.toNat
    · by_cases h2 : i < n
      · rw [if_pos h1, if_pos (by omega)]
      · rw [if_pos h1, if_neg (by omega), hb (by omega)]
    · rw [if_neg h1, if_neg (by omega)]
  rw [e1] at hz
  have K := rnorm_calls q t c (xs.take t) zs hz (by omega) (by omega) w (bs_take hs t (by omega))
  have hi : (t : Int) ≤ (c : Int) := by omega
  clear hs hz e1
  go_enter Try.func32, Try.ntmps32
  by_cases hk : k < 0
  · have e0 : t = 0 := by omega
    subst e0
    have hm : ¬ (n : Int) < 0 := by omega
    go_wp2_with (go_at_call 23; refine K.mono ?_; rintro e w1 ⟨v, rfl, hO, hb⟩)
    all_goals
      go_ret
      exact ⟨_, rfl, hO, hb⟩
  · by_cases hkn : k ≤ (n : Int)
    · obtain rfl : k = (t : Int) := by omega
      clear hi ht
      have hi : (t : Int) ≤ (c : Int) := by omega
      go_wp2_with (go_at_call 23; refine K.mono ?_; rintro e w1 ⟨v, rfl, hO, hb⟩)
      all_goals
        go_ret
        exact ⟨_, rfl, hO, hb⟩
    · obtain rfl : t = n := by omega
      clear ht
      have hkn' : (t : Int) < k := by omega
      go_wp2_with (go_at_call 23; refine K.mono ?_; rintro e w1 ⟨v, rfl, hO, hb⟩)
      all_goals
        go_ret
        exact ⟨_, rfl, hO, hb⟩
end Go.Proofs
