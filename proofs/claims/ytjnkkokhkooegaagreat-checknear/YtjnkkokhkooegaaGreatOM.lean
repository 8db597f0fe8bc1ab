/- Texts laid together: SyEra, SyLoc. Each says its own conditions. -/
import Derived.Test.YtjnkkokhkooegaaGreatOK
import Derived.Test.YtjnkkokhkooegaaGreatNW
import Derived.Test.YtjnkkokhkooegaaGreatOA
import Derived.Test.YtjnkkokhkooegaaGreatOJ
import Derived.Test.YtjnkkokhkooegaaGreatMV
import Derived.Test.YtjnkkokhkooegaaGreatMG
/- The walk of synd.Erasures. Conditions: any code; a list of integers that is no great one. -/
namespace Go.Proofs
open Go.RowKit Go.ChangeShapes Go.WideShapes

/-- Is a number no place of a code? -/
def outB (N z : Int) : Bool := decide (z < 0) || decide (N ≤ z)
/-- Are all of a list places, each once? -/
def erB (N : Int) (zs : List Int) : Bool := !(zs.any (outB N)) && decide zs.Nodup
/-- What is wrong with places. -/
def erE (N K B : Int) (zs : List Int) : Int := if cdB N K B then (if erB N zs then 0 else 13) else 10
theorem erE_no {N K B : Int} {zs : List Int} (h : cdB N K B = false) : erE N K B zs = 10 := by simp [erE, h]
theorem erE_yes {N K B : Int} {zs : List Int} (h : cdB N K B = true) (h2 : erB N zs = true) : erE N K B zs = 0 := by simp [erE, h, h2]
theorem erE_bad {N K B : Int} {zs : List Int} (h : cdB N K B = true) (h2 : erB N zs = false) : erE N K B zs = 13 := by simp [erE, h, h2]

set_option maxRecDepth 100000 in
theorem outside_calls (R : Nat) (N z : Int) (w : World) (hC : w.cell? ⟨R, 0, none⟩ = some (.int .i64 N)) :
    Calls Tryz.prog 51 #[.int .i64 z, .pointer (some ⟨R, 0, none⟩)] w fun e w' => e = .returned (.bool (outB N z)) ∧ Below w.heap.size w w' := by
  by_cases h : z < 0
  · rw [show outB N z = true by simp [outB, h]]
    go_enter Tryz.func51, Tryz.ntmps51
    go_wp2
    go_ret
    exact ⟨rfl, Below.refl _ _⟩
  · have h' : (z < 0) = False := eq_false h
    by_cases h2 : N ≤ z
    · rw [show outB N z = true by simp [outB, h2]]
      clear h
      go_enter Tryz.func51, Tryz.ntmps51
      go_wp2
      go_ret
      exact ⟨by simp, Below.refl _ _⟩
    · rw [show outB N z = false by simp [outB, h, h2]]
      clear h
      go_enter Tryz.func51, Tryz.ntmps51
      go_wp2
      go_ret
      exact ⟨by simp, Below.refl _ _⟩
theorem any_take {α : Type} (p : α → Bool) (l : List α) (t : Nat) (ht : t < l.length) (d : α) : (l.take (t + 1)).any p = ((l.take t).any p || p (l.getD t d)) := by
  rw [List.take_succ_eq_append_getElem ht, List.any_append]
  simp [List.getD, ht]
set_option maxRecDepth 100000 in
set_option maxHeartbeats 1000000 in
theorem indexOut_calls (R : Nat) (N : Int) (q : Option Addr) (n c : Nat) (zs : List Int) (hn : n ≤ 1000000) (w : World) (hs : Ns .i64 w q n zs) (hC : w.cell? ⟨R, 0, none⟩ = some (.int .i64 N)) :
    Calls Tryz.prog 70 #[.slice q n c, .func (.func 51) #[] #[.pointer (some ⟨R, 0, none⟩)]] w fun e w' => (∃ r : Int, e = .returned (.int .i64 r) ∧ decide (0 ≤ r) = zs.any (outB N)) ∧ Below w.heap.size w w' := by
  have HS : Hid (Ns .i64 w q n zs ∧ w.cell? ⟨R, 0, none⟩ = some (.int .i64 N) ∧ R < w.heap.size) := ⟨hs, hC, World.block_lt_of_cell? _ _ hC⟩
  clear hs hC
  go_enter Tryz.func70, Tryz.ntmps70
  go_wp2
  go_loopw [8] (fun i wr => ∃ t : Nat, t ≤ n ∧ i = .int .i64 (t : Int) ∧ (zs.take t).any (outB N) = false ∧ Below w.heap.size w wr) (fun i _ => n - (intOf i).toNat)
  case atStart => exact ⟨0, by omega, rfl, rfl, Below.refl _ _⟩
  case round =>
    obtain ⟨t, ht, rfl, ho, hB⟩ := hrel
    by_cases hlt : t < n
    · have hi : (t : Int) < (n : Int) := by omega
      obtain ⟨a, ha, hal, hca⟩ := (HS.out.1.below hB).cell t hlt
      have hat := any_take (outB N) zs t (by have := HS.out.1.len; omega) 0
      obtain ⟨z, hz⟩ : ∃ z, zs.getD t 0 = z := ⟨_, rfl⟩
      rw [hz] at hca hat
      rw [ho, Bool.false_or] at hat
      subst ha
      have K := outside_calls R N z wr ((hB.cell (p := ⟨R, 0, none⟩) HS.out.2.2).trans HS.out.2.1)
      obtain ⟨b, hb⟩ : ∃ b, outB N z = b := ⟨_, rfl⟩
      rw [hb] at K hat
      have HZ : Hid (Below w.heap.size w wr ∧ (zs.take (t + 1)).any (outB N) = b) := ⟨hB, hat⟩
      clear hB hat hz hb ho
      cases b
      · go_wp2_with (go_at_call 51; refine K.mono ?_; rintro e w1 ⟨rfl, hb1⟩)
        go_roundw
        case rel => exact ⟨t + 1, by omega, by go_num, HZ.out.2, HZ.out.1.trans (hb1.mono HZ.out.1.size)⟩
        case measure => simp [intOf]; omega
      · go_wp2_with (go_at_call 51; refine K.mono ?_; rintro e w1 ⟨rfl, hb1⟩)
        go_ret
        refine ⟨⟨_, rfl, ?_⟩, HZ.out.1.trans (hb1.mono HZ.out.1.size)⟩
        have h1 : zs.any (outB N) = true := by
          obtain ⟨x, hx, h2⟩ := List.any_eq_true.1 HZ.out.2
          exact List.any_eq_true.2 ⟨x, List.mem_of_mem_take hx, h2⟩
        rw [h1]
        exact decide_eq_true (by omega)
    · obtain rfl : t = n := by omega
      have HZ : Hid (Below w.heap.size w wr ∧ zs.any (outB N) = false) := ⟨hB, by rwa [List.take_of_length_le (by have := HS.out.1.len; omega)] at ho⟩
      clear hB ho
      go_wp2
      go_ret
      exact ⟨⟨_, rfl, HZ.out.2.symm⟩, HZ.out.1⟩
set_option maxRecDepth 100000 in
theorem containsOut_calls (R : Nat) (N : Int) (q : Option Addr) (n c : Nat) (zs : List Int) (b : Bool) (hb : zs.any (outB N) = b) (hn : n ≤ 1000000) (w : World) (hs : Ns .i64 w q n zs) (hC : w.cell? ⟨R, 0, none⟩ = some (.int .i64 N)) :
    Calls Tryz.prog 52 #[.slice q n c, .func (.func 51) #[] #[.pointer (some ⟨R, 0, none⟩)]] w fun e w' => e = .returned (.bool b) ∧ Below w.heap.size w w' := by
  have K := indexOut_calls R N q n c zs hn w hs hC
  rw [hb] at K
  clear hs hC hn hb
  go_enter Tryz.func52, Tryz.ntmps52
  go_wp2_with (go_at_call 70; refine K.mono ?_; rintro e w1 ⟨⟨r, rfl, hr⟩, hb1⟩)
  go_ret
  exact ⟨by rw [← hr]; simp, hb1⟩
set_option maxRecDepth 100000 in
set_option maxHeartbeats 1000000 in
theorem erasures_calls (N K B : Int) (q : Option Addr) (n c : Nat) (zs : List Int) (r : Int) (hr : erE N K B zs = r) (hn : n ≤ 1000000) (w : World) (hs : Ns .i64 w q n zs) :
    Calls Tryz.prog 36 #[.agg #[.int .i64 N, .int .i64 K, .int .i64 B], .slice q n c] w fun e w' => e = .returned (.int .u16 r) ∧ Below w.heap.size w w' := by
  subst hr
  obtain ⟨R, hR⟩ : ∃ R, w.heap.size = R := ⟨_, rfl⟩
  obtain ⟨W0, hW0⟩ : ∃ W0, w.alloc (.cells #[.int .i64 N, .int .i64 K, .int .i64 B] 26) = W0 := ⟨_, rfl⟩
  have hb0 : Below w.heap.size w W0 := hW0 ▸ (Below.refl _ w).alloc (Nat.le_refl _) _
  have hC : Cb W0 R N K B := by rw [← hW0, ← hR]; exact cb_new w _ _ _
  have K1 := cright_e N K B _ rfl W0
  have HB : Hid (Below w.heap.size w W0 ∧ Cb W0 R N K B ∧ Ns .i64 W0 q n zs) := ⟨hb0, hC, hs.below hb0⟩
  clear hb0 hs
  cases hv : cdB N K B with
  | false =>
    rw [erE_no hv]
    rw [cdE_no hv] at K1
    have c0 := (hC).c0
    have c1 := (hC).c1
    have c2 := (hC).c2
    clear hC hv
    go_enter Tryz.func36, Tryz.ntmps36
    go_wp2_with (go_at_call 33; refine K1.mono ?_; rintro e w1 ⟨rfl, hb1⟩)
    go_ret
    exact ⟨rfl, HB.out.1.trans (hb1.mono HB.out.1.size)⟩
  | true =>
    rw [cdE_yes hv] at K1
    have c0 := (hC).c0
    have c1 := (hC).c1
    have c2 := (hC).c2
    clear hC
    cases hv2 : zs.any (outB N) with
    | true =>
      rw [erE_bad hv (by simp [erB, hv2])]
      have HV : Hid (zs.any (outB N) = true) := hv2
      clear hv hv2
      go_enter Tryz.func36, Tryz.ntmps36
      go_wp2_with fail
      refine K1.mono ?_
      rintro e w1 ⟨rfl, hb1⟩
      clear c0 c1 c2
      have K2 := containsOut_calls R N q n c zs true HV.out hn w1 (HB.out.2.2.below hb1) (HB.out.2.1.below hb1).c0
      have HZ : Hid (Below w.heap.size w w1) := HB.out.1.trans (hb1.mono HB.out.1.size)
      clear K1 hb1
      go_wp2_with (go_at_call 52; refine K2.mono ?_; rintro e w2 ⟨rfl, hb2⟩)
      go_ret
      exact ⟨rfl, HZ.out.trans (hb2.mono HZ.out.size)⟩
    | false =>
      obtain ⟨m, hm⟩ : ∃ m, (onceL zs).length = m := ⟨_, rfl⟩
      have hmn : m ≤ n := by rw [← hm]; have := onceL_length_le zs; have := HB.out.2.2.len; omega
      have hE : erE N K B zs = if m < n then 13 else 0 := by
        by_cases h1 : m < n
        · rw [if_pos h1, erE_bad hv]
          have : ¬ zs.Nodup := onceL_lt.1 (by rw [hm, HB.out.2.2.len]; exact h1)
          simp [erB, this]
        · rw [if_neg h1, erE_yes hv]
          have : zs.Nodup := Classical.byContradiction fun h => by have := onceL_lt.2 h; rw [hm, HB.out.2.2.len] at this; exact h1 this
          simp [erB, this, hv2]
      obtain ⟨r0, hr0⟩ : ∃ r0 : Int, (if m < n then (13 : Int) else 0) = r0 := ⟨_, rfl⟩
      have HR : Hid ((if m < n then (13 : Int) else 0) = r0) := hr0
      rw [hE, hr0]
      have HV : Hid (zs.any (outB N) = false ∧ (onceL zs).length = m) := ⟨hv2, hm⟩
      clear hv hv2 hE hm hr0
      have K3 : Hid (∀ W, Ns .i64 W q n zs → Calls Tryz.prog 53 #[.slice q n c] W fun e w' => (∃ a cc, e = .returned (.slice a m cc)) ∧ Below W.heap.size W w') := fun W hW => (once_calls q n c zs hn W hW).mono fun e w' ⟨v, he, hO, hb⟩ => by
        refine ⟨?_, hb⟩
        rcases hO.shape with ⟨rfl, h0⟩ | ⟨g, cap, rfl, _⟩
        · have : m = 0 := by rw [← HV.out.2]; have := congrArg List.length h0; rw [oz_length] at this; exact this
          exact ⟨none, 0, by rw [this]; exact he⟩
        · exact ⟨_, cap, by rw [oz_length, HV.out.2] at he; exact he⟩
      go_enter Tryz.func36, Tryz.ntmps36
      go_wp2_with fail
      refine K1.mono ?_
      rintro e w1 ⟨rfl, hb1⟩
      clear c0 c1 c2
      have K2 := containsOut_calls R N q n c zs false HV.out.1 hn w1 (HB.out.2.2.below hb1) (HB.out.2.1.below hb1).c0
      have HZ : Hid (Below w.heap.size w w1 ∧ Ns .i64 w1 q n zs) := ⟨HB.out.1.trans (hb1.mono HB.out.1.size), HB.out.2.2.below hb1⟩
      clear K1 hb1
      go_wp2_with fail
      refine K2.mono ?_
      rintro e w2 ⟨rfl, hb2⟩
      have K4 := K3.out w2 (HZ.out.2.below hb2)
      have HZ2 : Hid (Below w.heap.size w w2) := HZ.out.1.trans (hb2.mono HZ.out.1.size)
      clear K2 hb2
      by_cases h1 : m < n
      · obtain rfl : 13 = r0 := by have := HR.out; rwa [if_pos h1] at this
        have h1' : (m : Int) < (n : Int) := by omega
        go_wp2_with (go_at_call 53; refine K4.mono ?_; rintro e w3 ⟨⟨a3, cc3, rfl⟩, hb3⟩)
        go_ret
        exact ⟨rfl, HZ2.out.trans (hb3.mono HZ2.out.size)⟩
      · obtain rfl : 0 = r0 := by have := HR.out; rwa [if_neg h1] at this
        have h1' : ((m : Int) < (n : Int)) = False := eq_false (by omega)
        go_wp2_with (go_at_call 53; refine K4.mono ?_; rintro e w3 ⟨⟨a3, cc3, rfl⟩, hb3⟩)
        go_ret
        exact ⟨rfl, HZ2.out.trans (hb3.mono HZ2.out.size)⟩
end Go.Proofs
/- The walks of synd.Locator, Modified and Syndromes. Conditions: lists that are no great ones; a field that Of has made, and lists apart from its table. -/
namespace Go.Proofs
open Go.RowKit Go.ChangeShapes Go.WideShapes
open Pol (IsN Dg ofL Byt vl)

end Go.Proofs
