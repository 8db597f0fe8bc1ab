/- Texts laid together: Ref05, RDivB. Each says its own conditions. -/
import Derived.Test.YtfbbphddakjhhaaGreatMG
import Derived.Test.YtfbbphddakjhhaaGreatMO
import Derived.Test.YtfbbphddakjhhaaGreatMC
import Derived.Test.YtfbbphddakjhhaaGreatMF
/- The walks of the document's answers of layer 5 (erratumref05): Deg, Norm, Coef, Same, Cut, Scale, Add. Conditions: lists of at most a thousand million bytes, no longer than their capacities. -/
namespace Go.Proofs
open Go.RowKit Go.ChangeShapes Go.WideShapes
attribute [local go_sem ↓ high] builtin_ap
attribute [local go_sem] ap_sem
open Pol (IsN Dg ofL Byt)

set_option maxHeartbeats 1000000 in
theorem rnorm_calls (q : Option Addr) (n c : Nat) (xs zs : List Nat) (hz : IsN zs (ofL xs)) (hn : n ≤ 1000000000) (hnc : n ≤ c) (w : World) (hs : Bs w q n xs) :
    Calls Tryz.prog 40 #[.slice q n c] w fun e w' => ∃ v, e = .returned v ∧ Ow w' w.heap.size v zs ∧ Below w.heap.size w w' := by
  obtain ⟨d, hd, hg⟩ := Pol.dg_list xs
  rw [hs.len] at hd
  have K := rdeg_calls q n c xs d hg hn w hs
  obtain rfl := hz.unique (Pol.isN_take hs.byt hg)
  have HS : Hid (Bs w q d (xs.take d)) := bs_take hs d hd
  have hi : (d : Int) ≤ (c : Int) := by omega
  have h0 : wrap64 ((d : Int) - 1 + 1) = (d : Int) := by unfold wrap64; omega
  clear hs hz hg
  obtain ⟨zs, hzs⟩ : ∃ zs, xs.take d = zs := ⟨_, rfl⟩
  rw [hzs] at HS ⊢
  clear hzs
  obtain ⟨v1, W1, hap, hO, hg⟩ := run_append_list w w.heap.size (.slice none 0 0) [] q d c zs (ow_nil _ _) HS.out (by simp; omega) (Nat.le_refl _)
  have ha1 := ap_ok hap
  have ha2 := ap_v hap
  have ha3 := ap_w hap
  have HZ : Hid (Ow W1 w.heap.size v1 zs ∧ Below w.heap.size w W1) := ⟨hO, (Below.refl _ w).grown hg (Nat.le_refl _) (fun k hk => by cases hk)⟩
  clear hap hO hg HS
  go_enter Tryz.func40, Tryz.ntmps40
  go_wp2_with (go_at_call 19; refine K.mono ?_; rintro e w1 ⟨rfl, rfl⟩)
  go_ret
  exact ⟨_, rfl, HZ.out⟩

set_option maxHeartbeats 1000000 in
theorem rcoef_calls (q : Option Addr) (n c : Nat) (xs : List Nat) (i : Int) (w : World) (hs : Bs w q n xs) :
    Calls Tryz.prog 29 #[.slice q n c, .int .i64 i] w fun e w' => e = .returned (.int .u8 (cof xs i : Nat)) ∧ w' = w := by
  have hmax := hs.max
  rcases Int.lt_or_le i 0 with h | h
  · have e : cof xs i = 0 := by unfold cof; rw [if_neg (by omega)]
    rw [e]
    go_enter Tryz.func29, Tryz.ntmps29
    go_wp2
    go_ret
    exact ⟨rfl, rfl⟩
  · obtain ⟨k, rfl⟩ := Int.eq_ofNat_of_zero_le h
    have e : cof xs (k : Int) = xs.getD k 0 := by unfold cof; rw [if_pos (by omega)]; rfl
    rw [e]
    by_cases hk : k < n
    · obtain ⟨a, rfl, _, hc⟩ := hs.cell k hk
      obtain ⟨x, hx⟩ : ∃ x, xs.getD k 0 = x := ⟨_, rfl⟩
      rw [hx] at hc ⊢
      clear hs
      have h1 : ¬ (k : Int) < 0 := by omega
      have h2 : ¬ (n : Int) ≤ (k : Int) := by omega
      have h3 : (k : Int) < (n : Int) := by omega
      go_enter Tryz.func29, Tryz.ntmps29
      go_wp2
      go_ret
      exact ⟨rfl, rfl⟩
    · have hl := hs.len
      have e2 : xs.getD k 0 = 0 := by simp [List.getD, List.getElem?_eq_none (show xs.length ≤ k by omega)]
      rw [e2]
      have h1 : ¬ (k : Int) < 0 := by omega
      have h2 : (n : Int) ≤ (k : Int) := by omega
      clear hs
      go_enter Tryz.func29, Tryz.ntmps29
      go_wp2
      go_ret
      exact ⟨rfl, rfl⟩


end Go.Proofs
/- The walk of erratumref01.Div. Condition: bytes. -/
namespace Go.Proofs
open Go.RowKit Go.ChangeShapes Go.WideShapes

set_option maxRecDepth 100000 in
set_option maxHeartbeats 1000000 in
theorem rdiv_calls (a b : Nat) (ha : a < 256) (hb : b < 256) (w : World) :
    Calls Tryz.prog 50 #[.int .u8 a, .int .u8 b] w fun e w' => e = .returned (.int .u8 (Gf.div a b : Nat)) ∧ w' = w := by
  have K : Hid (∀ w, Calls Tryz.prog 15 #[.int .u8 a, .int .u8 (Gf.inv b : Nat)] w fun e w' => e = .returned (.int .u8 (Gf.div a b : Nat)) ∧ w' = w) := fun w => rmul_calls a (Gf.inv b) ha w
  go_enter Tryz.func50, Tryz.ntmps50
  go_wp2_with (first | (go_at_call 52; refine (rinv_calls b hb _).mono ?_; rintro e w1 ⟨rfl, rfl⟩) | (go_at_call 15; refine (K.out _).mono ?_; rintro e w1 ⟨rfl, rfl⟩))
  go_ret
  exact ⟨rfl, rfl⟩
end Go.Proofs
