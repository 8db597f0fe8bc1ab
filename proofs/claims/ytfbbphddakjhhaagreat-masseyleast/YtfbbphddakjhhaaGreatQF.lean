/- The walks of the document's answer of layer 14 (erratumref14): sum, Makes, Next. They only read. Conditions: lists of at most a million bytes. -/
import Derived.Test.YtfbbphddakjhhaaGreatNU
import Derived.Test.YtfbbphddakjhhaaGreatMS
import Derived.Test.YtfbbphddakjhhaaGreatNA
import Derived.Test.YtfbbphddakjhhaaGreatMG
namespace Go.Proofs
open Go.RowKit Go.ChangeShapes Go.WideShapes
open Pol (IsN Dg ofL Byt)

theorem cof_nat (xs : List Nat) (j : Nat) : cof xs (j : Int) = xs.getD j 0 := by unfold cof; rw [if_pos (by omega), Int.toNat_natCast]
set_option maxRecDepth 100000 in
set_option maxHeartbeats 2000000 in
theorem r14sum_calls (q p : Option Addr) (n c m d L i r : Nat) (cs xs : List Nat) (hL : Pol.Bd (L + 1) (ofL cs)) (hi : L ≤ i) (hr : (Pol.mul (ofL cs) (ofL xs) i).val = r) (hi6 : i ≤ 1000000) (w : World) (h1 : Bs w q n cs) (h2 : Bs w p m xs) :
    Calls Tryz.prog 30 #[.slice q n c, .int .i64 (L : Nat), .slice p m d, .int .i64 (i : Nat)] w fun e w' => e = .returned (.int .u8 (r : Nat)) ∧ w' = w := by
  have HS : Hid (Bs w q n cs ∧ Bs w p m xs ∧ Ms.smv cs xs (fun t => t) (fun t => i - t) (L + 1) = r) := ⟨h1, h2, by rw [Ms.smv_short hL hi]; exact hr⟩
  clear hL hr h1 h2
  go_enter Tryz.func30, Tryz.ntmps30
  go_wp2
  go_loopw [9, 10] (fun s jj wr => ∃ j : Nat, j ≤ L + 1 ∧ jj = .int .i64 (j : Int) ∧ s = .int .u8 (Ms.smv cs xs (fun t => t) (fun t => i - t) j : Nat) ∧ w = wr) (fun _ jj _ => L + 1 - (intOf jj).toNat)
  case atStart => exact ⟨0, by omega, rfl, rfl, rfl⟩
  case round =>
    obtain ⟨j, hj, rfl, rfl, rfl⟩ := hrel
    by_cases hlt : j ≤ L
    · have hji : (j : Int) ≤ (L : Int) := by omega
      obtain ⟨t, ht⟩ : ∃ t, i - j = t := ⟨_, rfl⟩
      have hti : (i : Int) - (j : Int) = (t : Int) := by omega
      have hwt := wrap_nat t (by omega)
      have K1 := rcoef_calls q n c cs (j : Int) w HS.out.1
      have K2 := rcoef_calls p m d xs (t : Int) w HS.out.2.1
      rw [cof_nat] at K1 K2
      obtain ⟨x, hx⟩ : ∃ x, cs.getD j 0 = x := ⟨_, rfl⟩
      obtain ⟨y, hy⟩ : ∃ y, xs.getD t 0 = y := ⟨_, rfl⟩
      have hx8 : x < 256 := by rw [← hx]; exact HS.out.1.byte j
      have hy8 : y < 256 := by rw [← hy]; exact HS.out.2.1.byte t
      have hsu := Ms.smv_succ HS.out.1.byte HS.out.2.1.byte (fun t => t) (fun t => i - t) j
      rw [ht, hx, hy] at hsu
      rw [hx] at K1
      rw [hy] at K2
      have hs8 := Ms.smv_lt cs xs (fun t => t) (fun t => i - t) j
      obtain ⟨s, hs⟩ : ∃ s, Ms.smv cs xs (fun t => t) (fun t => i - t) j = s := ⟨_, rfl⟩
      rw [hs] at hsu hs8 ⊢
      have hxo := u8_xor_nat s (Gf.mul x y) hs8 (Gf.mul_lt _ _ hx8)
      have KM := rmul_calls x y hx8 w
      have HP : Hid (Ms.smv cs xs (fun t => t) (fun t => i - t) (j + 1) = s ^^^ Gf.mul x y) := hsu
      clear hs hsu hs8 hx hy hx8 hy8 ht
      go_wp2_with fail
      refine K1.mono ?_
      rintro e w1 ⟨rfl, hw⟩
      obtain rfl := hw.symm
      clear K1
      go_wp2_with fail
      refine K2.mono ?_
      rintro e w1 ⟨rfl, hw⟩
      obtain rfl := hw.symm
      clear K2
      go_wp2_with fail
      refine KM.mono ?_
      rintro e w1 ⟨rfl, hw⟩
      obtain rfl := hw.symm
      clear KM
      go_wp2
      go_roundw
      case rel => exact ⟨j + 1, by omega, by go_num, by rw [HP.out], trivial⟩
      case measure => simp [intOf]; omega
    · obtain rfl : j = L + 1 := by omega
      rw [HS.out.2.2]
      go_wp2
      go_ret
      exact ⟨rfl, rfl⟩
set_option maxRecDepth 100000 in
set_option maxHeartbeats 4000000 in
theorem r14makes_calls (q p : Option Addr) (n c m d : Nat) (cs xs : List Nat) (z : Int) (b : Bool) (hb : b = true ↔ Ms.MkZ cs xs z) (hn : n ≤ 1000000) (hm : m ≤ 1000000) (w : World) (h1 : Bs w q n cs) (h2 : Bs w p m xs) :
    Calls Tryz.prog 17 #[.slice q n c, .int .i64 z, .slice p m d] w fun e w' => e = .returned (.bool b) ∧ w' = w := by
  obtain ⟨g, hg, hdg⟩ := Pol.dg_list cs
  have K1 := rcoef_calls q n c cs 0 w h1
  have K2 := rdeg_calls q n c cs g hdg (by omega) w h1
  obtain ⟨f, hf⟩ : ∃ f, cof cs 0 = f := ⟨_, rfl⟩
  rw [hf] at K1
  have hf8 : f < 256 := by rw [← hf]; exact cof_lt h1.byte 0
  have hof : ofL cs 0 = GF.of f := by rw [← hf]; rfl
  have hmx := h2.len
  have HS : Hid (Bs w q n cs ∧ Bs w p m xs ∧ Dg g (ofL cs) ∧ (b = true ↔ Ms.MkZ cs xs z) ∧ ofL cs 0 = GF.of f ∧ f < 256 ∧ xs.length = m ∧ g ≤ n) := ⟨h1, h2, hdg, hb, hof, hf8, hmx, by have := h1.len; omega⟩
  have HF : Hid ((¬ 0 ≤ z) ∨ (m : Int) < z ∨ f ≠ 1 ∨ z < (g : Int) - 1 → b = false) := fun hc => by
    cases hbb : b with
    | false => rfl
    | true =>
      obtain ⟨hz0, hk⟩ := HS.out.2.2.2.1.1 hbb
      have h3 := HS.out.2.2.1.le hk.bd
      have h4 := hk.le
      have h5 := HS.out.2.2.2.2.2.2.1
      have h6 : f = 1 := by
        have h3 := hk.one
        rw [HS.out.2.2.2.2.1] at h3
        exact Ms.of_inj HS.out.2.2.2.2.2.1 (by decide) (h3.trans rfl)
      omega
  clear hf hf8 hof hb hdg h1 h2 hmx hg
  by_cases hz0 : z < 0
  · obtain rfl := HF.out (.inl (by omega))
    clear K1 K2
    go_enter Tryz.func17, Tryz.ntmps17
    go_wp2
    go_ret
    exact ⟨rfl, rfl⟩
  · obtain ⟨t, rfl⟩ := Int.eq_ofNat_of_zero_le (show 0 ≤ z by omega)
    have hz0' : ¬ (t : Int) < 0 := by omega
    by_cases htm : (m : Int) < (t : Int)
    · obtain rfl := HF.out (.inr (.inl htm))
      clear K1 K2
      go_enter Tryz.func17, Tryz.ntmps17
      go_wp2
      go_ret
      exact ⟨rfl, rfl⟩
    · by_cases hf1 : f = 1
      · subst hf1
        by_cases hgz : (t : Int) < (g : Int) - 1
        · obtain rfl := HF.out (.inr (.inr (.inr hgz)))
          go_enter Tryz.func17, Tryz.ntmps17
          go_wp2_with fail
          refine K1.mono ?_
          rintro e w1 ⟨rfl, hw⟩
          obtain rfl := hw.symm
          clear K1
          go_wp2_with fail
          refine K2.mono ?_
          rintro e w2 ⟨rfl, hw⟩
          obtain rfl := hw.symm
          clear K2
          go_wp2
          go_ret
          exact ⟨rfl, rfl⟩
        · have hg1 : 1 ≤ g := by
            rcases Nat.eq_zero_or_pos g with e | e
            · subst e
              have h3 := HS.out.2.2.1.eq_zero
              have h4 := HS.out.2.2.2.2.1
              rw [h3] at h4
              exact absurd (Ms.of_inj (by decide) (by decide) (show GF.of 0 = GF.of 1 from h4)) (by decide)
            · exact e
          have HN : Hid (Pol.Bd (t + 1) (ofL cs) ∧ t ≤ m) := ⟨HS.out.2.2.1.bd.mono_le (by omega), by omega⟩
          have hHB : Hid ((∀ i, t ≤ i → i < m → Pol.mul (ofL cs) (ofL xs) i = 0) → b = true) := fun hrun => HS.out.2.2.2.1.2 ((Ms.mkZ_nat).2 ⟨by rw [HS.out.2.2.2.2.1]; rfl, HN.out.1, by rw [HS.out.2.2.2.2.2.2.1]; omega, fun i h1 h2 => hrun i h1 (by rw [HS.out.2.2.2.2.2.2.1] at h2; exact h2)⟩)
          have hNB : Hid (∀ i, t ≤ i → i < m → Pol.mul (ofL cs) (ofL xs) i ≠ 0 → b = false) := fun i h1 h2 h3 => by
            cases hbb : b with
            | false => rfl
            | true =>
              obtain ⟨hz0, hk⟩ := HS.out.2.2.2.1.1 hbb
              exact absurd (hk.run i (by simpa using h1) (by rw [HS.out.2.2.2.2.2.2.1]; exact h2)) h3
          clear hg1
          go_enter Tryz.func17, Tryz.ntmps17
          go_wp2_with fail
          refine K1.mono ?_
          rintro e w1 ⟨rfl, hw⟩
          obtain rfl := hw.symm
          clear K1
          go_wp2_with fail
          refine K2.mono ?_
          rintro e w2 ⟨rfl, hw⟩
          obtain rfl := hw.symm
          clear K2
          go_wp2
          go_loopw [7] (fun jj wr => ∃ i : Nat, t ≤ i ∧ i ≤ m ∧ jj = .int .i64 (i : Int) ∧ (∀ i', t ≤ i' → i' < i → Pol.mul (ofL cs) (ofL xs) i' = 0) ∧ w = wr) (fun jj _ => m - (intOf jj).toNat)
          case atStart => exact ⟨t, Nat.le_refl _, HN.out.2, rfl, fun i' h1 h2 => by omega, rfl⟩
          case round =>
            obtain ⟨i, hti, him, rfl, hz, rfl⟩ := hrel
            by_cases hlt : i < m
            · have hii : (i : Int) < (m : Int) := by omega
              obtain ⟨r, hr⟩ : ∃ r, (Pol.mul (ofL cs) (ofL xs) i).val = r := ⟨_, rfl⟩
              have hrC : GF.of r = Pol.mul (ofL cs) (ofL xs) i := by rw [← hr, GF.of_self]
              have hr8 : r < 256 := by rw [← hr]; exact GF.lt _
              have KM := r14sum_calls q p n c m d t i r cs xs HN.out.1 hti hr (by omega) w HS.out.1 HS.out.2.1
              clear hr
              by_cases hr0 : r = 0
              · have hrb : ((r : Int) == 0) = true := by rw [hr0]; rfl
                have HZZ : Hid (∀ i', t ≤ i' → i' < i + 1 → Pol.mul (ofL cs) (ofL xs) i' = 0) := fun i' h1 hi' => by
                  by_cases e : i' = i
                  · subst e
                    rw [← hrC, hr0]; rfl
                  · exact hz i' h1 (by omega)
                clear hz hr0 hrC
                go_wp2_with fail
                refine KM.mono ?_
                rintro e w4 ⟨rfl, hw⟩
                obtain rfl := hw.symm
                clear KM
                go_wp2
                go_roundw
                case rel => exact ⟨i + 1, by omega, by omega, by go_num, HZZ.out, trivial⟩
                case measure => simp [intOf]; omega
              · have hbf : b = false := hNB.out i hti hlt (fun e => hr0 (by
                  rw [e] at hrC
                  have e3 := GF.of_val r hr8
                  rw [hrC] at e3
                  exact e3.symm))
                subst hbf
                have hrn : ¬ (r : Int) = 0 := by omega
                clear hz hr0 hrC
                go_wp2_with fail
                refine KM.mono ?_
                rintro e w4 ⟨rfl, hw⟩
                obtain rfl := hw.symm
                clear KM
                go_wp2
                go_ret
                exact ⟨rfl, rfl⟩
            · obtain rfl : m = i := by omega
              have hbt : b = true := hHB.out hz
              subst hbt
              clear hz
              go_wp2
              go_ret
              exact ⟨rfl, rfl⟩
      · obtain rfl := HF.out (.inr (.inr (.inl hf1)))
        have hf1i : ¬ (f : Int) = 1 := by omega
        clear K2
        go_enter Tryz.func17, Tryz.ntmps17
        go_wp2_with fail
        refine K1.mono ?_
        rintro e w1 ⟨rfl, hw⟩
        obtain rfl := hw.symm
        clear K1
        go_wp2
        go_ret
        exact ⟨rfl, rfl⟩
set_option maxRecDepth 100000 in
set_option maxHeartbeats 4000000 in
theorem r14next_calls (q p : Option Addr) (n c m d : Nat) (cs xs : List Nat) (z : Int) (b : Bool) (r : Nat) (hb : b = true ↔ Ms.MkZ cs xs z) (hr : r = if b = true then Ms.nxv cs xs else 0) (hn : n ≤ 1000000) (hm : m ≤ 1000000) (w : World) (h1 : Bs w q n cs) (h2 : Bs w p m xs) :
    Calls Tryz.prog 16 #[.slice q n c, .int .i64 z, .slice p m d] w fun e w' => e = .returned (.tuple #[.int .u8 (r : Nat), .bool b]) ∧ w' = w := by
  have K1 := r14makes_calls q p n c m d cs xs z b hb hn hm w h1 h2
  cases b with
  | false =>
    obtain rfl : r = 0 := by rw [hr]; rfl
    clear hb hr h1 h2
    go_enter Tryz.func16, Tryz.ntmps16
    go_wp2_with fail
    refine K1.mono ?_
    rintro e w1 ⟨rfl, hw⟩
    obtain rfl := hw.symm
    clear K1
    go_wp2
    go_ret2
    exact ⟨rfl, rfl⟩
  | true =>
    rw [if_pos rfl] at hr
    obtain ⟨hz0, hk⟩ := hb.1 rfl
    obtain ⟨L, rfl⟩ := Int.eq_ofNat_of_zero_le hz0
    rw [Int.toNat_natCast] at hk
    have HS : Hid (Bs w q n cs ∧ Bs w p m xs ∧ Ms.smv cs xs (fun t => t + 1) (fun t => m - (t + 1)) L = r ∧ L ≤ m) := by
      have h3 := h2.len
      have h4 := hk.le
      refine ⟨h1, h2, ?_, by omega⟩
      rw [hr, Ms.smv_next hk.bd (by omega) h3]
      unfold Ms.nxv
      rw [h3]
    clear hb hr h1 h2 hk hz0
    go_enter Tryz.func16, Tryz.ntmps16
    go_wp2_with fail
    refine K1.mono ?_
    rintro e w1 ⟨rfl, hw⟩
    obtain rfl := hw.symm
    clear K1
    go_wp2
    go_loopw [8, 9] (fun s jj wr => ∃ j : Nat, j ≤ L ∧ jj = .int .i64 ((j : Int) + 1) ∧ s = .int .u8 (Ms.smv cs xs (fun t => t + 1) (fun t => m - (t + 1)) j : Nat) ∧ w = wr) (fun _ jj _ => L + 1 - (intOf jj).toNat)
    case atStart => exact ⟨0, by omega, by go_num, rfl, rfl⟩
    case round =>
      obtain ⟨j, hj, rfl, rfl, rfl⟩ := hrel
      by_cases hlt : j < L
      · obtain ⟨j1, hj1⟩ : ∃ j1, j + 1 = j1 := ⟨_, rfl⟩
        have hj1i : (j : Int) + 1 = (j1 : Int) := by omega
        rw [hj1i]
        have hji : (j1 : Int) ≤ (L : Int) := by omega
        obtain ⟨t, ht⟩ : ∃ t, m - j1 = t := ⟨_, rfl⟩
        have hti : (m : Int) - (j1 : Int) = (t : Int) := by have := HS.out.2.2.2; omega
        have hwt := wrap_nat t (by omega)
        have K1 := rcoef_calls q n c cs (j1 : Int) w HS.out.1
        have K2 := rcoef_calls p m d xs (t : Int) w HS.out.2.1
        rw [cof_nat] at K1 K2
        obtain ⟨x, hx⟩ : ∃ x, cs.getD j1 0 = x := ⟨_, rfl⟩
        obtain ⟨y, hy⟩ : ∃ y, xs.getD t 0 = y := ⟨_, rfl⟩
        have hx8 : x < 256 := by rw [← hx]; exact HS.out.1.byte j1
        have hy8 : y < 256 := by rw [← hy]; exact HS.out.2.1.byte t
        have hsu := Ms.smv_succ HS.out.1.byte HS.out.2.1.byte (fun t => t + 1) (fun t => m - (t + 1)) j
        rw [hj1, ht, hx, hy] at hsu
        rw [hx] at K1
        rw [hy] at K2
        have hs8 := Ms.smv_lt cs xs (fun t => t + 1) (fun t => m - (t + 1)) j
        obtain ⟨s, hs⟩ : ∃ s, Ms.smv cs xs (fun t => t + 1) (fun t => m - (t + 1)) j = s := ⟨_, rfl⟩
        rw [hs] at hsu hs8 ⊢
        have hxo := u8_xor_nat s (Gf.mul x y) hs8 (Gf.mul_lt _ _ hx8)
        have KM := rmul_calls x y hx8 w
        have HP : Hid (Ms.smv cs xs (fun t => t + 1) (fun t => m - (t + 1)) j1 = s ^^^ Gf.mul x y ∧ j1 ≤ L) := ⟨hsu, by omega⟩
        have hj16 : j1 ≤ 1000000 := by have := HS.out.2.2.2; omega
        clear hs hsu hs8 hx hy hx8 hy8 ht hj1i hj1
        go_wp2_with fail
        refine K1.mono ?_
        rintro e w1 ⟨rfl, hw⟩
        obtain rfl := hw.symm
        clear K1
        go_wp2_with fail
        refine K2.mono ?_
        rintro e w1 ⟨rfl, hw⟩
        obtain rfl := hw.symm
        clear K2
        go_wp2_with fail
        refine KM.mono ?_
        rintro e w1 ⟨rfl, hw⟩
        obtain rfl := hw.symm
        clear KM
        go_wp2
        go_roundw
        case rel => exact ⟨j1, HP.out.2, by go_num, by rw [HP.out.1], trivial⟩
        case measure => simp [intOf]; omega
      · obtain rfl : L = j := by omega
        rw [HS.out.2.2.1]
        have hji : ¬ (L : Int) + 1 ≤ (L : Int) := by omega
        go_wp2
        go_ret2
        exact ⟨rfl, rfl⟩
end Go.Proofs
