/- The walks of massey.Makes and massey.Next. Conditions: a field that Of has made; lists of at most a million bytes, apart from its table. -/
import Derived.Test.YtfbbphddakjhhaaGreatQC
import Derived.Test.YtfbbphddakjhhaaGreatQA
import Derived.Test.YtfbbphddakjhhaaGreatMG
namespace Go.Proofs
open Go.RowKit Go.ChangeShapes Go.WideShapes
open Pol (IsN Dg ofL Byt)

set_option maxRecDepth 100000 in
set_option maxHeartbeats 4000000 in
theorem mmakes_calls (k B T : Nat) (q p : Option Addr) (n c m d : Nat) (cs xs : List Nat) (z : Int) (b : Bool) (hb : b = true ↔ Ms.MkZ cs xs z) (hn : n ≤ 1000000) (hm : m ≤ 1000000) (w : World) (h : Fd k B T w) (h1 : Tl w T q n c cs) (h2 : Tl w T p m d xs) :
    Calls Tryz.prog 13 #[.pointer (some ⟨B, 0, none⟩), .slice q n c, .int .i64 z, .slice p m d] w fun e w' => e = .returned (.bool b) ∧ Fd k B T w' ∧ But (· = T) w w' := by
  obtain ⟨g, hg, hdg⟩ := Pol.dg_list cs
  have K1 := pcoef_calls q n c cs 0 w h1.bs
  have K2 := pdeg_calls q n c cs g hdg w h1.bs
  obtain ⟨f, hf⟩ : ∃ f, cof cs 0 = f := ⟨_, rfl⟩
  rw [hf] at K1
  have hf8 : f < 256 := by rw [← hf]; exact cof_lt h1.bs.byte 0
  have hof : ofL cs 0 = GF.of f := by rw [← hf]; rfl
  have hmx := h2.bs.len
  have HS : Hid (Fd k B T w ∧ Tl w T q n c cs ∧ Tl w T p m d xs ∧ Dg g (ofL cs) ∧ (b = true ↔ Ms.MkZ cs xs z) ∧ ofL cs 0 = GF.of f ∧ f < 256 ∧ xs.length = m ∧ g ≤ n) := ⟨h, h1, h2, hdg, hb, hof, hf8, hmx, by have := h1.bs.len; omega⟩
  clear hf hf8 hof hb hdg h h1 h2 hmx hg
  by_cases hf1 : f = 1
  · subst hf1
    by_cases hgz : z < (g : Int) - 1
    · have hbf : b = false := by
        cases hbb : b with
        | false => rfl
        | true =>
          obtain ⟨hz0, hk⟩ := HS.out.2.2.2.2.1.1 hbb
          have h3 := HS.out.2.2.2.1.le hk.bd
          omega
      subst hbf
      go_enter Tryz.func13, Tryz.ntmps13
      go_wp2_with fail
      refine K1.mono ?_
      rintro e w1 ⟨rfl, hw⟩
      obtain rfl := hw.symm
      clear K1
      go_wp2_with fail
      refine K2.mono ?_
      rintro e w2 ⟨rfl, hb2⟩
      clear K2
      have HZ : Hid (Fd k B T w2 ∧ But (· = T) w w2) := ⟨HS.out.1.below hb2, But.of_below hb2⟩
      clear hb2
      go_wp2
      go_ret
      exact ⟨rfl, HZ.out⟩
    · have hg1 : 1 ≤ g := by
        rcases Nat.eq_zero_or_pos g with e | e
        · subst e
          have h3 := HS.out.2.2.2.1.eq_zero
          have h4 := HS.out.2.2.2.2.2.1
          rw [h3] at h4
          exact absurd (Ms.of_inj (by decide) (by decide) (show GF.of 0 = GF.of 1 from h4)) (by decide)
        · exact e
      obtain ⟨t, rfl⟩ := Int.eq_ofNat_of_zero_le (show 0 ≤ z by omega)
      by_cases htm : (m : Int) < (t : Int)
      · have hbf : b = false := by
          cases hbb : b with
          | false => rfl
          | true =>
            obtain ⟨hz0, hk⟩ := HS.out.2.2.2.2.1.1 hbb
            have h3 := hk.le
            have h4 := HS.out.2.2.2.2.2.2.2.1
            rw [h4, Int.toNat_natCast] at h3
            omega
        subst hbf
        go_enter Tryz.func13, Tryz.ntmps13
        go_wp2_with fail
        refine K1.mono ?_
        rintro e w1 ⟨rfl, hw⟩
        obtain rfl := hw.symm
        clear K1
        go_wp2_with fail
        refine K2.mono ?_
        rintro e w2 ⟨rfl, hb2⟩
        clear K2
        have HZ : Hid (Fd k B T w2 ∧ But (· = T) w w2) := ⟨HS.out.1.below hb2, But.of_below hb2⟩
        clear hb2
        go_wp2
        go_ret
        exact ⟨rfl, HZ.out⟩
      · obtain ⟨s, hs⟩ : ∃ s, m - t = s := ⟨_, rfl⟩
        have hsi : (m : Int) - (t : Int) = (s : Int) := by omega
        have hws := wrap_nat s (by omega)
        obtain ⟨ns, hns⟩ : ∃ ns, cs.take g = ns := ⟨_, rfl⟩
        have HN : Hid (IsN ns (ofL cs) ∧ ns.length = g ∧ 1 ≤ g ∧ g ≤ t + 1 ∧ t + s = m) := by
          have h3 := Pol.isN_take HS.out.2.1.bs.byte HS.out.2.2.2.1
          rw [hns] at h3
          exact ⟨h3, h3.len HS.out.2.2.2.1, hg1, by omega, by omega⟩
        have KN : Hid (∀ W, Below w.heap.size w W → Calls Tryz.prog 23 #[.slice q n c] W fun e w' => ∃ v, e = .returned v ∧ Ow w' W.heap.size v ns ∧ Below W.heap.size W w') := fun W hW => pnorm_calls q n c cs ns HN.out.1 (by omega) HS.out.2.1.le W (HS.out.2.1.bs.below hW)
        have hHB : Hid ((∀ i, t ≤ i → i < m → Pol.mul (ofL cs) (ofL xs) i = 0) → b = true) := fun hrun => HS.out.2.2.2.2.1.2 ((Ms.mkZ_nat).2 ⟨by rw [HS.out.2.2.2.2.2.1]; rfl, HS.out.2.2.2.1.bd.mono_le HN.out.2.2.2.1, by rw [HS.out.2.2.2.2.2.2.2.1]; omega, fun i h1 h2 => hrun i h1 (by rw [HS.out.2.2.2.2.2.2.2.1] at h2; exact h2)⟩)
        have hNB : Hid (∀ i, t ≤ i → i < m → Pol.mul (ofL cs) (ofL xs) i ≠ 0 → b = false) := fun i h1 h2 h3 => by
          cases hbb : b with
          | false => rfl
          | true =>
            obtain ⟨hz0, hk⟩ := HS.out.2.2.2.2.1.1 hbb
            exact absurd (hk.run i (by simpa using h1) (by rw [HS.out.2.2.2.2.2.2.2.1]; exact h2)) h3
        have HSI : Hid ((m : Int) - (t : Int) = (s : Int) ∧ IntKind.i64.wrap (s : Int) = (s : Int)) := ⟨hsi, hws⟩
        clear hs hns hg1 hsi hws
        go_enter Tryz.func13, Tryz.ntmps13
        go_wp2_with fail
        refine K1.mono ?_
        rintro e w1 ⟨rfl, hw⟩
        obtain rfl := hw.symm
        clear K1
        go_wp2_with fail
        refine K2.mono ?_
        rintro e w2 ⟨rfl, hb2⟩
        clear K2
        go_wp2_with fail
        refine (KN.out w2 hb2).mono ?_
        rintro e w3 ⟨v, rfl, hO, hb3⟩
        obtain ⟨q3, c3, rfl, t3⟩ := hO.tl (T := T) (by have := HS.out.1.lt; have := hb2.size; omega) HN.out.1.byt HN.out.2.1
        have H3 : Hid (Fd k B T w3 ∧ But (· = T) w w3 ∧ Tl w3 T q3 g c3 ns) := by
          have hb := hb2.trans (hb3.mono hb2.size)
          exact ⟨HS.out.1.below hb, But.of_below hb, t3⟩
        clear KN hO hb2 hb3 t3
        obtain ⟨hsi, hws⟩ := HSI.out
        go_wp2
        go_loopw [36] (fun jj wr => ∃ j : Nat, j ≤ s ∧ jj = .int .i64 (j : Int) ∧ (∀ i, i < j → Pol.mul (ofL cs) (ofL xs) (t + i) = 0) ∧ Hid (Fd k B T wr ∧ But (· = T) w3 wr)) (fun jj _ => s - (intOf jj).toNat)
        case atStart => exact ⟨0, by omega, rfl, fun i hi => absurd hi (Nat.not_lt_zero i), (⟨H3.out.1, But.refl _ _⟩ : Fd k B T w3 ∧ But (· = T) w3 w3)⟩
        case round =>
          obtain ⟨j, hj, rfl, hz, HJ⟩ := hrel
          by_cases hlt : j < s
          · have hjs : (j : Int) < (s : Int) := by omega
            obtain ⟨i, hi⟩ : ∃ i, t + j = i := ⟨_, rfl⟩
            have hii : (t : Int) + (j : Int) = (i : Int) := by omega
            have hwi := wrap_nat i (by have := HN.out.2.2.2.2; omega)
            obtain ⟨r, hr⟩ : ∃ r, (Pol.mul (ofL ns) (ofL xs) i).val = r := ⟨_, rfl⟩
            have hrC : GF.of r = Pol.mul (ofL cs) (ofL xs) i := by rw [← hr, GF.of_self, HN.out.1.eq]
            have hr8 : r < 256 := by rw [← hr]; exact GF.lt _
            have KM := missed_calls k B T q3 p g c3 m d i r ns xs hr (by have := HN.out; omega) (by have := HN.out; omega) hm wr HJ.out.1 (H3.out.2.2.but HJ.out.2) (HS.out.2.2.1.but (H3.out.2.1.trans HJ.out.2))
            clear hr
            by_cases hr0 : r = 0
            · have hrb : ((r : Int) == 0) = true := by rw [hr0]; rfl
              have hzz : ∀ i', i' < j + 1 → Pol.mul (ofL cs) (ofL xs) (t + i') = 0 := fun i' hi' => by
                by_cases e : i' = j
                · subst e
                  rw [hi, ← hrC, hr0]; rfl
                · exact hz i' (by omega)
              have HZZ : Hid (∀ i', i' < j + 1 → Pol.mul (ofL cs) (ofL xs) (t + i') = 0) := hzz
              clear hzz hz hr0 hrC hi
              go_wp2_with fail
              refine KM.mono ?_
              rintro e w4 ⟨rfl, hF4, hb4⟩
              have HZ : Hid (Fd k B T w4 ∧ But (· = T) w3 w4) := ⟨hF4, HJ.out.2.trans hb4⟩
              clear KM hF4 hb4
              go_wp2
              go_roundw
              case rel => exact ⟨j + 1, by omega, by go_num, HZZ.out, HZ⟩
              case measure => simp [intOf]; omega
            · have hbf : b = false := hNB.out i (by omega) (by have := HN.out.2.2.2.2; omega) (fun e => hr0 (by
                rw [e] at hrC
                have e3 := GF.of_val r hr8
                rw [hrC] at e3
                exact e3.symm))
              subst hbf
              have hrn : ¬ (r : Int) = 0 := by omega
              clear hz hr0 hrC hi
              go_wp2_with fail
              refine KM.mono ?_
              rintro e w4 ⟨rfl, hF4, hb4⟩
              have HZ : Hid (Fd k B T w4 ∧ But (· = T) w w4) := ⟨hF4, H3.out.2.1.trans (HJ.out.2.trans hb4)⟩
              clear KM hF4 hb4
              go_wp2
              go_ret
              exact ⟨rfl, HZ.out⟩
          · obtain rfl : s = j := by omega
            have hbt : b = true := hHB.out fun i h1 h2 => by
              have := hz (i - t) (by have := HN.out.2.2.2.2; omega)
              rw [show t + (i - t) = i by omega] at this
              exact this
            subst hbt
            have HZ : Hid (Fd k B T wr ∧ But (· = T) w wr) := ⟨HJ.out.1, H3.out.2.1.trans HJ.out.2⟩
            clear hz
            go_wp2
            go_ret
            exact ⟨rfl, HZ.out⟩
  · have hbf : b = false := by
      cases hbb : b with
      | false => rfl
      | true =>
        obtain ⟨hz0, hk⟩ := HS.out.2.2.2.2.1.1 hbb
        have h3 := hk.one
        rw [HS.out.2.2.2.2.2.1] at h3
        exact absurd (Ms.of_inj HS.out.2.2.2.2.2.2.1 (by decide) (h3.trans rfl)) hf1
    subst hbf
    have hf1i : ¬ (f : Int) = 1 := by omega
    clear K2
    go_enter Tryz.func13, Tryz.ntmps13
    go_wp2_with fail
    refine K1.mono ?_
    rintro e w1 ⟨rfl, hw⟩
    obtain rfl := hw.symm
    clear K1
    go_wp2
    go_ret
    exact ⟨rfl, HS.out.1, But.refl _ _⟩
set_option maxRecDepth 100000 in
set_option maxHeartbeats 4000000 in
theorem mnext_calls (k B T : Nat) (q p : Option Addr) (n c m d : Nat) (cs xs : List Nat) (z : Int) (b : Bool) (r : Nat) (hb : b = true ↔ Ms.MkZ cs xs z) (hr : r = if b = true then Ms.nxv cs xs else 0) (hn : n ≤ 1000000) (hm : m < 1000000) (w : World) (h : Fd k B T w) (h1 : Tl w T q n c cs) (h2 : Tl w T p m d xs) :
    Calls Tryz.prog 11 #[.pointer (some ⟨B, 0, none⟩), .slice q n c, .int .i64 z, .slice p m d] w fun e w' => e = .returned (.tuple #[.int .u8 (r : Nat), .bool b]) ∧ Fd k B T w' ∧ But (· = T) w w' := by
  have K1 := mmakes_calls k B T q p n c m d cs xs z b hb hn (by omega) w h h1 h2
  cases b with
  | false =>
    obtain rfl : r = 0 := by rw [hr]; rfl
    clear hb hr h h1 h2
    go_enter Tryz.func11, Tryz.ntmps11
    go_wp2_with fail
    refine K1.mono ?_
    rintro e w1 ⟨rfl, hF, hb⟩
    clear K1
    go_wp2
    go_ret2
    exact ⟨rfl, hF, hb⟩
  | true =>
    rw [if_pos rfl] at hr
    obtain ⟨hz0, hk⟩ := hb.1 rfl
    obtain ⟨t, rfl⟩ := Int.eq_ofNat_of_zero_le hz0
    rw [Int.toNat_natCast] at hk
    obtain ⟨g, hg, hdg⟩ := Pol.dg_list cs
    obtain ⟨ns, hns⟩ : ∃ ns, cs.take g = ns := ⟨_, rfl⟩
    have h3 := Pol.isN_take h1.bs.byte hdg
    rw [hns] at h3
    have hlx := h2.bs.len
    have hx0 : Byt (xs ++ [0]) := Pol.byt_append h2.bs.byte (byt_lit rfl)
    have HN : Hid (IsN ns (ofL cs) ∧ ns.length = g ∧ g ≤ m + 1 ∧ (xs ++ [0]).length = m + 1 ∧ Byt (xs ++ [0]) ∧ (Pol.mul (ofL ns) (ofL (xs ++ [0])) m).val = r ∧ Fd k B T w ∧ Tl w T q n c cs ∧ Tl w T p m d xs) := by
      refine ⟨h3, h3.len hdg, ?_, by rw [List.length_append, hlx]; rfl, hx0, ?_, h, h1, h2⟩
      · have h4 := hdg.le hk.bd
        have h5 := hk.le
        omega
      · have e : ofL (xs ++ [0]) = ofL xs := by
          funext i
          unfold Pol.ofL
          rw [Pol.getD_append]
          split
          · rfl
          · rename_i hi
            rw [Mx.getD_out (xs := xs) (i := i) (by omega)]
            match i - xs.length with
            | 0 => rfl
            | j + 1 => rfl
        rw [h3.eq, e, hr]
        unfold Ms.nxv
        rw [hlx]
    have KN : Hid (∀ W, But (· = T) w W → Calls Tryz.prog 23 #[.slice q n c] W fun e w' => ∃ v, e = .returned v ∧ Ow w' W.heap.size v ns ∧ Below W.heap.size W w') := fun W hW => pnorm_calls q n c cs ns HN.out.1 (by omega) h1.le W (h1.bs.but hW h1.off)
    clear hb hr h h1 h2 h3 hns hdg hg hlx hx0 hk hz0
    go_enter Tryz.func11, Tryz.ntmps11
    go_wp2_with fail
    refine K1.mono ?_
    rintro e w1 ⟨rfl, hF1, hb1⟩
    clear K1
    go_wp2_with fail
    refine (KN.out w1 hb1).mono ?_
    rintro e w2 ⟨v, rfl, hO, hb2⟩
    clear KN
    obtain ⟨q3, c3, rfl, t3⟩ := hO.tl (T := T) hF1.lt HN.out.1.byt HN.out.2.1
    obtain ⟨A, hA⟩ : ∃ A, w2.heap.size = A := ⟨_, rfl⟩
    obtain ⟨W3, hW3⟩ : ∃ W3, w2.alloc (.cells #[.int .u8 0] 5) = W3 := ⟨_, rfl⟩
    have hsA : W3.heap.size = A + 1 := by rw [← hW3, ← hA]; simp
    have hb3 : Below w2.heap.size w2 W3 := hW3 ▸ (Below.refl _ w2).alloc (Nat.le_refl _) _
    have b0 : Bs W3 (some ⟨A, 0, none⟩) 1 [0] := by rw [← hW3, ← hA]; exact bs_lits w2 _ [0] _ 1 rfl rfl rfl rfl (by simp)
    obtain ⟨W4, hW4⟩ : ∃ W4, W3.alloc (.cells #[.slice p m d, .slice (some ⟨A, 0, none⟩) 1 1] 22) = W4 := ⟨_, rfl⟩
    have hb4 : Below W3.heap.size W3 W4 := hW4 ▸ (Below.refl _ W3).alloc (Nat.le_refl _) _
    obtain ⟨z0, z1⟩ := two_new W3 (.slice p m d) (.slice (some ⟨A, 0, none⟩) 1 1)
    rw [hW4, hsA] at z0 z1
    have hbw : But (· = T) w W4 := hb1.trans (But.of_below (hb2.trans ((hb3.trans (hb4.mono hb3.size)).mono hb2.size)))
    have hF4 : Fd k B T W4 := hF1.below (hb2.trans ((hb3.trans (hb4.mono hb3.size)).mono hb2.size))
    have KC := cat_calls (A + 1) p (some ⟨A, 0, none⟩) m d 1 1 2 xs [0] (by omega) (by omega) W4 (HN.out.2.2.2.2.2.2.2.2.but hbw).bs (b0.below hb4) z0 z1
    have H4 : Hid (Fd k B T W4 ∧ But (· = T) w W4 ∧ Tl W4 T q3 g c3 ns) := ⟨hF4, hbw, (t3.below hb3).below hb4⟩
    clear hO hb2 hb3 hb4 b0 z0 z1 hbw hF4 hF1 hb1 t3
    go_wp2_with fail
    refine KC.mono ?_
    rintro e w5 ⟨v, rfl, hO, hb5⟩
    clear KC
    obtain ⟨q5, c5, rfl, t5⟩ := hO.tl (T := T) H4.out.1.lt HN.out.2.2.2.2.1 HN.out.2.2.2.1
    have KM := missed_calls k B T q3 q5 g c3 (m + 1) c5 m r ns (xs ++ [0]) HN.out.2.2.2.2.2.1 HN.out.2.2.1 (by omega) (by omega) w5 (H4.out.1.below hb5) (H4.out.2.2.below hb5) t5
    have H5 : Hid (But (· = T) w w5) := H4.out.2.1.trans (But.of_below hb5)
    clear hO hb5 t5
    go_wp2_with fail
    refine KM.mono ?_
    rintro e w6 ⟨rfl, hF6, hb6⟩
    clear KM
    go_wp2
    go_ret2
    exact ⟨rfl, hF6, H5.out.trans hb6⟩
end Go.Proofs
