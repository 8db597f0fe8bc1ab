/- The walk of erratumlaw14.Made: bytes that a register makes behind as many of its own. Conditions: lists of at most a million bytes, no more than a hundred thousand that are made. -/
import Derived.BigQuiet
import Derived.Test.YthnlcdfonbnjcaaGreatNU
import Derived.Test.YthnlcdfonbnjcaaGreatMC
import Derived.Test.YthnlcdfonbnjcaaGreatMO
import Derived.Test.YthnlcdfonbnjcaaGreatMG
import Derived.Test.YthnlcdfonbnjcaaGreatNA
namespace Go.Proofs
open Go.RowKit Go.ChangeShapes Go.WideShapes
attribute [local go_sem ↓ high] builtin_ap
attribute [local go_sem] ap_sem
open Pol (Byt ofL)
open Ms (mdL mdN)

theorem mdN_own {ls fs xs : List Nat} (h : xs.length < ls.length) : mdN ls fs xs = fs.getD xs.length 0 := by unfold Ms.mdN; rw [if_pos h]
theorem mdN_reg {ls fs xs : List Nat} {i : Nat} (hi : xs.length = i) (h : ls.length ≤ i) : mdN ls fs xs = Ms.smv ls xs (fun t => t) (fun t => i - (t + 1)) ls.length := by subst hi; unfold Ms.mdN Ms.smv; rw [if_neg (by omega)]
set_option maxRecDepth 100000 in
set_option maxHeartbeats 4000000 in
theorem lmade_calls (q p : Option Addr) (n c m d N : Nat) (ls fs : List Nat) (hn : n ≤ 1000000) (hN : N ≤ 100000) (w : World) (h1 : Bs w q n ls) (h2 : Bs w p m fs) :
    Calls Tryz.prog 7 #[.slice q n c, .slice p m d, .int .i64 (N : Nat)] w fun e w' => ∃ v, e = .returned v ∧ Ow w' w.heap.size v (mdL ls fs N) ∧ Below w.heap.size w w' := by
  have HS : Hid (Bs w q n ls ∧ Bs w p m fs ∧ ls.length = n ∧ fs.length = m) := ⟨h1, h2, h1.len, h2.len⟩
  have HL : Hid (∀ k, (mdL ls fs k).length = k ∧ Byt (mdL ls fs k)) := fun k => ⟨Ms.mdL_length ls fs k, Ms.mdL_byt h2.byte k⟩
  have HA : Hid (∀ (W : World) (q2 : Option Addr) (i i1 c2 b : Nat), i + 1 = i1 → i1 ≤ N → Ow W w.heap.size (.slice q2 i c2) (mdL ls fs i) → Below w.heap.size w W → mdN ls fs (mdL ls fs i) = b → ∃ g cg W', (Builtin.append_ #[22, 22] 22 #[.slice q2 i c2, .slice (some ⟨W.heap.size, 0, none⟩) 1 1]).run Tryz.prog (W.alloc (.cells #[.int .u8 (b : Nat)] 5)) = .ok (.slice (some ⟨g, 0, none⟩) i1 cg) W' ∧
      Hid (Ow W' w.heap.size (.slice (some ⟨g, 0, none⟩) i1 cg) (mdL ls fs i1) ∧ Bs W' (some ⟨g, 0, none⟩) i1 (mdL ls fs i1) ∧ Below w.heap.size w W')) := fun W q2 i i1 c2 b hi hiN hO hB hb => by
    subst hi
    obtain ⟨g, cg, W', hap, hO', hB'⟩ := run_append_one W w.heap.size (.slice q2 i c2) (mdL ls fs i) b hO (by rw [(HL.out i).1]; omega) hB.size
    have e : mdL ls fs i ++ [b] = mdL ls fs (i + 1) := by rw [← hb]; rfl
    rw [e, (HL.out (i + 1)).1] at hap hO'
    obtain ⟨q3, c3, e3, S3, -, -⟩ := hO'.tell (HL.out (i + 1)).2 (HL.out (i + 1)).1
    cases e3
    exact ⟨g, cg, W', hap, hO', S3, hB.trans (hB' _ (Nat.le_refl _))⟩
  clear h1 h2
  go_enter Tryz.func7, Tryz.ntmps7
  go_wp2
  go_loopw [7, 8] (fun v idx wr => ∃ (i : Nat) (q2 : Option Addr) (c2 : Nat), i ≤ N ∧ idx = .int .i64 (i : Int) ∧ v = .slice q2 i c2 ∧ Hid (Ow wr w.heap.size (.slice q2 i c2) (mdL ls fs i) ∧ Bs wr q2 i (mdL ls fs i) ∧ Below w.heap.size w wr)) (fun _ idx _ => N - (intOf idx).toNat)
  case atStart => exact ⟨0, none, 0, Nat.zero_le _, rfl, rfl, (⟨ow_nil _ _, ⟨rfl, by omega, fun i hi => absurd hi (Nat.not_lt_zero i), Pol.byt_nil⟩, Below.refl _ _⟩ : Ow w w.heap.size (.slice none 0 0) (mdL ls fs 0) ∧ Bs w none 0 (mdL ls fs 0) ∧ Below w.heap.size w w)⟩
  case round =>
    obtain ⟨i, q2, c2, hi, rfl, rfl, HO⟩ := hrel
    by_cases hlt : i < N
    · have hii : (i : Int) < (N : Int) := by omega
      have hi0 : (0 : Int) ≤ (i : Int) := by omega
      obtain ⟨i1, hi1⟩ : ∃ i1, i + 1 = i1 := ⟨_, rfl⟩
      have hi1i : (i : Int) + 1 = (i1 : Int) := by omega
      have hwi1 := wrap_nat i1 (by omega)
      have HI : Hid (i + 1 = i1 ∧ i1 ≤ N ∧ (mdL ls fs i).length = i) := ⟨hi1, by omega, (HL.out i).1⟩
      by_cases hin : i < n
      · have hini : (i : Int) < (n : Int) := by omega
        have hmd : mdN ls fs (mdL ls fs i) = fs.getD i 0 := by rw [mdN_own (by rw [HI.out.2.2, HS.out.2.2.1]; exact hin), HI.out.2.2]
        by_cases him : i < m
        · have himi : (i : Int) < (m : Int) := by omega
          obtain ⟨a, ea, la, ca⟩ := HS.out.2.1.cell i him
          replace ca := (HO.out.2.2.cell (p := a.add i) (by rw [block_add]; exact la)).trans ca
          obtain ⟨b, hb⟩ : ∃ b, fs.getD i 0 = b := ⟨_, rfl⟩
          rw [hb] at ca hmd
          obtain ⟨g, cg, W3, hap, HZ⟩ := HA.out wr q2 i i1 c2 b HI.out.1 HI.out.2.1 HO.out.1 HO.out.2.2 hmd
          have ha1 := ap_ok hap
          have ha2 := ap_v hap
          have ha3 := ap_w hap
          subst ea
          clear hap hb la hmd HO hi1
          go_wp2
          go_roundw
          case rel => exact ⟨i1, _, cg, HI.out.2.1, by go_num, rfl, HZ⟩
          case measure => simp [intOf]; omega
        · have himi : ¬ (i : Int) < (m : Int) := by omega
          have hb : fs.getD i 0 = 0 := by simp [List.getD, List.getElem?_eq_none (show fs.length ≤ i by rw [HS.out.2.2.2]; omega)]
          rw [hb] at hmd
          obtain ⟨g, cg, W3, hap, HZ⟩ := HA.out wr q2 i i1 c2 0 HI.out.1 HI.out.2.1 HO.out.1 HO.out.2.2 hmd
          have hap' : (Builtin.append_ #[22, 22] 22 #[.slice q2 i c2, .slice (some ⟨wr.heap.size, 0, none⟩) 1 1]).run Tryz.prog (wr.alloc (.cells #[.int .u8 0] 5)) = .ok (.slice (some ⟨g, 0, none⟩) i1 cg) W3 := hap
          have ha1 := ap_ok hap'
          have ha2 := ap_v hap'
          have ha3 := ap_w hap'
          clear hap hap' hb hmd HO hi1
          go_wp2
          go_roundw
          case rel => exact ⟨i1, _, cg, HI.out.2.1, by go_num, rfl, HZ⟩
          case measure => simp [intOf]; omega
      · have hini : ¬ (i : Int) < (n : Int) := by omega
        have hmd : mdN ls fs (mdL ls fs i) = Ms.smv ls (mdL ls fs i) (fun t => t) (fun t => i - (t + 1)) n := by rw [mdN_reg HI.out.2.2 (by rw [HS.out.2.2.1]; omega), HS.out.2.2.1]
        obtain ⟨xs, hxs⟩ : ∃ xs, mdL ls fs i = xs := ⟨_, rfl⟩
        have HM : Hid (mdN ls fs xs = Ms.smv ls xs (fun t => t) (fun t => i - (t + 1)) n ∧ mdL ls fs i = xs ∧ Byt xs) := ⟨by rw [← hxs]; rw [hxs] at hmd ⊢; exact hmd, hxs, hxs ▸ (HL.out i).2⟩
        rw [hxs] at HO
        obtain ⟨Wa, hWa⟩ : ∃ Wa, Wa = wr := ⟨_, rfl⟩
        subst hWa
        clear hmd hxs hi1
        go_wp2
        go_loopw [9, 10] (fun s kk wr => ∃ k : Nat, k ≤ n ∧ kk = .int .i64 (k : Int) ∧ s = .int .u8 (Ms.smv ls xs (fun t => t) (fun t => i - (t + 1)) k : Nat) ∧ Hid (Ow wr w.heap.size (.slice q2 i c2) xs ∧ Bs wr q2 i xs ∧ Below w.heap.size w wr)) (fun _ kk _ => n - (intOf kk).toNat)
        case atStart => exact ⟨0, Nat.zero_le _, rfl, rfl, HO⟩
        case round =>
          obtain ⟨k, hk, rfl, rfl, HK⟩ := hrel
          by_cases hkt : k < n
          · have hki : (k : Int) < (n : Int) := by omega
            have hk0 : (0 : Int) ≤ (k : Int) := by omega
            obtain ⟨t1, ht1⟩ : ∃ t1, i - k = t1 := ⟨_, rfl⟩
            obtain ⟨t, ht⟩ : ∃ t, i - (k + 1) = t := ⟨_, rfl⟩
            have hti1 : (i : Int) - (k : Int) = (t1 : Int) := by omega
            have hti : (t1 : Int) - 1 = (t : Int) := by omega
            have hwt1 := wrap_nat t1 (by omega)
            have hwt := wrap_nat t (by omega)
            have ht0 : (0 : Int) ≤ (t : Int) := by omega
            have htni : (t : Int) < (i : Int) := by omega
            obtain ⟨a, ea, la, ca⟩ := (HS.out.1.below HK.out.2.2).cell k hkt
            obtain ⟨b, eb, lb, cb⟩ := HK.out.2.1.cell t (by omega)
            obtain ⟨x, hx⟩ : ∃ x, ls.getD k 0 = x := ⟨_, rfl⟩
            obtain ⟨y, hy⟩ : ∃ y, xs.getD t 0 = y := ⟨_, rfl⟩
            have hx8 : x < 256 := by rw [← hx]; exact HS.out.1.byte k
            have hsu := Ms.smv_succ HS.out.1.byte HM.out.2.2 (fun t => t) (fun t => i - (t + 1)) k
            rw [ht, hx, hy] at hsu
            rw [hx] at ca
            rw [hy] at cb
            have hs8 := Ms.smv_lt ls xs (fun t => t) (fun t => i - (t + 1)) k
            obtain ⟨s, hs⟩ : ∃ s, Ms.smv ls xs (fun t => t) (fun t => i - (t + 1)) k = s := ⟨_, rfl⟩
            rw [hs] at hsu hs8 ⊢
            have hxo := u8_xor_nat s (Gf.mul x y) hs8 (Gf.mul_lt _ _ hx8)
            have KM : Hid (∀ W, Calls Tryz.prog 24 #[.int .u8 (x : Nat), .int .u8 (y : Nat)] W fun e w' => e = .returned (.int .u8 (Gf.mul x y : Nat)) ∧ w' = W) := fun W => rmul_calls x y hx8 W
            have HP : Hid (Ms.smv ls xs (fun t => t) (fun t => i - (t + 1)) (k + 1) = s ^^^ Gf.mul x y) := hsu
            subst ea eb
            clear hs hsu hs8 hx hy hx8 ht ht1 la lb
            go_wp2
            go_quiet ((go_at_call 24; with_reducible refine Calls.quiet_of_same (KM.out _)))
            obtain ⟨W2, hW2⟩ : ∃ W2, wr.drewN nq = W2 := ⟨_, rfl⟩
            rw [hW2]
            have HZ : Hid (Ow W2 w.heap.size (.slice (some b) i c2) xs ∧ Bs W2 (some b) i xs ∧ Below w.heap.size w W2) := by
              have hb : Below wr.heap.size wr W2 := hW2 ▸ ⟨rfl, rfl, rfl, Nat.le_refl _, fun _ _ => rfl⟩
              exact ⟨HK.out.1.below hb, HK.out.2.1.below hb, HK.out.2.2.trans (hb.mono HK.out.2.2.size)⟩
            clear hW2 HK ca cb KM
            go_wp2
            go_roundw
            case rel => exact ⟨k + 1, by omega, by go_num, by rw [HP.out], HZ⟩
            case measure => simp [intOf]; omega
          · obtain rfl : n = k := by omega
            obtain ⟨b, hb⟩ : ∃ b, Ms.smv ls xs (fun t => t) (fun t => i - (t + 1)) n = b := ⟨_, rfl⟩
            rw [hb]
            obtain ⟨g, cg, W3, hap, HZ⟩ := HA.out wr q2 i i1 c2 b HI.out.1 HI.out.2.1 (by rw [HM.out.2.1]; exact HK.out.1) HK.out.2.2 (by rw [HM.out.2.1, HM.out.1]; exact hb)
            have ha1 := ap_ok hap
            have ha2 := ap_v hap
            have ha3 := ap_w hap
            clear hap hb HO HK
            go_wp2
            go_roundw
            case rel => exact ⟨i1, _, cg, HI.out.2.1, by go_num, rfl, HZ⟩
            case measure => simp [intOf]; omega
    · obtain rfl : N = i := by omega
      have HZ : Hid (Ow wr w.heap.size (.slice q2 N c2) (mdL ls fs N) ∧ Below w.heap.size w wr) := ⟨HO.out.1, HO.out.2.2⟩
      clear HO
      go_wp2
      go_ret
      exact ⟨_, rfl, HZ.out⟩
end Go.Proofs
