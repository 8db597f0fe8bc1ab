/- The walks of erratumlaw14.makes and least: the package and the document's answer tell the same of any lists. Conditions: lists that are no great ones. -/
import Derived.Test.YtfbbphddakjhhaaGreatQI
import Derived.Test.YtfbbphddakjhhaaGreatQF
import Derived.Test.YtfbbphddakjhhaaGreatQG
namespace Go.Proofs
open Go.RowKit Go.ChangeShapes Go.WideShapes
open Pol (IsN Dg ofL Byt)

set_option maxRecDepth 100000 in
set_option maxHeartbeats 8000000 in
theorem lmakes_calls (j : Nat) (q p : Option Addr) (n c m d : Nat) (cs xs : List Nat) (z : Int) (hn : n ≤ 1000000) (hm : m < 1000000) (hnc : n ≤ c) (hmd : m ≤ d) (w : World) (h1 : Bs w q n cs) (h2 : Bs w p m xs) :
    Calls Tryz.prog 7 #[.int .u8 j, .slice q n c, .int .i64 z, .slice p m d] w fun e w' => e = .returned (.bool true) ∧ Below w.heap.size w w' := by
  obtain ⟨f, hfe⟩ : ∃ f : Nat, 1 + j % 3 = f := ⟨_, rfl⟩
  have hf1 : 1 ≤ f := by omega
  have hf3 : f ≤ 3 := by omega
  have hfi : (1 : Int) + (j : Int) % 3 = (f : Int) := by omega
  have K0 := fof_calls f hf1 hf3 w
  obtain ⟨b, hb⟩ : ∃ b : Bool, b = true ↔ Ms.MkZ cs xs z := by
    by_cases h : Ms.MkZ cs xs z
    · exact ⟨true, fun _ => h, fun _ => rfl⟩
    · exact ⟨false, fun e => (by cases e), fun e => (h e).elim⟩
  obtain ⟨r, hr⟩ : ∃ r, (if b = true then Ms.nxv cs xs else 0) = r := ⟨_, rfl⟩
  have HX : Hid (Bs w q n cs ∧ Bs w p m xs ∧ n ≤ c ∧ m ≤ d ∧ (b = true ↔ Ms.MkZ cs xs z) ∧ r = (if b = true then Ms.nxv cs xs else 0)) := ⟨h1, h2, hnc, hmd, hb, hr.symm⟩
  clear h1 h2 hf1 hf3 hfe hb hr
  go_enter Tryz.func7, Tryz.ntmps7
  go_wp2_with fail
  refine K0.mono ?_
  rintro e_ w1 ⟨B, T, rfl, hF, hb, hlB, hlT⟩
  clear K0 hfi
  have HT : Hid (w.heap.size ≤ T) := hlT
  have hT1 : Tw f B T w w1 := ⟨hF, But.of_below hb⟩
  have l1 : Tl w1 T q n c cs := ⟨HX.out.1.below hb, HX.out.2.2.1, HX.out.1.off hlT⟩
  have l2 : Tl w1 T p m d xs := ⟨HX.out.2.1.below hb, HX.out.2.2.2.1, HX.out.2.1.off hlT⟩
  have K := knext f B T w q p n c m d cs xs z b r HX.out.2.2.2.2.1 HX.out.2.2.2.2.2 hn hm w1 hT1 l1 l2
  have H1 : Hid (Tl w1 T q n c cs ∧ Tl w1 T p m d xs) := ⟨l1, l2⟩
  clear hF hb hlB hlT l1 l2 hT1
  go_wp2_with fail
  refine K.mono ?_
  rintro e_ w2 ⟨rfl, hT2, hb2⟩
  clear K
  have K := r14next_calls q p n c m d cs xs z b r HX.out.2.2.2.2.1 HX.out.2.2.2.2.2 hn (by omega) w2 (H1.out.1.but hb2).bs (H1.out.2.but hb2).bs
  have H2 : Hid (Tw f B T w w2 ∧ Tl w2 T q n c cs ∧ Tl w2 T p m d xs) := ⟨hT2, H1.out.1.but hb2, H1.out.2.but hb2⟩
  clear hT2 hb2 H1
  go_wp2_with fail
  refine K.mono ?_
  rintro e_ w3 ⟨rfl, hw⟩
  obtain rfl := hw.symm
  clear K
  have K := kmakes f B T w q p n c m d cs xs z b HX.out.2.2.2.2.1 hn (by omega) w2 H2.out.1 H2.out.2.1 H2.out.2.2
  go_wp2_with fail
  refine K.mono ?_
  rintro e_ w4 ⟨rfl, hT4, hb4⟩
  clear K
  have K := r14makes_calls q p n c m d cs xs z b HX.out.2.2.2.2.1 hn (by omega) w4 (H2.out.2.1.but hb4).bs (H2.out.2.2.but hb4).bs
  have HZ : Hid (Below w.heap.size w w4) := hT4.but.below (Nat.le_refl _) (by rintro k rfl; exact HT.out)
  clear hT4 hb4 H2
  go_wp2_with fail
  refine K.mono ?_
  rintro e_ w5 ⟨rfl, hw⟩
  obtain rfl := hw.symm
  clear K
  go_wp2
  go_ret
  exact ⟨rfl, HZ.out⟩

set_option maxRecDepth 100000 in
set_option maxHeartbeats 8000000 in
theorem lleast_calls (j : Nat) (q : Option Addr) (n c : Nat) (xs : List Nat) (hn : n ≤ 300) (hnc : n ≤ c) (w : World) (h1 : Bs w q n xs) :
    Calls Tryz.prog 8 #[.int .u8 j, .slice q n c] w fun e w' => e = .returned (.bool true) ∧ Below w.heap.size w w' := by
  obtain ⟨f, hfe⟩ : ∃ f : Nat, 1 + j % 3 = f := ⟨_, rfl⟩
  have hf1 : 1 ≤ f := by omega
  have hf3 : f ≤ 3 := by omega
  have hfi : (1 : Int) + (j : Int) % 3 = (f : Int) := by omega
  have K0 := fof_calls f hf1 hf3 w
  obtain ⟨L, hL⟩ := Ms.least_exists (ofL xs) n
  have HX : Hid (Bs w q n xs ∧ n ≤ c ∧ Ms.Least (ofL xs) n L ∧ xs.length = n) := ⟨h1, hnc, hL, h1.len⟩
  clear h1 hf1 hf3 hfe hL
  go_enter Tryz.func8, Tryz.ntmps8
  go_wp2_with fail
  refine K0.mono ?_
  rintro e_ w1 ⟨B, T, rfl, hF, hb, hlB, hlT⟩
  clear K0 hfi
  have HT : Hid (w.heap.size ≤ T) := hlT
  have hT1 : Tw f B T w w1 := ⟨hF, But.of_below hb⟩
  have l1 : Tl w1 T q n c xs := ⟨HX.out.1.below hb, HX.out.2.1, HX.out.1.off hlT⟩
  have K := kmassey f B T w q n c L xs (by omega) HX.out.2.2.1 w1 hT1 l1
  have H1 : Hid (Tl w1 T q n c xs) := l1
  clear hF hb hlB hlT l1 hT1
  go_wp2_with fail
  refine K.mono ?_
  rintro e_ w2 ⟨q2, n2, c2, rfl, ⟨ls, hl2, hls, l2⟩, hT2, hb2⟩
  clear K
  have hLn := hls.reg.le
  have hln := hls.nrm.dg.le hls.reg.bd
  rw [HX.out.2.2.2] at hLn
  have K := r14massey_calls q n c L xs hn HX.out.2.2.1 w2 (H1.out.but hb2).bs
  have H2 : Hid (Tw f B T w w2 ∧ Tl w2 T q n c xs ∧ Tl w2 T q2 n2 c2 ls) := ⟨hT2, H1.out.but hb2, l2⟩
  have HR : Hid (ls.length = n2 ∧ Ms.IsMas xs ls L ∧ L ≤ n ∧ n2 ≤ 1000) := ⟨hl2, hls, hLn, by omega⟩
  clear hT2 hb2 H1 hl2 hls l2 hLn hln
  go_wp2_with fail
  refine K.mono ?_
  rintro e_ w3 ⟨v, rfl, zs, hzs, hO, hb3⟩
  clear K
  obtain ⟨n3, hn3⟩ : ∃ n3, zs.length = n3 := ⟨_, rfl⟩
  obtain ⟨q3, c3, rfl, l3⟩ := hO.tl (T := T) H2.out.1.lt hzs.nrm.byt hn3
  have H3 : Hid (Tw f B T w w3 ∧ Tl w3 T q n c xs ∧ Tl w3 T q2 n2 c2 ls ∧ Tl w3 T q3 n3 c3 zs ∧ (2 * L ≤ n → ls = zs)) := ⟨H2.out.1.below hb3, H2.out.2.1.below hb3, H2.out.2.2.below hb3, l3, fun h => HR.out.2.1.alone hzs (by rw [HX.out.2.2.2]; exact h)⟩
  have K := kmlen f B T w q n c L xs (by omega) HX.out.2.2.1 w3 H3.out.1 H3.out.2.1
  clear hzs hO hb3 hn3 l3 H2
  go_wp2_with fail
  refine K.mono ?_
  rintro e_ w4 ⟨rfl, hT4, hb4⟩
  clear K
  have K := kmakes f B T w q2 q n2 c2 n c ls xs (L : Int) true ⟨fun _ => HR.out.2.1.mkZ, fun _ => rfl⟩ (by have := HR.out; omega) (by omega) w4 hT4 (H3.out.2.2.1.but hb4) (H3.out.2.1.but hb4)
  have H4 : Hid (Tl w4 T q2 n2 c2 ls ∧ Tl w4 T q3 n3 c3 zs) := ⟨H3.out.2.2.1.but hb4, H3.out.2.2.2.1.but hb4⟩
  clear hT4 hb4
  go_wp2_with fail
  refine K.mono ?_
  rintro e_ w5 ⟨rfl, hT5, hb5⟩
  clear K
  have K := rdeg_calls q2 n2 c2 ls n2 (by have := HR.out.2.1.nrm.dg; rw [HR.out.1] at this; exact this) (by have := HR.out; omega) w5 (H4.out.1.but hb5).bs
  have H5 : Hid (Tw f B T w w5 ∧ Tl w5 T q2 n2 c2 ls ∧ Tl w5 T q3 n3 c3 zs) := ⟨hT5, H4.out.1.but hb5, H4.out.2.but hb5⟩
  clear hT5 hb5 H4
  go_wp2_with fail
  refine K.mono ?_
  rintro e_ w6 ⟨rfl, hw⟩
  obtain rfl := hw.symm
  clear K
  have hL6 : (L : Int) ≤ 300 := by have := HR.out.2.2.1; omega
  have hn26 : (n2 : Int) ≤ 1000 := by have := HR.out.2.2.2; omega
  by_cases h2 : 2 * L ≤ n
  · have h2i : ¬ (n : Int) < (2 : Int) * (L : Int) := by omega
    have K := ksame14 f B T w q2 q3 n2 n3 c2 c3 ls zs true ⟨fun _ => H3.out.2.2.2.2 h2, fun _ => rfl⟩ w5 H5.out.1 H5.out.2.1 H5.out.2.2
    go_wp2_with fail
    refine K.mono ?_
    rintro e_ w7 ⟨rfl, hT7, -⟩
    clear K
    have HZ : Hid (Below w.heap.size w w7) := hT7.but.below (Nat.le_refl _) (by rintro k rfl; exact HT.out)
    clear hT7
    go_wp2
    go_ret
    exact ⟨rfl, HZ.out⟩
  · have h2i : (n : Int) < (2 : Int) * (L : Int) := by omega
    have HZ : Hid (Below w.heap.size w w5) := H5.out.1.but.below (Nat.le_refl _) (by rintro k rfl; exact HT.out)
    go_wp2
    go_ret
    exact ⟨rfl, HZ.out⟩
end Go.Proofs
