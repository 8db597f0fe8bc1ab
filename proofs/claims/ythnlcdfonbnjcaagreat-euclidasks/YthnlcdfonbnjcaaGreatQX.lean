/- The walks of erratumlaw15.asks and keys: the package and the document's answer tell the same of any lists and numbers. Conditions: lists of at most a thousand, or five hundred, bytes. -/
import Derived.Test.YthnlcdfonbnjcaaGreatQW
namespace Go.Proofs
open Go.RowKit Go.ChangeShapes Go.WideShapes
open Pol (IsN Dg ofL Byt)
open Eu (IsRun IsKey)

set_option maxRecDepth 100000 in
set_option maxHeartbeats 8000000 in
theorem asks15_calls (j : Nat) (q p : Option Addr) (n c m d : Nat) (xs ys : List Nat) (z : Int) (hn : n ≤ 1000) (hm : m ≤ 1000) (hnc : n ≤ c) (hmd : m ≤ d) (w : World) (hs : Bs w q n xs) (hy : Bs w p m ys) :
    Calls Tryz.prog 8 #[.int .u8 j, .slice q n c, .slice p m d, .int .i64 z] w fun e w' => e = .returned (.bool true) ∧ Below w.heap.size w w' := by
  obtain ⟨f, hfe⟩ : ∃ f : Nat, 1 + j % 3 = f := ⟨_, rfl⟩
  have hf1 : 1 ≤ f := by omega
  have hf3 : f ≤ 3 := by omega
  have hfi : (1 : Int) + (j : Int) % 3 = (f : Int) := by omega
  have K0 := fof_calls f hf1 hf3 w
  obtain ⟨k, hk⟩ : ∃ k, z.toNat = k := ⟨_, rfl⟩
  have hzk : (if z < 0 then 0 else z) = (k : Int) := by split <;> omega
  obtain ⟨ss, vs, N, hR⟩ := Eu.isRun_exists k xs ys
  obtain ⟨a1, l1⟩ : ∃ a, ss.length = a := ⟨_, rfl⟩
  obtain ⟨a2, l2⟩ : ∃ a, vs.length = a := ⟨_, rfl⟩
  have HX : Hid (Bs w q n xs ∧ n ≤ c ∧ Bs w p m ys ∧ m ≤ d ∧ IsRun xs ys k ss vs N ∧ ss.length = a1 ∧ vs.length = a2 ∧ (if z < 0 then 0 else z) = (k : Int)) := ⟨hs, hnc, hy, hmd, hR, l1, l2, hzk⟩
  clear hs hnc hy hmd hR l1 l2 hk hzk hf1 hf3 hfe
  go_enter Tryz.func8, Tryz.ntmps8
  go_wp2_with fail
  refine K0.mono ?_
  rintro e_ w1 ⟨B, T, rfl, hF, hb, hlB, hlT⟩
  have HT : Hid (w.heap.size ≤ T) := hlT
  have H1 : Hid (Tw f B T w w1 ∧ Tl w1 T q n c xs ∧ Tl w1 T p m d ys) := ⟨⟨hF, But.of_below hb⟩, ⟨(HX.out.1).below hb, HX.out.2.1, (HX.out.1).off hlT⟩, ⟨(HX.out.2.2.1).below hb, HX.out.2.2.2.1, (HX.out.2.2.1).off hlT⟩⟩
  clear K0 hF hb hlB hlT
  clear hfi
  have K := xrun f B T w n c m d k N a1 a2 q p z xs ys ss vs HX.out.2.2.2.2.2.2.2 HX.out.2.2.2.2.1 HX.out.2.2.2.2.2.1 HX.out.2.2.2.2.2.2.1 hn hm (w1) H1.out.1 H1.out.2.1 H1.out.2.2
  go_wp2_with fail
  refine K.mono ?_
  rintro e_ w2 ⟨q2, c2, q3, c3, rfl, t2_0, t2_1, hT, hb⟩
  have H2 : Hid (Tw f B T w w2 ∧ Tl w2 T q n c xs ∧ Tl w2 T p m d ys ∧ Tl w2 T q2 a1 c2 ss ∧ Tl w2 T q3 a2 c3 vs) := ⟨hT, (H1.out.2.1).but hb, (H1.out.2.2).but hb, t2_0, t2_1⟩
  clear K hT hb t2_0 t2_1 H1
  have K := xr15run f B T w q p n c m d k N a1 a2 xs ys ss vs z HX.out.2.2.2.2.2.2.2 HX.out.2.2.2.2.1 HX.out.2.2.2.2.2.1 HX.out.2.2.2.2.2.2.1 hn hm (w2) H2.out.1 H2.out.2.1 H2.out.2.2.1
  go_wp2_with fail
  refine K.mono ?_
  rintro e_ w3 ⟨q4, c4, q5, c5, rfl, t3_0, t3_1, hT, hb⟩
  have H3 : Hid (Tw f B T w w3 ∧ Tl w3 T q n c xs ∧ Tl w3 T p m d ys ∧ Tl w3 T q2 a1 c2 ss ∧ Tl w3 T q3 a2 c3 vs ∧ Tl w3 T q4 a1 c4 ss ∧ Tl w3 T q5 a2 c5 vs) := ⟨hT, (H2.out.2.1).but hb, (H2.out.2.2.1).but hb, (H2.out.2.2.2.1).but hb, (H2.out.2.2.2.2).but hb, t3_0, t3_1⟩
  clear K hT hb t3_0 t3_1 H2
  have K := xsame f B T w q2 q4 a1 a1 c2 c4 ss ss true ⟨fun _ => rfl, fun _ => rfl⟩ (w3) H3.out.1 H3.out.2.2.2.1 H3.out.2.2.2.2.2.1
  go_wp2_with fail
  refine K.mono ?_
  rintro e_ w4 ⟨rfl, hT, hb⟩
  have H4 : Hid (Tw f B T w w4 ∧ Tl w4 T q n c xs ∧ Tl w4 T p m d ys ∧ Tl w4 T q3 a2 c3 vs ∧ Tl w4 T q5 a2 c5 vs) := ⟨hT, (H3.out.2.1).but hb, (H3.out.2.2.1).but hb, (H3.out.2.2.2.2.1).but hb, (H3.out.2.2.2.2.2.2).but hb⟩
  clear K hT hb  H3
  have K := xsame f B T w q3 q5 a2 a2 c3 c5 vs vs true ⟨fun _ => rfl, fun _ => rfl⟩ (w4) H4.out.1 H4.out.2.2.2.1 H4.out.2.2.2.2
  go_wp2_with fail
  refine K.mono ?_
  rintro e_ w5 ⟨rfl, hT, hb⟩
  have H5 : Hid (Tw f B T w w5 ∧ Tl w5 T q n c xs ∧ Tl w5 T p m d ys) := ⟨hT, (H4.out.2.1).but hb, (H4.out.2.2.1).but hb⟩
  clear K hT hb  H4
  have K := xstep f B T w n c m d k N q p z xs ys ss vs HX.out.2.2.2.2.2.2.2 HX.out.2.2.2.2.1 hn hm (w5) H5.out.1 H5.out.2.1 H5.out.2.2
  go_wp2_with fail
  refine K.mono ?_
  rintro e_ w6 ⟨rfl, hT, hb⟩
  have H6 : Hid (Tw f B T w w6) := hT
  clear K hT hb  H5
  have HZ : Hid (Below w.heap.size w w6) := (H6.out).but.below (Nat.le_refl _) (by rintro k rfl; exact HT.out)
  clear H6
  go_wp2
  go_ret
  exact ⟨rfl, HZ.out⟩
set_option maxRecDepth 100000 in
set_option maxHeartbeats 8000000 in
theorem keys15_calls (j : Nat) (q : Option Addr) (n c : Nat) (xs : List Nat) (z : Int) (hn : n ≤ 500) (hnc : n ≤ c) (w : World) (hs : Bs w q n xs) :
    Calls Tryz.prog 9 #[.int .u8 j, .slice q n c, .int .i64 z] w fun e w' => e = .returned (.bool true) ∧ Below w.heap.size w w' := by
  obtain ⟨f, hfe⟩ : ∃ f : Nat, 1 + j % 3 = f := ⟨_, rfl⟩
  have hf1 : 1 ≤ f := by omega
  have hf3 : f ≤ 3 := by omega
  have hfi : (1 : Int) + (j : Int) % 3 = (f : Int) := by omega
  have K0 := fof_calls f hf1 hf3 w
  obtain ⟨ls, es, bb, hK⟩ := Eu.isKey_exists xs z
  obtain ⟨a1, l1⟩ : ∃ a, ls.length = a := ⟨_, rfl⟩
  obtain ⟨a2, l2⟩ : ∃ a, es.length = a := ⟨_, rfl⟩
  have hbb : (bb == bb) = true := by cases bb <;> rfl
  have HX : Hid (Bs w q n xs ∧ n ≤ c ∧ IsKey xs z ls es bb ∧ ls.length = a1 ∧ es.length = a2) := ⟨hs, hnc, hK, l1, l2⟩
  clear hs hnc hK l1 l2 hf1 hf3 hfe
  go_enter Tryz.func9, Tryz.ntmps9
  go_wp2_with fail
  refine K0.mono ?_
  rintro e_ w1 ⟨B, T, rfl, hF, hb, hlB, hlT⟩
  have HT : Hid (w.heap.size ≤ T) := hlT
  have H1 : Hid (Tw f B T w w1 ∧ Tl w1 T q n c xs) := ⟨⟨hF, But.of_below hb⟩, ⟨(HX.out.1).below hb, HX.out.2.1, (HX.out.1).off hlT⟩⟩
  clear K0 hF hb hlB hlT
  clear hfi
  have K := xkey f B T w n c a1 a2 q xs ls es z bb HX.out.2.2.1 HX.out.2.2.2.1 HX.out.2.2.2.2 hn (w1) H1.out.1 H1.out.2
  go_wp2_with fail
  refine K.mono ?_
  rintro e_ w2 ⟨q2, c2, q3, c3, rfl, t2_0, t2_1, hT, hb⟩
  have H2 : Hid (Tw f B T w w2 ∧ Tl w2 T q n c xs ∧ Tl w2 T q2 a1 c2 ls ∧ Tl w2 T q3 a2 c3 es) := ⟨hT, (H1.out.2).but hb, t2_0, t2_1⟩
  clear K hT hb t2_0 t2_1 H1
  have K := xr15key f B T w q n c a1 a2 xs ls es z bb HX.out.2.2.1 HX.out.2.2.2.1 HX.out.2.2.2.2 hn (w2) H2.out.1 H2.out.2.1
  go_wp2_with fail
  refine K.mono ?_
  rintro e_ w3 ⟨q4, c4, q5, c5, rfl, t3_0, t3_1, hT, hb⟩
  have H3 : Hid (Tw f B T w w3 ∧ Tl w3 T q2 a1 c2 ls ∧ Tl w3 T q3 a2 c3 es ∧ Tl w3 T q4 a1 c4 ls ∧ Tl w3 T q5 a2 c5 es) := ⟨hT, (H2.out.2.2.1).but hb, (H2.out.2.2.2).but hb, t3_0, t3_1⟩
  clear K hT hb t3_0 t3_1 H2
  have K := xsame f B T w q2 q4 a1 a1 c2 c4 ls ls true ⟨fun _ => rfl, fun _ => rfl⟩ (w3) H3.out.1 H3.out.2.1 H3.out.2.2.2.1
  go_wp2_with fail
  refine K.mono ?_
  rintro e_ w4 ⟨rfl, hT, hb⟩
  have H4 : Hid (Tw f B T w w4 ∧ Tl w4 T q3 a2 c3 es ∧ Tl w4 T q5 a2 c5 es) := ⟨hT, (H3.out.2.2.1).but hb, (H3.out.2.2.2.2).but hb⟩
  clear K hT hb  H3
  have K := xsame f B T w q3 q5 a2 a2 c3 c5 es es true ⟨fun _ => rfl, fun _ => rfl⟩ (w4) H4.out.1 H4.out.2.1 H4.out.2.2
  go_wp2_with fail
  refine K.mono ?_
  rintro e_ w5 ⟨rfl, hT, hb⟩
  have H5 : Hid (Tw f B T w w5) := hT
  clear K hT hb  H4
  have HZ : Hid (Below w.heap.size w w5) := (H5.out).but.below (Nat.le_refl _) (by rintro k rfl; exact HT.out)
  clear H5
  go_wp2
  go_ret
  exact ⟨rfl, HZ.out⟩
end Go.Proofs
