/- EncodeLinear holds for every input: words of sums are sums of words; of unlike messages words are unlike at more bytes than there are roots. No conditions. -/
import Derived.Test.YtagkpjbadmodbaaGreatRows
import Derived.Test.YtagkpjbadmodbaaGreatMB
import Derived.Test.YtagkpjbadmodbaaGreatOH
import Derived.Test.YtagkpjbadmodbaaGreatMR
import Derived.Test.YtagkpjbadmodbaaGreatMO
namespace Go.Proofs.YtagkpjbadmodbaaGreat.encodeLinear
open Go.ChangeShapes Go.WideShapes Go.ChangeAt Go.RowKit
open Pol (IsN Dg ofL Byt)
attribute [local go_sem ↓ high] builtin_ap
attribute [local go_sem] ap_sem

/-- Sums of the first. -/
def xsK (ps qs : List Nat) (t : Nat) : List Nat := (List.range t).map fun i => ps.getD i 0 ^^^ qs.getD i 0
theorem xsK_length (ps qs : List Nat) (t : Nat) : (xsK ps qs t).length = t := by simp [xsK]
theorem xsK_succ (ps qs : List Nat) (t : Nat) : xsK ps qs (t + 1) = xsK ps qs t ++ [ps.getD t 0 ^^^ qs.getD t 0] := by unfold xsK; rw [List.range_succ, List.map_append]; rfl
theorem xsK_at (ps qs : List Nat) {t i : Nat} (h : i < t) : (xsK ps qs t).getD i 0 = ps.getD i 0 ^^^ qs.getD i 0 := Mx.getD_range_map t _ i h
theorem xsK_byt {ps qs : List Nat} (h : Byt ps) (h' : Byt qs) (t : Nat) : Byt (xsK ps qs t) := fun i => by
  by_cases hi : i < t
  · rw [xsK_at ps qs hi]; exact Gf.xor_lt8 (h i) (h' i)
  · rw [Mx.getD_out (by rw [xsK_length]; omega)]; decide
/-- Both words, and that of the sum. -/
structure Lin (N K S B : Nat) (ps qs vs us : List Nat) : Prop where
  v : Cd.IsEnc N S B ps vs
  u : Cd.IsEnc N S B qs us
  s : Cd.IsEnc N S B (xsK ps qs K) (xsK vs us N)
  same : Cd.nz (xsK vs us N) = 0 ↔ ps = qs
  far : Cd.nz (xsK vs us N) ≠ 0 → S < Cd.nz (xsK vs us N)
theorem lin_exists {N K S B : Nat} (h : Cod N K B) (hS : N - K = S) {ps qs : List Nat} (hp : ps.length = K) (hq : qs.length = K) (bp : Byt ps) (bq : Byt qs) : ∃ vs us, Lin N K S B ps qs vs us := by
  have hN := h.n
  obtain ⟨vs, hv⟩ := Cd.isEnc_exists (N := N) (S := S) (K := K) (B := B) hp bp (by omega)
  obtain ⟨us, hu⟩ := Cd.isEnc_exists (N := N) (S := S) (K := K) (B := B) hq bq (by omega)
  have hs := hv.add hu (xsK_length vs us N) (fun i hi => xsK_at vs us hi)
  have e : (xsK vs us N).drop S = xsK ps qs K := by
    refine Mx.list_ext (by rw [List.length_drop, xsK_length, xsK_length]; omega) fun i hi => ?_
    rw [List.length_drop, xsK_length] at hi
    rw [Cd.drop_getD, xsK_at vs us (by omega), xsK_at ps qs (by omega), ← hv.msg, ← hu.msg, Cd.drop_getD, Cd.drop_getD]
  rw [e] at hs
  refine ⟨vs, us, hv, hu, hs, ?_, fun h0 => Cd.far hs.word h.m hs.byt h0⟩
  rw [Cd.nz_zero]
  constructor
  · intro h0
    have e2 : vs = us := Mx.list_ext (by rw [hv.word.1, hu.word.1]) fun i hi => by
      rw [hv.word.1] at hi
      have h1 := h0 i
      rw [xsK_at vs us hi] at h1
      have h2 : vs.getD i 0 ^^^ us.getD i 0 ^^^ us.getD i 0 = us.getD i 0 := by rw [h1, Nat.zero_xor]
      rwa [Nat.xor_assoc, Nat.xor_self, Nat.xor_zero] at h2
    rw [← hv.msg, ← hu.msg, e2]
  · intro e0 i
    obtain rfl := hv.unique (e0 ▸ hu) h.m
    by_cases hi : i < N
    · rw [xsK_at vs vs hi, Nat.xor_self]
    · exact Mx.getD_out (by rw [xsK_length]; omega)

set_option maxRecDepth 100000 in
set_option maxHeartbeats 8000000 in
theorem walk (j n k b : Nat) (qx : Option Addr) (lx cx : Nat) (xsx : List Nat) (qy : Option Addr) (ly cy : Nat) (xsy : List Nat) (w : World) (_hj : j < 256) (hn : n < 256) (hk : k < 256) (hb : b < 256) (hsx : Bs w qx lx xsx) (hcx : lx ≤ cx ∧ cx ≤ 140737488351232) (hsy : Bs w qy ly xsy) (hcy : ly ≤ cy ∧ cy ≤ 140737488351232) :
    Calls Tryz.prog 5 #[.int .u8 j, .int .u8 n, .int .u8 k, .int .u8 b, .slice qx lx cx, .slice qy ly cy] w fun e w' => e = .returned (.bool true) ∧ Below w.heap.size w w' := by
  obtain ⟨f, hf⟩ : ∃ f : Nat, 1 + j % 3 = f := ⟨_, rfl⟩
  have hf1 : 1 ≤ f := by omega
  have hf3 : f ≤ 3 := by omega
  have hfi : (1 : Int) + (j : Int) % 3 = (f : Int) := by omega
  have hK0 : ∀ W, Calls Tryz.prog 9 _ W _ := fun W => lcode_calls n k b hn hk hb W
  have hcod := ck_cod n k b
  have hle := ckN_le n k
  obtain ⟨N, hN⟩ : ∃ N, ckN n k = N := ⟨_, rfl⟩
  obtain ⟨K, hK⟩ : ∃ K, ckK n k = K := ⟨_, rfl⟩
  obtain ⟨B, hB⟩ : ∃ B, ckB b = B := ⟨_, rfl⟩
  obtain ⟨S, hS⟩ : ∃ S, N - K = S := ⟨_, rfl⟩
  rw [hN, hK, hB] at hK0 hcod
  rw [hN] at hle
  obtain ⟨ps, hps⟩ : ∃ ps, Cd.wd K xsx = ps := ⟨_, rfl⟩
  obtain ⟨qs, hqs⟩ : ∃ qs, Cd.wd K xsy = qs := ⟨_, rfl⟩
  have hpl : ps.length = K := hps ▸ Cd.wd_length K xsx
  have hpb : Byt ps := hps ▸ Cd.wd_byt hsx.byte K
  have hql : qs.length = K := hqs ▸ Cd.wd_length K xsy
  have hqb : Byt qs := hqs ▸ Cd.wd_byt hsy.byte K
  obtain ⟨vs, us, hL⟩ := lin_exists hcod hS hpl hql hpb hqb
  have K0 : Hid (∀ W, Calls Tryz.prog 9 #[.int .u8 n, .int .u8 k, .int .u8 b] W fun e w' => e = .returned (.agg #[.int .i64 (N : Nat), .int .i64 (K : Nat), .int .i64 (B : Nat)]) ∧ Below W.heap.size W w') := hK0
  have HM : Hid (Cod N K B ∧ N - K = S ∧ N ≤ 69 ∧ Cd.wd K xsx = ps ∧ Cd.wd K xsy = qs ∧ ps.length = K ∧ qs.length = K ∧ Lin N K S B ps qs vs us) := ⟨hcod, hS, hle.2, hps, hqs, hpl, hql, hL⟩
  have hN69 : (N : Int) ≤ 69 := by omega
  have HSx : Hid (Bs w qx lx xsx ∧ lx ≤ cx) := ⟨hsx, hcx.1⟩
  have HSy : Hid (Bs w qy ly xsy ∧ ly ≤ cy) := ⟨hsy, hcy.1⟩
  clear hps hqs hpl hql hpb hqb hL hf hN hK hB hS hK0 hcod hle hn hk hb _hj hsx hcx hsy hcy
  have HE : Hid (IsEn (N : Nat) (K : Nat) (B : Nat) ps vs 0 ∧ IsEn (N : Nat) (K : Nat) (B : Nat) qs us 0 ∧ IsEn (N : Nat) (K : Nat) (B : Nat) (xsK ps qs K) (xsK vs us N) 0) := ⟨.inr (.inr ⟨rfl, N, K, B, S, rfl, rfl, rfl, HM.out.1, HM.out.2.1, HM.out.2.2.2.2.2.1, HM.out.2.2.2.2.2.2.2.v⟩), .inr (.inr ⟨rfl, N, K, B, S, rfl, rfl, rfl, HM.out.1, HM.out.2.1, HM.out.2.2.2.2.2.2.1, HM.out.2.2.2.2.2.2.2.u⟩), .inr (.inr ⟨rfl, N, K, B, S, rfl, rfl, rfl, HM.out.1, HM.out.2.1, xsK_length _ _ _, HM.out.2.2.2.2.2.2.2.s⟩)⟩
  have hKN : (K : Int) ≤ 69 := by have := HM.out.1.n; omega
  have HB : Below w.heap.size w w := Below.refl _ _
  go_enter Tryz.func5, Tryz.ntmps5
  go_wp2_with fail
  refine (fof_calls f hf1 hf3 _).mono ?_
  rintro e w1 ⟨B_f, T_f, rfl, HF_f, hb, hlB, hlT⟩
  have HL_f : w.heap.size ≤ T_f := Nat.le_trans HB.size hlT
  replace HB := HB.trans (hb.mono HB.size)
  clear hb hlB hlT
  clear hfi hf1 hf3
  have HT1 : Hid (Below w.heap.size w w1 ∧ Fd f B_f T_f w1 ∧ w.heap.size ≤ T_f) := ⟨HB, HF_f, HL_f⟩
  clear HB HF_f HL_f
  go_wp2_with fail
  refine (K0.out w1).mono ?_
  rintro e w2 ⟨rfl, hb⟩
  have HT2 : Hid (Below w.heap.size w w2 ∧ Fd f B_f T_f w2 ∧ w.heap.size ≤ T_f) := ⟨HT1.out.1.trans (hb.mono HT1.out.1.size), HT1.out.2.1.below hb, HT1.out.2.2⟩
  have HTf : Hid (w.heap.size ≤ T_f) := HT2.out.2.2
  clear hb K0
  obtain ⟨P, hP⟩ : ∃ P, w2.heap.size = P := ⟨_, rfl⟩
  obtain ⟨W3, hW3⟩ : ∃ W3, w2.alloc (.cells #[.int .i64 (N : Nat), .int .i64 (K : Nat), .int .i64 (B : Nat)] 23) = W3 := ⟨_, rfl⟩
  have hT3 : Tc f B_f T_f P (N : Nat) (K : Nat) (B : Nat) w W3 := by
    have h := tc_new HT2.out.2.1 (N : Int) (K : Int) (B : Int)
    rw [hP, hW3] at h
    exact ⟨⟨h.tw.fd, (But.of_below HT2.out.1).trans h.tw.but⟩, h.cb, h.nT⟩
  have HPlx : Hid (∀ W, Tc f B_f T_f P (N : Nat) (K : Nat) (B : Nat) w W → Tl W T_f qx lx cx xsx) := fun W hW => (⟨HSx.out.1, HSx.out.2, HSx.out.1.off HT2.out.2.2⟩ : Tl w T_f qx lx cx xsx).but hW.tw.but
  have HPly : Hid (∀ W, Tc f B_f T_f P (N : Nat) (K : Nat) (B : Nat) w W → Tl W T_f qy ly cy xsy) := fun W hW => (⟨HSy.out.1, HSy.out.2, HSy.out.1.off HT2.out.2.2⟩ : Tl w T_f qy ly cy xsy).but hW.tw.but
  have HT3 : Hid (Tc f B_f T_f P (N : Nat) (K : Nat) (B : Nat) w W3) := hT3
  clear HT1 HT2
  have KX := klmsg f B_f T_f P N K B N B w qx lx cx K xsx (by omega) W3 hT3 (HPlx.out W3 hT3)
  rw [HM.out.2.2.2.1] at KX
  have hC := hT3.cb
  clear hT3
  have u0 := (hC).c0
  have u1 := (hC).c1
  have u2 := (hC).c2
  clear hC
  go_wp2_with fail
  refine KX.mono ?_
  rintro e w4 ⟨q4, c4, rfl, l4, hT4, -⟩
  clear KX hP hW3
  clear u0 u1 u2
  have KX := klmsg f B_f T_f P N K B N B w qy ly cy K xsy (by omega) w4 hT4 (HPly.out w4 hT4)
  rw [HM.out.2.2.2.2.1] at KX
  have hC := hT4.cb
  clear hT4
  have u0 := (hC).c0
  have u1 := (hC).c1
  have u2 := (hC).c2
  clear hC
  go_wp2_with fail
  refine KX.mono ?_
  rintro e w5 ⟨q5, c5, rfl, l5, hT5, hb5⟩
  clear KX
  clear u0 u1 u2
  have H5 : Hid (Tc f B_f T_f P (N : Nat) (K : Nat) (B : Nat) w w5 ∧ Tl w5 T_f q4 K c4 ps ∧ Tl w5 T_f q5 K c5 qs) := ⟨hT5, l4.but hb5, l5⟩
  clear hT5 l4 l5 hb5
  go_wp2
  go_loopw [17, 18] (fun v i wr => ∃ t : Nat, t ≤ K ∧ i = .int .i64 (t : Int) ∧ Ow wr w5.heap.size v (xsK ps qs t) ∧ Below w5.heap.size w5 wr) (fun _ i _ => K - (intOf i).toNat)
  case atStart => exact ⟨0, by omega, rfl, ow_nil _ _, Below.refl _ _⟩
  case round =>
    obtain ⟨t, ht, rfl, hO, hB⟩ := hrel
    have hC := (H5.out.1.below hB).cb
    have u0 := (hC).c0
    have u1 := (hC).c1
    have u2 := (hC).c2
    clear hC
    by_cases hlt : t < K
    · have hi : (t : Int) < (K : Int) := by omega
      have hi0 : (0 : Int) ≤ (t : Int) := by omega
      obtain ⟨a, e4, _, ca⟩ := (H5.out.2.1.below hB).bs.cell t hlt
      obtain ⟨a', e5, _, ca'⟩ := (H5.out.2.2.below hB).bs.cell t hlt
      have hxs := xsK_succ ps qs t
      have hxb := H5.out.2.1.bs.byte t
      have hyb := H5.out.2.2.bs.byte t
      obtain ⟨x, hx⟩ : ∃ x, ps.getD t 0 = x := ⟨_, rfl⟩
      obtain ⟨y, hy⟩ : ∃ y, qs.getD t 0 = y := ⟨_, rfl⟩
      rw [hx] at ca hxs hxb
      rw [hy] at ca' hxs hyb
      have hxo := u8_xor_nat x y hxb hyb
      obtain ⟨z, hz⟩ : ∃ z, x ^^^ y = z := ⟨_, rfl⟩
      rw [hz] at hxs hxo
      obtain ⟨g7, c7, W7, hap, hO7, hbw⟩ := run_append_one wr.drew w5.heap.size u17 (xsK ps qs t) z hO.drew (by rw [xsK_length]; omega) hB.size
      rw [← hxs, xsK_length] at hap
      rw [← hxs, xsK_length] at hO7
      rw [show wr.drew.heap.size = wr.heap.size from rfl, show wr.drew.alloc (.cells #[.int .u8 (z : Nat)] 5) = (wr.alloc (.cells #[.int .u8 (z : Nat)] 5)).drew from rfl] at hap
      obtain ⟨t1, ht1⟩ : ∃ t1, t + 1 = t1 := ⟨_, rfl⟩
      rw [ht1] at hap hO7
      have ha1 := ap_ok hap
      have ha2 := ap_v hap
      have ha3 := ap_w hap
      have HN : Hid (Ow W7 w5.heap.size (.slice (some ⟨g7, 0, none⟩) t1 c7) (xsK ps qs t1) ∧ Below w5.heap.size w5 W7 ∧ t + 1 = t1) := ⟨hO7, hB.trans ((Below.refl _ wr).drew.trans (hbw _ (Nat.le_refl _))), ht1⟩
      subst e4 e5
      clear hO hB hxs hxb hyb hx hy hz hap hO7 hbw ht1
      go_wp2
      go_region
      all_goals
        go_wp2
        go_roundw
        case rel => exact ⟨t1, by have := HN.out.2.2; omega, by have := HN.out.2.2; go_num, HN.out.1, HN.out.2.1⟩
        case measure => have := HN.out.2.2; simp [intOf]; omega
    · obtain rfl : t = K := by omega
      obtain ⟨wa, hwa⟩ : ∃ wa, wa = wr := ⟨_, rfl⟩
      subst hwa
      obtain ⟨q6, c6, e6, l6⟩ := hO.tl H5.out.1.lt (xsK_byt H5.out.2.1.bs.byte H5.out.2.2.bs.byte t) (xsK_length ps qs t)
      subst e6
      have hT6 := H5.out.1.below hB
      have H6 : Hid (∀ W, But (· = T_f) wa W → Tl W T_f q4 t c4 ps ∧ Tl W T_f q5 t c5 qs ∧ Tl W T_f q6 t c6 (xsK ps qs t)) := fun W hW => ⟨(H5.out.2.1.below hB).but hW, (H5.out.2.2.below hB).but hW, l6.but hW⟩
      have KX := kenc f B_f T_f P N t B N t B w q4 t c4 N 0 ps vs HE.out.1 HM.out.2.2.2.2.2.2.2.v.word.1 wa hT6 (H6.out _ (But.refl _ _)).1
      clear hO hB l6 hT6 H5
      go_wp2_with fail
      refine KX.mono ?_
      rintro e w7 ⟨q7, c7, rfl, l7, hT7, hb7⟩
      clear KX
      clear u0 u1 u2
      have KX := kenc f B_f T_f P N t B N t B w q5 t c5 N 0 qs us HE.out.2.1 HM.out.2.2.2.2.2.2.2.u.word.1 w7 hT7 (H6.out _ hb7).2.1
      have H7 : Hid (But (· = T_f) wa w7 ∧ Tl w7 T_f q7 N c7 vs) := ⟨hb7, l7⟩
      have hC := hT7.cb
      clear hT7 l7 hb7
      have u0 := (hC).c0
      have u1 := (hC).c1
      have u2 := (hC).c2
      clear hC
      go_wp2_with fail
      refine KX.mono ?_
      rintro e w8 ⟨q8, c8, rfl, l8, hT8, hb8⟩
      clear KX
      clear u0 u1 u2
      have KX := kenc f B_f T_f P N t B N t B w q6 t c6 N 0 (xsK ps qs t) (xsK vs us N) HE.out.2.2 (xsK_length _ _ _) w8 hT8 (H6.out _ (H7.out.1.trans hb8)).2.2
      have H8 : Hid (But (· = T_f) wa w8 ∧ Tl w8 T_f q7 N c7 vs ∧ Tl w8 T_f q8 N c8 us) := ⟨H7.out.1.trans hb8, H7.out.2.but hb8, l8⟩
      have hC := hT8.cb
      clear hT8 l8 hb8 H7
      have u0 := (hC).c0
      have u1 := (hC).c1
      have u2 := (hC).c2
      clear hC
      go_wp2_with fail
      refine KX.mono ?_
      rintro e w9 ⟨q9, c9, rfl, l9, hT9, hb9⟩
      clear KX
      clear u0 u1 u2
      have H9 : Hid (Tc f B_f T_f P (N : Nat) (t : Nat) (B : Nat) w w9 ∧ But (· = T_f) wa w9 ∧ Tl w9 T_f q7 N c7 vs ∧ Tl w9 T_f q8 N c8 us ∧ Tl w9 T_f q9 N c9 (xsK vs us N)) := ⟨hT9, H8.out.1.trans hb9, H8.out.2.1.but hb9, H8.out.2.2.but hb9, l9⟩
      have hC := hT9.cb
      clear hT9 l9 hb9 H8
      have u0 := (hC).c0
      have u1 := (hC).c1
      have u2 := (hC).c2
      clear hC
      go_wp2
      clear u0 u1 u2
      go_loopw [25, 26] (fun v i wr => ∃ s : Nat, s ≤ N ∧ i = .int .i64 (s : Int) ∧ v = .int .i64 (nzK (xsK vs us N) s : Nat) ∧ Below w9.heap.size w9 wr) (fun _ i _ => N - (intOf i).toNat)
      case atStart => exact ⟨0, by omega, rfl, rfl, Below.refl _ _⟩
      case round =>
        obtain ⟨s, hs, rfl, rfl, hB⟩ := hrel
        have hT := H9.out.1.below hB
        have hC := hT.cb
        have u0 := (hC).c0
        have u1 := (hC).c1
        have u2 := (hC).c2
        clear hC
        have hmt := nzK_le (xsK vs us N) s
        by_cases hlt : s < N
        · have hi : (s : Int) < (N : Int) := by omega
          have hi0 : (0 : Int) ≤ (s : Int) := by omega
          obtain ⟨a, e7, _, ca⟩ := (H9.out.2.2.1.below hB).bs.cell s hlt
          obtain ⟨a', e8, _, ca'⟩ := (H9.out.2.2.2.1.below hB).bs.cell s hlt
          obtain ⟨a'', e9, _, ca''⟩ := (H9.out.2.2.2.2.below hB).bs.cell s hlt
          have hsu := nzK_succ (xsK vs us N) s (by rw [xsK_length]; exact hlt)
          rw [xsK_at vs us hlt] at ca'' hsu
          have hxb := H9.out.2.2.1.bs.byte s
          have hyb := H9.out.2.2.2.1.bs.byte s
          obtain ⟨x, hx⟩ : ∃ x, vs.getD s 0 = x := ⟨_, rfl⟩
          obtain ⟨y, hy⟩ : ∃ y, us.getD s 0 = y := ⟨_, rfl⟩
          rw [hx] at ca ca'' hsu hxb
          rw [hy] at ca' ca'' hsu hyb
          have hxo := u8_xor_nat x y hxb hyb
          obtain ⟨d, hd⟩ : ∃ d, nzK (xsK vs us N) s = d := ⟨_, rfl⟩
          rw [hd] at hsu hmt ⊢
          have hd69 : (d : Int) ≤ 69 := by omega
          subst e7 e8 e9
          by_cases h0 : x = y
          · subst h0
            rw [Nat.xor_self] at ca'' hsu hxo
            have HS : Hid (nzK (xsK vs us N) (s + 1) = d ∧ Below w9.heap.size w9 wr) := ⟨by rw [hsu]; simp, hB⟩
            clear hsu hx hy hmt hB hT hd hxb hyb
            go_wp2
            go_quiet (fail)
            go_wp2
            go_quiet (fail)
            go_wp2
            go_roundw
            case rel => exact ⟨s + 1, by omega, by go_num, by rw [HS.out.1], HS.out.2.trans (below_drewM _ _ _)⟩
            case measure => simp [intOf]; omega
          · have h0' : ((x : Int) != (y : Int)) = true := by simp; omega
            have hz0 : ¬ x ^^^ y = 0 := fun e => h0 (by
              have h2 : x ^^^ y ^^^ y = y := by rw [e, Nat.zero_xor]
              rwa [Nat.xor_assoc, Nat.xor_self, Nat.xor_zero] at h2)
            rw [if_neg hz0] at hsu
            obtain ⟨z, hz⟩ : ∃ z, x ^^^ y = z := ⟨_, rfl⟩
            rw [hz] at ca'' hxo
            have HS : Hid (nzK (xsK vs us N) (s + 1) = d + 1 ∧ Below w9.heap.size w9 wr) := ⟨hsu, hB⟩
            clear hsu hx hy hmt hB hT hd hxb hyb hz hz0
            go_wp2
            go_quiet (fail)
            go_wp2
            go_quiet (fail)
            go_wp2
            go_roundw
            case rel => exact ⟨s + 1, by omega, by go_num, by rw [HS.out.1]; go_num, HS.out.2.trans (below_drewM _ _ _)⟩
            case measure => simp [intOf]; omega
        · obtain rfl : s = N := by omega
          have e1 := nzK_all (xsK vs us s) s (xsK_length _ _ _)
          rw [e1] at hmt ⊢
          have hsm := HM.out.2.2.2.2.2.2.2.same
          have hfar := HM.out.2.2.2.2.2.2.2.far
          have hNKi : (s : Int) - (t : Int) = (S : Int) := by have := HM.out.1.n; have := HM.out.2.1; omega
          obtain ⟨d, hd⟩ : ∃ d, Cd.nz (xsK vs us s) = d := ⟨_, rfl⟩
          rw [hd] at hsm hfar hmt ⊢
          have K1 := kknown11 f B_f T_f P s t B w wr hT
          have HB : Hid (But (· = T_f) wa wr) := H9.out.2.1.trans (But.of_below hB)
          clear hd e1 hT hB H9
          by_cases h0 : d = 0
          · have hp := hsm.1 h0
            subst h0
            clear hsm hfar
            go_wp2_with fail
            refine K1.mono ?_
            rintro e x1 ⟨rfl, hT1, hb1⟩
            clear u0 u1 u2
            clear K1
            have h6 := H6.out _ (HB.out.trans hb1)
            have KX := ksame f B_f T_f P s t B w q4 q5 t c4 c5 ps x1 hT1 h6.1 (hp ▸ h6.2.1)
            have hC := hT1.cb
            clear hT1 hb1 h6
            have u0 := (hC).c0
            have u1 := (hC).c1
            have u2 := (hC).c2
            clear hC
            go_wp2_with fail
            refine KX.mono ?_
            rintro e x2 ⟨rfl, hT2, -⟩
            clear u0 u1 u2
            have HZ : Hid (Below w.heap.size w x2) := hT2.tw.but.below (Nat.le_refl _) (by rintro k rfl; exact HTf.out)
            clear hT2 KX
            go_wp2
            go_ret
            exact ⟨rfl, HZ.out⟩
          · have hp : ¬ ps = qs := fun e => h0 (hsm.2 e)
            have hfs := hfar h0
            have hSd : (S : Int) < (d : Int) := by omega
            have hd0 : ((d : Int) == 0) = false := by simp; omega
            clear hsm hfar hfs
            go_wp2_with fail
            refine K1.mono ?_
            rintro e x1 ⟨rfl, hT1, hb1⟩
            clear u0 u1 u2
            clear K1
            have h6 := H6.out _ (HB.out.trans hb1)
            have KX := same_any q4 q5 t t c4 c5 ps qs false (by simp; exact hp) x1 h6.1.bs h6.2.1.bs
            have HT1 : Hid (Tc f B_f T_f P (s : Nat) (t : Nat) (B : Nat) w x1) := hT1
            have hC := hT1.cb
            clear hT1 hb1 h6
            have u0 := (hC).c0
            have u1 := (hC).c1
            have u2 := (hC).c2
            clear hC
            go_wp2_with fail
            refine KX.mono ?_
            rintro e x2 ⟨rfl, hb2⟩
            clear u0 u1 u2
            have hT2 := HT1.out.below hb2
            have hC := hT2.cb
            have HZ : Hid (Below w.heap.size w x2) := hT2.tw.but.below (Nat.le_refl _) (by rintro k rfl; exact HTf.out)
            clear hT2 KX HT1 hb2
            have u0 := (hC).c0
            have u1 := (hC).c1
            have u2 := (hC).c2
            clear hC
            go_wp2
            go_ret
            exact ⟨rfl, HZ.out⟩
theorem own : ownKnob Tryz.prog.godebug = none := by kernel_rfl
theorem laidOut : laidOutB Tryz.prog = true := by kernel_rfl
set_option maxRecDepth 100000 in
theorem lifted (os : Os) (started : os.Started) (H : Type) (enc : TypeId × Value → H) :
    ReturnsInHanded {} Tryz.checked os 5 .any (Rows.encodeLinearSpec.pre6 enc Tryz.prog Tryz.f5 Rows.encodeLinearRow.domain false) (Rows.encodeLinearSpec.post enc Tryz.prog Tryz.f5 false true false false) := by
  refine returnsInHanded_of_change_sized (C := Tryz.checked) own started (by kernel_rfl) Tryz.func5
    (ChangeSpec.witness6 (enc := enc) (C := Tryz.checked) false ⟨#[], #[.int .u8 0, .int .u8 0, .int .u8 0, .int .u8 0, .slice none 0 0, .slice none 0 0], []⟩ 8 (by kernel_rfl) (by kernel_rfl) (by kernel_rfl) (by kernel_rfl)) ?_
  intro W base args ds gs before hval0 hW _ hz _
  have hval : ∀ (j : Nat) t v, Tryz.f5.params[j]? = some t → args[j]? = some v → Value.okWide Tryz.prog W .any base t v := hval0
  have hW' := hW
  obtain ⟨p, q, hA0, hV, rfl, _, _⟩ := hW
  have hA : DataW.TrodAll enc Tryz.prog W 0 (fun _ => true) true Tryz.f5.params.toList args.toList ds p := hA0
  rw [Tryz.params5] at hA hval
  obtain ⟨v0, vs0, d0, ds0, p0, q0, hargs, rfl, rfl, h0, r0⟩ := trodAll_cons hA
  obtain ⟨v1, vs1, d1, ds1, p1, q1, rfl, rfl, rfl, h1, r1⟩ := trodAll_cons r0
  obtain ⟨v2, vs2, d2, ds2, p2, q2, rfl, rfl, rfl, h2, r2⟩ := trodAll_cons r1
  obtain ⟨v3, vs3, d3, ds3, p3, q3, rfl, rfl, rfl, h3, r3⟩ := trodAll_cons r2
  obtain ⟨v4, vs4, d4, ds4, p4, q4, rfl, rfl, rfl, h4, r4⟩ := trodAll_cons r3
  obtain ⟨v5, vs5, d5, ds5, p5, q5, rfl, rfl, rfl, h5, r5⟩ := trodAll_cons r4
  obtain ⟨rfl, rfl, rfl⟩ := trodAll_nil r5
  obtain rfl : args = #[v0, v1, v2, v3, v4, v5] := by cases args; simp_all
  obtain ⟨rfl, rfl⟩ := trodVars_none hV
  obtain ⟨a0, rfl, rfl, rfl, w0⟩ := open_int Tryz.underlying5 (hval 0 5 v0 rfl rfl) h0
  obtain ⟨n0, b0, rfl⟩ := nat_of_u8 w0
  obtain ⟨a1, rfl, rfl, rfl, w1⟩ := open_int Tryz.underlying5 (hval 1 5 v1 rfl rfl) h1
  obtain ⟨n1, b1, rfl⟩ := nat_of_u8 w1
  obtain ⟨a2, rfl, rfl, rfl, w2⟩ := open_int Tryz.underlying5 (hval 2 5 v2 rfl rfl) h2
  obtain ⟨n2, b2, rfl⟩ := nat_of_u8 w2
  obtain ⟨a3, rfl, rfl, rfl, w3⟩ := open_int Tryz.underlying5 (hval 3 5 v3 rfl rfl) h3
  obtain ⟨n3, b3, rfl⟩ := nat_of_u8 w3
  have k4 := h4
  obtain ⟨q4, n4, c4, xs4, rfl, w4, m4⟩ := open_bytes_sz Tryz.underlying24 Tryz.underlying5 (by kernel_rfl) (hval 4 24 v4 rfl rfl) h4
  have y4 : n4 ≤ c4 ∧ c4 ≤ 140737488351232 := ⟨m4.1, m4.2 _ fun el sp hd => by have := sized_slice (j := 4) (t := 24) (e := 5) (elems := el) (spare := sp) hz (by kernel_rfl) (by first | (rw [← hd]; done) | (rw [← hd]; rfl)) Tryz.underlying24; have hbe : Tryz.checked.prog.bytesOf 5 = 1 := (by kernel_rfl); have hre : reachBytes = 140737488351232 := rfl; rw [hbe, hre] at this; omega⟩
  have k5 := h5
  obtain ⟨q5, n5, c5, xs5, rfl, w5, m5⟩ := open_bytes_sz Tryz.underlying24 Tryz.underlying5 (by kernel_rfl) (hval 5 24 v5 rfl rfl) h5
  have y5 : n5 ≤ c5 ∧ c5 ≤ 140737488351232 := ⟨m5.1, m5.2 _ fun el sp hd => by have := sized_slice (j := 5) (t := 24) (e := 5) (elems := el) (spare := sp) hz (by kernel_rfl) (by first | (rw [← hd]; done) | (rw [← hd]; rfl)) Tryz.underlying24; have hbe : Tryz.checked.prog.bytesOf 5 = 1 := (by kernel_rfl); have hre : reachBytes = 140737488351232 := rfl; rw [hbe, hre] at this; omega⟩
  clear hA0 hval0
  simp only [List.append_nil] at hW'
  refine (walk (w := W) n0 n1 n2 n3 q4 n4 c4 xs4 q5 n5 c5 xs5 b0 b1 b2 b3 w4 y4 w5 y5).mono fun e W' ⟨he, bel⟩ => ?_
  subst he
  exact ⟨_, rfl, _, _, _, [], _, [], hW', trodAll_mk1 (shut_bool Tryz.underlying4 _), (trodAll_cons_mk (shut_int Tryz.underlying5 w0) (trodAll_cons_mk (shut_int Tryz.underlying5 w1) (trodAll_cons_mk (shut_int Tryz.underlying5 w2) (trodAll_cons_mk (shut_int Tryz.underlying5 w3) (trodAll_cons_mk (shut_same laidOut (by kernel_rfl) (of_decide_eq_true (by kernel_rfl)) k4 bel) (trodAll_cons_mk (shut_same laidOut (by kernel_rfl) (of_decide_eq_true (by kernel_rfl)) k5 bel) trodAll_mk0)))))), rfl, bel.frame _, fun h => by cases h⟩
theorem over : Rows.encodeLinearRow.holds Tryz.pinned (OpenSpec.ofChange Rows.encodeLinearSpec) :=
  OpenClaim.holds_of_wide 5 Tryz.f5 rfl rfl rfl rfl rfl rfl rfl ⟨rfl, rfl, rfl, rfl, rfl⟩ rfl rfl rfl rfl rfl (by kernel_rfl) Tryz.func5 (by kernel_rfl)
    (of_decide_eq_true (by kernel_rfl)) (by unfold Func.isWrapper; first | (rw [if_pos (by decide +kernel)]; kernel_rfl) | (rw [if_neg (by decide +kernel)]; exact ⟨rfl, rfl⟩))
    (fun os started H enc _ => lifted os started H enc)
theorem proved : Rows.EncodeLinearSaid := over
#print axioms proved
end Go.Proofs.YtagkpjbadmodbaaGreat.encodeLinear
