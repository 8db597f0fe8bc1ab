/- EncodeWords holds for every input: what is told is a word of the code, and bears its message unchanged. No conditions. -/
import Derived.Test.YtagkpjbadmodbaaGreatRows
import Derived.Test.YtagkpjbadmodbaaGreatMB
import Derived.Test.YtagkpjbadmodbaaGreatOH
namespace Go.Proofs.YtagkpjbadmodbaaGreat.encodeWords
open Go.ChangeShapes Go.WideShapes Go.ChangeAt Go.RowKit
open Pol (IsN Dg ofL Byt)

set_option maxRecDepth 100000 in
set_option maxHeartbeats 4000000 in
theorem walk (j n k b : Nat) (qx : Option Addr) (lx cx : Nat) (xsx : List Nat) (w : World) (_hj : j < 256) (hn : n < 256) (hk : k < 256) (hb : b < 256) (hsx : Bs w qx lx xsx) (hcx : lx ≤ cx ∧ cx ≤ 140737488351232) :
    Calls Tryz.prog 4 #[.int .u8 j, .int .u8 n, .int .u8 k, .int .u8 b, .slice qx lx cx] w fun e w' => e = .returned (.bool true) ∧ Below w.heap.size w w' := by
  obtain ⟨f, hf⟩ : ∃ f : Nat, 1 + j % 3 = f := ⟨_, rfl⟩
  have hf1 : 1 ≤ f := by omega
  have hf3 : f ≤ 3 := by omega
  have hfi : (1 : Int) + (j : Int) % 3 = (f : Int) := by omega
  have hK0 : ∀ W, Calls Tryz.prog 9 _ W _ := fun W => lcode_calls n k b hn hk hb W
  have hcod := ck_cod n k b
  have hle := ckN_le n k
  obtain ⟨N, hN⟩ : ∃ N, ckN n k = N := ⟨_, rfl⟩
  obtain ⟨K, hK⟩ : ∃ K, ckK n k = K := ⟨_, rfl⟩
  obtain ⟨B, hB⟩ : ∃ B, ckB b = B := ⟨_, rfl⟩
  obtain ⟨S, hS⟩ : ∃ S, N - K = S := ⟨_, rfl⟩
  rw [hN, hK, hB] at hK0 hcod
  rw [hN] at hle
  obtain ⟨ms, hms⟩ : ∃ ms, Cd.wd K xsx = ms := ⟨_, rfl⟩
  have hml : ms.length = K := hms ▸ Cd.wd_length K xsx
  have hmb : Byt ms := hms ▸ Cd.wd_byt hsx.byte K
  obtain ⟨ws, hws⟩ := Cd.isEnc_exists (N := N) (S := S) (K := K) (B := B) hml hmb (by have := hcod.n; omega)
  have K0 : Hid (∀ W, Calls Tryz.prog 9 #[.int .u8 n, .int .u8 k, .int .u8 b] W fun e w' => e = .returned (.agg #[.int .i64 (N : Nat), .int .i64 (K : Nat), .int .i64 (B : Nat)]) ∧ Below W.heap.size W w') := hK0
  have HM : Hid (Cod N K B ∧ N - K = S ∧ N ≤ 69 ∧ Cd.wd K xsx = ms ∧ ms.length = K ∧ Byt ms ∧ Cd.IsEnc N S B ms ws) := ⟨hcod, hS, hle.2, hms, hml, hmb, hws⟩
  have hN69 : (N : Int) ≤ 69 := by omega
  have HSx : Hid (Bs w qx lx xsx ∧ lx ≤ cx) := ⟨hsx, hcx.1⟩
  clear hms hml hmb hws hf hN hK hB hS hK0 hcod hle hn hk hb _hj hsx hcx
  have HE : Hid (IsEn (N : Nat) (K : Nat) (B : Nat) ms ws 0 ∧ IsMe (N : Nat) (K : Nat) (B : Nat) ws ms 0) := ⟨.inr (.inr ⟨rfl, N, K, B, S, rfl, rfl, rfl, HM.out.1, HM.out.2.1, HM.out.2.2.2.2.1, HM.out.2.2.2.2.2.2⟩), .inr (.inr ⟨rfl, N, K, B, S, rfl, rfl, rfl, HM.out.1, HM.out.2.1, HM.out.2.2.2.2.2.2.word.1, HM.out.2.2.2.2.2.2.msg⟩)⟩
  have hNKi : (N : Int) - (K : Int) = (S : Int) := by have := HM.out.1.n; have := HM.out.2.1; omega
  have hS0 : (0 : Int) ≤ (S : Int) := by omega
  have hSN : (S : Int) ≤ (N : Int) := by omega
  have HB : Below w.heap.size w w := Below.refl _ _
  go_enter Tryz.func4, Tryz.ntmps4
  go_wp2_with fail
  refine (fof_calls f hf1 hf3 _).mono ?_
  rintro e w1 ⟨B_f, T_f, rfl, HF_f, hb, hlB, hlT⟩
  have HL_f : w.heap.size ≤ T_f := Nat.le_trans HB.size hlT
  replace HB := HB.trans (hb.mono HB.size)
  clear hb hlB hlT
  clear hfi hf1 hf3
  have HT1 : Hid (Below w.heap.size w w1 ∧ Fd f B_f T_f w1 ∧ w.heap.size ≤ T_f) := ⟨HB, HF_f, HL_f⟩
  clear HB HF_f HL_f
  go_wp2_with fail
  refine (K0.out w1).mono ?_
  rintro e w2 ⟨rfl, hb⟩
  have HT2 : Hid (Below w.heap.size w w2 ∧ Fd f B_f T_f w2 ∧ w.heap.size ≤ T_f) := ⟨HT1.out.1.trans (hb.mono HT1.out.1.size), HT1.out.2.1.below hb, HT1.out.2.2⟩
  have HTf : Hid (w.heap.size ≤ T_f) := HT2.out.2.2
  clear hb K0
  obtain ⟨P, hP⟩ : ∃ P, w2.heap.size = P := ⟨_, rfl⟩
  obtain ⟨W3, hW3⟩ : ∃ W3, w2.alloc (.cells #[.int .i64 (N : Nat), .int .i64 (K : Nat), .int .i64 (B : Nat)] 23) = W3 := ⟨_, rfl⟩
  have hT3 : Tc f B_f T_f P (N : Nat) (K : Nat) (B : Nat) w W3 := by
    have h := tc_new HT2.out.2.1 (N : Int) (K : Int) (B : Int)
    rw [hP, hW3] at h
    exact ⟨⟨h.tw.fd, (But.of_below HT2.out.1).trans h.tw.but⟩, h.cb, h.nT⟩
  have HPlx : Hid (∀ W, Tc f B_f T_f P (N : Nat) (K : Nat) (B : Nat) w W → Tl W T_f qx lx cx xsx) := fun W hW => (⟨HSx.out.1, HSx.out.2, HSx.out.1.off HT2.out.2.2⟩ : Tl w T_f qx lx cx xsx).but hW.tw.but
  have HT3 : Hid (Tc f B_f T_f P (N : Nat) (K : Nat) (B : Nat) w W3) := hT3
  clear HT1 HT2
  have KX := klmsg f B_f T_f P N K B N B w qx lx cx K xsx (by have := HM.out.1.n; have := HM.out.2.2.1; omega) W3 hT3 (HPlx.out W3 hT3)
  rw [HM.out.2.2.2.1] at KX
  have hC := hT3.cb
  clear hT3
  have u0 := (hC).c0
  have u1 := (hC).c1
  have u2 := (hC).c2
  clear hC
  go_wp2_with fail
  refine KX.mono ?_
  rintro e w4 ⟨q4, c4, rfl, l4, hT4, -⟩
  clear KX hP hW3
  clear u0 u1 u2
  have KX := kenc f B_f T_f P N K B N K B w q4 K c4 N 0 ms ws HE.out.1 HM.out.2.2.2.2.2.2.word.1 w4 hT4 l4
  have hC := hT4.cb
  clear hT4
  have u0 := (hC).c0
  have u1 := (hC).c1
  have u2 := (hC).c2
  clear hC
  go_wp2_with fail
  refine KX.mono ?_
  rintro e w5 ⟨q5, c5, rfl, l5, hT5, hb5⟩
  clear KX
  clear u0 u1 u2
  have H5 : Hid (∀ W, But (· = T_f) w5 W → Tl W T_f q4 K c4 ms ∧ Tl W T_f q5 N c5 ws) := fun W hW => ⟨(l4.but hb5).but hW, l5.but hW⟩
  have KX := kmsg f B_f T_f P N K B N K B w q5 N c5 K 0 ws ms HE.out.2 HM.out.2.2.2.2.1 w5 hT5 l5
  have hC := hT5.cb
  have hNc : (N : Int) ≤ (c5 : Int) := by have := l5.le; omega
  have HNc : Hid (N ≤ c5) := l5.le
  clear hT5 l4 l5 hb5
  have u0 := (hC).c0
  have u1 := (hC).c1
  have u2 := (hC).c2
  clear hC
  go_wp2_with fail
  refine KX.mono ?_
  rintro e w6 ⟨q6, c6, rfl, l6, hT6, hb6⟩
  clear KX
  clear u0 u1 u2
  have H6 : Hid (∀ W, But (· = T_f) w6 W → Tl W T_f q4 K c4 ms ∧ Tl W T_f q5 N c5 ws ∧ Tl W T_f q6 K c6 ms) := fun W hW => ⟨(H5.out _ (hb6.trans hW)).1, (H5.out _ (hb6.trans hW)).2, l6.but hW⟩
  have KX := kknown11 f B_f T_f P N K B w w6 hT6
  clear hT6 l6 hb6 H5
  go_wp2_with fail
  refine KX.mono ?_
  rintro e w7 ⟨rfl, hT7, hb7⟩
  clear KX
  have KX := khas f B_f T_f P N K B S w q5 N c5 ws true HM.out.1 HM.out.2.1 (decide_eq_true HM.out.2.2.2.2.2.2.word) w7 hT7 (H6.out _ hb7).2.1
  have hC := hT7.cb
  clear hT7
  have u0 := (hC).c0
  have u1 := (hC).c1
  have u2 := (hC).c2
  clear hC
  go_wp2_with fail
  refine KX.mono ?_
  rintro e w8 ⟨rfl, hT8, hb8⟩
  clear KX
  clear u0 u1 u2
  have hb68 := hb7.trans hb8
  have KX := ksame f B_f T_f P N K B w q6 q4 K c6 c4 ms w8 hT8 (H6.out _ hb68).2.2 (H6.out _ hb68).1
  have HB8 : Hid (But (· = T_f) w6 w8) := hb68
  clear hT8 hb7 hb8 hb68
  go_wp2_with fail
  refine KX.mono ?_
  rintro e w9 ⟨rfl, hT9, hb9⟩
  clear KX
  have HB9 : Hid (But (· = T_f) w6 w9) := HB8.out.trans hb9
  obtain ⟨q9, hq9⟩ : ∃ q9, (if c5 = S then q5 else q5.map (fun x => x.add S)) = q9 := ⟨_, rfl⟩
  have hSs : N - S = K := by have := HM.out.1.n; have := HM.out.2.1; omega
  have S9 : Tl w9 T_f q9 K (c5 - S) ms := by
    have h5 := (H6.out _ HB9.out).2.1
    have h1 := bs_sub h5.bs c5 S N (by omega) (Nat.le_refl _) h5.le
    have h2 := off_sub h5.off c5 S N (Nat.le_refl _)
    rw [hq9] at h1 h2
    have e5 : ((List.range (N - S)).map fun i => ws.getD (S + i) 0) = ms := by
      rw [← HM.out.2.2.2.2.2.2.msg]
      refine Mx.list_ext (by rw [List.length_map, List.length_range, List.length_drop, HM.out.2.2.2.2.2.2.word.1]) fun i hi => ?_
      rw [List.length_map, List.length_range] at hi
      rw [Mx.getD_range_map _ _ _ hi, Cd.drop_getD]
    rw [e5, hSs] at h1
    rw [hSs] at h2
    exact ⟨h1, by have := h5.le; omega, h2⟩
  have KX := ksame f B_f T_f P N K B w q9 q4 K (c5 - S) c4 ms w9 hT9 S9 (H6.out _ HB9.out).1
  have hC := hT9.cb
  clear hT9 hb9 S9
  have u0 := (hC).c0
  have u1 := (hC).c1
  have u2 := (hC).c2
  clear hC
  go_wp2_with fail
  refine KX.mono ?_
  rintro e w10 ⟨rfl, hT10, -⟩
  go_wp2
  go_ret
  exact ⟨rfl, hT10.tw.but.below (Nat.le_refl _) (by rintro k rfl; exact HTf.out)⟩
theorem own : ownKnob Tryz.prog.godebug = none := by kernel_rfl
theorem laidOut : laidOutB Tryz.prog = true := by kernel_rfl
set_option maxRecDepth 100000 in
theorem lifted (os : Os) (started : os.Started) (H : Type) (enc : TypeId × Value → H) :
    ReturnsInHanded {} Tryz.checked os 4 .any (Rows.encodeWordsSpec.pre6 enc Tryz.prog Tryz.f4 Rows.encodeWordsRow.domain false) (Rows.encodeWordsSpec.post enc Tryz.prog Tryz.f4 false true false false) := by
  refine returnsInHanded_of_change_sized (C := Tryz.checked) own started (by kernel_rfl) Tryz.func4
    (ChangeSpec.witness6 (enc := enc) (C := Tryz.checked) false ⟨#[], #[.int .u8 0, .int .u8 0, .int .u8 0, .int .u8 0, .slice none 0 0], []⟩ 8 (by kernel_rfl) (by kernel_rfl) (by kernel_rfl) (by kernel_rfl)) ?_
  intro W base args ds gs before hval0 hW _ hz _
  have hval : ∀ (j : Nat) t v, Tryz.f4.params[j]? = some t → args[j]? = some v → Value.okWide Tryz.prog W .any base t v := hval0
  have hW' := hW
  obtain ⟨p, q, hA0, hV, rfl, _, _⟩ := hW
  have hA : DataW.TrodAll enc Tryz.prog W 0 (fun _ => true) true Tryz.f4.params.toList args.toList ds p := hA0
  rw [Tryz.params4] at hA hval
  obtain ⟨v0, vs0, d0, ds0, p0, q0, hargs, rfl, rfl, h0, r0⟩ := trodAll_cons hA
  obtain ⟨v1, vs1, d1, ds1, p1, q1, rfl, rfl, rfl, h1, r1⟩ := trodAll_cons r0
  obtain ⟨v2, vs2, d2, ds2, p2, q2, rfl, rfl, rfl, h2, r2⟩ := trodAll_cons r1
  obtain ⟨v3, vs3, d3, ds3, p3, q3, rfl, rfl, rfl, h3, r3⟩ := trodAll_cons r2
  obtain ⟨v4, vs4, d4, ds4, p4, q4, rfl, rfl, rfl, h4, r4⟩ := trodAll_cons r3
  obtain ⟨rfl, rfl, rfl⟩ := trodAll_nil r4
  obtain rfl : args = #[v0, v1, v2, v3, v4] := by cases args; simp_all
  obtain ⟨rfl, rfl⟩ := trodVars_none hV
  obtain ⟨a0, rfl, rfl, rfl, w0⟩ := open_int Tryz.underlying5 (hval 0 5 v0 rfl rfl) h0
  obtain ⟨n0, b0, rfl⟩ := nat_of_u8 w0
  obtain ⟨a1, rfl, rfl, rfl, w1⟩ := open_int Tryz.underlying5 (hval 1 5 v1 rfl rfl) h1
  obtain ⟨n1, b1, rfl⟩ := nat_of_u8 w1
  obtain ⟨a2, rfl, rfl, rfl, w2⟩ := open_int Tryz.underlying5 (hval 2 5 v2 rfl rfl) h2
  obtain ⟨n2, b2, rfl⟩ := nat_of_u8 w2
  obtain ⟨a3, rfl, rfl, rfl, w3⟩ := open_int Tryz.underlying5 (hval 3 5 v3 rfl rfl) h3
  obtain ⟨n3, b3, rfl⟩ := nat_of_u8 w3
  have k4 := h4
  obtain ⟨q4, n4, c4, xs4, rfl, w4, m4⟩ := open_bytes_sz Tryz.underlying24 Tryz.underlying5 (by kernel_rfl) (hval 4 24 v4 rfl rfl) h4
  have y4 : n4 ≤ c4 ∧ c4 ≤ 140737488351232 := ⟨m4.1, m4.2 _ fun el sp hd => by have := sized_slice (j := 4) (t := 24) (e := 5) (elems := el) (spare := sp) hz (by kernel_rfl) (by first | (rw [← hd]; done) | (rw [← hd]; rfl)) Tryz.underlying24; have hbe : Tryz.checked.prog.bytesOf 5 = 1 := (by kernel_rfl); have hre : reachBytes = 140737488351232 := rfl; rw [hbe, hre] at this; omega⟩
  clear hA0 hval0
  simp only [List.append_nil] at hW'
  refine (walk (w := W) n0 n1 n2 n3 q4 n4 c4 xs4 b0 b1 b2 b3 w4 y4).mono fun e W' ⟨he, bel⟩ => ?_
  subst he
  exact ⟨_, rfl, _, _, _, [], _, [], hW', trodAll_mk1 (shut_bool Tryz.underlying4 _), (trodAll_cons_mk (shut_int Tryz.underlying5 w0) (trodAll_cons_mk (shut_int Tryz.underlying5 w1) (trodAll_cons_mk (shut_int Tryz.underlying5 w2) (trodAll_cons_mk (shut_int Tryz.underlying5 w3) (trodAll_cons_mk (shut_same laidOut (by kernel_rfl) (of_decide_eq_true (by kernel_rfl)) k4 bel) trodAll_mk0))))), rfl, bel.frame _, fun h => by cases h⟩
theorem over : Rows.encodeWordsRow.holds Tryz.pinned (OpenSpec.ofChange Rows.encodeWordsSpec) :=
  OpenClaim.holds_of_wide 4 Tryz.f4 rfl rfl rfl rfl rfl rfl rfl ⟨rfl, rfl, rfl, rfl, rfl⟩ rfl rfl rfl rfl rfl (by kernel_rfl) Tryz.func4 (by kernel_rfl)
    (of_decide_eq_true (by kernel_rfl)) (by unfold Func.isWrapper; first | (rw [if_pos (by decide +kernel)]; kernel_rfl) | (rw [if_neg (by decide +kernel)]; exact ⟨rfl, rfl⟩))
    (fun os started H enc _ => lifted os started H enc)
theorem proved : Rows.EncodeWordsSaid := over
#print axioms proved
end Go.Proofs.YtagkpjbadmodbaaGreat.encodeWords
