/- CodeFar holds for every input: a word that is not all 0 has more bytes that are not 0 than there are roots. No conditions. -/
import Derived.Test.YtbikchgkglllkaaGreatRows
import Derived.Test.YtbikchgkglllkaaGreatMB
import Derived.Test.YtbikchgkglllkaaGreatOA
namespace Go.Proofs.YtbikchgkglllkaaGreat.codeFar
open Go.ChangeShapes Go.WideShapes Go.ChangeAt Go.RowKit
open Pol (IsN Dg ofL Byt)

set_option maxRecDepth 100000 in
set_option maxHeartbeats 4000000 in
theorem walk (j n k b : Nat) (q : Option Addr) (l c : Nat) (xs : List Nat) (w : World) (_hj : j < 256) (hn : n < 256) (hk : k < 256) (hb : b < 256) (hs : Bs w q l xs) (hc : l ≤ c ∧ c ≤ 140737488351232) :
    Calls Tryz.prog 7 #[.int .u8 j, .int .u8 n, .int .u8 k, .int .u8 b, .slice q l c] w fun e w' => e = .returned (.bool true) ∧ Below w.heap.size w w' := by
  obtain ⟨f, hf⟩ : ∃ f : Nat, 1 + j % 3 = f := ⟨_, rfl⟩
  have hf1 : 1 ≤ f := by omega
  have hf3 : f ≤ 3 := by omega
  have hfi : (1 : Int) + (j : Int) % 3 = (f : Int) := by omega
  have hK0 : ∀ W, Calls Tryz.prog 11 _ W _ := fun W => lcode_calls n k b hn hk hb W
  have hcod := ck_cod n k b
  have hle := ckN_le n k
  obtain ⟨N, hN⟩ : ∃ N, ckN n k = N := ⟨_, rfl⟩
  obtain ⟨K, hK⟩ : ∃ K, ckK n k = K := ⟨_, rfl⟩
  obtain ⟨B, hB⟩ : ∃ B, ckB b = B := ⟨_, rfl⟩
  obtain ⟨S, hS⟩ : ∃ S, N - K = S := ⟨_, rfl⟩
  rw [hN, hK, hB] at hK0 hcod
  rw [hN] at hle
  obtain ⟨cs, zs, m, l2, d, wf⟩ := wf_exists hcod hS xs
  have K0 : Hid (∀ W, Calls Tryz.prog 11 #[.int .u8 n, .int .u8 k, .int .u8 b] W fun e w' => e = .returned (.agg #[.int .i64 (N : Nat), .int .i64 (K : Nat), .int .i64 (B : Nat)]) ∧ Below W.heap.size W w') := hK0
  have HM : Hid (Cod N K B ∧ N - K = S ∧ WF N K B S xs cs zs m l2 d ∧ N ≤ 69) := ⟨hcod, hS, wf, hle.2⟩
  have HS : Hid (Bs w q l xs ∧ l ≤ c) := ⟨hs, hc.1⟩
  have hN69 : (N : Int) ≤ 69 := by omega
  clear hf hN hK hB hS hK0 wf hcod hle hs hc hn hk hb _hj
  have HB : Below w.heap.size w w := Below.refl _ _
  go_enter Tryz.func7, Tryz.ntmps7
  go_wp2_with fail
  refine (fof_calls f hf1 hf3 _).mono ?_
  rintro e w1 ⟨B_f, T_f, rfl, HF_f, hb, hlB, hlT⟩
  have HL_f : w.heap.size ≤ T_f := Nat.le_trans HB.size hlT
  replace HB := HB.trans (hb.mono HB.size)
  clear hb hlB hlT
  clear hfi hf1 hf3
  have HT1 : Hid (Below w.heap.size w w1 ∧ Fd f B_f T_f w1 ∧ w.heap.size ≤ T_f) := ⟨HB, HF_f, HL_f⟩
  clear HB HF_f HL_f
  go_wp2_with fail
  refine (K0.out w1).mono ?_
  rintro e w2 ⟨rfl, hb⟩
  have HT2 : Hid (Below w.heap.size w w2 ∧ Fd f B_f T_f w2 ∧ w.heap.size ≤ T_f) := ⟨HT1.out.1.trans (hb.mono HT1.out.1.size), HT1.out.2.1.below hb, HT1.out.2.2⟩
  clear hb K0
  obtain ⟨P, hP⟩ : ∃ P, w2.heap.size = P := ⟨_, rfl⟩
  obtain ⟨W3, hW3⟩ : ∃ W3, w2.alloc (.cells #[.int .i64 (N : Nat), .int .i64 (K : Nat), .int .i64 (B : Nat)] 23) = W3 := ⟨_, rfl⟩
  have hT3 : Tc f B_f T_f P (N : Nat) (K : Nat) (B : Nat) w W3 := by
    have h := tc_new HT2.out.2.1 (N : Int) (K : Int) (B : Int)
    rw [hP, hW3] at h
    exact ⟨⟨h.tw.fd, (But.of_below HT2.out.1).trans h.tw.but⟩, h.cb, h.nT⟩
  have HPl : Hid (∀ W, Tc f B_f T_f P (N : Nat) (K : Nat) (B : Nat) w W → Tl W T_f q l c xs) := fun W hW => (⟨HS.out.1, HS.out.2, HS.out.1.off HT2.out.2.2⟩ : Tl w T_f q l c xs).but hW.tw.but
  have KG : Hid (∀ W, _ → _) := kgen f B_f T_f P N K B S w HM.out.1 HM.out.2.1
  have KC : Hid (∀ W, Tc f B_f T_f P (N : Nat) (K : Nat) (B : Nat) w W → _) := fun W hW => kcut f B_f T_f P N K B w q l c m xs cs (by have := HM.out.1.n; have := HM.out.2.2.2; omega) HM.out.2.2.1.cut HM.out.2.2.1.cl W hW (HPl.out W hW)
  have KM : Hid (∀ q p c d W, Tc f B_f T_f P (N : Nat) (K : Nat) (B : Nat) w W → Tl W T_f q (S + 1) c (Cd.gen B S) → Tl W T_f p m d cs → _) := fun q p c d W hW h1 h2 => kmul f B_f T_f P N K B w q p (S + 1) c m d l2 (Cd.gen B S) cs zs HM.out.2.2.1.mul HM.out.2.2.1.zl (by have := HM.out; omega) (by have := HM.out.2.2.1.mK; have := HM.out.1.n; have := HM.out.2.2.2; omega) W hW h1 h2
  have KW : Hid (∀ q c W, Tc f B_f T_f P (N : Nat) (K : Nat) (B : Nat) w W → Tl W T_f q l2 c zs → _) := fun q c W hW h => kword f B_f T_f P N K B w q l2 c zs (by have := HM.out.2.2.2; omega) W hW h
  have hT0 := hT3.drew
  have HT3 : Hid (Tc f B_f T_f P (N : Nat) (K : Nat) (B : Nat) w W3) := hT3
  have hC := hT3.cb
  clear hT3
  have c0 := (hC).c0
  have c1 := (hC).c1
  have c2 := (hC).c2
  clear hC
  go_wp2
  go_region_held3 (fun w' => w'.cell? ⟨P, 0, none⟩ = some (.int .i64 (N : Nat)) ∧ w'.cell? ⟨P, 1, none⟩ = some (.int .i64 (K : Nat)) ∧ w'.cell? ⟨P, 2, none⟩ = some (.int .i64 (B : Nat)))
    (first | (with_reducible exact ⟨hT4.cb.c0, hT4.cb.c1, hT4.cb.c2⟩) | (with_reducible exact ⟨hT3.cb.c0, hT3.cb.c1, hT3.cb.c2⟩) | (with_reducible exact ⟨hT2.cb.c0, hT2.cb.c1, hT2.cb.c2⟩) | (with_reducible exact ⟨hT1.cb.c0, hT1.cb.c1, hT1.cb.c2⟩) | (with_reducible exact ⟨hT0.cb.c0, hT0.cb.c1, hT0.cb.c2⟩))
    (first
      | (go_at_call 19; with_reducible refine (KG.out _ hT0).mono ?_; rintro e w4 ⟨q_g, c_g, rfl, hG, hT1, hb1⟩)
      | (go_at_call 21; with_reducible refine (KC.out _ hT1).mono ?_; rintro e w5 ⟨q_c, c_c, rfl, hC2, hT2, hb2⟩)
      | (go_at_call 20; with_reducible refine (KM.out _ _ _ _ _ hT2 (hG.but hb2) hC2).mono ?_; rintro e w6 ⟨q_m, c_m, rfl, hM3, hT3, hb3⟩)
      | (go_at_call 14; with_reducible refine (KW.out _ _ _ hT3 hM3).mono ?_; rintro e w7 ⟨q_w, c_w, rfl, hW4, hT4, hb4⟩))
  have HT7 : Hid (Tc f B_f T_f P (N : Nat) (K : Nat) (B : Nat) w w7 ∧ Tl w7 T_f q_w N c_w (Cd.wd N zs)) := ⟨hT4, hW4⟩
  clear KG KC KM KW hT0 hT1 hT2 hT3 hT4 hG hC2 hM3 hW4 hb1 hb2 hb3 hb4 hP hW3
  have hWl : (Cd.wd N zs).length = N := Cd.wd_length N zs
  obtain ⟨ws, hws⟩ : ∃ ws, Cd.wd N zs = ws := ⟨_, rfl⟩
  rw [hws] at HT7 hWl
  have HW : Hid (Cd.wd N zs = ws ∧ ws.length = N) := ⟨hws, hWl⟩
  clear hws hWl
  go_wp2
  go_loopw [14, 15] (fun v i wr => ∃ t : Nat, t ≤ N ∧ i = .int .i64 (t : Int) ∧ v = .int .i64 (nzK ws t : Nat) ∧ w7 = wr) (fun _ i _ => N - (intOf i).toNat)
  case atStart => exact ⟨0, by omega, rfl, rfl, rfl⟩
  case round =>
    obtain ⟨t, ht, rfl, rfl, rfl⟩ := hrel
    have hmt := nzK_le ws t
    by_cases hlt : t < N
    · have hi : (t : Int) < (N : Int) := by omega
      have hi0 : (0 : Int) ≤ (t : Int) := by omega
      obtain ⟨a, rfl, _, ca⟩ := HT7.out.2.bs.cell t hlt
      have hsu := nzK_succ ws t (by rw [HW.out.2]; exact hlt)
      obtain ⟨x, hx⟩ : ∃ x, ws.getD t 0 = x := ⟨_, rfl⟩
      obtain ⟨z, hz⟩ : ∃ z, nzK ws t = z := ⟨_, rfl⟩
      rw [hx] at ca hsu
      rw [hz] at hsu hmt ⊢
      have hz69 : (z : Int) ≤ 69 := by omega
      by_cases h0 : x = 0
      · subst h0
        have HS : Hid (nzK ws (t + 1) = z) := by show nzK ws (t + 1) = z; rw [hsu]; simp
        clear hsu hx hz hmt
        go_wp2
        go_roundw
        case rel => exact ⟨t + 1, by omega, by go_num, by rw [HS.out], by first | rfl | trivial⟩
        case measure => simp [intOf]; omega
      · have h0' : ((x : Int) != 0) = true := by simp; omega
        have HS : Hid (nzK ws (t + 1) = z + 1) := by show nzK ws (t + 1) = z + 1; rw [hsu, if_neg h0]
        clear hsu hx hz hmt
        go_wp2
        go_roundw
        case rel => exact ⟨t + 1, by omega, by go_num, by rw [HS.out]; go_num, by first | rfl | trivial⟩
        case measure => simp [intOf]; omega
    · obtain rfl : t = N := by omega
      have e1 := nzK_all ws t HW.out.2
      rw [e1] at hmt ⊢
      have hnz := HM.out.2.2.1.nz
      rw [HW.out.1] at hnz
      have hfar : Cd.nz ws ≠ 0 → S < Cd.nz ws := fun h => Cd.far (HW.out.1 ▸ HM.out.2.2.1.isW) (by have := HM.out.2.2.2; omega) HT7.out.2.bs.byte h
      obtain ⟨z, hz⟩ : ∃ z, Cd.nz ws = z := ⟨_, rfl⟩
      rw [hz] at hnz hfar hmt ⊢
      have K1 := kknown f B_f T_f P t K B w w7 HT7.out.1
      have KC : Hid (∀ W, Tc f B_f T_f P (t : Nat) (K : Nat) (B : Nat) w W → _) := fun W hW => kcut f B_f T_f P t K B w q l c m xs cs (by have := HM.out.1.n; have := HM.out.2.2.2; omega) HM.out.2.2.1.cut HM.out.2.2.1.cl W hW (HPl.out W hW)
      have KD : Hid (∀ q c W, Tc f B_f T_f P (t : Nat) (K : Nat) (B : Nat) w W → Tl W T_f q m c cs → _) := fun q c W hW h => kdeg f B_f T_f P t K B w q m c d cs HM.out.2.2.1.deg W hW h
      have KS : Hid (∀ W, _ → _) := kspace f B_f T_f P t K B S w HM.out.1 HM.out.2.1
      have hTf := HT2.out.2.2
      have HTf : Hid (w.heap.size ≤ T_f) := hTf
      clear hz e1 hmt HT1 HT2 HT3 hTf
      by_cases h0 : z = 0
      · have hd0 := hnz.1 h0
        subst h0
        rw [hd0] at KD
        clear hnz hfar hd0
        go_wp2_with fail
        refine K1.mono ?_
        rintro e w8 ⟨rfl, hT8, -⟩
        clear K1
        have KC1 := KC.out w8 hT8
        have hC := hT8.cb
        clear hT8
        have c0 := (hC).c0
        have c1 := (hC).c1
        have c2 := (hC).c2
        clear hC
        go_wp2_with fail
        refine KC1.mono ?_
        rintro e w9 ⟨q9, c9, rfl, hl9, hT9, -⟩
        clear c0 c1 c2
        have KD1 := KD.out q9 c9 w9 hT9 hl9
        clear KC1 hl9 hT9
        go_wp2_with fail
        refine KD1.mono ?_
        rintro e w10 ⟨rfl, hT10, -⟩
        clear KD1
        go_wp2
        go_ret
        exact ⟨rfl, hT10.tw.but.below (Nat.le_refl _) (by rintro k rfl; exact HTf.out)⟩
      · have hd0 : ¬ d = 0 := fun h => h0 (hnz.2 h)
        have hfs := hfar h0
        have hz0 : ((z : Int) == 0) = false := by simp; omega
        have hSz : (S : Int) < (z : Int) := by omega
        obtain ⟨e, he⟩ : ∃ e : Nat, d = e + 1 := ⟨d - 1, by omega⟩
        have hde : ((d : Int) - 1) = (e : Int) := by omega
        rw [hde] at KD
        have he0 : ((e : Int) < 0) = False := eq_false (by omega)
        clear hnz hfar hd0 h0 hfs he hde
        go_wp2_with fail
        refine K1.mono ?_
        rintro e' w8 ⟨rfl, hT8, -⟩
        clear K1
        have KS1 := KS.out w8 hT8
        have hC := hT8.cb
        clear hT8
        have c0 := (hC).c0
        have c1 := (hC).c1
        have c2 := (hC).c2
        clear hC
        go_wp2_with fail
        refine KS1.mono ?_
        rintro e' w9 ⟨rfl, hT9, -⟩
        clear c0 c1 c2
        have KC1 := KC.out w9 hT9
        have hC := hT9.cb
        clear hT9 KS1
        have c0 := (hC).c0
        have c1 := (hC).c1
        have c2 := (hC).c2
        clear hC
        go_wp2_with fail
        refine KC1.mono ?_
        rintro e' w10 ⟨q10, c10, rfl, hl10, hT10, -⟩
        clear c0 c1 c2
        have KD1 := KD.out q10 c10 w10 hT10 hl10
        clear KC1 hl10 hT10
        go_wp2_with fail
        refine KD1.mono ?_
        rintro e' w11 ⟨rfl, hT11, -⟩
        clear KD1
        go_wp2
        go_ret
        exact ⟨rfl, hT11.tw.but.below (Nat.le_refl _) (by rintro k rfl; exact HTf.out)⟩
theorem own : ownKnob Tryz.prog.godebug = none := by kernel_rfl
theorem laidOut : laidOutB Tryz.prog = true := by kernel_rfl
set_option maxRecDepth 100000 in
theorem lifted (os : Os) (started : os.Started) (H : Type) (enc : TypeId × Value → H) :
    ReturnsInHanded {} Tryz.checked os 7 .any (Rows.codeFarSpec.pre6 enc Tryz.prog Tryz.f7 Rows.codeFarRow.domain false) (Rows.codeFarSpec.post enc Tryz.prog Tryz.f7 false true false false) := by
  refine returnsInHanded_of_change_sized (C := Tryz.checked) own started (by kernel_rfl) Tryz.func7
    (ChangeSpec.witness6 (enc := enc) (C := Tryz.checked) false ⟨#[], #[.int .u8 0, .int .u8 0, .int .u8 0, .int .u8 0, .slice none 0 0], []⟩ 8 (by kernel_rfl) (by kernel_rfl) (by kernel_rfl) (by kernel_rfl)) ?_
  intro W base args ds gs before hval0 hW _ hz _
  have hval : ∀ (j : Nat) t v, Tryz.f7.params[j]? = some t → args[j]? = some v → Value.okWide Tryz.prog W .any base t v := hval0
  have hW' := hW
  obtain ⟨p, q, hA0, hV, rfl, _, _⟩ := hW
  have hA : DataW.TrodAll enc Tryz.prog W 0 (fun _ => true) true Tryz.f7.params.toList args.toList ds p := hA0
  rw [Tryz.params7] at hA hval
  obtain ⟨v0, vs0, d0, ds0, p0, q0, hargs, rfl, rfl, h0, r0⟩ := trodAll_cons hA
  obtain ⟨v1, vs1, d1, ds1, p1, q1, rfl, rfl, rfl, h1, r1⟩ := trodAll_cons r0
  obtain ⟨v2, vs2, d2, ds2, p2, q2, rfl, rfl, rfl, h2, r2⟩ := trodAll_cons r1
  obtain ⟨v3, vs3, d3, ds3, p3, q3, rfl, rfl, rfl, h3, r3⟩ := trodAll_cons r2
  obtain ⟨v4, vs4, d4, ds4, p4, q4, rfl, rfl, rfl, h4, r4⟩ := trodAll_cons r3
  obtain ⟨rfl, rfl, rfl⟩ := trodAll_nil r4
  obtain rfl : args = #[v0, v1, v2, v3, v4] := by cases args; simp_all
  obtain ⟨rfl, rfl⟩ := trodVars_none hV
  obtain ⟨a0, rfl, rfl, rfl, w0⟩ := open_int Tryz.underlying5 (hval 0 5 v0 rfl rfl) h0
  obtain ⟨n0, b0, rfl⟩ := nat_of_u8 w0
  obtain ⟨a1, rfl, rfl, rfl, w1⟩ := open_int Tryz.underlying5 (hval 1 5 v1 rfl rfl) h1
  obtain ⟨n1, b1, rfl⟩ := nat_of_u8 w1
  obtain ⟨a2, rfl, rfl, rfl, w2⟩ := open_int Tryz.underlying5 (hval 2 5 v2 rfl rfl) h2
  obtain ⟨n2, b2, rfl⟩ := nat_of_u8 w2
  obtain ⟨a3, rfl, rfl, rfl, w3⟩ := open_int Tryz.underlying5 (hval 3 5 v3 rfl rfl) h3
  obtain ⟨n3, b3, rfl⟩ := nat_of_u8 w3
  have k4 := h4
  obtain ⟨q4, n4, c4, xs4, rfl, w4, m4⟩ := open_bytes_sz Tryz.underlying24 Tryz.underlying5 (by kernel_rfl) (hval 4 24 v4 rfl rfl) h4
  have y4 : n4 ≤ c4 ∧ c4 ≤ 140737488351232 := ⟨m4.1, m4.2 _ fun el sp hd => by have := sized_slice (j := 4) (t := 24) (e := 5) (elems := el) (spare := sp) hz (by kernel_rfl) (by first | (rw [← hd]; done) | (rw [← hd]; rfl)) Tryz.underlying24; have hbe : Tryz.checked.prog.bytesOf 5 = 1 := (by kernel_rfl); have hre : reachBytes = 140737488351232 := rfl; rw [hbe, hre] at this; omega⟩
  clear hA0 hval0
  simp only [List.append_nil] at hW'
  refine (walk (w := W) n0 n1 n2 n3 q4 n4 c4 xs4 b0 b1 b2 b3 w4 y4).mono fun e W' ⟨he, bel⟩ => ?_
  subst he
  exact ⟨_, rfl, _, _, _, [], _, [], hW', trodAll_mk1 (shut_bool Tryz.underlying4 _), (trodAll_cons_mk (shut_int Tryz.underlying5 w0) (trodAll_cons_mk (shut_int Tryz.underlying5 w1) (trodAll_cons_mk (shut_int Tryz.underlying5 w2) (trodAll_cons_mk (shut_int Tryz.underlying5 w3) (trodAll_cons_mk (shut_same laidOut (by kernel_rfl) (of_decide_eq_true (by kernel_rfl)) k4 bel) trodAll_mk0))))), rfl, bel.frame _, fun h => by cases h⟩
theorem over : Rows.codeFarRow.holds Tryz.pinned (OpenSpec.ofChange Rows.codeFarSpec) :=
  OpenClaim.holds_of_wide 7 Tryz.f7 rfl rfl rfl rfl rfl rfl rfl ⟨rfl, rfl, rfl, rfl, rfl⟩ rfl rfl rfl rfl rfl (by kernel_rfl) Tryz.func7 (by kernel_rfl)
    (of_decide_eq_true (by kernel_rfl)) (by unfold Func.isWrapper; first | (rw [if_pos (by decide +kernel)]; kernel_rfl) | (rw [if_neg (by decide +kernel)]; exact ⟨rfl, rfl⟩))
    (fun os started H enc _ => lifted os started H enc)
theorem proved : Rows.CodeFarSaid := over
#print axioms proved
end Go.Proofs.YtbikchgkglllkaaGreat.codeFar
