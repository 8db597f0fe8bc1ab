/- CodeWords holds for every input: the words are just the multiples of the generator that are short enough, and just what parity brings to nothing. No conditions. -/
import Derived.Test.YtbikchgkglllkaaGreatRows
import Derived.Test.YtbikchgkglllkaaGreatMB
import Derived.Test.YtbikchgkglllkaaGreatOB
namespace Go.Proofs.YtbikchgkglllkaaGreat.codeWords
open Go.ChangeShapes Go.WideShapes Go.ChangeAt Go.RowKit
open Pol (IsN Dg ofL Byt)

set_option maxRecDepth 100000 in
set_option maxHeartbeats 4000000 in
theorem walk (j n k b : Nat) (qx : Option Addr) (lx cx : Nat) (xsx : List Nat) (qy : Option Addr) (ly cy : Nat) (xsy : List Nat) (w : World) (_hj : j < 256) (hn : n < 256) (hk : k < 256) (hb : b < 256) (hsx : Bs w qx lx xsx) (hcx : lx ≤ cx ∧ cx ≤ 140737488351232) (hsy : Bs w qy ly xsy) (hcy : ly ≤ cy ∧ cy ≤ 140737488351232) :
    Calls Tryz.prog 5 #[.int .u8 j, .int .u8 n, .int .u8 k, .int .u8 b, .slice qx lx cx, .slice qy ly cy] w fun e w' => e = .returned (.bool true) ∧ Below w.heap.size w w' := by
  obtain ⟨f, hf⟩ : ∃ f : Nat, 1 + j % 3 = f := ⟨_, rfl⟩
  have hf1 : 1 ≤ f := by omega
  have hf3 : f ≤ 3 := by omega
  have hfi : (1 : Int) + (j : Int) % 3 = (f : Int) := by omega
  have hK0 : ∀ W, Calls Tryz.prog 11 _ W _ := fun W => lcode_calls n k b hn hk hb W
  have hcod := ck_cod n k b
  have hle := ckN_le n k
  obtain ⟨N, hN⟩ : ∃ N, ckN n k = N := ⟨_, rfl⟩
  obtain ⟨K, hK⟩ : ∃ K, ckK n k = K := ⟨_, rfl⟩
  obtain ⟨B, hB⟩ : ∃ B, ckB b = B := ⟨_, rfl⟩
  obtain ⟨S, hS⟩ : ∃ S, N - K = S := ⟨_, rfl⟩
  rw [hN, hK, hB] at hK0 hcod
  rw [hN] at hle
  obtain ⟨cs, zs, m, l2, d, wf⟩ := wf_exists hcod hS xsx
  obtain ⟨M, hM⟩ : ∃ M, S * N = M := ⟨_, rfl⟩
  have K0 : Hid (∀ W, Calls Tryz.prog 11 #[.int .u8 n, .int .u8 k, .int .u8 b] W fun e w' => e = .returned (.agg #[.int .i64 (N : Nat), .int .i64 (K : Nat), .int .i64 (B : Nat)]) ∧ Below W.heap.size W w') := hK0
  have HM : Hid (Cod N K B ∧ N - K = S ∧ N ≤ 69 ∧ WF N K B S xsx cs zs m l2 d ∧ S * N = M ∧ S ≤ 69) := ⟨hcod, hS, hle.2, wf, hM, by omega⟩
  have hN69 : (N : Int) ≤ 69 := by omega
  have HSx : Hid (Bs w qx lx xsx ∧ lx ≤ cx) := ⟨hsx, hcx.1⟩
  have HSy : Hid (Bs w qy ly xsy ∧ ly ≤ cy) := ⟨hsy, hcy.1⟩
  clear hf hN hK hB hS hK0 hcod hle hn hk hb _hj hsx hcx hsy hcy
  have hS69 : (S : Int) ≤ 69 := by have := HM.out.2.2.2.2.2; omega
  clear wf hM
  have HB : Below w.heap.size w w := Below.refl _ _
  go_enter Tryz.func5, Tryz.ntmps5
  go_wp2_with fail
  refine (fof_calls f hf1 hf3 _).mono ?_
  rintro e w1 ⟨B_f, T_f, rfl, HF_f, hb, hlB, hlT⟩
  have HL_f : w.heap.size ≤ T_f := Nat.le_trans HB.size hlT
  replace HB := HB.trans (hb.mono HB.size)
  clear hb hlB hlT
  clear hfi hf1 hf3
  have HT1 : Hid (Below w.heap.size w w1 ∧ Fd f B_f T_f w1 ∧ w.heap.size ≤ T_f) := ⟨HB, HF_f, HL_f⟩
  clear HB HF_f HL_f
  go_wp2_with fail
  refine (K0.out w1).mono ?_
  rintro e w2 ⟨rfl, hb⟩
  have HT2 : Hid (Below w.heap.size w w2 ∧ Fd f B_f T_f w2 ∧ w.heap.size ≤ T_f) := ⟨HT1.out.1.trans (hb.mono HT1.out.1.size), HT1.out.2.1.below hb, HT1.out.2.2⟩
  have HTf : Hid (w.heap.size ≤ T_f) := HT2.out.2.2
  clear hb K0
  obtain ⟨P, hP⟩ : ∃ P, w2.heap.size = P := ⟨_, rfl⟩
  obtain ⟨W3, hW3⟩ : ∃ W3, w2.alloc (.cells #[.int .i64 (N : Nat), .int .i64 (K : Nat), .int .i64 (B : Nat)] 23) = W3 := ⟨_, rfl⟩
  have hT3 : Tc f B_f T_f P (N : Nat) (K : Nat) (B : Nat) w W3 := by
    have h := tc_new HT2.out.2.1 (N : Int) (K : Int) (B : Int)
    rw [hP, hW3] at h
    exact ⟨⟨h.tw.fd, (But.of_below HT2.out.1).trans h.tw.but⟩, h.cb, h.nT⟩
  have HPlx : Hid (∀ W, Tc f B_f T_f P (N : Nat) (K : Nat) (B : Nat) w W → Tl W T_f qx lx cx xsx) := fun W hW => (⟨HSx.out.1, HSx.out.2, HSx.out.1.off HT2.out.2.2⟩ : Tl w T_f qx lx cx xsx).but hW.tw.but
  have HPly : Hid (∀ W, Tc f B_f T_f P (N : Nat) (K : Nat) (B : Nat) w W → Tl W T_f qy ly cy xsy) := fun W hW => (⟨HSy.out.1, HSy.out.2, HSy.out.1.off HT2.out.2.2⟩ : Tl w T_f qy ly cy xsy).but hW.tw.but
  have HT3 : Hid (Tc f B_f T_f P (N : Nat) (K : Nat) (B : Nat) w W3) := hT3
  clear HT1 HT2
  have KG := kgen f B_f T_f P N K B S w HM.out.1 HM.out.2.1 W3 hT3
  obtain ⟨G1, hG1⟩ : ∃ G1, S + 1 = G1 := ⟨_, rfl⟩
  have hG1i : (S : Int) + 1 = (G1 : Int) := by omega
  rw [hG1] at KG
  have HG1 : Hid (S + 1 = G1) := hG1
  clear hG1
  have hC := hT3.cb
  have c0 := (hC).c0
  have c1 := (hC).c1
  have c2 := (hC).c2
  clear hC
  clear hT3
  go_wp2_with fail
  refine KG.mono ?_
  rintro e w4 ⟨q_g, c_g, rfl, hG, hT4, -⟩
  clear c0 c1 c2
  have HG : Hid (∀ W, But (· = T_f) w4 W → Tl W T_f q_g G1 c_g (Cd.gen B S)) := fun W hW => hG.but hW
  have KC : Hid (∀ W, Tc f B_f T_f P (N : Nat) (K : Nat) (B : Nat) w W → _) := fun W hW => kcut f B_f T_f P N K B w qx lx cx m xsx cs (by have := HM.out.1.n; have := HM.out.2.2.1; omega) HM.out.2.2.2.1.cut HM.out.2.2.2.1.cl W hW (HPlx.out W hW)
  have KM : Hid (∀ q p c d W, Tc f B_f T_f P (N : Nat) (K : Nat) (B : Nat) w W → Tl W T_f q G1 c (Cd.gen B S) → Tl W T_f p m d cs → _) := fun q p c d W hW h1 h2 => kmul f B_f T_f P N K B w q p G1 c m d l2 (Cd.gen B S) cs zs HM.out.2.2.2.1.mul HM.out.2.2.2.1.zl (by have := HM.out; have := HG1.out; omega) (by have := HM.out.2.2.2.1.mK; have := HM.out.1.n; have := HM.out.2.2.1; omega) W hW h1 h2
  have KW : Hid (∀ q c W, Tc f B_f T_f P (N : Nat) (K : Nat) (B : Nat) w W → Tl W T_f q l2 c zs → _) := fun q c W hW h => kword f B_f T_f P N K B w q l2 c zs (by have := HM.out.2.2.1; omega) W hW h
  have hT0 := hT4.drew
  have hB0 : But (· = T_f) w4 w4.drew := (But.refl _ w4).drew
  have hC := hT4.cb
  have c0 := (hC).c0
  have c1 := (hC).c1
  have c2 := (hC).c2
  clear hC
  clear hT4 hG KG hP hW3
  go_wp2
  go_region_held3 (fun w' => w'.cell? ⟨P, 0, none⟩ = some (.int .i64 (N : Nat)) ∧ w'.cell? ⟨P, 1, none⟩ = some (.int .i64 (K : Nat)) ∧ w'.cell? ⟨P, 2, none⟩ = some (.int .i64 (B : Nat)))
    (first | (with_reducible exact ⟨hT3.cb.c0, hT3.cb.c1, hT3.cb.c2⟩) | (with_reducible exact ⟨hT2.cb.c0, hT2.cb.c1, hT2.cb.c2⟩) | (with_reducible exact ⟨hT1.cb.c0, hT1.cb.c1, hT1.cb.c2⟩) | (with_reducible exact ⟨hT0.cb.c0, hT0.cb.c1, hT0.cb.c2⟩))
    (first
      | (go_at_call 21; with_reducible refine (KC.out _ hT0).mono ?_; rintro e w5 ⟨q_c, c_c, rfl, hC2, hT1, hb2⟩)
      | (go_at_call 20; with_reducible refine (KM.out _ _ _ _ _ hT1 (HG.out _ (hB0.trans hb2)) hC2).mono ?_; rintro e w6 ⟨q_m, c_m, rfl, hM3, hT2, hb3⟩)
      | (go_at_call 14; with_reducible refine (KW.out _ _ _ hT2 hM3).mono ?_; rintro e w7 ⟨q_w, c_w, rfl, hW4, hT3, hb4⟩))
  have hB7 : But (· = T_f) w4 w7 := ((hB0.trans hb2).trans hb3).trans hb4
  have HW7 : Hid (∀ W, But (· = T_f) w7 W → Tl W T_f q_w N c_w (Cd.wd N zs)) := fun W hW => hW4.but hW
  have KY := kword f B_f T_f P N K B w qy ly cy xsy (by have := HM.out.2.2.1; omega) w7 hT3 (HPly.out w7 hT3)
  clear KC KM KW hT0 hT1 hT2 hC2 hM3 hW4 hb2 hb3 hb4 hB0 hB7
  have hC := hT3.cb
  have c0 := (hC).c0
  have c1 := (hC).c1
  have c2 := (hC).c2
  clear hC
  clear hT3
  go_wp2_with fail
  refine KY.mono ?_
  rintro e w8 ⟨q_v, c_v, rfl, hV, hT8, hb8⟩
  clear c0 c1 c2
  have HV : Hid (∀ W, But (· = T_f) w8 W → Tl W T_f q_v N c_v (Cd.wd N xsy)) := fun W hW => hV.but hW
  have HW8 : Hid (∀ W, But (· = T_f) w8 W → Tl W T_f q_w N c_w (Cd.wd N zs)) := fun W hW => HW7.out W (hb8.trans hW)
  have KP := kpar f B_f T_f P N K B S w M HM.out.1 HM.out.2.1 HM.out.2.2.2.2.1 w8 hT8
  clear KY hV hb8 HW7 HG
  have hC := hT8.cb
  have c0 := (hC).c0
  have c1 := (hC).c1
  have c2 := (hC).c2
  clear hC
  clear hT8
  go_wp2_with fail
  refine KP.mono ?_
  rintro e w9 ⟨q_p, c_p, rfl, hPp, hT9, hb9⟩
  clear c0 c1 c2
  have KT := ktimes f B_f T_f P N K B w S N M c_p c_v q_p q_v (Cd.par N S B) (Cd.wd N xsy) HM.out.2.2.2.2.1.symm (by have := HM.out.2.2.2.2.2; omega) (by have := HM.out.2.2.1; omega) w9 hT9 hPp (HV.out w9 hb9)
  have HB9 : Hid (But (· = T_f) w8 w9) := hb9
  clear KP hPp hb9 hT9
  go_wp2_with fail
  refine KT.mono ?_
  rintro e w10 ⟨q_s, c_s, rfl, hS10, hT10, hb10⟩
  clear KT
  obtain ⟨ws, hws⟩ : ∃ ws, Mx.timesL S N (Cd.par N S B) (Cd.wd N xsy) = ws := ⟨_, rfl⟩
  have hnz := Cd.par_isW (N := N) (S := S) (B := B) (Cd.wd_length N xsy)
  rw [hws] at hS10 hnz
  have HT10 : Hid (Tc f B_f T_f P (N : Nat) (K : Nat) (B : Nat) w w10 ∧ Tl w10 T_f q_s S c_s ws ∧ But (· = T_f) w8 w10 ∧ ws.length = S ∧ (Cd.nz ws = 0 ↔ Cd.IsW N S B (Cd.wd N xsy))) := ⟨hT10, hS10, HB9.out.trans hb10, hws ▸ Mx.timesL_length _ _ _ _, hnz⟩
  clear hws hnz hT10 hS10 hb10 HB9
  go_wp2
  go_loopw [20, 21] (fun v i wr => ∃ t : Nat, t ≤ S ∧ i = .int .i64 (t : Int) ∧ v = .int .i64 (nzK ws t : Nat) ∧ w10 = wr) (fun _ i _ => S - (intOf i).toNat)
  case atStart => exact ⟨0, by omega, rfl, rfl, rfl⟩
  case round =>
    obtain ⟨t, ht, rfl, rfl, rfl⟩ := hrel
    have hmt := nzK_le ws t
    by_cases hlt : t < S
    · have hi : (t : Int) < (S : Int) := by omega
      have hi0 : (0 : Int) ≤ (t : Int) := by omega
      obtain ⟨a, rfl, _, ca⟩ := HT10.out.2.1.bs.cell t hlt
      have hsu := nzK_succ ws t (by rw [HT10.out.2.2.2.1]; exact hlt)
      obtain ⟨x, hx⟩ : ∃ x, ws.getD t 0 = x := ⟨_, rfl⟩
      obtain ⟨z, hz⟩ : ∃ z, nzK ws t = z := ⟨_, rfl⟩
      rw [hx] at ca hsu
      rw [hz] at hsu hmt ⊢
      have hz69 : (z : Int) ≤ 69 := by omega
      by_cases h0 : x = 0
      · subst h0
        have HS : Hid (nzK ws (t + 1) = z) := by show nzK ws (t + 1) = z; rw [hsu]; simp
        clear hsu hx hz hmt
        go_wp2
        go_roundw
        case rel => exact ⟨t + 1, by omega, by go_num, by rw [HS.out], by first | rfl | trivial⟩
        case measure => simp [intOf]; omega
      · have h0' : ((x : Int) != 0) = true := by simp; omega
        have HS : Hid (nzK ws (t + 1) = z + 1) := by show nzK ws (t + 1) = z + 1; rw [hsu, if_neg h0]
        clear hsu hx hz hmt
        go_wp2
        go_roundw
        case rel => exact ⟨t + 1, by omega, by go_num, by rw [HS.out]; go_num, by first | rfl | trivial⟩
        case measure => simp [intOf]; omega
    · obtain rfl : t = S := by omega
      have e1 := nzK_all ws t HT10.out.2.2.2.1
      rw [e1] at hmt ⊢
      have hnz := HT10.out.2.2.2.2
      obtain ⟨z, hz⟩ : ∃ z, Cd.nz ws = z := ⟨_, rfl⟩
      rw [hz] at hnz hmt ⊢
      have K1 := kknown f B_f T_f P N K B w w10 HT10.out.1
      obtain ⟨y, hy⟩ : ∃ y : Bool, ((z : Int) == 0) = y := ⟨_, rfl⟩
      have hdy : decide (Cd.IsW N t B (Cd.wd N xsy)) = y := by
        rw [← hy, Bool.eq_iff_iff, decide_eq_true_iff, ← hnz]; simp
      have KS : Hid (∀ W, _ → _) := kspace f B_f T_f P N K B t w HM.out.1 HM.out.2.1
      have KH1 : Hid (∀ W, Tc f B_f T_f P (N : Nat) (K : Nat) (B : Nat) w W → But (· = T_f) w8 W → _) := fun W hW hb => khas f B_f T_f P N K B t w q_w N c_w (Cd.wd N zs) true HM.out.1 HM.out.2.1 (decide_eq_true HM.out.2.2.2.1.isW) W hW (HW8.out W hb)
      have KH2 : Hid (∀ W, Tc f B_f T_f P (N : Nat) (K : Nat) (B : Nat) w W → But (· = T_f) w8 W → _) := fun W hW hb => khas f B_f T_f P N K B t w q_v N c_v (Cd.wd N xsy) y HM.out.1 HM.out.2.1 hdy W hW (HV.out W hb)
      have HB10 : Hid (But (· = T_f) w8 w10) := HT10.out.2.2.1
      clear hz e1 hmt hnz hdy HT10 HT3
      go_wp2_with fail
      refine K1.mono ?_
      rintro e w11 ⟨rfl, hT, hb⟩
      clear K1
      have KX := KS.out w11 hT
      have HBx : Hid (But (· = T_f) w8 w11) := HB10.out.trans hb
      have hC := hT.cb
      clear hT hb
      have c0 := (hC).c0
      have c1 := (hC).c1
      have c2 := (hC).c2
      clear hC
      go_wp2_with fail
      refine KX.mono ?_
      rintro e w12 ⟨rfl, hT, hb⟩
      clear c0 c1 c2
      clear KX
      have HBy : Hid (But (· = T_f) w8 w12) := HBx.out.trans hb
      have KX := KH1.out w12 hT HBy.out
      clear HBx
      have hC := hT.cb
      clear hT hb
      have c0 := (hC).c0
      have c1 := (hC).c1
      have c2 := (hC).c2
      clear hC
      go_wp2_with fail
      refine KX.mono ?_
      rintro e w13 ⟨rfl, hT, hb⟩
      clear c0 c1 c2
      clear KX
      have HBx : Hid (But (· = T_f) w8 w13) := HBy.out.trans hb
      have KX := KH2.out w13 hT HBx.out
      clear HBy
      have hC := hT.cb
      clear hT hb
      have c0 := (hC).c0
      have c1 := (hC).c1
      have c2 := (hC).c2
      clear hC
      go_wp2_with fail
      refine KX.mono ?_
      rintro e w14 ⟨rfl, hT, hb⟩
      clear c0 c1 c2
      clear KX
      have KX := KS.out w14 hT
      have hC := hT.cb
      clear hT hb
      have c0 := (hC).c0
      have c1 := (hC).c1
      have c2 := (hC).c2
      clear hC
      go_wp2_with fail
      refine KX.mono ?_
      rintro e w15 ⟨rfl, hT, hb⟩
      clear c0 c1 c2
      clear KX
      go_wp2
      go_ret
      exact ⟨rfl, hT.tw.but.below (Nat.le_refl _) (by rintro k rfl; exact HTf.out)⟩
theorem own : ownKnob Tryz.prog.godebug = none := by kernel_rfl
theorem laidOut : laidOutB Tryz.prog = true := by kernel_rfl
set_option maxRecDepth 100000 in
theorem lifted (os : Os) (started : os.Started) (H : Type) (enc : TypeId × Value → H) :
    ReturnsInHanded {} Tryz.checked os 5 .any (Rows.codeWordsSpec.pre6 enc Tryz.prog Tryz.f5 Rows.codeWordsRow.domain false) (Rows.codeWordsSpec.post enc Tryz.prog Tryz.f5 false true false false) := by
  refine returnsInHanded_of_change_sized (C := Tryz.checked) own started (by kernel_rfl) Tryz.func5
    (ChangeSpec.witness6 (enc := enc) (C := Tryz.checked) false ⟨#[], #[.int .u8 0, .int .u8 0, .int .u8 0, .int .u8 0, .slice none 0 0, .slice none 0 0], []⟩ 8 (by kernel_rfl) (by kernel_rfl) (by kernel_rfl) (by kernel_rfl)) ?_
  intro W base args ds gs before hval0 hW _ hz _
  have hval : ∀ (j : Nat) t v, Tryz.f5.params[j]? = some t → args[j]? = some v → Value.okWide Tryz.prog W .any base t v := hval0
  have hW' := hW
  obtain ⟨p, q, hA0, hV, rfl, _, _⟩ := hW
  have hA : DataW.TrodAll enc Tryz.prog W 0 (fun _ => true) true Tryz.f5.params.toList args.toList ds p := hA0
  rw [Tryz.params5] at hA hval
  obtain ⟨v0, vs0, d0, ds0, p0, q0, hargs, rfl, rfl, h0, r0⟩ := trodAll_cons hA
  obtain ⟨v1, vs1, d1, ds1, p1, q1, rfl, rfl, rfl, h1, r1⟩ := trodAll_cons r0
  obtain ⟨v2, vs2, d2, ds2, p2, q2, rfl, rfl, rfl, h2, r2⟩ := trodAll_cons r1
  obtain ⟨v3, vs3, d3, ds3, p3, q3, rfl, rfl, rfl, h3, r3⟩ := trodAll_cons r2
  obtain ⟨v4, vs4, d4, ds4, p4, q4, rfl, rfl, rfl, h4, r4⟩ := trodAll_cons r3
  obtain ⟨v5, vs5, d5, ds5, p5, q5, rfl, rfl, rfl, h5, r5⟩ := trodAll_cons r4
  obtain ⟨rfl, rfl, rfl⟩ := trodAll_nil r5
  obtain rfl : args = #[v0, v1, v2, v3, v4, v5] := by cases args; simp_all
  obtain ⟨rfl, rfl⟩ := trodVars_none hV
  obtain ⟨a0, rfl, rfl, rfl, w0⟩ := open_int Tryz.underlying5 (hval 0 5 v0 rfl rfl) h0
  obtain ⟨n0, b0, rfl⟩ := nat_of_u8 w0
  obtain ⟨a1, rfl, rfl, rfl, w1⟩ := open_int Tryz.underlying5 (hval 1 5 v1 rfl rfl) h1
  obtain ⟨n1, b1, rfl⟩ := nat_of_u8 w1
  obtain ⟨a2, rfl, rfl, rfl, w2⟩ := open_int Tryz.underlying5 (hval 2 5 v2 rfl rfl) h2
  obtain ⟨n2, b2, rfl⟩ := nat_of_u8 w2
  obtain ⟨a3, rfl, rfl, rfl, w3⟩ := open_int Tryz.underlying5 (hval 3 5 v3 rfl rfl) h3
  obtain ⟨n3, b3, rfl⟩ := nat_of_u8 w3
  have k4 := h4
  obtain ⟨q4, n4, c4, xs4, rfl, w4, m4⟩ := open_bytes_sz Tryz.underlying24 Tryz.underlying5 (by kernel_rfl) (hval 4 24 v4 rfl rfl) h4
  have y4 : n4 ≤ c4 ∧ c4 ≤ 140737488351232 := ⟨m4.1, m4.2 _ fun el sp hd => by have := sized_slice (j := 4) (t := 24) (e := 5) (elems := el) (spare := sp) hz (by kernel_rfl) (by first | (rw [← hd]; done) | (rw [← hd]; rfl)) Tryz.underlying24; have hbe : Tryz.checked.prog.bytesOf 5 = 1 := (by kernel_rfl); have hre : reachBytes = 140737488351232 := rfl; rw [hbe, hre] at this; omega⟩
  have k5 := h5
  obtain ⟨q5, n5, c5, xs5, rfl, w5, m5⟩ := open_bytes_sz Tryz.underlying24 Tryz.underlying5 (by kernel_rfl) (hval 5 24 v5 rfl rfl) h5
  have y5 : n5 ≤ c5 ∧ c5 ≤ 140737488351232 := ⟨m5.1, m5.2 _ fun el sp hd => by have := sized_slice (j := 5) (t := 24) (e := 5) (elems := el) (spare := sp) hz (by kernel_rfl) (by first | (rw [← hd]; done) | (rw [← hd]; rfl)) Tryz.underlying24; have hbe : Tryz.checked.prog.bytesOf 5 = 1 := (by kernel_rfl); have hre : reachBytes = 140737488351232 := rfl; rw [hbe, hre] at this; omega⟩
  clear hA0 hval0
  simp only [List.append_nil] at hW'
  refine (walk (w := W) n0 n1 n2 n3 q4 n4 c4 xs4 q5 n5 c5 xs5 b0 b1 b2 b3 w4 y4 w5 y5).mono fun e W' ⟨he, bel⟩ => ?_
  subst he
  exact ⟨_, rfl, _, _, _, [], _, [], hW', trodAll_mk1 (shut_bool Tryz.underlying4 _), (trodAll_cons_mk (shut_int Tryz.underlying5 w0) (trodAll_cons_mk (shut_int Tryz.underlying5 w1) (trodAll_cons_mk (shut_int Tryz.underlying5 w2) (trodAll_cons_mk (shut_int Tryz.underlying5 w3) (trodAll_cons_mk (shut_same laidOut (by kernel_rfl) (of_decide_eq_true (by kernel_rfl)) k4 bel) (trodAll_cons_mk (shut_same laidOut (by kernel_rfl) (of_decide_eq_true (by kernel_rfl)) k5 bel) trodAll_mk0)))))), rfl, bel.frame _, fun h => by cases h⟩
theorem over : Rows.codeWordsRow.holds Tryz.pinned (OpenSpec.ofChange Rows.codeWordsSpec) :=
  OpenClaim.holds_of_wide 5 Tryz.f5 rfl rfl rfl rfl rfl rfl rfl ⟨rfl, rfl, rfl, rfl, rfl⟩ rfl rfl rfl rfl rfl (by kernel_rfl) Tryz.func5 (by kernel_rfl)
    (of_decide_eq_true (by kernel_rfl)) (by unfold Func.isWrapper; first | (rw [if_pos (by decide +kernel)]; kernel_rfl) | (rw [if_neg (by decide +kernel)]; exact ⟨rfl, rfl⟩))
    (fun os started H enc _ => lifted os started H enc)
theorem proved : Rows.CodeWordsSaid := over
#print axioms proved
end Go.Proofs.YtbikchgkglllkaaGreat.codeWords
