/- SyndLocator holds for every input: a locator is 0 at what each of its places is multiplied by to 1, and at no other place's; places in another order make the same. No conditions. -/
import Derived.Test.YtddhefhabhgdfaaGreatRows
import Derived.Test.YtddhefhabhgdfaaGreatMB
import Derived.Test.YtddhefhabhgdfaaGreatOB
import Derived.Test.YtddhefhabhgdfaaGreatOU
namespace Go.Proofs.YtddhefhabhgdfaaGreat.syndLocator
open Go.ChangeShapes Go.WideShapes Go.ChangeAt Go.RowKit
open Pol (IsN Dg ofL Byt vl)
attribute [local go_sem ↓ high] builtin_ap
attribute [local go_sem] ap_sem

theorem loc_zero {N : Nat} {es : List Nat} {p x : Nat} (hN : N ≤ 255) (he : ∀ i ∈ es, i < N) (hp : p < N) (hx : Gf.inv (Cd.pt p) = x) : vl (Cd.loL es) x = 0 ↔ p ∈ es := by
  rw [Pol.vl_zero_iff, Cd.loL_length, ← hx, GF.of_inv _ (Cd.pt_lt p), Cd.of_pt]
  exact Cd.loL_zero (fun i hi => by have := he i hi; omega) (by omega)
theorem loc_dg (es : List Nat) : Dg (es.length + 1) (ofL (Cd.loL es)) := by
  have h := Cd.lo_dg (l := es.map GF.al) (fun c hc => by obtain ⟨i, _, rfl⟩ := List.mem_map.1 hc; exact GF.al_ne_zero i)
  rw [List.length_map] at h
  rw [(Cd.loL_isN es).eq]; exact h
theorem loc_at0 (es : List Nat) : cof (Cd.loL es) 0 = 1 := by
  have h1 : GF.of ((Cd.loL es).getD 0 0) = 1 := by
    have h : ofL (Cd.loL es) 0 = 1 := by rw [(Cd.loL_isN es).eq]; exact Cd.lo_at0 _
    exact h
  have h2 : (Cd.loL es).getD 0 0 < 256 := (Cd.loL_isN es).byt 0
  have h3 : cof (Cd.loL es) 0 = (Cd.loL es).getD 0 0 := rfl
  rw [h3, ← GF.of_val _ h2, h1]; rfl
theorem drop_rev (L : List Int) (t : Nat) (h : t < L.length) : (L.drop t).reverse = (L.drop (t + 1)).reverse ++ [L.getD t 0] := by
  rw [List.drop_eq_getElem_cons h, List.reverse_cons]
  simp [List.getD, h]

set_option maxRecDepth 100000 in
set_option maxHeartbeats 8000000 in
theorem walk (j n k b : Nat) (qd : Option Addr) (ld cd : Nat) (xsd : List Nat) (at_ : Nat) (w : World) (_hj : j < 256) (hn : n < 256) (hk : k < 256) (hb : b < 256) (hsd : Bs w qd ld xsd) (hcd : ld ≤ cd ∧ cd ≤ 140737488351232) (hat : at_ < 256) :
    Calls Tryz.prog 5 #[.int .u8 j, .int .u8 n, .int .u8 k, .int .u8 b, .slice qd ld cd, .int .u8 at_] w fun e w' => e = .returned (.bool true) ∧ Below w.heap.size w w' := by
  obtain ⟨f, hf⟩ : ∃ f : Nat, 1 + j % 3 = f := ⟨_, rfl⟩
  have hf1 : 1 ≤ f := by omega
  have hf3 : f ≤ 3 := by omega
  have hfi : (1 : Int) + (j : Int) % 3 = (f : Int) := by omega
  have hK0 : ∀ W, Calls Tryz.prog 10 _ W _ := fun W => lcode_calls n k b hn hk hb W
  have hcod := ck_cod n k b
  have hle := ckN_le n k
  obtain ⟨N, hN⟩ : ∃ N, ckN n k = N := ⟨_, rfl⟩
  obtain ⟨K, hK⟩ : ∃ K, ckK n k = K := ⟨_, rfl⟩
  obtain ⟨B, hB⟩ : ∃ B, ckB b = B := ⟨_, rfl⟩
  obtain ⟨S, hS⟩ : ∃ S, N - K = S := ⟨_, rfl⟩
  rw [hN, hK, hB] at hK0 hcod
  rw [hN] at hle
  obtain ⟨es, hes⟩ : ∃ es, erL N 12 xsd = es := ⟨_, rfl⟩
  obtain ⟨m, hm⟩ : ∃ m, es.length = m := ⟨_, rfl⟩
  obtain ⟨d, hd⟩ : ∃ d, m + 1 = d := ⟨_, rfl⟩
  have hok : ErOk N 12 es := hes ▸ erL_ok (by omega) xsd
  obtain ⟨p, hp⟩ : ∃ p, at_ % N = p := ⟨_, rfl⟩
  have hpN : p < N := by rw [← hp]; exact Nat.mod_lt _ (by omega)
  obtain ⟨r, hr⟩ : ∃ r, Cd.pt p = r := ⟨_, rfl⟩
  have hr8 : r < 256 := by rw [← hr]; exact Cd.pt_lt p
  have hr0 : (r != 0) = true := by rw [← hr]; simpa using Cd.pt_ne p
  obtain ⟨x, hx⟩ : ∃ x, Gf.inv r = x := ⟨_, rfl⟩
  have hx8 : x < 256 := by rw [← hx]; exact Gf.inv_lt _ hr8
  obtain ⟨y, hy⟩ : ∃ y, vl (Cd.locZ (zi es)) x = y := ⟨_, rfl⟩
  obtain ⟨pz, hpz⟩ : ∃ pz, plZ (zi es) (p : Int) = pz := ⟨_, rfl⟩
  have hyp : y = 0 ↔ p ∈ es := by rw [← hy, zi, Cd.locZ_nat]; exact loc_zero (by omega) hok.lt hpN (by rw [hr]; exact hx)
  have hpp : pz < 0 ↔ p ∉ es := by rw [← hpz]; exact plZ_neg.trans (not_congr mem_zi)
  have HQ : Hid (erL N 12 xsd = es ∧ es.length = m ∧ m + 1 = d ∧ ErOk N 12 es ∧ p < N ∧ Cd.pt p = r ∧ r < 256 ∧ Gf.inv r = x ∧ x < 256 ∧ vl (Cd.locZ (zi es)) x = y ∧ plZ (zi es) (p : Int) = pz ∧ m ≤ 12 ∧ (r != 0) = true) := ⟨hes, hm, hd, hok, hpN, hr, hr8, hx, hx8, hy, hpz, by have := hok.len; omega, hr0⟩
  have HYP : Hid ((y = 0 ∧ (0 : Int) ≤ pz) ∨ (¬ y = 0 ∧ pz < 0)) := by
    by_cases h : p ∈ es
    · exact .inl ⟨hyp.2 h, by have : ¬ pz < 0 := fun h2 => hpp.1 h2 h
                              omega⟩
    · exact .inr ⟨fun h2 => h (hyp.1 h2), hpp.2 h⟩
  have hmod : (at_ : Int).tmod (N : Int) = (p : Int) := by rw [← hp]; exact (Int.ofNat_tmod at_ N).symm
  have hN0 : ((N : Int) = 0) = False := eq_false (by omega)
  have hNN : (N = 0) = False := eq_false (by omega)
  have hu : IntKind.i64.wrap (at_ : Int) = (at_ : Int) := wrap_nat at_ (by omega)
  have hm12 : (m : Int) ≤ 12 := by have := hok.len; omega
  have hdm : (d : Int) - 1 = (m : Int) := by omega
  have K0 : Hid (∀ W, Calls Tryz.prog 10 #[.int .u8 n, .int .u8 k, .int .u8 b] W fun e w' => e = .returned (.agg #[.int .i64 (N : Nat), .int .i64 (K : Nat), .int .i64 (B : Nat)]) ∧ Below W.heap.size W w') := hK0
  have HM : Hid (Cod N K B ∧ N - K = S ∧ N ≤ 69) := ⟨hcod, hS, hle.2⟩
  have hN69 : (N : Int) ≤ 69 := by omega
  have HSd : Hid (Bs w qd ld xsd ∧ ld ≤ cd) := ⟨hsd, hcd.1⟩
  clear hes hm hd hok hp hpN hr hr8 hr0 hx hx8 hy hpz hyp hpp hf hN hK hB hS hK0 hcod hle hn hk hb _hj hsd hcd hat
  have HB : Below w.heap.size w w := Below.refl _ _
  go_enter Tryz.func5, Tryz.ntmps5
  go_wp2_with fail
  refine (fof_calls f hf1 hf3 _).mono ?_
  rintro e w1 ⟨B_f, T_f, rfl, HF_f, hb, hlB, hlT⟩
  have HL_f : w.heap.size ≤ T_f := Nat.le_trans HB.size hlT
  replace HB := HB.trans (hb.mono HB.size)
  clear hb hlB hlT
  clear hfi hf1 hf3
  have HT1 : Hid (Below w.heap.size w w1 ∧ Fd f B_f T_f w1 ∧ w.heap.size ≤ T_f) := ⟨HB, HF_f, HL_f⟩
  clear HB HF_f HL_f
  go_wp2_with fail
  refine (K0.out w1).mono ?_
  rintro e w2 ⟨rfl, hb⟩
  have HT2 : Hid (Below w.heap.size w w2 ∧ Fd f B_f T_f w2 ∧ w.heap.size ≤ T_f) := ⟨HT1.out.1.trans (hb.mono HT1.out.1.size), HT1.out.2.1.below hb, HT1.out.2.2⟩
  have HTf : Hid (w.heap.size ≤ T_f) := HT2.out.2.2
  clear hb K0
  obtain ⟨P, hP⟩ : ∃ P, w2.heap.size = P := ⟨_, rfl⟩
  obtain ⟨W3, hW3⟩ : ∃ W3, w2.alloc (.cells #[.int .i64 (N : Nat), .int .i64 (K : Nat), .int .i64 (B : Nat)] 23) = W3 := ⟨_, rfl⟩
  have hT3 : Tc f B_f T_f P (N : Nat) (K : Nat) (B : Nat) w W3 := by
    have h := tc_new HT2.out.2.1 (N : Int) (K : Int) (B : Int)
    rw [hP, hW3] at h
    exact ⟨⟨h.tw.fd, (But.of_below HT2.out.1).trans h.tw.but⟩, h.cb, h.nT⟩
  have HPld : Hid (∀ W, Tc f B_f T_f P (N : Nat) (K : Nat) (B : Nat) w W → Tl W T_f qd ld cd xsd) := fun W hW => (⟨HSd.out.1, HSd.out.2, HSd.out.1.off HT2.out.2.2⟩ : Tl w T_f qd ld cd xsd).but hW.tw.but
  have HT3 : Hid (Tc f B_f T_f P (N : Nat) (K : Nat) (B : Nat) w W3) := hT3
  clear HT1 HT2
  have KX := kerased f B_f T_f P N K B K B w N qd ld cd 12 m xsd es (by have := HM.out.1.n; omega) (by have := HM.out.2.2; omega) (by omega) HQ.out.1 HQ.out.2.1 W3 hT3 (HPld.out W3 hT3)
  have hC := hT3.cb
  clear hT3
  have u0 := (hC).c0
  have u1 := (hC).c1
  have u2 := (hC).c2
  clear hC
  go_wp2_with fail
  refine KX.mono ?_
  rintro e w4 ⟨q4, c4, rfl, l4, hT4, -⟩
  clear KX hP hW3
  clear u0 u1 u2
  have KX := kloc f B_f T_f P N K B w q4 m c4 d (zi es) (by have := HQ.out.2.2.2.2.2.2.2.2.2.2.2.1; omega) HQ.out.2.2.1 w4 hT4 l4
  have H4 : Hid (∀ W, But (· = T_f) w4 W → Tz W T_f q4 m c4 (zi es)) := fun W hW => l4.but hW
  have hNs4 := l4.ns
  clear hT4 l4
  go_wp2_with fail
  refine KX.mono ?_
  rintro e w5 ⟨q5, c5, rfl, l5, hT5, hb5⟩
  clear KX hNs4
  have H5 : Hid (Tc f B_f T_f P (N : Nat) (K : Nat) (B : Nat) w w5 ∧ Tl w5 T_f q5 d c5 (Cd.locZ (zi es)) ∧ Tz w5 T_f q4 m c4 (zi es)) := ⟨hT5, l5, H4.out _ hb5⟩
  obtain ⟨R, hR⟩ : ∃ R, w5.heap.size = R := ⟨_, rfl⟩
  have HR : Hid (T_f < R ∧ w5.heap.size = R) := ⟨by rw [← hR]; exact hT5.lt, hR⟩
  clear hT5 l5 hb5 hR
  go_wp2
  go_loopw [17, 18] (fun v i wr => ∃ (t : Nat) (iv : Int), t ≤ m ∧ iv = (t : Int) - 1 ∧ i = .int .i64 iv ∧ OwZ wr R v ((zi es).drop t).reverse ∧ Below R w5 wr) (fun _ i _ => (intOf i + 1).toNat)
  case atStart => exact ⟨m, (m : Int) - 1, Nat.le_refl _, rfl, by go_num, by rw [List.drop_of_length_le (by rw [zi_length, HQ.out.2.1]; exact Nat.le_refl _)]; exact owV_nil _ _ _, Below.refl _ _⟩
  case round =>
    obtain ⟨t, iv, ht, hiv, rfl, hO, hB⟩ := hrel
    rcases Nat.eq_zero_or_pos t with h0 | h0
    · have hneg : iv = -1 := by omega
      subst hneg
      have HZ : Hid (OwZ wr R u17 (zi es.reverse) ∧ Below R w5 wr) := by
        refine ⟨?_, hB⟩
        rw [h0, List.drop_zero] at hO
        have e : (zi es).reverse = zi es.reverse := by unfold zi; rw [List.map_reverse]
        rwa [e] at hO
      have hB5 : Below w5.heap.size w5 wr := HR.out.2.symm ▸ hB
      have hTr := H5.out.1.below hB5
      have HTr : Hid (Tc f B_f T_f P (N : Nat) (K : Nat) (B : Nat) w wr ∧ Tl wr T_f q5 d c5 (Cd.locZ (zi es)) ∧ Tz wr T_f q4 m c4 (zi es)) := ⟨hTr, H5.out.2.1.below hB5, H5.out.2.2.below hB5⟩
      obtain ⟨q6, c6, rfl, l6⟩ := HZ.out.1.tz (T := T_f) (n := m) HR.out.1 (zi_wf fun i hi => by have := HQ.out.2.2.2.1.lt i (List.mem_reverse.1 hi); have := HM.out.2.2; omega) (by rw [zi_length, List.length_reverse]; exact HQ.out.2.1)
      have H6 : Hid (∀ W, But (· = T_f) wr W → Tl W T_f q5 d c5 (Cd.locZ (zi es)) ∧ Tz W T_f q4 m c4 (zi es) ∧ Tz W T_f q6 m c6 (zi es.reverse)) := fun W hW => ⟨HTr.out.2.1.but hW, HTr.out.2.2.but hW, l6.but hW⟩
      have KX := kpoint f B_f T_f P N K B w p r (by have := HQ.out.2.2.2.2.1; have := HM.out.2.2; omega) HQ.out.2.2.2.2.2.1 wr hTr
      have hC := hTr.cb
      clear hO hB hB5 hTr l6 h0 hiv ht
      have u0 := (hC).c0
      have u1 := (hC).c1
      have u2 := (hC).c2
      clear hC
      go_wp2_with fail
      refine KX.mono ?_
      rintro e w6 ⟨rfl, hT6, hb6⟩
      clear KX
      clear u0 u1 u2
      have KX := finv_e f B_f T_f r x true HQ.out.2.2.2.2.2.2.1 HQ.out.2.2.2.2.2.2.2.1 HQ.out.2.2.2.2.2.2.2.2.2.2.2.2 w6 hT6.tw.fd
      have HT6 : Hid (Tc f B_f T_f P (N : Nat) (K : Nat) (B : Nat) w w6 ∧ But (· = T_f) wr w6) := ⟨hT6, hb6⟩
      clear hT6 hb6
      go_wp2_with fail
      refine KX.mono ?_
      rintro e w7 ⟨rfl, hF, hb⟩
      clear KX
      have HT7 : Hid (Tc f B_f T_f P (N : Nat) (K : Nat) (B : Nat) w w7 ∧ But (· = T_f) wr w7) := ⟨HT6.out.1.next hF hb, HT6.out.2.trans hb⟩
      have KN := known12_calls w7
      clear hF hb
      go_wp2_with fail
      refine KN.mono ?_
      rintro e w8 ⟨rfl, hb⟩
      clear KN
      have HT8 : Hid (Tc f B_f T_f P (N : Nat) (K : Nat) (B : Nat) w w8 ∧ But (· = T_f) wr w8) := ⟨HT7.out.1.below hb, HT7.out.2.trans (But.of_below hb)⟩
      have KX := kat f B_f T_f P N K B w q5 d c5 x y (Cd.locZ (zi es)) HQ.out.2.2.2.2.2.2.2.2.1 HQ.out.2.2.2.2.2.2.2.2.2.1 w8 HT8.out.1 (H6.out _ HT8.out.2).1
      clear hb
      go_wp2_with fail
      refine KX.mono ?_
      rintro e w9 ⟨rfl, hT9, hb9⟩
      clear KX
      have HT9 : Hid (Tc f B_f T_f P (N : Nat) (K : Nat) (B : Nat) w w9 ∧ But (· = T_f) wr w9) := ⟨hT9, HT8.out.2.trans hb9⟩
      have KP := place_calls q4 m c4 (zi es) (p : Int) (by have := HQ.out.2.2.2.2.2.2.2.2.2.2.2.1; omega) w9 (H6.out _ HT9.out.2).2.1.ns
      rw [HQ.out.2.2.2.2.2.2.2.2.2.2.1] at KP
      have KD := kdeg f B_f T_f P N K B w q5 d c5 d (Cd.locZ (zi es)) (by rw [zi, Cd.locZ_nat, ← HQ.out.2.2.1, ← HQ.out.2.1]; exact loc_dg es) w9 HT9.out.1 (H6.out _ HT9.out.2).1
      clear hT9 hb9
      rcases HYP.out with ⟨hy, hpz⟩ | ⟨hy, hpz⟩
      · subst hy
        go_wp2_with (go_at_call 24; refine KP.mono ?_; rintro e wa ⟨rfl, rfl⟩)
        refine KD.mono ?_
        rintro e wb ⟨rfl, hTb, hbb⟩
        clear KD KP
        have HTb : Hid (Tc f B_f T_f P (N : Nat) (K : Nat) (B : Nat) w wb ∧ But (· = T_f) wr wb) := ⟨hTb, HT9.out.2.trans hbb⟩
        have KC := pcoef_calls q5 d c5 (Cd.locZ (zi es)) 0 wb (H6.out _ HTb.out.2).1.bs
        rw [show cof (Cd.locZ (zi es)) 0 = 1 by rw [zi, Cd.locZ_nat]; exact loc_at0 es] at KC
        have KX := kloc f B_f T_f P N K B w q6 m c6 d (zi es.reverse) (by have := HQ.out.2.2.2.2.2.2.2.2.2.2.2.1; omega) HQ.out.2.2.1 wb HTb.out.1 (H6.out _ HTb.out.2).2.2
        rw [show Cd.locZ (zi es.reverse) = Cd.locZ (zi es) by rw [zi, zi, Cd.locZ_nat, Cd.locZ_nat, Cd.loL_perm (List.reverse_perm es)]] at KX
        clear hTb hbb
        go_wp2_with (go_at_call 26; refine KC.mono ?_; rintro e wc ⟨rfl, rfl⟩)
        refine KX.mono ?_
        rintro e wd ⟨qd2, cd2, rfl, ld2, hTd, hbd⟩
        clear KX KC
        have KX := ksame12 f B_f T_f P N K B w q5 qd2 d c5 cd2 (Cd.locZ (zi es)) wd hTd (H6.out _ (HTb.out.2.trans hbd)).1 ld2
        clear ld2 hTd hbd
        go_wp2_with fail
        refine KX.mono ?_
        rintro e we ⟨rfl, hTe, -⟩
        clear KX
        go_wp2
        go_ret
        exact ⟨rfl, hTe.tw.but.below (Nat.le_refl _) (by rintro k rfl; exact HTf.out)⟩
      · have hy' : ((y : Int) == 0) = false := by simp; omega
        have hpz' : ((0 : Int) ≤ pz) = False := eq_false (by omega)
        clear hy
        go_wp2_with (go_at_call 24; refine KP.mono ?_; rintro e wa ⟨rfl, rfl⟩)
        refine KD.mono ?_
        rintro e wb ⟨rfl, hTb, hbb⟩
        clear KD KP
        have HTb : Hid (Tc f B_f T_f P (N : Nat) (K : Nat) (B : Nat) w wb ∧ But (· = T_f) wr wb) := ⟨hTb, HT9.out.2.trans hbb⟩
        have KC := pcoef_calls q5 d c5 (Cd.locZ (zi es)) 0 wb (H6.out _ HTb.out.2).1.bs
        rw [show cof (Cd.locZ (zi es)) 0 = 1 by rw [zi, Cd.locZ_nat]; exact loc_at0 es] at KC
        have KX := kloc f B_f T_f P N K B w q6 m c6 d (zi es.reverse) (by have := HQ.out.2.2.2.2.2.2.2.2.2.2.2.1; omega) HQ.out.2.2.1 wb HTb.out.1 (H6.out _ HTb.out.2).2.2
        rw [show Cd.locZ (zi es.reverse) = Cd.locZ (zi es) by rw [zi, zi, Cd.locZ_nat, Cd.locZ_nat, Cd.loL_perm (List.reverse_perm es)]] at KX
        clear hTb hbb
        go_wp2_with (go_at_call 26; refine KC.mono ?_; rintro e wc ⟨rfl, rfl⟩)
        refine KX.mono ?_
        rintro e wd ⟨qd2, cd2, rfl, ld2, hTd, hbd⟩
        clear KX KC
        have KX := ksame12 f B_f T_f P N K B w q5 qd2 d c5 cd2 (Cd.locZ (zi es)) wd hTd (H6.out _ (HTb.out.2.trans hbd)).1 ld2
        clear ld2 hTd hbd
        go_wp2_with fail
        refine KX.mono ?_
        rintro e we ⟨rfl, hTe, -⟩
        clear KX
        go_wp2
        go_ret
        exact ⟨rfl, hTe.tw.but.below (Nat.le_refl _) (by rintro k rfl; exact HTf.out)⟩
    · obtain ⟨s, hs⟩ : ∃ s, t - 1 = s := ⟨_, rfl⟩
      have hivs : iv = (s : Int) := by omega
      subst hivs
      have hs0 : (0 : Int) ≤ (s : Int) := by omega
      have hsm : (s : Int) < (m : Int) := by omega
      have hst : s + 1 = t := by omega
      have hB5 : Below w5.heap.size w5 wr := HR.out.2.symm ▸ hB
      obtain ⟨a, ha, _, ca⟩ := (H5.out.2.2.ns.below hB5).cell s (by omega)
      have hdr := drop_rev (zi es) s (by rw [zi_length, HQ.out.2.1]; omega)
      rw [hst] at hdr
      obtain ⟨z, hz⟩ : ∃ z, (zi es).getD s 0 = z := ⟨_, rfl⟩
      rw [hz] at ca hdr
      have hol : ((zi es).drop t).reverse.length ≤ 12 := by rw [List.length_reverse, List.length_drop, zi_length, HQ.out.2.1]; have := HQ.out.2.2.2.2.2.2.2.2.2.2.2.1; omega
      obtain ⟨L, hL⟩ : ∃ L, ((zi es).drop t).reverse = L := ⟨_, rfl⟩
      rw [hL] at hO hdr hol
      obtain ⟨g, cg, W', hap, hO', hbw⟩ := run_append_z wr R u17 L z hO (by omega) (by have := hB.size; have := HR.out.2; omega)
      obtain ⟨l, hl⟩ : ∃ l, L.length + 1 = l := ⟨_, rfl⟩
      rw [hl] at hap hO'
      have ha1 := ap_ok hap
      have ha2 := ap_v hap
      have ha3 := ap_w hap
      have HZ : Hid (OwZ W' R (.slice (some ⟨g, 0, none⟩) l cg) ((zi es).drop s).reverse ∧ Below R w5 W') := ⟨by rw [hdr]; exact hO', hB.trans (hbw _ (Nat.le_refl _))⟩
      subst ha
      clear hO hB hB5 hdr hz hL hol hap hO' hbw hl hs hiv
      go_wp2
      go_roundw
      case rel => exact ⟨s, (s : Int) - 1, by omega, rfl, by go_num, HZ.out.1, HZ.out.2⟩
      case measure => simp [intOf]
theorem own : ownKnob Tryz.prog.godebug = none := by kernel_rfl
theorem laidOut : laidOutB Tryz.prog = true := by kernel_rfl
set_option maxRecDepth 100000 in
theorem lifted (os : Os) (started : os.Started) (H : Type) (enc : TypeId × Value → H) :
    ReturnsInHanded {} Tryz.checked os 5 .any (Rows.syndLocatorSpec.pre6 enc Tryz.prog Tryz.f5 Rows.syndLocatorRow.domain false) (Rows.syndLocatorSpec.post enc Tryz.prog Tryz.f5 false true false false) := by
  refine returnsInHanded_of_change_sized (C := Tryz.checked) own started (by kernel_rfl) Tryz.func5
    (ChangeSpec.witness6 (enc := enc) (C := Tryz.checked) false ⟨#[], #[.int .u8 0, .int .u8 0, .int .u8 0, .int .u8 0, .slice none 0 0, .int .u8 0], []⟩ 8 (by kernel_rfl) (by kernel_rfl) (by kernel_rfl) (by kernel_rfl)) ?_
  intro W base args ds gs before hval0 hW _ hz _
  have hval : ∀ (j : Nat) t v, Tryz.f5.params[j]? = some t → args[j]? = some v → Value.okWide Tryz.prog W .any base t v := hval0
  have hW' := hW
  obtain ⟨p, q, hA0, hV, rfl, _, _⟩ := hW
  have hA : DataW.TrodAll enc Tryz.prog W 0 (fun _ => true) true Tryz.f5.params.toList args.toList ds p := hA0
  rw [Tryz.params5] at hA hval
  obtain ⟨v0, vs0, d0, ds0, p0, q0, hargs, rfl, rfl, h0, r0⟩ := trodAll_cons hA
  obtain ⟨v1, vs1, d1, ds1, p1, q1, rfl, rfl, rfl, h1, r1⟩ := trodAll_cons r0
  obtain ⟨v2, vs2, d2, ds2, p2, q2, rfl, rfl, rfl, h2, r2⟩ := trodAll_cons r1
  obtain ⟨v3, vs3, d3, ds3, p3, q3, rfl, rfl, rfl, h3, r3⟩ := trodAll_cons r2
  obtain ⟨v4, vs4, d4, ds4, p4, q4, rfl, rfl, rfl, h4, r4⟩ := trodAll_cons r3
  obtain ⟨v5, vs5, d5, ds5, p5, q5, rfl, rfl, rfl, h5, r5⟩ := trodAll_cons r4
  obtain ⟨rfl, rfl, rfl⟩ := trodAll_nil r5
  obtain rfl : args = #[v0, v1, v2, v3, v4, v5] := by cases args; simp_all
  obtain ⟨rfl, rfl⟩ := trodVars_none hV
  obtain ⟨a0, rfl, rfl, rfl, w0⟩ := open_int Tryz.underlying5 (hval 0 5 v0 rfl rfl) h0
  obtain ⟨n0, b0, rfl⟩ := nat_of_u8 w0
  obtain ⟨a1, rfl, rfl, rfl, w1⟩ := open_int Tryz.underlying5 (hval 1 5 v1 rfl rfl) h1
  obtain ⟨n1, b1, rfl⟩ := nat_of_u8 w1
  obtain ⟨a2, rfl, rfl, rfl, w2⟩ := open_int Tryz.underlying5 (hval 2 5 v2 rfl rfl) h2
  obtain ⟨n2, b2, rfl⟩ := nat_of_u8 w2
  obtain ⟨a3, rfl, rfl, rfl, w3⟩ := open_int Tryz.underlying5 (hval 3 5 v3 rfl rfl) h3
  obtain ⟨n3, b3, rfl⟩ := nat_of_u8 w3
  have k4 := h4
  obtain ⟨q4, n4, c4, xs4, rfl, w4, m4⟩ := open_bytes_sz Tryz.underlying24 Tryz.underlying5 (by kernel_rfl) (hval 4 24 v4 rfl rfl) h4
  have y4 : n4 ≤ c4 ∧ c4 ≤ 140737488351232 := ⟨m4.1, m4.2 _ fun el sp hd => by have := sized_slice (j := 4) (t := 24) (e := 5) (elems := el) (spare := sp) hz (by kernel_rfl) (by first | (rw [← hd]; done) | (rw [← hd]; rfl)) Tryz.underlying24; have hbe : Tryz.checked.prog.bytesOf 5 = 1 := (by kernel_rfl); have hre : reachBytes = 140737488351232 := rfl; rw [hbe, hre] at this; omega⟩
  obtain ⟨a5, rfl, rfl, rfl, w5⟩ := open_int Tryz.underlying5 (hval 5 5 v5 rfl rfl) h5
  obtain ⟨n5, b5, rfl⟩ := nat_of_u8 w5
  clear hA0 hval0
  simp only [List.append_nil] at hW'
  refine (walk (w := W) n0 n1 n2 n3 q4 n4 c4 xs4 n5 b0 b1 b2 b3 w4 y4 b5).mono fun e W' ⟨he, bel⟩ => ?_
  subst he
  exact ⟨_, rfl, _, _, _, [], _, [], hW', trodAll_mk1 (shut_bool Tryz.underlying4 _), (trodAll_cons_mk (shut_int Tryz.underlying5 w0) (trodAll_cons_mk (shut_int Tryz.underlying5 w1) (trodAll_cons_mk (shut_int Tryz.underlying5 w2) (trodAll_cons_mk (shut_int Tryz.underlying5 w3) (trodAll_cons_mk (shut_same laidOut (by kernel_rfl) (of_decide_eq_true (by kernel_rfl)) k4 bel) (trodAll_cons_mk (shut_int Tryz.underlying5 w5) trodAll_mk0)))))), rfl, bel.frame _, fun h => by cases h⟩
theorem over : Rows.syndLocatorRow.holds Tryz.pinned (OpenSpec.ofChange Rows.syndLocatorSpec) :=
  OpenClaim.holds_of_wide 5 Tryz.f5 rfl rfl rfl rfl rfl rfl rfl ⟨rfl, rfl, rfl, rfl, rfl⟩ rfl rfl rfl rfl rfl (by kernel_rfl) Tryz.func5 (by kernel_rfl)
    (of_decide_eq_true (by kernel_rfl)) (by unfold Func.isWrapper; first | (rw [if_pos (by decide +kernel)]; kernel_rfl) | (rw [if_neg (by decide +kernel)]; exact ⟨rfl, rfl⟩))
    (fun os started H enc _ => lifted os started H enc)
theorem proved : Rows.SyndLocatorSaid := over
#print axioms proved
end Go.Proofs.YtddhefhabhgdfaaGreat.syndLocator
