/- SyndModified holds for every input: what is erased is not seen any more: behind as many syndromes as places are erased, modified ones are 0. No conditions. -/
import Derived.Test.YtddhefhabhgdfaaGreatRows
import Derived.Test.YtddhefhabhgdfaaGreatMB
import Derived.Test.YtddhefhabhgdfaaGreatOB
import Derived.Test.YtddhefhabhgdfaaGreatOU
import Derived.Test.YtddhefhabhgdfaaGreatMN
namespace Go.Proofs.YtddhefhabhgdfaaGreat.syndModified
open Go.ChangeShapes Go.WideShapes Go.ChangeAt Go.RowKit
open Pol (IsN Dg ofL Byt vl)

/-- A list that is 0 but at some places. -/
structure Zb (N : Nat) (es rs : List Nat) : Prop where
  len : rs.length = N
  byt : Byt rs
  zero : ∀ p, p < N → p ∉ es → rs.getD p 0 = 0
theorem zb_start (N : Nat) (es : List Nat) : Zb N es (List.replicate N 0) := by
  have h : ∀ p, (List.replicate N 0).getD p 0 = 0 := fun p => by simp only [List.getD, List.getElem?_replicate]; split <;> rfl
  exact ⟨List.length_replicate, fun i => by rw [h]; decide, fun p _ _ => h p⟩
theorem Zb.set {N : Nat} {es rs : List Nat} (h : Zb N es rs) {p x : Nat} (hp : p ∈ es) (hx : x < 256) : Zb N es (rs.set p x) := by
  refine ⟨by rw [List.length_set]; exact h.len, fun i => ?_, fun q hq hn => ?_⟩
  · rw [Mx.getD_set]; split
    · exact hx
    · exact h.byt i
  · have hne : ¬ (p = q ∧ q < rs.length) := fun hc => hn (hc.1 ▸ hp)
    rw [Mx.getD_set, if_neg hne]; exact h.zero q hq hn

set_option maxRecDepth 100000 in
set_option maxHeartbeats 8000000 in
theorem walk (j n k b : Nat) (qd : Option Addr) (ld cd : Nat) (xsd : List Nat) (qx : Option Addr) (lx cx : Nat) (xsx : List Nat) (w : World) (_hj : j < 256) (hn : n < 256) (hk : k < 256) (hb : b < 256) (hsd : Bs w qd ld xsd) (hcd : ld ≤ cd ∧ cd ≤ 140737488351232) (hsx : Bs w qx lx xsx) (hcx : lx ≤ cx ∧ cx ≤ 140737488351232) :
    Calls Tryz.prog 7 #[.int .u8 j, .int .u8 n, .int .u8 k, .int .u8 b, .slice qd ld cd, .slice qx lx cx] w fun e w' => e = .returned (.bool true) ∧ Below w.heap.size w w' := by
  obtain ⟨f, hf⟩ : ∃ f : Nat, 1 + j % 3 = f := ⟨_, rfl⟩
  have hf1 : 1 ≤ f := by omega
  have hf3 : f ≤ 3 := by omega
  have hfi : (1 : Int) + (j : Int) % 3 = (f : Int) := by omega
  have hK0 : ∀ W, Calls Tryz.prog 10 _ W _ := fun W => lcode_calls n k b hn hk hb W
  have hcod := ck_cod n k b
  have hle := ckN_le n k
  obtain ⟨N, hN⟩ : ∃ N, ckN n k = N := ⟨_, rfl⟩
  obtain ⟨K, hK⟩ : ∃ K, ckK n k = K := ⟨_, rfl⟩
  obtain ⟨B, hB⟩ : ∃ B, ckB b = B := ⟨_, rfl⟩
  obtain ⟨S, hS⟩ : ∃ S, N - K = S := ⟨_, rfl⟩
  rw [hN, hK, hB] at hK0 hcod
  rw [hN] at hle
  obtain ⟨es, hes⟩ : ∃ es, erL N N xsd = es := ⟨_, rfl⟩
  obtain ⟨m, hm⟩ : ∃ m, es.length = m := ⟨_, rfl⟩
  obtain ⟨d, hd⟩ : ∃ d, m + 1 = d := ⟨_, rfl⟩
  have hok : ErOk N N es := hes ▸ erL_ok (by omega) xsd
  have HQ : Hid (erL N N xsd = es ∧ es.length = m ∧ m + 1 = d ∧ ErOk N N es ∧ m ≤ 69) := ⟨hes, hm, hd, hok, by have := hok.len; omega⟩
  have K0 : Hid (∀ W, Calls Tryz.prog 10 #[.int .u8 n, .int .u8 k, .int .u8 b] W fun e w' => e = .returned (.agg #[.int .i64 (N : Nat), .int .i64 (K : Nat), .int .i64 (B : Nat)]) ∧ Below W.heap.size W w') := hK0
  have HM : Hid (Cod N K B ∧ N - K = S ∧ N ≤ 69) := ⟨hcod, hS, hle.2⟩
  have hN69 : (N : Int) ≤ 69 := by omega
  have HSd : Hid (Bs w qd ld xsd ∧ ld ≤ cd) := ⟨hsd, hcd.1⟩
  have HSx : Hid (Bs w qx lx xsx ∧ lx ≤ cx) := ⟨hsx, hcx.1⟩
  clear hes hm hd hok hf hN hK hB hS hK0 hcod hle hn hk hb _hj hsd hcd hsx hcx
  have hNKi : (N : Int) - (K : Int) = (S : Int) := by have := HM.out.1.n; have := HM.out.2.1; omega
  have hS0 : (0 : Int) ≤ (S : Int) := by omega
  have hSN : (S : Int) ≤ (N : Int) := by omega
  have HB : Below w.heap.size w w := Below.refl _ _
  go_enter Tryz.func7, Tryz.ntmps7
  go_wp2_with fail
  refine (fof_calls f hf1 hf3 _).mono ?_
  rintro e w1 ⟨B_f, T_f, rfl, HF_f, hb, hlB, hlT⟩
  have HL_f : w.heap.size ≤ T_f := Nat.le_trans HB.size hlT
  replace HB := HB.trans (hb.mono HB.size)
  clear hb hlB hlT
  clear hfi hf1 hf3
  have HT1 : Hid (Below w.heap.size w w1 ∧ Fd f B_f T_f w1 ∧ w.heap.size ≤ T_f) := ⟨HB, HF_f, HL_f⟩
  clear HB HF_f HL_f
  go_wp2_with fail
  refine (K0.out w1).mono ?_
  rintro e w2 ⟨rfl, hb⟩
  have HT2 : Hid (Below w.heap.size w w2 ∧ Fd f B_f T_f w2 ∧ w.heap.size ≤ T_f) := ⟨HT1.out.1.trans (hb.mono HT1.out.1.size), HT1.out.2.1.below hb, HT1.out.2.2⟩
  have HTf : Hid (w.heap.size ≤ T_f) := HT2.out.2.2
  clear hb K0
  obtain ⟨P, hP⟩ : ∃ P, w2.heap.size = P := ⟨_, rfl⟩
  obtain ⟨W3, hW3⟩ : ∃ W3, w2.alloc (.cells #[.int .i64 (N : Nat), .int .i64 (K : Nat), .int .i64 (B : Nat)] 23) = W3 := ⟨_, rfl⟩
  have hT3 : Tc f B_f T_f P (N : Nat) (K : Nat) (B : Nat) w W3 := by
    have h := tc_new HT2.out.2.1 (N : Int) (K : Int) (B : Int)
    rw [hP, hW3] at h
    exact ⟨⟨h.tw.fd, (But.of_below HT2.out.1).trans h.tw.but⟩, h.cb, h.nT⟩
  have HPld : Hid (∀ W, Tc f B_f T_f P (N : Nat) (K : Nat) (B : Nat) w W → Tl W T_f qd ld cd xsd) := fun W hW => (⟨HSd.out.1, HSd.out.2, HSd.out.1.off HT2.out.2.2⟩ : Tl w T_f qd ld cd xsd).but hW.tw.but
  have HPlx : Hid (∀ W, Tc f B_f T_f P (N : Nat) (K : Nat) (B : Nat) w W → Tl W T_f qx lx cx xsx) := fun W hW => (⟨HSx.out.1, HSx.out.2, HSx.out.1.off HT2.out.2.2⟩ : Tl w T_f qx lx cx xsx).but hW.tw.but
  have HT3 : Hid (Tc f B_f T_f P (N : Nat) (K : Nat) (B : Nat) w W3) := hT3
  clear HT1 HT2
  have KX := kerased f B_f T_f P N K B K B w N qd ld cd N m xsd es (by have := HM.out.1.n; omega) (by have := HM.out.2.2; omega) (by have := HM.out.2.2; omega) HQ.out.1 HQ.out.2.1 W3 hT3 (HPld.out W3 hT3)
  have hC := hT3.cb
  clear hT3
  have u0 := (hC).c0
  have u1 := (hC).c1
  have u2 := (hC).c2
  clear hC
  go_wp2_with fail
  refine KX.mono ?_
  rintro e w4 ⟨q4, c4, rfl, l4, hT4, -⟩
  clear KX hP hW3
  clear u0 u1 u2
  obtain ⟨G, hG⟩ : ∃ G, w4.heap.size = G := ⟨_, rfl⟩
  obtain ⟨W5, hW5⟩ : ∃ W5, w4.alloc (.cells (madeCells #[.int .u8 0] N) 5) = W5 := ⟨_, rfl⟩
  have hmk := make_bytes N (by have := HM.out.2.2; omega)
  have hb45 : Below w4.heap.size w4 W5 := hW5 ▸ (Below.refl _ w4).alloc (Nat.le_refl _) _
  have hO5 : Ow W5 G (.slice (some ⟨G, 0, none⟩) N N) (List.replicate N 0) := by rw [← hW5, ← hG]; exact ow_made w4 (Nat.le_refl _) N (by have := HM.out.2.2; omega)
  have H4 : Hid (Tc f B_f T_f P (N : Nat) (K : Nat) (B : Nat) w w4 ∧ Tz w4 T_f q4 m c4 (zi es) ∧ Tl w4 T_f qx lx cx xsx ∧ T_f < G ∧ w4.heap.size = G) := ⟨hT4, l4, HPlx.out w4 hT4, by rw [← hG]; exact hT4.lt, hG⟩
  have H5 : Hid (Ow W5 G (.slice (some ⟨G, 0, none⟩) N N) (List.replicate N 0) ∧ Below G w4 W5) := ⟨hO5, hG ▸ hb45⟩
  have hC := hT4.cb
  clear hT4 l4 hb45 hO5
  have u0 := (hC).c0
  have u1 := (hC).c1
  have u2 := (hC).c2
  clear hC
  go_wp2
  clear hG hW5 hmk
  clear u0 u1 u2
  go_loopw [17] (fun i wr => ∃ (t : Nat) (rs : List Nat), t ≤ m ∧ i = .int .i64 (t : Int) ∧ Hid (Zb N es rs ∧ Ow wr G (.slice (some ⟨G, 0, none⟩) N N) rs ∧ Below G w4 wr)) (fun i _ => m - (intOf i).toNat)
  case atStart => exact ⟨0, _, by omega, rfl, (⟨zb_start N es, H5.out.1, H5.out.2⟩ : Zb N es (List.replicate N 0) ∧ _)⟩
  case round =>
    obtain ⟨t, rs, ht, rfl, hR⟩ := hrel
    have hb4 : Below w4.heap.size w4 wr := H4.out.2.2.2.2.symm ▸ hR.out.2.2
    by_cases hlt : t < m
    · have hti : (t : Int) < (m : Int) := by omega
      have hti0 : (0 : Int) ≤ (t : Int) := by omega
      have ht6 : (t : Int) ≤ 1000000 := by have := HQ.out.2.2.2.2; omega
      by_cases hlx : t < lx
      · have hlxi : (t : Int) < (lx : Int) := by omega
        obtain ⟨a, ha, _, ca⟩ := (H4.out.2.1.ns.below hb4).cell t hlt
        obtain ⟨b', hb', _, cb'⟩ := (H4.out.2.2.1.bs.below hb4).cell t hlx
        have hmem : (zi es).getD t 0 ∈ zi es := getD_mem_z (by rw [zi_length, HQ.out.2.1]; exact hlt)
        obtain ⟨p, hp, hpe⟩ : ∃ p : Nat, p ∈ es ∧ (zi es).getD t 0 = (p : Int) := by
          obtain ⟨i, hi, e⟩ := List.mem_map.1 hmem
          exact ⟨i, hi, e.symm⟩
        have hpN := HQ.out.2.2.2.1.lt p hp
        obtain ⟨x, hx⟩ : ∃ x, xsx.getD t 0 = x := ⟨_, rfl⟩
        have hx8 : x < 256 := by rw [← hx]; exact H4.out.2.2.1.bs.byte t
        rw [hpe] at ca
        rw [hx] at cb'
        have hx4 := hR.out.2.1.at hR.out.1.len.symm p hpN
        have hxf := hx4.2
        have hxc := hx4.1
        obtain ⟨o1, ho1⟩ : ∃ o1, rs.getD p 0 = o1 := ⟨_, rfl⟩
        rw [ho1] at hxc
        have hpNi : (p : Int) < (N : Int) := by omega
        have hp0 : (0 : Int) ≤ (p : Int) := by omega
        obtain ⟨W6, hW6⟩ : ∃ W6, wr.setCell ⟨G, p, none⟩ (.int .u8 (x : Nat)) = W6 := ⟨_, rfl⟩
        have hbt : But (· = G) wr W6 := hW6 ▸ (But.refl (· = G) wr).setCell (p := ⟨G, p, none⟩) (.inl rfl) _
        have HZ : Hid (Zb N es (rs.set p x) ∧ Ow W6 G (.slice (some ⟨G, 0, none⟩) N N) (rs.set p x) ∧ Below G w4 W6) := ⟨hR.out.1.set hp hx8, hW6 ▸ hR.out.2.1.set hR.out.1.len.symm p x, hR.out.2.2.trans (hbt.below (by have := hR.out.2.2.size; have := H4.out.2.2.2.2; omega) (fun k hk => by omega))⟩
        subst ha hb'
        clear hmem hp hpe hpN hx hx8 hx4 ho1 hbt hb4 hR
        go_wp2
        go_region
        all_goals
          go_wp2
          go_roundw
          case rel => exact ⟨t + 1, rs.set p x, by omega, by go_num, HZ.out.1, HZ.out.2.1.drew, HZ.out.2.2.drew⟩
          case measure => simp [intOf]; omega
      · have hlxi : ((t : Int) < (lx : Int)) = False := eq_false (by omega)
        clear hb4
        go_wp2
        go_roundw
        case rel => exact ⟨t + 1, rs, by omega, by go_num, hR.out⟩
        case measure => simp [intOf]; omega
    · obtain rfl : m = t := by omega
      obtain ⟨wa, hwa⟩ : ∃ wa, wa = wr := ⟨_, rfl⟩
      subst hwa
      have hTa := H4.out.1.below hb4
      obtain ⟨q5, c5, e5, l5⟩ := hR.out.2.1.tl (T := T_f) (n := N) H4.out.2.2.2.1 hR.out.1.byt hR.out.1.len
      cases e5
      obtain ⟨ys, hys⟩ : ∃ ys, Cd.syL S B rs = ys := ⟨_, rfl⟩
      have hyl : ys.length = S := hys ▸ Cd.syL_length S B rs
      obtain ⟨ts, hts⟩ : ∃ ts, Cd.modL ys (Cd.locZ (zi es)) = ts := ⟨_, rfl⟩
      have HZ : Hid (∀ i, m ≤ i → i < S → ts.getD i 0 = 0) := fun i h1 h2 => by
        have h3 := hR.out.1
        have := Cd.modL_zero (N := N) (S := S) (B := B) (w := rs) (e := es) (i := i) (by have := HM.out.2.2; omega) h3.len HQ.out.2.2.2.1.lt h3.zero (by rw [HQ.out.2.1]; exact h1) h2
        rw [hys, ← Cd.locZ_nat] at this
        rw [← hts]
        exact this
      have HA : Hid (Tz wa T_f q4 m c4 (zi es) ∧ Cd.modL ys (Cd.locZ (zi es)) = ts) := ⟨H4.out.2.1.below hb4, hts⟩
      have KX := ksynd f B_f T_f P N K B N K B w (some ⟨G, 0, none⟩) N N S rs ys ((syR_yes HM.out.1 HM.out.2.1 hR.out.1.len).trans hys) hyl wa hTa l5
      have hC := hTa.cb
      clear hTa l5 hys hyl hts hR hb4
      have u0 := (hC).c0
      have u1 := (hC).c1
      have u2 := (hC).c2
      clear hC
      go_wp2_with fail
      refine KX.mono ?_
      rintro e w6 ⟨q6, c6, rfl, l6, hT6, hb6⟩
      clear KX
      clear u0 u1 u2
      have KX := kloc f B_f T_f P N K B w q4 m c4 d (zi es) (by have := HQ.out.2.2.2.2; omega) HQ.out.2.2.1 w6 hT6 (HA.out.1.but hb6)
      have H6 : Hid (∀ W, But (· = T_f) w6 W → Tl W T_f q6 S c6 ys) := fun W hW => l6.but hW
      clear hT6 l6 hb6
      go_wp2_with fail
      refine KX.mono ?_
      rintro e w7 ⟨q7, c7, rfl, l7, hT7, hb7⟩
      clear KX
      have KX := kmod f B_f T_f P N K B w q6 q7 S c6 d c7 ys (Cd.locZ (zi es)) (by have := HM.out.2.1; have := HM.out.2.2; omega) (by have := HQ.out.2.2.1; have := HQ.out.2.2.2.2; omega) w7 hT7 (H6.out _ hb7) l7
      rw [HA.out.2] at KX
      clear hT7 l7 hb7
      go_wp2_with fail
      refine KX.mono ?_
      rintro e w8 ⟨q8, c8, rfl, l8, hT8, -⟩
      clear KX
      have H8 : Hid (Tc f B_f T_f P (N : Nat) (K : Nat) (B : Nat) w w8 ∧ Tl w8 T_f q8 S c8 ts) := ⟨hT8, l8⟩
      clear hT8 l8
      go_wp2
      go_loopw [19] (fun i wr => ∃ t : Nat, m ≤ t ∧ i = .int .i64 (t : Int) ∧ wr = w8) (fun i _ => S - (intOf i).toNat)
      case atStart => exact ⟨m, Nat.le_refl _, rfl, rfl⟩
      case round =>
        obtain ⟨t, ht, rfl, rfl⟩ := hrel
        by_cases hlt : t < S
        · have hti : (t : Int) < (S : Int) := by omega
          have hti0 : (0 : Int) ≤ (t : Int) := by omega
          have ht6 : (t : Int) ≤ 1000000 := by have := HM.out.2.1; have := HM.out.2.2; omega
          obtain ⟨a, ha, _, ca⟩ := H8.out.2.bs.cell t hlt
          rw [HZ.out t ht hlt] at ca
          subst ha
          go_wp2
          go_roundw
          case rel => exact ⟨t + 1, by omega, by go_num, trivial⟩
          case measure => simp [intOf]; omega
        · have hti : ((t : Int) < (S : Int)) = False := eq_false (by omega)
          have KN := known12_calls wr
          clear ht hlt
          go_wp2_with fail
          refine KN.mono ?_
          rintro e wb ⟨rfl, hb⟩
          clear KN
          have hTb := H8.out.1.below hb
          have HTb : Hid (Tc f B_f T_f P (N : Nat) (K : Nat) (B : Nat) w wb) := hTb
          have hC := hTb.cb
          clear hb hTb
          have u0 := (hC).c0
          have u1 := (hC).c1
          have u2 := (hC).c2
          clear hC
          go_wp2
          go_ret
          exact ⟨rfl, HTb.out.tw.but.below (Nat.le_refl _) (by rintro k rfl; exact HTf.out)⟩
theorem own : ownKnob Tryz.prog.godebug = none := by kernel_rfl
theorem laidOut : laidOutB Tryz.prog = true := by kernel_rfl
set_option maxRecDepth 100000 in
theorem lifted (os : Os) (started : os.Started) (H : Type) (enc : TypeId × Value → H) :
    ReturnsInHanded {} Tryz.checked os 7 .any (Rows.syndModifiedSpec.pre6 enc Tryz.prog Tryz.f7 Rows.syndModifiedRow.domain false) (Rows.syndModifiedSpec.post enc Tryz.prog Tryz.f7 false true false false) := by
  refine returnsInHanded_of_change_sized (C := Tryz.checked) own started (by kernel_rfl) Tryz.func7
    (ChangeSpec.witness6 (enc := enc) (C := Tryz.checked) false ⟨#[], #[.int .u8 0, .int .u8 0, .int .u8 0, .int .u8 0, .slice none 0 0, .slice none 0 0], []⟩ 8 (by kernel_rfl) (by kernel_rfl) (by kernel_rfl) (by kernel_rfl)) ?_
  intro W base args ds gs before hval0 hW _ hz _
  have hval : ∀ (j : Nat) t v, Tryz.f7.params[j]? = some t → args[j]? = some v → Value.okWide Tryz.prog W .any base t v := hval0
  have hW' := hW
  obtain ⟨p, q, hA0, hV, rfl, _, _⟩ := hW
  have hA : DataW.TrodAll enc Tryz.prog W 0 (fun _ => true) true Tryz.f7.params.toList args.toList ds p := hA0
  rw [Tryz.params7] at hA hval
  obtain ⟨v0, vs0, d0, ds0, p0, q0, hargs, rfl, rfl, h0, r0⟩ := trodAll_cons hA
  obtain ⟨v1, vs1, d1, ds1, p1, q1, rfl, rfl, rfl, h1, r1⟩ := trodAll_cons r0
  obtain ⟨v2, vs2, d2, ds2, p2, q2, rfl, rfl, rfl, h2, r2⟩ := trodAll_cons r1
  obtain ⟨v3, vs3, d3, ds3, p3, q3, rfl, rfl, rfl, h3, r3⟩ := trodAll_cons r2
  obtain ⟨v4, vs4, d4, ds4, p4, q4, rfl, rfl, rfl, h4, r4⟩ := trodAll_cons r3
  obtain ⟨v5, vs5, d5, ds5, p5, q5, rfl, rfl, rfl, h5, r5⟩ := trodAll_cons r4
  obtain ⟨rfl, rfl, rfl⟩ := trodAll_nil r5
  obtain rfl : args = #[v0, v1, v2, v3, v4, v5] := by cases args; simp_all
  obtain ⟨rfl, rfl⟩ := trodVars_none hV
  obtain ⟨a0, rfl, rfl, rfl, w0⟩ := open_int Tryz.underlying5 (hval 0 5 v0 rfl rfl) h0
  obtain ⟨n0, b0, rfl⟩ := nat_of_u8 w0
  obtain ⟨a1, rfl, rfl, rfl, w1⟩ := open_int Tryz.underlying5 (hval 1 5 v1 rfl rfl) h1
  obtain ⟨n1, b1, rfl⟩ := nat_of_u8 w1
  obtain ⟨a2, rfl, rfl, rfl, w2⟩ := open_int Tryz.underlying5 (hval 2 5 v2 rfl rfl) h2
  obtain ⟨n2, b2, rfl⟩ := nat_of_u8 w2
  obtain ⟨a3, rfl, rfl, rfl, w3⟩ := open_int Tryz.underlying5 (hval 3 5 v3 rfl rfl) h3
  obtain ⟨n3, b3, rfl⟩ := nat_of_u8 w3
  have k4 := h4
  obtain ⟨q4, n4, c4, xs4, rfl, w4, m4⟩ := open_bytes_sz Tryz.underlying24 Tryz.underlying5 (by kernel_rfl) (hval 4 24 v4 rfl rfl) h4
  have y4 : n4 ≤ c4 ∧ c4 ≤ 140737488351232 := ⟨m4.1, m4.2 _ fun el sp hd => by have := sized_slice (j := 4) (t := 24) (e := 5) (elems := el) (spare := sp) hz (by kernel_rfl) (by first | (rw [← hd]; done) | (rw [← hd]; rfl)) Tryz.underlying24; have hbe : Tryz.checked.prog.bytesOf 5 = 1 := (by kernel_rfl); have hre : reachBytes = 140737488351232 := rfl; rw [hbe, hre] at this; omega⟩
  have k5 := h5
  obtain ⟨q5, n5, c5, xs5, rfl, w5, m5⟩ := open_bytes_sz Tryz.underlying24 Tryz.underlying5 (by kernel_rfl) (hval 5 24 v5 rfl rfl) h5
  have y5 : n5 ≤ c5 ∧ c5 ≤ 140737488351232 := ⟨m5.1, m5.2 _ fun el sp hd => by have := sized_slice (j := 5) (t := 24) (e := 5) (elems := el) (spare := sp) hz (by kernel_rfl) (by first | (rw [← hd]; done) | (rw [← hd]; rfl)) Tryz.underlying24; have hbe : Tryz.checked.prog.bytesOf 5 = 1 := (by kernel_rfl); have hre : reachBytes = 140737488351232 := rfl; rw [hbe, hre] at this; omega⟩
  clear hA0 hval0
  simp only [List.append_nil] at hW'
  refine (walk (w := W) n0 n1 n2 n3 q4 n4 c4 xs4 q5 n5 c5 xs5 b0 b1 b2 b3 w4 y4 w5 y5).mono fun e W' ⟨he, bel⟩ => ?_
  subst he
  exact ⟨_, rfl, _, _, _, [], _, [], hW', trodAll_mk1 (shut_bool Tryz.underlying4 _), (trodAll_cons_mk (shut_int Tryz.underlying5 w0) (trodAll_cons_mk (shut_int Tryz.underlying5 w1) (trodAll_cons_mk (shut_int Tryz.underlying5 w2) (trodAll_cons_mk (shut_int Tryz.underlying5 w3) (trodAll_cons_mk (shut_same laidOut (by kernel_rfl) (of_decide_eq_true (by kernel_rfl)) k4 bel) (trodAll_cons_mk (shut_same laidOut (by kernel_rfl) (of_decide_eq_true (by kernel_rfl)) k5 bel) trodAll_mk0)))))), rfl, bel.frame _, fun h => by cases h⟩
theorem over : Rows.syndModifiedRow.holds Tryz.pinned (OpenSpec.ofChange Rows.syndModifiedSpec) :=
  OpenClaim.holds_of_wide 7 Tryz.f7 rfl rfl rfl rfl rfl rfl rfl ⟨rfl, rfl, rfl, rfl, rfl⟩ rfl rfl rfl rfl rfl (by kernel_rfl) Tryz.func7 (by kernel_rfl)
    (of_decide_eq_true (by kernel_rfl)) (by unfold Func.isWrapper; first | (rw [if_pos (by decide +kernel)]; kernel_rfl) | (rw [if_neg (by decide +kernel)]; exact ⟨rfl, rfl⟩))
    (fun os started H enc _ => lifted os started H enc)
theorem proved : Rows.SyndModifiedSaid := over
#print axioms proved
end Go.Proofs.YtddhefhabhgdfaaGreat.syndModified
