/- SyndWords holds for every input: syndromes are all 0 just of words; what was added to a word alone is seen. No conditions. -/
import Derived.Test.YtddhefhabhgdfaaGreatRows
import Derived.Test.YtddhefhabhgdfaaGreatMB
import Derived.Test.YtddhefhabhgdfaaGreatOB
import Derived.Test.YtddhefhabhgdfaaGreatOQ
import Derived.Test.YtddhefhabhgdfaaGreatOG
import Derived.Test.YtddhefhabhgdfaaGreatOU
namespace Go.Proofs.YtddhefhabhgdfaaGreat.syndWords
open Go.ChangeShapes Go.WideShapes Go.ChangeAt Go.RowKit
open Pol (IsN Dg ofL Byt)

/-- Of a word and something added, what was added alone is seen. -/
theorem syL_add {N S B : Nat} {ws us ts : List Nat} (hw : Cd.IsW N S B ws) (hu : us.length = N) (ht : ts.length = N) (e : ofL ts = Pol.add (ofL ws) (ofL us)) : Cd.syL S B ts = Cd.syL S B us := by
  refine Mx.list_ext (by rw [Cd.syL_length, Cd.syL_length]) fun j hj => ?_
  rw [Cd.syL_length] at hj
  have h1 := Cd.ofL_syL (B := B) ht hj
  have h2 := Cd.ofL_syL (B := B) hu hj
  have h3 := Cd.ofL_syL (B := B) hw.1 hj
  rw [e, Cd.sy_add] at h1
  have h4 : ofL (Cd.syL S B ws) j = 0 := by
    show GF.of _ = 0
    rw [(Cd.syL_isW hw.1).2 hw j]; rfl
  rw [h4] at h3
  have h5 : ofL (Cd.syL S B ts) j = ofL (Cd.syL S B us) j := by
    rw [h1, h2]
    show Cd.sy N B (ofL ws) j + Cd.sy N B (ofL us) j = _
    rw [← h3, GF.zero_add]
  have h6 : (GF.of ((Cd.syL S B ts).getD j 0)).val = (GF.of ((Cd.syL S B us).getD j 0)).val := congrArg GF.val h5
  rwa [GF.of_val _ (Cd.syL_byt _ _ _ j), GF.of_val _ (Cd.syL_byt _ _ _ j)] at h6
/-- Are the first t all 0? -/
def zk (l : List Nat) (t : Nat) : Bool := (l.take t).all (· == 0)
theorem zk_succ (l : List Nat) (t : Nat) (h : t < l.length) : zk l (t + 1) = (zk l t && l.getD t 0 == 0) := by
  unfold zk
  rw [Pol.take_snoc' l t h, List.all_append]
  simp
theorem zk_all {S B N : Nat} {ts : List Nat} (ht : ts.length = N) : zk (Cd.syL S B ts) S = decide (Cd.IsW N S B ts) := by
  have h := Cd.syL_isW (S := S) (B := B) ht
  unfold zk
  rw [List.take_of_length_le (by rw [Cd.syL_length]; exact Nat.le_refl _), Bool.eq_iff_iff, List.all_eq_true, decide_eq_true_iff, ← h]
  constructor
  · intro h1 j
    by_cases hj : j < S
    · have := h1 ((Cd.syL S B ts).getD j 0) (by
        rw [List.getD_eq_getElem?_getD, List.getElem?_eq_getElem (by rw [Cd.syL_length]; exact hj)]
        exact List.getElem_mem _)
      simpa using this
    · exact Mx.getD_out (by rw [Cd.syL_length]; omega)
  · intro h1 x hx
    obtain ⟨i, hi, e⟩ := List.getElem_of_mem hx
    have := h1 i
    rw [List.getD_eq_getElem?_getD, List.getElem?_eq_getElem hi] at this
    have h2 : (Cd.syL S B ts)[i] = 0 := this
    rw [← e, h2]; rfl

set_option maxRecDepth 100000 in
set_option maxHeartbeats 8000000 in
theorem walk (j n k b : Nat) (qm : Option Addr) (lm cm : Nat) (xsm : List Nat) (qe : Option Addr) (le ce : Nat) (xse : List Nat) (w : World) (_hj : j < 256) (hn : n < 256) (hk : k < 256) (hb : b < 256) (hsm : Bs w qm lm xsm) (hcm : lm ≤ cm ∧ cm ≤ 140737488351232) (hse : Bs w qe le xse) (hce : le ≤ ce ∧ ce ≤ 140737488351232) :
    Calls Tryz.prog 4 #[.int .u8 j, .int .u8 n, .int .u8 k, .int .u8 b, .slice qm lm cm, .slice qe le ce] w fun e w' => e = .returned (.bool true) ∧ Below w.heap.size w w' := by
  obtain ⟨f, hf⟩ : ∃ f : Nat, 1 + j % 3 = f := ⟨_, rfl⟩
  have hf1 : 1 ≤ f := by omega
  have hf3 : f ≤ 3 := by omega
  have hfi : (1 : Int) + (j : Int) % 3 = (f : Int) := by omega
  have hK0 : ∀ W, Calls Tryz.prog 10 _ W _ := fun W => lcode_calls n k b hn hk hb W
  have hcod := ck_cod n k b
  have hle := ckN_le n k
  obtain ⟨N, hN⟩ : ∃ N, ckN n k = N := ⟨_, rfl⟩
  obtain ⟨K, hK⟩ : ∃ K, ckK n k = K := ⟨_, rfl⟩
  obtain ⟨B, hB⟩ : ∃ B, ckB b = B := ⟨_, rfl⟩
  obtain ⟨S, hS⟩ : ∃ S, N - K = S := ⟨_, rfl⟩
  rw [hN, hK, hB] at hK0 hcod
  rw [hN] at hle
  obtain ⟨ms, hms⟩ : ∃ ms, Cd.wd K xsm = ms := ⟨_, rfl⟩
  have hml : ms.length = K := hms ▸ Cd.wd_length K xsm
  have hmb : Byt ms := hms ▸ Cd.wd_byt hsm.byte K
  obtain ⟨ws, hws⟩ := Cd.isEnc_exists (N := N) (S := S) (K := K) (B := B) hml hmb (by have := hcod.n; omega)
  obtain ⟨us, hus⟩ : ∃ us, Cd.wd N xse = us := ⟨_, rfl⟩
  have hul : us.length = N := hus ▸ Cd.wd_length N xse
  have hbw : Pol.Bd N (ofL ws) := by have := Pol.ofL_bd ws; rwa [hws.word.1] at this
  have hbu : Pol.Bd N (ofL us) := by have := Pol.ofL_bd us; rwa [hul] at this
  obtain ⟨ad, had, hal⟩ := Pol.isN_of_bd (hbw.add hbu)
  obtain ⟨la, hla⟩ : ∃ la, ad.length = la := ⟨_, rfl⟩
  obtain ⟨ts, hts⟩ : ∃ ts, Cd.wd N ad = ts := ⟨_, rfl⟩
  have htl : ts.length = N := hts ▸ Cd.wd_length N ad
  have hte : ofL ts = Pol.add (ofL ws) (ofL us) := by rw [← hts, Cd.ofL_wd ((Pol.ofL_bd ad).mono_le hal), had.eq]
  obtain ⟨ys, hys⟩ : ∃ ys, Cd.syL S B ts = ys := ⟨_, rfl⟩
  have hyu : Cd.syL S B us = ys := by rw [← hys, syL_add hws.word hul htl hte]
  have hyl : ys.length = S := hys ▸ Cd.syL_length S B ts
  have hyb : Byt ys := hys ▸ Cd.syL_byt S B ts
  have hzk : zk ys S = decide (Cd.IsW N S B ts) := hys ▸ zk_all htl
  have K0 : Hid (∀ W, Calls Tryz.prog 10 #[.int .u8 n, .int .u8 k, .int .u8 b] W fun e w' => e = .returned (.agg #[.int .i64 (N : Nat), .int .i64 (K : Nat), .int .i64 (B : Nat)]) ∧ Below W.heap.size W w') := hK0
  have HM : Hid (Cod N K B ∧ N - K = S ∧ N ≤ 69 ∧ Cd.wd K xsm = ms ∧ ms.length = K ∧ Byt ms ∧ Cd.IsEnc N S B ms ws) := ⟨hcod, hS, hle.2, hms, hml, hmb, hws⟩
  have hN69 : (N : Int) ≤ 69 := by omega
  have HSm : Hid (Bs w qm lm xsm ∧ lm ≤ cm) := ⟨hsm, hcm.1⟩
  have HSe : Hid (Bs w qe le xse ∧ le ≤ ce) := ⟨hse, hce.1⟩
  have HM2 : Hid (Cd.wd N xse = us ∧ us.length = N ∧ IsN ad (Pol.add (ofL ws) (ofL us)) ∧ ad.length = la ∧ la ≤ N ∧ Cd.wd N ad = ts ∧ ts.length = N) := ⟨hus, hul, had, hla, by rw [← hla]; exact hal, hts, htl⟩
  have HM3 : Hid (Cd.syL S B ts = ys ∧ Cd.syL S B us = ys ∧ ys.length = S ∧ Byt ys ∧ zk ys S = decide (Cd.IsW N S B ts)) := ⟨hys, hyu, hyl, hyb, hzk⟩
  clear hms hml hmb hws hus hul hbw hbu had hal hla hts htl hte hys hyu hyl hyb hzk hf hN hK hB hS hK0 hcod hle hn hk hb _hj hsm hcm hse hce
  have HE : Hid (IsEn (N : Nat) (K : Nat) (B : Nat) ms ws 0) := .inr (.inr ⟨rfl, N, K, B, S, rfl, rfl, rfl, HM.out.1, HM.out.2.1, HM.out.2.2.2.2.1, HM.out.2.2.2.2.2.2⟩)
  have hNKi : (N : Int) - (K : Int) = (S : Int) := by have := HM.out.1.n; have := HM.out.2.1; omega
  have hS0 : (0 : Int) ≤ (S : Int) := by omega
  have hSN : (S : Int) ≤ (N : Int) := by omega
  have HB : Below w.heap.size w w := Below.refl _ _
  go_enter Tryz.func4, Tryz.ntmps4
  go_wp2_with fail
  refine (fof_calls f hf1 hf3 _).mono ?_
  rintro e w1 ⟨B_f, T_f, rfl, HF_f, hb, hlB, hlT⟩
  have HL_f : w.heap.size ≤ T_f := Nat.le_trans HB.size hlT
  replace HB := HB.trans (hb.mono HB.size)
  clear hb hlB hlT
  clear hfi hf1 hf3
  have HT1 : Hid (Below w.heap.size w w1 ∧ Fd f B_f T_f w1 ∧ w.heap.size ≤ T_f) := ⟨HB, HF_f, HL_f⟩
  clear HB HF_f HL_f
  go_wp2_with fail
  refine (K0.out w1).mono ?_
  rintro e w2 ⟨rfl, hb⟩
  have HT2 : Hid (Below w.heap.size w w2 ∧ Fd f B_f T_f w2 ∧ w.heap.size ≤ T_f) := ⟨HT1.out.1.trans (hb.mono HT1.out.1.size), HT1.out.2.1.below hb, HT1.out.2.2⟩
  have HTf : Hid (w.heap.size ≤ T_f) := HT2.out.2.2
  clear hb K0
  obtain ⟨P, hP⟩ : ∃ P, w2.heap.size = P := ⟨_, rfl⟩
  obtain ⟨W3, hW3⟩ : ∃ W3, w2.alloc (.cells #[.int .i64 (N : Nat), .int .i64 (K : Nat), .int .i64 (B : Nat)] 23) = W3 := ⟨_, rfl⟩
  have hT3 : Tc f B_f T_f P (N : Nat) (K : Nat) (B : Nat) w W3 := by
    have h := tc_new HT2.out.2.1 (N : Int) (K : Int) (B : Int)
    rw [hP, hW3] at h
    exact ⟨⟨h.tw.fd, (But.of_below HT2.out.1).trans h.tw.but⟩, h.cb, h.nT⟩
  have HPlm : Hid (∀ W, Tc f B_f T_f P (N : Nat) (K : Nat) (B : Nat) w W → Tl W T_f qm lm cm xsm) := fun W hW => (⟨HSm.out.1, HSm.out.2, HSm.out.1.off HT2.out.2.2⟩ : Tl w T_f qm lm cm xsm).but hW.tw.but
  have HPle : Hid (∀ W, Tc f B_f T_f P (N : Nat) (K : Nat) (B : Nat) w W → Tl W T_f qe le ce xse) := fun W hW => (⟨HSe.out.1, HSe.out.2, HSe.out.1.off HT2.out.2.2⟩ : Tl w T_f qe le ce xse).but hW.tw.but
  have HT3 : Hid (Tc f B_f T_f P (N : Nat) (K : Nat) (B : Nat) w W3) := hT3
  clear HT1 HT2
  obtain ⟨G, hG⟩ : ∃ G, W3.heap.size = G := ⟨_, rfl⟩
  obtain ⟨W4, hW4⟩ : ∃ W4, W3.alloc (.cells (madeCells #[.int .u8 0] K) 5) = W4 := ⟨_, rfl⟩
  have hmk := make_bytes K (by have := HM.out.1.n; have := HM.out.2.2.1; omega)
  have hb34 : Below W3.heap.size W3 W4 := hW4 ▸ (Below.refl _ W3).alloc (Nat.le_refl _) _
  have hO4 : Ow W4 G (.slice (some ⟨G, 0, none⟩) K K) (List.replicate K 0) := by rw [← hW4, ← hG]; exact ow_made W3 (Nat.le_refl _) K (by have := HM.out.1.n; have := HM.out.2.2.1; omega)
  obtain ⟨mm, W5, hcp, hO5, hb5⟩ := run_copy_word W4 3 G G K lm cm qm xsm hO4 ((HPlm.out W3 hT3).bs.below hb34)
  rw [HM.out.2.2.2.1] at hO5
  have hb35 : Below W3.heap.size W3 W5 := hb34.trans (hb5.below hb34.size (fun k hk => by omega))
  have hT5 := hT3.below hb35
  obtain ⟨q5, c5, e5, l5⟩ := hO5.tl (T := T_f) (n := K) (by rw [← hG]; exact hT3.lt) HM.out.2.2.2.2.2.1 HM.out.2.2.2.2.1
  cases e5
  have H5 : Hid (Tl W5 T_f (some ⟨G, 0, none⟩) K K ms ∧ Tc f B_f T_f P (N : Nat) (K : Nat) (B : Nat) w W5) := ⟨l5, hT5⟩
  have hC := hT3.cb
  have hC4 := hC.below hb34
  have hC5 := hT5.cb
  have KX := r11en_u N K B (some ⟨G, 0, none⟩) K K ms ws 0 HE.out l5.le W5 l5.bs
  clear hT3 hb34 hO4 hO5 hb5 hb35 hT5 l5
  have u0 := (hC).c0
  have u1 := (hC).c1
  have u2 := (hC).c2
  have v0 := (hC4).c0
  have v1 := (hC4).c1
  have v2 := (hC4).c2
  have x0 := (hC5).c0
  have x1 := (hC5).c1
  have x2 := (hC5).c2
  clear hC hC4 hC5
  go_wp2_with fail
  refine KX.mono ?_
  rintro e w6 ⟨v6, rfl, hO, hb⟩
  clear KX hcp hmk hW4 hG hP hW3
  clear u0 u1 u2
  clear v0 v1 v2
  clear x0 x1 x2
  obtain ⟨q6, c6, rfl, l6⟩ := hO.tl H5.out.2.lt HM.out.2.2.2.2.2.2.byt HM.out.2.2.2.2.2.2.word.1
  have hT6 := H5.out.2.below hb
  have KX := kword f B_f T_f P N K B w qe le ce xse (by have := HM.out.2.2.1; omega) w6 hT6 (HPle.out w6 hT6)
  rw [HM2.out.1] at KX
  have H6 : Hid (Tl w6 T_f q6 N c6 ws) := l6
  have hC := hT6.cb
  clear hT6 l6 hO hb
  have u0 := (hC).c0
  have u1 := (hC).c1
  have u2 := (hC).c2
  clear hC
  go_wp2_with fail
  refine KX.mono ?_
  rintro e w7 ⟨q7, c7, rfl, l7, hT7, hb7⟩
  clear KX
  clear u0 u1 u2
  have H7 : Hid (∀ W, But (· = T_f) w7 W → Tl W T_f q6 N c6 ws ∧ Tl W T_f q7 N c7 us) := fun W hW => ⟨(H6.out.but hb7).but hW, l7.but hW⟩
  have KA : Hid (Calls Tryz.prog 16 #[.slice q6 N c6, .slice q7 N c7] w7.drew fun e w' => ∃ q c, e = .returned (.slice q la c) ∧ Tl w' T_f q la c ad ∧ Tc f B_f T_f P (N : Nat) (K : Nat) (B : Nat) w w' ∧ But (· = T_f) w7.drew w') := kadd f B_f T_f P N K B w q6 q7 N c6 N c7 la ws us ad HM2.out.2.2.1 HM2.out.2.2.2.1 (by have := HM.out.2.2.1; omega) (by have := HM.out.2.2.1; omega) w7.drew hT7.drew (H7.out _ ((But.refl _ _).drew)).1 (H7.out _ ((But.refl _ _).drew)).2
  have KW : Hid (∀ q c W, Tc f B_f T_f P (N : Nat) (K : Nat) (B : Nat) w W → Tl W T_f q la c ad → Calls Tryz.prog 12 #[.agg #[.int .i64 (N : Nat), .int .i64 (K : Nat), .int .i64 (B : Nat)], .slice q la c] W fun e w' => ∃ q c, e = .returned (.slice q N c) ∧ Tl w' T_f q N c ts ∧ Tc f B_f T_f P (N : Nat) (K : Nat) (B : Nat) w w' ∧ But (· = T_f) W w') := fun q c W hW hs => by
    have := kword f B_f T_f P N K B w q la c ad (by have := HM.out.2.2.1; omega) W hW hs
    rw [HM2.out.2.2.2.2.2.1] at this
    exact this
  have hT0 := hT7.drew
  have hC := hT7.cb
  clear hT7 l7 hb7
  have u0 := (hC).c0
  have u1 := (hC).c1
  have u2 := (hC).c2
  clear hC
  go_wp2
  go_region_held3 (fun w' => w'.cell? ⟨P, 0, none⟩ = some (.int .i64 (N : Nat)) ∧ w'.cell? ⟨P, 1, none⟩ = some (.int .i64 (K : Nat)) ∧ w'.cell? ⟨P, 2, none⟩ = some (.int .i64 (B : Nat)))
    (first | (with_reducible exact ⟨hT9.cb.c0, hT9.cb.c1, hT9.cb.c2⟩) | (with_reducible exact ⟨hT8.cb.c0, hT8.cb.c1, hT8.cb.c2⟩) | (with_reducible exact ⟨hT0.cb.c0, hT0.cb.c1, hT0.cb.c2⟩))
    (first
      | (go_at_call 16; with_reducible refine KA.out.mono ?_; rintro e w8 ⟨q8, c8, rfl, l8, hT8, hb8⟩)
      | (go_at_call 12; with_reducible refine (KW.out _ _ _ hT8 l8).mono ?_; rintro e w9 ⟨q9, c9, rfl, l9, hT9, hb9⟩))
  clear u0 u1 u2
  have H9 : Hid (∀ W, But (· = T_f) w9 W → Tl W T_f q7 N c7 us ∧ Tl W T_f q9 N c9 ts) := fun W hW => ⟨(H7.out _ ((((But.refl _ w7).drew).trans hb8).trans hb9)).2.but hW, l9.but hW⟩
  have KX := ksynd f B_f T_f P N K B N K B w q9 N c9 S ts ys ((syR_yes HM.out.1 HM.out.2.1 HM2.out.2.2.2.2.2.2).trans HM3.out.1) HM3.out.2.2.1 w9 hT9 l9
  have hC := hT9.cb
  clear hT0 hT8 hT9 l8 l9 hb8 hb9 KA KW
  have u0 := (hC).c0
  have u1 := (hC).c1
  have u2 := (hC).c2
  clear hC
  go_wp2_with fail
  refine KX.mono ?_
  rintro e wa ⟨qa, ca, rfl, la', hTa, hba⟩
  clear KX
  clear u0 u1 u2
  have HA : Hid (∀ W, But (· = T_f) wa W → Tl W T_f q7 N c7 us ∧ Tl W T_f q9 N c9 ts ∧ Tl W T_f qa S ca ys) := fun W hW => ⟨(H9.out _ (hba.trans hW)).1, (H9.out _ (hba.trans hW)).2, la'.but hW⟩
  have HTa : Hid (Tc f B_f T_f P (N : Nat) (K : Nat) (B : Nat) w wa) := hTa
  clear la' hTa hba
  go_wp2
  go_loopw [21, 22] (fun z i wr => ∃ t : Nat, t ≤ S ∧ i = .int .i64 (t : Int) ∧ z = .bool (zk ys t) ∧ wr = wa) (fun _ i _ => S - (intOf i).toNat)
  case atStart => exact ⟨0, by omega, rfl, rfl, rfl⟩
  case round =>
    obtain ⟨t, ht, rfl, rfl, rfl⟩ := hrel
    by_cases hlt : t < S
    · have hti : (t : Int) < (S : Int) := by omega
      have hti0 : (0 : Int) ≤ (t : Int) := by omega
      have ht6 : (t : Int) ≤ 1000000 := by have := HM.out.2.2.1; omega
      obtain ⟨a, ha, _, cx⟩ := (HA.out wr (But.refl _ _)).2.2.bs.cell t hlt
      have hzs := zk_succ ys t (by rw [HM3.out.2.2.1]; exact hlt)
      obtain ⟨z, hz⟩ : ∃ z, ys.getD t 0 = z := ⟨_, rfl⟩
      rw [hz] at cx hzs
      subst ha
      obtain ⟨bz, hbz⟩ : ∃ bz, zk ys t = bz := ⟨_, rfl⟩
      rw [hbz] at hzs ⊢
      clear hbz hz
      cases bz
      · have HZ : Hid (zk ys (t + 1) = false) := by rw [Bool.false_and] at hzs; exact hzs
        clear hzs
        go_wp2
        go_roundw
        case rel => exact ⟨t + 1, by omega, by go_num, by rw [HZ.out], trivial⟩
        case measure => simp [intOf]; omega
      · by_cases hz0 : z = 0
        · have HZ : Hid (zk ys (t + 1) = true) := by rw [hz0] at hzs; exact hzs
          have hz' : ((z : Int) == 0) = true := by rw [hz0]; rfl
          clear hzs hz0
          go_wp2
          go_roundw
          case rel => exact ⟨t + 1, by omega, by go_num, by rw [HZ.out], trivial⟩
          case measure => simp [intOf]; omega
        · have HZ : Hid (zk ys (t + 1) = false) := by rw [hzs, beq_eq_false_iff_ne.2 hz0]; rfl
          have hz' : ((z : Int) == 0) = false := by simp; omega
          clear hzs hz0
          go_wp2
          go_roundw
          case rel => exact ⟨t + 1, by omega, by go_num, by rw [HZ.out], trivial⟩
          case measure => simp [intOf]; omega
    · obtain rfl : S = t := by omega
      obtain ⟨bw, hbw⟩ : ∃ bw, zk ys S = bw := ⟨_, rfl⟩
      have HW : Hid (decide (Cd.IsW N S B ts) = bw) := by rw [← HM3.out.2.2.2.2]; exact hbw
      rw [hbw]
      clear hbw
      have KN := known12_calls wr
      go_wp2_with fail
      refine KN.mono ?_
      rintro e wb ⟨rfl, hb⟩
      clear KN
      have hTb := HTa.out.below hb
      have HB : Hid (∀ W, But (· = T_f) wb W → Tl W T_f q7 N c7 us ∧ Tl W T_f q9 N c9 ts ∧ Tl W T_f qa S ca ys) := fun W hW => HA.out _ ((But.of_below hb).trans hW)
      have KX := ksynd f B_f T_f P N K B N K B w q7 N c7 S us ys ((syR_yes HM.out.1 HM.out.2.1 HM2.out.2.1).trans HM3.out.2.1) HM3.out.2.2.1 wb hTb (HB.out _ (But.refl _ _)).1
      have hC := hTb.cb
      clear hTb hb
      have u0 := (hC).c0
      have u1 := (hC).c1
      have u2 := (hC).c2
      clear hC
      go_wp2_with fail
      refine KX.mono ?_
      rintro e wc ⟨qc, cc, rfl, lc, hTc, hbc⟩
      clear KX
      clear u0 u1 u2
      have KX := ksame12 f B_f T_f P N K B w qa qc S ca cc ys wc hTc (HB.out _ hbc).2.2 lc
      have HC : Hid (But (· = T_f) wb wc) := hbc
      clear hTc lc hbc
      go_wp2_with fail
      refine KX.mono ?_
      rintro e wd ⟨rfl, hTd, hbd⟩
      clear KX
      have KX := khas f B_f T_f P N K B S w q9 N c9 ts bw HM.out.1 HM.out.2.1 HW.out wd hTd (HB.out _ (HC.out.trans hbd)).2.1
      have hC := hTd.cb
      clear hTd hbd
      have u0 := (hC).c0
      have u1 := (hC).c1
      have u2 := (hC).c2
      clear hC
      go_wp2_with fail
      refine KX.mono ?_
      rintro e we ⟨rfl, hTe, -⟩
      clear KX
      clear u0 u1 u2
      have hC := hTe.cb
      have HTe : Hid (Tc f B_f T_f P (N : Nat) (K : Nat) (B : Nat) w we) := hTe
      clear hTe
      have u0 := (hC).c0
      have u1 := (hC).c1
      have u2 := (hC).c2
      clear hC
      go_wp2
      go_ret
      exact ⟨rfl, HTe.out.tw.but.below (Nat.le_refl _) (by rintro k rfl; exact HTf.out)⟩
theorem own : ownKnob Tryz.prog.godebug = none := by kernel_rfl
theorem laidOut : laidOutB Tryz.prog = true := by kernel_rfl
set_option maxRecDepth 100000 in
theorem lifted (os : Os) (started : os.Started) (H : Type) (enc : TypeId × Value → H) :
    ReturnsInHanded {} Tryz.checked os 4 .any (Rows.syndWordsSpec.pre6 enc Tryz.prog Tryz.f4 Rows.syndWordsRow.domain false) (Rows.syndWordsSpec.post enc Tryz.prog Tryz.f4 false true false false) := by
  refine returnsInHanded_of_change_sized (C := Tryz.checked) own started (by kernel_rfl) Tryz.func4
    (ChangeSpec.witness6 (enc := enc) (C := Tryz.checked) false ⟨#[], #[.int .u8 0, .int .u8 0, .int .u8 0, .int .u8 0, .slice none 0 0, .slice none 0 0], []⟩ 8 (by kernel_rfl) (by kernel_rfl) (by kernel_rfl) (by kernel_rfl)) ?_
  intro W base args ds gs before hval0 hW _ hz _
  have hval : ∀ (j : Nat) t v, Tryz.f4.params[j]? = some t → args[j]? = some v → Value.okWide Tryz.prog W .any base t v := hval0
  have hW' := hW
  obtain ⟨p, q, hA0, hV, rfl, _, _⟩ := hW
  have hA : DataW.TrodAll enc Tryz.prog W 0 (fun _ => true) true Tryz.f4.params.toList args.toList ds p := hA0
  rw [Tryz.params4] at hA hval
  obtain ⟨v0, vs0, d0, ds0, p0, q0, hargs, rfl, rfl, h0, r0⟩ := trodAll_cons hA
  obtain ⟨v1, vs1, d1, ds1, p1, q1, rfl, rfl, rfl, h1, r1⟩ := trodAll_cons r0
  obtain ⟨v2, vs2, d2, ds2, p2, q2, rfl, rfl, rfl, h2, r2⟩ := trodAll_cons r1
  obtain ⟨v3, vs3, d3, ds3, p3, q3, rfl, rfl, rfl, h3, r3⟩ := trodAll_cons r2
  obtain ⟨v4, vs4, d4, ds4, p4, q4, rfl, rfl, rfl, h4, r4⟩ := trodAll_cons r3
  obtain ⟨v5, vs5, d5, ds5, p5, q5, rfl, rfl, rfl, h5, r5⟩ := trodAll_cons r4
  obtain ⟨rfl, rfl, rfl⟩ := trodAll_nil r5
  obtain rfl : args = #[v0, v1, v2, v3, v4, v5] := by cases args; simp_all
  obtain ⟨rfl, rfl⟩ := trodVars_none hV
  obtain ⟨a0, rfl, rfl, rfl, w0⟩ := open_int Tryz.underlying5 (hval 0 5 v0 rfl rfl) h0
  obtain ⟨n0, b0, rfl⟩ := nat_of_u8 w0
  obtain ⟨a1, rfl, rfl, rfl, w1⟩ := open_int Tryz.underlying5 (hval 1 5 v1 rfl rfl) h1
  obtain ⟨n1, b1, rfl⟩ := nat_of_u8 w1
  obtain ⟨a2, rfl, rfl, rfl, w2⟩ := open_int Tryz.underlying5 (hval 2 5 v2 rfl rfl) h2
  obtain ⟨n2, b2, rfl⟩ := nat_of_u8 w2
  obtain ⟨a3, rfl, rfl, rfl, w3⟩ := open_int Tryz.underlying5 (hval 3 5 v3 rfl rfl) h3
  obtain ⟨n3, b3, rfl⟩ := nat_of_u8 w3
  have k4 := h4
  obtain ⟨q4, n4, c4, xs4, rfl, w4, m4⟩ := open_bytes_sz Tryz.underlying24 Tryz.underlying5 (by kernel_rfl) (hval 4 24 v4 rfl rfl) h4
  have y4 : n4 ≤ c4 ∧ c4 ≤ 140737488351232 := ⟨m4.1, m4.2 _ fun el sp hd => by have := sized_slice (j := 4) (t := 24) (e := 5) (elems := el) (spare := sp) hz (by kernel_rfl) (by first | (rw [← hd]; done) | (rw [← hd]; rfl)) Tryz.underlying24; have hbe : Tryz.checked.prog.bytesOf 5 = 1 := (by kernel_rfl); have hre : reachBytes = 140737488351232 := rfl; rw [hbe, hre] at this; omega⟩
  have k5 := h5
  obtain ⟨q5, n5, c5, xs5, rfl, w5, m5⟩ := open_bytes_sz Tryz.underlying24 Tryz.underlying5 (by kernel_rfl) (hval 5 24 v5 rfl rfl) h5
  have y5 : n5 ≤ c5 ∧ c5 ≤ 140737488351232 := ⟨m5.1, m5.2 _ fun el sp hd => by have := sized_slice (j := 5) (t := 24) (e := 5) (elems := el) (spare := sp) hz (by kernel_rfl) (by first | (rw [← hd]; done) | (rw [← hd]; rfl)) Tryz.underlying24; have hbe : Tryz.checked.prog.bytesOf 5 = 1 := (by kernel_rfl); have hre : reachBytes = 140737488351232 := rfl; rw [hbe, hre] at this; omega⟩
  clear hA0 hval0
  simp only [List.append_nil] at hW'
  refine (walk (w := W) n0 n1 n2 n3 q4 n4 c4 xs4 q5 n5 c5 xs5 b0 b1 b2 b3 w4 y4 w5 y5).mono fun e W' ⟨he, bel⟩ => ?_
  subst he
  exact ⟨_, rfl, _, _, _, [], _, [], hW', trodAll_mk1 (shut_bool Tryz.underlying4 _), (trodAll_cons_mk (shut_int Tryz.underlying5 w0) (trodAll_cons_mk (shut_int Tryz.underlying5 w1) (trodAll_cons_mk (shut_int Tryz.underlying5 w2) (trodAll_cons_mk (shut_int Tryz.underlying5 w3) (trodAll_cons_mk (shut_same laidOut (by kernel_rfl) (of_decide_eq_true (by kernel_rfl)) k4 bel) (trodAll_cons_mk (shut_same laidOut (by kernel_rfl) (of_decide_eq_true (by kernel_rfl)) k5 bel) trodAll_mk0)))))), rfl, bel.frame _, fun h => by cases h⟩
theorem over : Rows.syndWordsRow.holds Tryz.pinned (OpenSpec.ofChange Rows.syndWordsSpec) :=
  OpenClaim.holds_of_wide 4 Tryz.f4 rfl rfl rfl rfl rfl rfl rfl ⟨rfl, rfl, rfl, rfl, rfl⟩ rfl rfl rfl rfl rfl (by kernel_rfl) Tryz.func4 (by kernel_rfl)
    (of_decide_eq_true (by kernel_rfl)) (by unfold Func.isWrapper; first | (rw [if_pos (by decide +kernel)]; kernel_rfl) | (rw [if_neg (by decide +kernel)]; exact ⟨rfl, rfl⟩))
    (fun os started H enc _ => lifted os started H enc)
theorem proved : Rows.SyndWordsSaid := over
#print axioms proved
end Go.Proofs.YtddhefhabhgdfaaGreat.syndWords
