/- CheckNear holds for every input: a word of the code is accepted for what it was turned to just as long as twice what is wrong, and what is erased, are no more than there are roots. No conditions. -/
import Derived.Test.YtjnkkokhkooegaaGreatRows
import Derived.Test.YtjnkkokhkooegaaGreatMB
import Derived.Test.YtjnkkokhkooegaaGreatOB
import Derived.Test.YtjnkkokhkooegaaGreatPZ
namespace Go.Proofs.YtjnkkokhkooegaaGreat.checkNear
open Go.ChangeShapes Go.WideShapes Go.ChangeAt Go.RowKit
open Pol (IsN Dg ofL Byt vl)

set_option maxRecDepth 100000 in
set_option maxHeartbeats 8000000 in
theorem walk (j n k b : Nat) (qm : Option Addr) (lm cm : Nat) (xsm : List Nat) (qd : Option Addr) (ld cd : Nat) (xsd : List Nat) (qx : Option Addr) (lx cx : Nat) (xsx : List Nat) (qe : Option Addr) (le ce : Nat) (xse : List Nat) (mo : Nat) (w : World) (_hj : j < 256) (hn : n < 256) (hk : k < 256) (hb : b < 256) (hsm : Bs w qm lm xsm) (hcm : lm ≤ cm ∧ cm ≤ 140737488351232) (hsd : Bs w qd ld xsd) (hcd : ld ≤ cd ∧ cd ≤ 140737488351232) (hsx : Bs w qx lx xsx) (hcx : lx ≤ cx ∧ cx ≤ 140737488351232) (hse : Bs w qe le xse) (hce : le ≤ ce ∧ ce ≤ 140737488351232) (hmo : mo < 256) :
    Calls Tryz.prog 7 #[.int .u8 j, .int .u8 n, .int .u8 k, .int .u8 b, .slice qm lm cm, .slice qd ld cd, .slice qx lx cx, .slice qe le ce, .int .u8 mo] w fun e w' => e = .returned (.bool true) ∧ Below w.heap.size w w' := by
  have hnot : ∀ (x : Bool) (w : World), (Op.unary .not (.bool x)).run Tryz.prog w = .ok (.bool (!x)) w := fun _ _ => rfl
  obtain ⟨f, hf⟩ : ∃ f : Nat, 1 + j % 3 = f := ⟨_, rfl⟩
  have hf1 : 1 ≤ f := by omega
  have hf3 : f ≤ 3 := by omega
  have hfi : (1 : Int) + (j : Int) % 3 = (f : Int) := by omega
  have hK0 : ∀ W, Calls Tryz.prog 9 _ W _ := fun W => lcode_calls n k b hn hk hb W
  have hcod := ck_cod n k b
  have hle := ckN_le n k
  obtain ⟨N, hN⟩ : ∃ N, ckN n k = N := ⟨_, rfl⟩
  obtain ⟨K, hK⟩ : ∃ K, ckK n k = K := ⟨_, rfl⟩
  obtain ⟨B, hB⟩ : ∃ B, ckB b = B := ⟨_, rfl⟩
  obtain ⟨S, hS⟩ : ∃ S, N - K = S := ⟨_, rfl⟩
  rw [hN, hK, hB] at hK0 hcod
  rw [hN] at hle
  obtain ⟨es, hes⟩ : ∃ es, erL N N xse = es := ⟨_, rfl⟩
  obtain ⟨m, hm⟩ : ∃ m, es.length = m := ⟨_, rfl⟩
  have hok : ErOk N N es := hes ▸ erL_ok (by omega) xse
  obtain ⟨ws, hE⟩ := Cd.isEnc_exists (N := N) (S := S) (K := K) (B := B) (m := Cd.wd K xsm) (Cd.wd_length K xsm) (Cd.wd_byt hsm.byte K) (by have := hcod.n; omega)
  have HQ : Hid (erL N N xse = es ∧ es.length = m ∧ ErOk N N es ∧ m ≤ 69 ∧ Cd.IsEnc N S B (Cd.wd K xsm) ws) := ⟨hes, hm, hok, by have := hok.len; omega, hE⟩
  obtain ⟨N1, hN1⟩ : ∃ N1, N + 1 = N1 := ⟨_, rfl⟩
  obtain ⟨r0, hr0⟩ : ∃ r0, mo % N1 = r0 := ⟨_, rfl⟩
  have hN1i : (N : Int) + 1 = (N1 : Int) := by omega
  have hwN1 := wrap_nat N1 (by omega)
  have hwmo := wrap_nat mo (by omega)
  have hN1z : ((N1 : Int) = 0) = False := eq_false (by omega)
  have hN1n : (N1 = 0) = False := eq_false (by omega)
  have hrt : (mo : Int).tmod (N1 : Int) = (r0 : Int) := by rw [← hr0]; exact (Int.ofNat_tmod mo N1).symm
  have HR0 : Hid (r0 ≤ 1000) := by have := Nat.mod_lt mo (show 0 < N1 by omega); show r0 ≤ 1000; omega
  have hm6 : (m : Int) ≤ 69 := by have := hok.len; omega
  have hwm := wrap_nat m (by have := hok.len; omega)
  have hKN : (K : Int) ≤ (N : Int) := by have := hcod.n; omega
  have hSi : (N : Int) - (K : Int) = (S : Int) := by have := hcod.n; omega
  have hS6 : (S : Int) ≤ 255 := by have := hcod.m; omega
  have hwS := wrap_nat S (by have := hcod.m; omega)
  clear hes hm hok hE hN1 hr0 hmo
  have K0 : Hid (∀ W, Calls Tryz.prog 9 #[.int .u8 n, .int .u8 k, .int .u8 b] W fun e w' => e = .returned (.agg #[.int .i64 (N : Nat), .int .i64 (K : Nat), .int .i64 (B : Nat)]) ∧ Below W.heap.size W w') := hK0
  have HM : Hid (Cod N K B ∧ N - K = S ∧ N ≤ 69) := ⟨hcod, hS, hle.2⟩
  have hN69 : (N : Int) ≤ 69 := by omega
  have HSm : Hid (Bs w qm lm xsm ∧ lm ≤ cm) := ⟨hsm, hcm.1⟩
  have HSd : Hid (Bs w qd ld xsd ∧ ld ≤ cd) := ⟨hsd, hcd.1⟩
  have HSx : Hid (Bs w qx lx xsx ∧ lx ≤ cx) := ⟨hsx, hcx.1⟩
  have HSe : Hid (Bs w qe le xse ∧ le ≤ ce) := ⟨hse, hce.1⟩
  clear hf hN hK hB hS hK0 hcod hle hn hk hb _hj hsm hcm hsd hcd hsx hcx hse hce
  have HB : Below w.heap.size w w := Below.refl _ _
  go_enter Tryz.func7, Tryz.ntmps7
  go_wp2_with fail
  refine (fof_calls f hf1 hf3 _).mono ?_
  rintro e w1 ⟨B_f, T_f, rfl, HF_f, hb, hlB, hlT⟩
  have HL_f : w.heap.size ≤ T_f := Nat.le_trans HB.size hlT
  replace HB := HB.trans (hb.mono HB.size)
  clear hb hlB hlT
  clear hfi hf1 hf3
  have HT1 : Hid (Below w.heap.size w w1 ∧ Fd f B_f T_f w1 ∧ w.heap.size ≤ T_f) := ⟨HB, HF_f, HL_f⟩
  clear HB HF_f HL_f
  go_wp2_with fail
  refine (K0.out w1).mono ?_
  rintro e w2 ⟨rfl, hb⟩
  have HT2 : Hid (Below w.heap.size w w2 ∧ Fd f B_f T_f w2 ∧ w.heap.size ≤ T_f) := ⟨HT1.out.1.trans (hb.mono HT1.out.1.size), HT1.out.2.1.below hb, HT1.out.2.2⟩
  have HTf : Hid (w.heap.size ≤ T_f) := HT2.out.2.2
  clear hb K0
  obtain ⟨P, hP⟩ : ∃ P, w2.heap.size = P := ⟨_, rfl⟩
  obtain ⟨W3, hW3⟩ : ∃ W3, w2.alloc (.cells #[.int .i64 (N : Nat), .int .i64 (K : Nat), .int .i64 (B : Nat)] 26) = W3 := ⟨_, rfl⟩
  have hT3 : Tc f B_f T_f P (N : Nat) (K : Nat) (B : Nat) w W3 := by
    have h := tc_new HT2.out.2.1 (N : Int) (K : Int) (B : Int)
    rw [hP, hW3] at h
    exact ⟨⟨h.tw.fd, (But.of_below HT2.out.1).trans h.tw.but⟩, h.cb, h.nT⟩
  have HPlm : Hid (∀ W, Tc f B_f T_f P (N : Nat) (K : Nat) (B : Nat) w W → Tl W T_f qm lm cm xsm) := fun W hW => (⟨HSm.out.1, HSm.out.2, HSm.out.1.off HT2.out.2.2⟩ : Tl w T_f qm lm cm xsm).but hW.tw.but
  have HPld : Hid (∀ W, Tc f B_f T_f P (N : Nat) (K : Nat) (B : Nat) w W → Tl W T_f qd ld cd xsd) := fun W hW => (⟨HSd.out.1, HSd.out.2, HSd.out.1.off HT2.out.2.2⟩ : Tl w T_f qd ld cd xsd).but hW.tw.but
  have HPlx : Hid (∀ W, Tc f B_f T_f P (N : Nat) (K : Nat) (B : Nat) w W → Tl W T_f qx lx cx xsx) := fun W hW => (⟨HSx.out.1, HSx.out.2, HSx.out.1.off HT2.out.2.2⟩ : Tl w T_f qx lx cx xsx).but hW.tw.but
  have HPle : Hid (∀ W, Tc f B_f T_f P (N : Nat) (K : Nat) (B : Nat) w W → Tl W T_f qe le ce xse) := fun W hW => (⟨HSe.out.1, HSe.out.2, HSe.out.1.off HT2.out.2.2⟩ : Tl w T_f qe le ce xse).but hW.tw.but
  have HT3 : Hid (Tc f B_f T_f P (N : Nat) (K : Nat) (B : Nat) w W3) := hT3
  clear HT1 HT2
  have KB : Hid (∀ W, Tc f B_f T_f P (N : Nat) (K : Nat) (B : Nat) w W → _) := fun W hW => kbent f B_f T_f P N K B S w r0 HM.out.1 HM.out.2.1 HR0.out qm qd qx lm cm ld cd lx cx xsm xsd xsx ws HQ.out.2.2.2.2 W hW (HPlm.out W hW) (HPld.out W hW) (HPlx.out W hW)
  have hT0 := HT3.out.drew
  have hC := HT3.out.cb
  clear hT3
  have u0 := (hC).c0
  have u1 := (hC).c1
  have u2 := (hC).c2
  clear hC
  go_wp2
  go_region_held3 (fun w' => w'.cell? ⟨P, 0, none⟩ = some (.int .i64 (N : Nat)) ∧ w'.cell? ⟨P, 1, none⟩ = some (.int .i64 (K : Nat)) ∧ w'.cell? ⟨P, 2, none⟩ = some (.int .i64 (B : Nat)))
    (first | (with_reducible exact ⟨hT1.cb.c0, hT1.cb.c1, hT1.cb.c2⟩) | (with_reducible exact ⟨hT0.cb.c0, hT0.cb.c1, hT0.cb.c2⟩))
    (first
      | (go_at_call 12; with_reducible refine (KB.out _ hT0).mono ?_; rintro e w4 ⟨q4, c4, q5, c5, rs, rfl, l4, l5, hrl, hT1, -⟩))
  clear u0 u1 u2
  have KE := kerased f B_f T_f P N K B K B w N qe le ce N m xse es (by have := HM.out.1.n; omega) (by have := HM.out.2.2; omega) (by have := HM.out.2.2; omega) HQ.out.1 HQ.out.2.1 w4 hT1 (HPle.out w4 hT1)
  have H4 : Hid (∀ W, But (· = T_f) w4 W → Tl W T_f q4 N c4 ws ∧ Tl W T_f q5 N c5 rs) := fun W hW => ⟨l4.but hW, l5.but hW⟩
  have HR : Hid (rs.length = N) := hrl.1
  have hC := hT1.cb
  clear hT0 hT1 l4 l5 hrl KB hP hW3
  have u0 := (hC).c0
  have u1 := (hC).c1
  have u2 := (hC).c2
  clear hC
  go_wp2_with fail
  refine KE.mono ?_
  rintro e w5 ⟨q6, c6, rfl, l6, hT5, hb5⟩
  clear KE
  clear u0 u1 u2
  obtain ⟨u, hu⟩ : ∃ u, Cd.wrZ rs ws (zi es) = u := ⟨_, rfl⟩
  have hu6 : u ≤ N := by
    have h1 := Cd.wrZ_le rs ws (zi es)
    have h2 := Cd.ap_length rs ws
    rw [HR.out] at h2
    omega
  have KW := kwr13 f B_f T_f P N K B w q5 q4 q6 N c5 N c4 m c6 u rs ws (zi es) (by have := HM.out; omega) (by have := HQ.out; omega) hu w5 hT5 (H4.out _ hb5).2 (H4.out _ hb5).1 l6
  have H5 : Hid (∀ W, But (· = T_f) w5 W → Tl W T_f q4 N c4 ws ∧ Tl W T_f q5 N c5 rs ∧ Tz W T_f q6 m c6 (zi es)) := fun W hW => ⟨(H4.out _ (hb5.trans hW)).1, (H4.out _ (hb5.trans hW)).2, l6.but hW⟩
  have HU : Hid (Cd.wrZ rs ws (zi es) = u ∧ u ≤ 69) := ⟨hu, by have := HM.out; omega⟩
  have hui : (u : Int) ≤ 69 := by have := HM.out; omega
  clear hT5 l6 hb5 hu H4 hu6
  go_wp2_with fail
  refine KW.mono ?_
  rintro e w6 ⟨rfl, hT6, hb6⟩
  clear KW
  obtain ⟨bb, hbb⟩ : ∃ bb : Bool, decide (2 * u + m ≤ S) = bb := ⟨_, rfl⟩
  have hacc : bb = true ↔ acP (N : Int) (K : Int) (B : Int) rs (zi es) ws := by
    rw [acP_word HM.out.1 HM.out.2.1 HR.out HQ.out.2.2.1 HQ.out.2.2.2.2.word, HU.out.1, HQ.out.2.1, ← hbb, decide_eq_true_eq]
  obtain ⟨D, hD⟩ : ∃ D : Nat, 2 * u = D := ⟨_, rfl⟩
  obtain ⟨C, hCC⟩ : ∃ C : Nat, D + m = C := ⟨_, rfl⟩
  have hDi : 2 * (u : Int) = (D : Int) := by omega
  have hCi : (D : Int) + (m : Int) = (C : Int) := by omega
  have hwD := wrap_nat D (by have := HU.out; omega)
  have hwC := wrap_nat C (by have := HU.out; have := HQ.out; omega)
  have TBd : ∀ W, (Tc f B_f T_f P (N : Nat) (K : Nat) (B : Nat) w W ∧ But (· = T_f) w6 W) → ∀ W', Tc f B_f T_f P (N : Nat) (K : Nat) (B : Nat) w W' ∧ But (· = T_f) W W' → (Tc f B_f T_f P (N : Nat) (K : Nat) (B : Nat) w W' ∧ But (· = T_f) w6 W') := fun W h W' h' => ⟨h'.1, h.2.trans h'.2⟩
  have K1 : Hid (∀ W, (Tc f B_f T_f P (N : Nat) (K : Nat) (B : Nat) w W ∧ But (· = T_f) w6 W) → Calls Tryz.prog 16 #[] W fun e w' => e = .returned (.bool true) ∧ (Tc f B_f T_f P (N : Nat) (K : Nat) (B : Nat) w w' ∧ But (· = T_f) w6 w')) := fun W hW => (kkn13 f B_f T_f P N K B w W hW.1).mono fun _ w' ⟨he, h⟩ => ⟨he, TBd W hW w' h⟩
  have K2 : Hid (∀ W, (Tc f B_f T_f P (N : Nat) (K : Nat) (B : Nat) w W ∧ But (· = T_f) w6 W) → Calls Tryz.prog 15 #[.pointer (some ⟨B_f, 0, none⟩), .agg #[.int .i64 (N : Nat), .int .i64 (K : Nat), .int .i64 (B : Nat)], .slice q5 N c5, .slice q6 m c6, .slice q4 N c4] W fun e w' => e = .returned (.bool bb) ∧ (Tc f B_f T_f P (N : Nat) (K : Nat) (B : Nat) w w' ∧ But (· = T_f) w6 w')) := fun W hW => (kacc f B_f T_f P N K B N K B w q5 q6 q4 N c5 m c6 N c4 rs ws (zi es) bb hacc (by have := HM.out; omega) (by have := HQ.out; omega) W hW.1 (H5.out _ (hb6.trans hW.2)).2.1 (H5.out _ (hb6.trans hW.2)).1 (H5.out _ (hb6.trans hW.2)).2.2).mono fun _ w' ⟨he, h⟩ => ⟨he, TBd W hW w' h⟩
  have K3 : Hid (∀ W, (Tc f B_f T_f P (N : Nat) (K : Nat) (B : Nat) w W ∧ But (· = T_f) w6 W) → Calls Tryz.prog 20 #[.slice q5 N c5, .slice q4 N c4, .slice q6 m c6] W fun e w' => e = .returned (.int .i64 (u : Nat)) ∧ (Tc f B_f T_f P (N : Nat) (K : Nat) (B : Nat) w w' ∧ But (· = T_f) w6 w')) := fun W hW => (kwrong f B_f T_f P N K B w q5 q4 q6 N c5 N c4 m c6 u rs ws (zi es) (by have := HM.out; omega) (by have := HQ.out; omega) HU.out.1 W hW.1 (H5.out _ (hb6.trans hW.2)).2.1 (H5.out _ (hb6.trans hW.2)).1 (H5.out _ (hb6.trans hW.2)).2.2).mono fun _ w' ⟨he, h⟩ => ⟨he, TBd W hW w' h⟩
  have K4 : Hid (∀ W, (Tc f B_f T_f P (N : Nat) (K : Nat) (B : Nat) w W ∧ But (· = T_f) w6 W) → Calls Tryz.prog 15 #[.pointer none, .agg #[.int .i64 (N : Nat), .int .i64 (K : Nat), .int .i64 (B : Nat)], .slice q5 N c5, .slice q6 m c6, .slice q4 N c4] W fun e w' => e = .returned (.bool false) ∧ (Tc f B_f T_f P (N : Nat) (K : Nat) (B : Nat) w w' ∧ But (· = T_f) w6 w')) := fun W hW => (kaccn f B_f T_f P N K B N K B w q5 q6 q4 N c5 m c6 N c4 rs ws (zi es) (by have := HM.out; omega) (by have := HQ.out; omega) W hW.1 (H5.out _ (hb6.trans hW.2)).2.1 (H5.out _ (hb6.trans hW.2)).1 (H5.out _ (hb6.trans hW.2)).2.2).mono fun _ w' ⟨he, h⟩ => ⟨he, TBd W hW w' h⟩
  have hT0 : Tc f B_f T_f P (N : Nat) (K : Nat) (B : Nat) w w6.drew ∧ But (· = T_f) w6 w6.drew := ⟨hT6.drew, But.of_below (Below.refl _ w6).drew⟩
  have hcase : (bb = true ∧ C ≤ S) ∨ (bb = false ∧ ¬ C ≤ S) := by
    rw [← hbb]
    by_cases h : C ≤ S
    · exact .inl ⟨decide_eq_true (by omega), h⟩
    · exact .inr ⟨decide_eq_false (by omega), h⟩
  have hC := hT6.cb
  clear TBd hT6 hb6 H5 hacc hbb hD hCC HU HR
  have u0 := (hC).c0
  have u1 := (hC).c1
  have u2 := (hC).c2
  clear hC
  rcases hcase with ⟨rfl, hle⟩ | ⟨rfl, hle⟩
  case' inl => have hlei : ((C : Int) ≤ (S : Int)) = True := eq_true (by omega)
  case' inr => have hlei : ((C : Int) ≤ (S : Int)) = False := eq_false (by omega)
  all_goals
    clear hle
    go_wp2
    go_region_held3 (fun w' => w'.cell? ⟨P, 0, none⟩ = some (.int .i64 (N : Nat)) ∧ w'.cell? ⟨P, 1, none⟩ = some (.int .i64 (K : Nat)) ∧ w'.cell? ⟨P, 2, none⟩ = some (.int .i64 (B : Nat)))
      (first | (with_reducible exact ⟨hT4.1.cb.c0, hT4.1.cb.c1, hT4.1.cb.c2⟩) | (with_reducible exact ⟨hT3.1.cb.c0, hT3.1.cb.c1, hT3.1.cb.c2⟩) | (with_reducible exact ⟨hT2.1.cb.c0, hT2.1.cb.c1, hT2.1.cb.c2⟩) | (with_reducible exact ⟨hT1.1.cb.c0, hT1.1.cb.c1, hT1.1.cb.c2⟩) | (with_reducible exact ⟨hT0.1.cb.c0, hT0.1.cb.c1, hT0.1.cb.c2⟩))
      (first
        | (go_at_call 16; with_reducible refine (K1.out _ hT0).mono ?_; rintro e x1 ⟨rfl, hT1⟩)
        | (go_at_call 15; with_reducible refine (K2.out _ hT1).mono ?_; rintro e x2 ⟨rfl, hT2⟩)
        | (go_at_call 20; with_reducible refine (K3.out _ hT2).mono ?_; rintro e x3 ⟨rfl, hT3⟩)
        | (go_at_call 15; with_reducible refine (K4.out _ hT3).mono ?_; rintro e x4 ⟨rfl, hT4⟩))
    go_wp2
    go_ret
    exact ⟨rfl, hT4.1.tw.but.below (Nat.le_refl _) (by rintro k rfl; exact HTf.out)⟩
theorem own : ownKnob Tryz.prog.godebug = none := by kernel_rfl
theorem laidOut : laidOutB Tryz.prog = true := by kernel_rfl
set_option maxRecDepth 100000 in
theorem lifted (os : Os) (started : os.Started) (H : Type) (enc : TypeId × Value → H) :
    ReturnsInHanded {} Tryz.checked os 7 .any (Rows.checkNearSpec.pre6 enc Tryz.prog Tryz.f7 Rows.checkNearRow.domain false) (Rows.checkNearSpec.post enc Tryz.prog Tryz.f7 false true false false) := by
  refine returnsInHanded_of_change_sized (C := Tryz.checked) own started (by kernel_rfl) Tryz.func7
    (ChangeSpec.witness6 (enc := enc) (C := Tryz.checked) false ⟨#[], #[.int .u8 0, .int .u8 0, .int .u8 0, .int .u8 0, .slice none 0 0, .slice none 0 0, .slice none 0 0, .slice none 0 0, .int .u8 0], []⟩ 8 (by kernel_rfl) (by kernel_rfl) (by kernel_rfl) (by kernel_rfl)) ?_
  intro W base args ds gs before hval0 hW _ hz _
  have hval : ∀ (j : Nat) t v, Tryz.f7.params[j]? = some t → args[j]? = some v → Value.okWide Tryz.prog W .any base t v := hval0
  have hW' := hW
  obtain ⟨p, q, hA0, hV, rfl, _, _⟩ := hW
  have hA : DataW.TrodAll enc Tryz.prog W 0 (fun _ => true) true Tryz.f7.params.toList args.toList ds p := hA0
  rw [Tryz.params7] at hA hval
  obtain ⟨v0, vs0, d0, ds0, p0, q0, hargs, rfl, rfl, h0, r0⟩ := trodAll_cons hA
  obtain ⟨v1, vs1, d1, ds1, p1, q1, rfl, rfl, rfl, h1, r1⟩ := trodAll_cons r0
  obtain ⟨v2, vs2, d2, ds2, p2, q2, rfl, rfl, rfl, h2, r2⟩ := trodAll_cons r1
  obtain ⟨v3, vs3, d3, ds3, p3, q3, rfl, rfl, rfl, h3, r3⟩ := trodAll_cons r2
  obtain ⟨v4, vs4, d4, ds4, p4, q4, rfl, rfl, rfl, h4, r4⟩ := trodAll_cons r3
  obtain ⟨v5, vs5, d5, ds5, p5, q5, rfl, rfl, rfl, h5, r5⟩ := trodAll_cons r4
  obtain ⟨v6, vs6, d6, ds6, p6, q6, rfl, rfl, rfl, h6, r6⟩ := trodAll_cons r5
  obtain ⟨v7, vs7, d7, ds7, p7, q7, rfl, rfl, rfl, h7, r7⟩ := trodAll_cons r6
  obtain ⟨v8, vs8, d8, ds8, p8, q8, rfl, rfl, rfl, h8, r8⟩ := trodAll_cons r7
  obtain ⟨rfl, rfl, rfl⟩ := trodAll_nil r8
  obtain rfl : args = #[v0, v1, v2, v3, v4, v5, v6, v7, v8] := by cases args; simp_all
  obtain ⟨rfl, rfl⟩ := trodVars_none hV
  obtain ⟨a0, rfl, rfl, rfl, w0⟩ := open_int Tryz.underlying5 (hval 0 5 v0 rfl rfl) h0
  obtain ⟨n0, b0, rfl⟩ := nat_of_u8 w0
  obtain ⟨a1, rfl, rfl, rfl, w1⟩ := open_int Tryz.underlying5 (hval 1 5 v1 rfl rfl) h1
  obtain ⟨n1, b1, rfl⟩ := nat_of_u8 w1
  obtain ⟨a2, rfl, rfl, rfl, w2⟩ := open_int Tryz.underlying5 (hval 2 5 v2 rfl rfl) h2
  obtain ⟨n2, b2, rfl⟩ := nat_of_u8 w2
  obtain ⟨a3, rfl, rfl, rfl, w3⟩ := open_int Tryz.underlying5 (hval 3 5 v3 rfl rfl) h3
  obtain ⟨n3, b3, rfl⟩ := nat_of_u8 w3
  have k4 := h4
  obtain ⟨q4, n4, c4, xs4, rfl, w4, m4⟩ := open_bytes_sz Tryz.underlying22 Tryz.underlying5 (by kernel_rfl) (hval 4 22 v4 rfl rfl) h4
  have y4 : n4 ≤ c4 ∧ c4 ≤ 140737488351232 := ⟨m4.1, m4.2 _ fun el sp hd => by have := sized_slice (j := 4) (t := 22) (e := 5) (elems := el) (spare := sp) hz (by kernel_rfl) (by first | (rw [← hd]; done) | (rw [← hd]; rfl)) Tryz.underlying22; have hbe : Tryz.checked.prog.bytesOf 5 = 1 := (by kernel_rfl); have hre : reachBytes = 140737488351232 := rfl; rw [hbe, hre] at this; omega⟩
  have k5 := h5
  obtain ⟨q5, n5, c5, xs5, rfl, w5, m5⟩ := open_bytes_sz Tryz.underlying22 Tryz.underlying5 (by kernel_rfl) (hval 5 22 v5 rfl rfl) h5
  have y5 : n5 ≤ c5 ∧ c5 ≤ 140737488351232 := ⟨m5.1, m5.2 _ fun el sp hd => by have := sized_slice (j := 5) (t := 22) (e := 5) (elems := el) (spare := sp) hz (by kernel_rfl) (by first | (rw [← hd]; done) | (rw [← hd]; rfl)) Tryz.underlying22; have hbe : Tryz.checked.prog.bytesOf 5 = 1 := (by kernel_rfl); have hre : reachBytes = 140737488351232 := rfl; rw [hbe, hre] at this; omega⟩
  have k6 := h6
  obtain ⟨q6, n6, c6, xs6, rfl, w6, m6⟩ := open_bytes_sz Tryz.underlying22 Tryz.underlying5 (by kernel_rfl) (hval 6 22 v6 rfl rfl) h6
  have y6 : n6 ≤ c6 ∧ c6 ≤ 140737488351232 := ⟨m6.1, m6.2 _ fun el sp hd => by have := sized_slice (j := 6) (t := 22) (e := 5) (elems := el) (spare := sp) hz (by kernel_rfl) (by first | (rw [← hd]; done) | (rw [← hd]; rfl)) Tryz.underlying22; have hbe : Tryz.checked.prog.bytesOf 5 = 1 := (by kernel_rfl); have hre : reachBytes = 140737488351232 := rfl; rw [hbe, hre] at this; omega⟩
  have k7 := h7
  obtain ⟨q7, n7, c7, xs7, rfl, w7, m7⟩ := open_bytes_sz Tryz.underlying22 Tryz.underlying5 (by kernel_rfl) (hval 7 22 v7 rfl rfl) h7
  have y7 : n7 ≤ c7 ∧ c7 ≤ 140737488351232 := ⟨m7.1, m7.2 _ fun el sp hd => by have := sized_slice (j := 7) (t := 22) (e := 5) (elems := el) (spare := sp) hz (by kernel_rfl) (by first | (rw [← hd]; done) | (rw [← hd]; rfl)) Tryz.underlying22; have hbe : Tryz.checked.prog.bytesOf 5 = 1 := (by kernel_rfl); have hre : reachBytes = 140737488351232 := rfl; rw [hbe, hre] at this; omega⟩
  obtain ⟨a8, rfl, rfl, rfl, w8⟩ := open_int Tryz.underlying5 (hval 8 5 v8 rfl rfl) h8
  obtain ⟨n8, b8, rfl⟩ := nat_of_u8 w8
  clear hA0 hval0
  simp only [List.append_nil] at hW'
  refine (walk (w := W) n0 n1 n2 n3 q4 n4 c4 xs4 q5 n5 c5 xs5 q6 n6 c6 xs6 q7 n7 c7 xs7 n8 b0 b1 b2 b3 w4 y4 w5 y5 w6 y6 w7 y7 b8).mono fun e W' ⟨he, bel⟩ => ?_
  subst he
  exact ⟨_, rfl, _, _, _, [], _, [], hW', trodAll_mk1 (shut_bool Tryz.underlying4 _), (trodAll_cons_mk (shut_int Tryz.underlying5 w0) (trodAll_cons_mk (shut_int Tryz.underlying5 w1) (trodAll_cons_mk (shut_int Tryz.underlying5 w2) (trodAll_cons_mk (shut_int Tryz.underlying5 w3) (trodAll_cons_mk (shut_same laidOut (by kernel_rfl) (of_decide_eq_true (by kernel_rfl)) k4 bel) (trodAll_cons_mk (shut_same laidOut (by kernel_rfl) (of_decide_eq_true (by kernel_rfl)) k5 bel) (trodAll_cons_mk (shut_same laidOut (by kernel_rfl) (of_decide_eq_true (by kernel_rfl)) k6 bel) (trodAll_cons_mk (shut_same laidOut (by kernel_rfl) (of_decide_eq_true (by kernel_rfl)) k7 bel) (trodAll_cons_mk (shut_int Tryz.underlying5 w8) trodAll_mk0))))))))), rfl, bel.frame _, fun h => by cases h⟩
theorem over : Rows.checkNearRow.holds Tryz.pinned (OpenSpec.ofChange Rows.checkNearSpec) :=
  OpenClaim.holds_of_wide 7 Tryz.f7 rfl rfl rfl rfl rfl rfl rfl ⟨rfl, rfl, rfl, rfl, rfl⟩ rfl rfl rfl rfl rfl (by kernel_rfl) Tryz.func7 (by kernel_rfl)
    (of_decide_eq_true (by kernel_rfl)) (by unfold Func.isWrapper; first | (rw [if_pos (by decide +kernel)]; kernel_rfl) | (rw [if_neg (by decide +kernel)]; exact ⟨rfl, rfl⟩))
    (fun os started H enc _ => lifted os started H enc)
theorem proved : Rows.CheckNearSaid := over
#print axioms proved
end Go.Proofs.YtjnkkokhkooegaaGreat.checkNear
