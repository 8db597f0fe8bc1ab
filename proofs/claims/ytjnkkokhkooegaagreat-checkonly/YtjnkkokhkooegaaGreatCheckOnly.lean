/- CheckOnly holds for every input: of any word and any places there is at most one answer. No conditions. -/
import Derived.Test.YtjnkkokhkooegaaGreatRows
import Derived.Test.YtjnkkokhkooegaaGreatMB
import Derived.Test.YtjnkkokhkooegaaGreatOB
import Derived.Test.YtjnkkokhkooegaaGreatPZ
namespace Go.Proofs.YtjnkkokhkooegaaGreat.checkOnly
open Go.ChangeShapes Go.WideShapes Go.ChangeAt Go.RowKit
open Pol (IsN Dg ofL Byt vl)

/-- Two words that may both be told are one. -/
theorem only {N K B S most : Nat} (h : Cod N K B) (hS : N - K = S) {rs vs ws es : List Nat} (hr : rs.length = N) (he : ErOk N most es) (hv : Cd.IsW N S B vs) (hw : Cd.IsW N S B ws) (bv : Byt vs) (bw : Byt ws) (h1 : acP (N : Int) (K : Int) (B : Int) rs (zi es) vs) (h2 : acP (N : Int) (K : Int) (B : Int) rs (zi es) ws) : vs = ws := by
  rw [acP_word h hS hr he hv] at h1
  rw [acP_word h hS hr he hw] at h2
  have e : ∀ l, Cd.wrZ rs l (zi es) = Cd.wr rs l es := fun l => Cd.wrZ_nat rs l es
  rw [e] at h1 h2
  exact Cd.only hv hw h.m bv bw hr h1 h2

set_option maxRecDepth 100000 in
set_option maxHeartbeats 8000000 in
theorem walk (j n k b : Nat) (qm : Option Addr) (lm cm : Nat) (xsm : List Nat) (qo : Option Addr) (lo co : Nat) (xso : List Nat) (qr : Option Addr) (lr cr : Nat) (xsr : List Nat) (qd : Option Addr) (ld cd : Nat) (xsd : List Nat) (qx : Option Addr) (lx cx : Nat) (xsx : List Nat) (qe : Option Addr) (le ce : Nat) (xse : List Nat) (w : World) (_hj : j < 256) (hn : n < 256) (hk : k < 256) (hb : b < 256) (hsm : Bs w qm lm xsm) (hcm : lm ≤ cm ∧ cm ≤ 140737488351232) (hso : Bs w qo lo xso) (hco : lo ≤ co ∧ co ≤ 140737488351232) (hsr : Bs w qr lr xsr) (hcr : lr ≤ cr ∧ cr ≤ 140737488351232) (hsd : Bs w qd ld xsd) (hcd : ld ≤ cd ∧ cd ≤ 140737488351232) (hsx : Bs w qx lx xsx) (hcx : lx ≤ cx ∧ cx ≤ 140737488351232) (hse : Bs w qe le xse) (hce : le ≤ ce ∧ ce ≤ 140737488351232) :
    Calls Tryz.prog 3 #[.int .u8 j, .int .u8 n, .int .u8 k, .int .u8 b, .slice qm lm cm, .slice qo lo co, .slice qr lr cr, .slice qd ld cd, .slice qx lx cx, .slice qe le ce] w fun e w' => e = .returned (.bool true) ∧ Below w.heap.size w w' := by
  have hnot : ∀ (x : Bool) (w : World), (Op.unary .not (.bool x)).run Tryz.prog w = .ok (.bool (!x)) w := fun _ _ => rfl
  obtain ⟨f, hf⟩ : ∃ f : Nat, 1 + j % 3 = f := ⟨_, rfl⟩
  have hf1 : 1 ≤ f := by omega
  have hf3 : f ≤ 3 := by omega
  have hfi : (1 : Int) + (j : Int) % 3 = (f : Int) := by omega
  have hK0 : ∀ W, Calls Tryz.prog 9 _ W _ := fun W => lcode_calls n k b hn hk hb W
  have hcod := ck_cod n k b
  have hle := ckN_le n k
  obtain ⟨N, hN⟩ : ∃ N, ckN n k = N := ⟨_, rfl⟩
  obtain ⟨K, hK⟩ : ∃ K, ckK n k = K := ⟨_, rfl⟩
  obtain ⟨B, hB⟩ : ∃ B, ckB b = B := ⟨_, rfl⟩
  obtain ⟨S, hS⟩ : ∃ S, N - K = S := ⟨_, rfl⟩
  rw [hN, hK, hB] at hK0 hcod
  rw [hN] at hle
  obtain ⟨es, hes⟩ : ∃ es, erL N N xse = es := ⟨_, rfl⟩
  obtain ⟨m, hm⟩ : ∃ m, es.length = m := ⟨_, rfl⟩
  have hok : ErOk N N es := hes ▸ erL_ok (by omega) xse
  obtain ⟨vs, hV⟩ := Cd.isEnc_exists (N := N) (S := S) (K := K) (B := B) (m := Cd.wd K xsm) (Cd.wd_length K xsm) (Cd.wd_byt hsm.byte K) (by have := hcod.n; omega)
  obtain ⟨ws, hE⟩ := Cd.isEnc_exists (N := N) (S := S) (K := K) (B := B) (m := Cd.wd K xso) (Cd.wd_length K xso) (Cd.wd_byt hso.byte K) (by have := hcod.n; omega)
  have HQ : Hid (erL N N xse = es ∧ es.length = m ∧ ErOk N N es ∧ m ≤ 69 ∧ Cd.IsEnc N S B (Cd.wd K xsm) vs ∧ Cd.IsEnc N S B (Cd.wd K xso) ws) := ⟨hes, hm, hok, by have := hok.len; omega, hV, hE⟩
  clear hes hm hok hE hV
  have K0 : Hid (∀ W, Calls Tryz.prog 9 #[.int .u8 n, .int .u8 k, .int .u8 b] W fun e w' => e = .returned (.agg #[.int .i64 (N : Nat), .int .i64 (K : Nat), .int .i64 (B : Nat)]) ∧ Below W.heap.size W w') := hK0
  have HM : Hid (Cod N K B ∧ N - K = S ∧ N ≤ 69) := ⟨hcod, hS, hle.2⟩
  have hN69 : (N : Int) ≤ 69 := by omega
  have HSm : Hid (Bs w qm lm xsm ∧ lm ≤ cm) := ⟨hsm, hcm.1⟩
  have HSo : Hid (Bs w qo lo xso ∧ lo ≤ co) := ⟨hso, hco.1⟩
  have HSr : Hid (Bs w qr lr xsr ∧ lr ≤ cr) := ⟨hsr, hcr.1⟩
  have HSd : Hid (Bs w qd ld xsd ∧ ld ≤ cd) := ⟨hsd, hcd.1⟩
  have HSx : Hid (Bs w qx lx xsx ∧ lx ≤ cx) := ⟨hsx, hcx.1⟩
  have HSe : Hid (Bs w qe le xse ∧ le ≤ ce) := ⟨hse, hce.1⟩
  clear hf hN hK hB hS hK0 hcod hle hn hk hb _hj hsm hcm hso hco hsr hcr hsd hcd hsx hcx hse hce
  have HB : Below w.heap.size w w := Below.refl _ _
  go_enter Tryz.func3, Tryz.ntmps3
  go_wp2_with fail
  refine (fof_calls f hf1 hf3 _).mono ?_
  rintro e w1 ⟨B_f, T_f, rfl, HF_f, hb, hlB, hlT⟩
  have HL_f : w.heap.size ≤ T_f := Nat.le_trans HB.size hlT
  replace HB := HB.trans (hb.mono HB.size)
  clear hb hlB hlT
  clear hfi hf1 hf3
  have HT1 : Hid (Below w.heap.size w w1 ∧ Fd f B_f T_f w1 ∧ w.heap.size ≤ T_f) := ⟨HB, HF_f, HL_f⟩
  clear HB HF_f HL_f
  go_wp2_with fail
  refine (K0.out w1).mono ?_
  rintro e w2 ⟨rfl, hb⟩
  have HT2 : Hid (Below w.heap.size w w2 ∧ Fd f B_f T_f w2 ∧ w.heap.size ≤ T_f) := ⟨HT1.out.1.trans (hb.mono HT1.out.1.size), HT1.out.2.1.below hb, HT1.out.2.2⟩
  have HTf : Hid (w.heap.size ≤ T_f) := HT2.out.2.2
  clear hb K0
  obtain ⟨P, hP⟩ : ∃ P, w2.heap.size = P := ⟨_, rfl⟩
  obtain ⟨W3, hW3⟩ : ∃ W3, w2.alloc (.cells #[.int .i64 (N : Nat), .int .i64 (K : Nat), .int .i64 (B : Nat)] 26) = W3 := ⟨_, rfl⟩
  have hT3 : Tc f B_f T_f P (N : Nat) (K : Nat) (B : Nat) w W3 := by
    have h := tc_new HT2.out.2.1 (N : Int) (K : Int) (B : Int)
    rw [hP, hW3] at h
    exact ⟨⟨h.tw.fd, (But.of_below HT2.out.1).trans h.tw.but⟩, h.cb, h.nT⟩
  have HPlm : Hid (∀ W, Tc f B_f T_f P (N : Nat) (K : Nat) (B : Nat) w W → Tl W T_f qm lm cm xsm) := fun W hW => (⟨HSm.out.1, HSm.out.2, HSm.out.1.off HT2.out.2.2⟩ : Tl w T_f qm lm cm xsm).but hW.tw.but
  have HPlo : Hid (∀ W, Tc f B_f T_f P (N : Nat) (K : Nat) (B : Nat) w W → Tl W T_f qo lo co xso) := fun W hW => (⟨HSo.out.1, HSo.out.2, HSo.out.1.off HT2.out.2.2⟩ : Tl w T_f qo lo co xso).but hW.tw.but
  have HPlr : Hid (∀ W, Tc f B_f T_f P (N : Nat) (K : Nat) (B : Nat) w W → Tl W T_f qr lr cr xsr) := fun W hW => (⟨HSr.out.1, HSr.out.2, HSr.out.1.off HT2.out.2.2⟩ : Tl w T_f qr lr cr xsr).but hW.tw.but
  have HPld : Hid (∀ W, Tc f B_f T_f P (N : Nat) (K : Nat) (B : Nat) w W → Tl W T_f qd ld cd xsd) := fun W hW => (⟨HSd.out.1, HSd.out.2, HSd.out.1.off HT2.out.2.2⟩ : Tl w T_f qd ld cd xsd).but hW.tw.but
  have HPlx : Hid (∀ W, Tc f B_f T_f P (N : Nat) (K : Nat) (B : Nat) w W → Tl W T_f qx lx cx xsx) := fun W hW => (⟨HSx.out.1, HSx.out.2, HSx.out.1.off HT2.out.2.2⟩ : Tl w T_f qx lx cx xsx).but hW.tw.but
  have HPle : Hid (∀ W, Tc f B_f T_f P (N : Nat) (K : Nat) (B : Nat) w W → Tl W T_f qe le ce xse) := fun W hW => (⟨HSe.out.1, HSe.out.2, HSe.out.1.off HT2.out.2.2⟩ : Tl w T_f qe le ce xse).but hW.tw.but
  have HT3 : Hid (Tc f B_f T_f P (N : Nat) (K : Nat) (B : Nat) w W3) := hT3
  clear HT1 HT2
  have KM : Hid (∀ W, Tc f B_f T_f P (N : Nat) (K : Nat) (B : Nat) w W → _) := fun W hW => klmsg f B_f T_f P N K B N B w qm lm cm K xsm (by have := HM.out.2.2; have := HM.out.1.n; omega) W hW (HPlm.out W hW)
  have KV : Hid (∀ q c W, Tc f B_f T_f P (N : Nat) (K : Nat) (B : Nat) w W → Tl W T_f q K c (Cd.wd K xsm) → _) := fun q c W hW hl => kenc13 f B_f T_f P N K B S w HM.out.1 HM.out.2.1 q c (Cd.wd K xsm) vs (Cd.wd_length K xsm) HQ.out.2.2.2.2.1 W hW hl
  have hT0 := HT3.out.drew
  have hC := HT3.out.cb
  clear hT3
  have u0 := (hC).c0
  have u1 := (hC).c1
  have u2 := (hC).c2
  clear hC
  go_wp2
  go_region_held3 (fun w' => w'.cell? ⟨P, 0, none⟩ = some (.int .i64 (N : Nat)) ∧ w'.cell? ⟨P, 1, none⟩ = some (.int .i64 (K : Nat)) ∧ w'.cell? ⟨P, 2, none⟩ = some (.int .i64 (B : Nat)))
    (first | (with_reducible exact ⟨hT2.cb.c0, hT2.cb.c1, hT2.cb.c2⟩) | (with_reducible exact ⟨hT1.cb.c0, hT1.cb.c1, hT1.cb.c2⟩) | (with_reducible exact ⟨hT0.cb.c0, hT0.cb.c1, hT0.cb.c2⟩))
    (first
      | (go_at_call 11; with_reducible refine (KM.out _ hT0).mono ?_; rintro e x1 ⟨q3, c3, rfl, l3, hT1, -⟩)
      | (go_at_call 10; with_reducible refine (KV.out _ _ _ hT1 l3).mono ?_; rintro e w4 ⟨q4, c4, rfl, l4, hT2, -⟩))
  clear u0 u1 u2
  have KX := kbent f B_f T_f P N K B S w N HM.out.1 HM.out.2.1 (by have := HM.out.2.2; omega) qo qd qx lo co ld cd lx cx xso xsd xsx ws HQ.out.2.2.2.2.2 w4 hT2 (HPlo.out _ hT2) (HPld.out _ hT2) (HPlx.out _ hT2)
  have H4 : Hid (∀ W, But (· = T_f) w4 W → Tl W T_f q4 N c4 vs) := fun W hW => l4.but hW
  have hC := hT2.cb
  clear hT0 hT1 hT2 l3 l4 KM KV hP hW3
  have u0 := (hC).c0
  have u1 := (hC).c1
  have u2 := (hC).c2
  clear hC
  go_wp2_with fail
  refine KX.mono ?_
  rintro e w5 ⟨q5, c5, q6, c6, rs, rfl, l5, l6, hrl, hT5, hb5⟩
  clear KX
  clear u0 u1 u2
  have KX := kerased f B_f T_f P N K B K B w N qe le ce N m xse es (by have := HM.out.1.n; omega) (by have := HM.out.2.2; omega) (by have := HM.out.2.2; omega) HQ.out.1 HQ.out.2.1 w5 hT5 (HPle.out w5 hT5)
  have H5 : Hid (∀ W, But (· = T_f) w5 W → Tl W T_f q4 N c4 vs ∧ Tl W T_f q5 N c5 ws ∧ Tl W T_f q6 N c6 rs) := fun W hW => ⟨H4.out _ (hb5.trans hW), l5.but hW, l6.but hW⟩
  have HR : Hid (rs.length = N) := hrl.1
  have hC := hT5.cb
  clear hT5 l5 l6 hb5 hrl H4
  have u0 := (hC).c0
  have u1 := (hC).c1
  have u2 := (hC).c2
  clear hC
  go_wp2_with fail
  refine KX.mono ?_
  rintro e w6 ⟨q7, c7, rfl, l7, hT6, hb6⟩
  clear KX
  clear u0 u1 u2
  have KX := kword f B_f T_f P N K B w qr lr cr xsr (by have := HM.out.2.2; omega) w6 hT6 (HPlr.out w6 hT6)
  have H6 : Hid (∀ W, But (· = T_f) w6 W → (Tl W T_f q4 N c4 vs ∧ Tl W T_f q5 N c5 ws ∧ Tl W T_f q6 N c6 rs) ∧ Tz W T_f q7 m c7 (zi es)) := fun W hW => ⟨H5.out _ (hb6.trans hW), l7.but hW⟩
  have hC := hT6.cb
  clear hT6 l7 hb6 H5
  have u0 := (hC).c0
  have u1 := (hC).c1
  have u2 := (hC).c2
  clear hC
  go_wp2_with fail
  refine KX.mono ?_
  rintro e w7 ⟨q8, c8, rfl, l8, hT7, hb7⟩
  clear KX
  clear u0 u1 u2
  have H7 : Hid (∀ W, But (· = T_f) w7 W → (Tl W T_f q4 N c4 vs ∧ Tl W T_f q5 N c5 ws ∧ Tl W T_f q6 N c6 rs) ∧ Tz W T_f q7 m c7 (zi es) ∧ Tl W T_f q8 N c8 (Cd.wd N xsr)) := fun W hW => ⟨(H6.out _ (hb7.trans hW)).1, (H6.out _ (hb7.trans hW)).2, l8.but hW⟩
  clear l8 hb7 H6
  have TBd : Hid (∀ W, (Tc f B_f T_f P (N : Nat) (K : Nat) (B : Nat) w W ∧ But (· = T_f) w7 W) → ∀ W', Tc f B_f T_f P (N : Nat) (K : Nat) (B : Nat) w W' ∧ But (· = T_f) W W' → (Tc f B_f T_f P (N : Nat) (K : Nat) (B : Nat) w W' ∧ But (· = T_f) w7 W')) := fun W h W' h' => ⟨h'.1, h.2.trans h'.2⟩
  obtain ⟨b1, hb1⟩ : ∃ bb : Bool, bb = true ↔ acP (N : Int) (K : Int) (B : Int) rs (zi es) vs := by
    by_cases h : acP (N : Int) (K : Int) (B : Int) rs (zi es) vs
    · exact ⟨true, fun _ => h, fun _ => rfl⟩
    · exact ⟨false, fun e => (by cases e), fun e => absurd e h⟩
  have K1 : Hid (∀ W, (Tc f B_f T_f P (N : Nat) (K : Nat) (B : Nat) w W ∧ But (· = T_f) w7 W) → Calls Tryz.prog 15 #[.pointer (some ⟨B_f, 0, none⟩), .agg #[.int .i64 (N : Nat), .int .i64 (K : Nat), .int .i64 (B : Nat)], .slice q6 N c6, .slice q7 m c7, .slice q4 N c4] W fun e w' => e = .returned (.bool b1) ∧ (Tc f B_f T_f P (N : Nat) (K : Nat) (B : Nat) w w' ∧ But (· = T_f) w7 w')) := fun W hW => (kacc f B_f T_f P N K B N K B w q6 q7 q4 N c6 m c7 N c4 rs vs (zi es) b1 hb1 (by have := HM.out.2.2; omega) (by have := HQ.out.2.2.2.1; omega) W hW.1 (H7.out _ hW.2).1.2.2 (H7.out _ hW.2).1.1 (H7.out _ hW.2).2.1).mono fun _ w' ⟨he, h⟩ => ⟨he, TBd.out W hW w' h⟩
  obtain ⟨b2, hb2⟩ : ∃ bb : Bool, bb = true ↔ acP (N : Int) (K : Int) (B : Int) rs (zi es) ws := by
    by_cases h : acP (N : Int) (K : Int) (B : Int) rs (zi es) ws
    · exact ⟨true, fun _ => h, fun _ => rfl⟩
    · exact ⟨false, fun e => (by cases e), fun e => absurd e h⟩
  have K2 : Hid (∀ W, (Tc f B_f T_f P (N : Nat) (K : Nat) (B : Nat) w W ∧ But (· = T_f) w7 W) → Calls Tryz.prog 15 #[.pointer (some ⟨B_f, 0, none⟩), .agg #[.int .i64 (N : Nat), .int .i64 (K : Nat), .int .i64 (B : Nat)], .slice q6 N c6, .slice q7 m c7, .slice q5 N c5] W fun e w' => e = .returned (.bool b2) ∧ (Tc f B_f T_f P (N : Nat) (K : Nat) (B : Nat) w w' ∧ But (· = T_f) w7 w')) := fun W hW => (kacc f B_f T_f P N K B N K B w q6 q7 q5 N c6 m c7 N c5 rs ws (zi es) b2 hb2 (by have := HM.out.2.2; omega) (by have := HQ.out.2.2.2.1; omega) W hW.1 (H7.out _ hW.2).1.2.2 (H7.out _ hW.2).1.2.1 (H7.out _ hW.2).2.1).mono fun _ w' ⟨he, h⟩ => ⟨he, TBd.out W hW w' h⟩
  obtain ⟨b3, hb3⟩ : ∃ bb : Bool, bb = true ↔ acP (N : Int) (K : Int) (B : Int) (Cd.wd N xsr) (zi es) vs := by
    by_cases h : acP (N : Int) (K : Int) (B : Int) (Cd.wd N xsr) (zi es) vs
    · exact ⟨true, fun _ => h, fun _ => rfl⟩
    · exact ⟨false, fun e => (by cases e), fun e => absurd e h⟩
  have K3 : Hid (∀ W, (Tc f B_f T_f P (N : Nat) (K : Nat) (B : Nat) w W ∧ But (· = T_f) w7 W) → Calls Tryz.prog 15 #[.pointer (some ⟨B_f, 0, none⟩), .agg #[.int .i64 (N : Nat), .int .i64 (K : Nat), .int .i64 (B : Nat)], .slice q8 N c8, .slice q7 m c7, .slice q4 N c4] W fun e w' => e = .returned (.bool b3) ∧ (Tc f B_f T_f P (N : Nat) (K : Nat) (B : Nat) w w' ∧ But (· = T_f) w7 w')) := fun W hW => (kacc f B_f T_f P N K B N K B w q8 q7 q4 N c8 m c7 N c4 (Cd.wd N xsr) vs (zi es) b3 hb3 (by have := HM.out.2.2; omega) (by have := HQ.out.2.2.2.1; omega) W hW.1 (H7.out _ hW.2).2.2 (H7.out _ hW.2).1.1 (H7.out _ hW.2).2.1).mono fun _ w' ⟨he, h⟩ => ⟨he, TBd.out W hW w' h⟩
  obtain ⟨b4, hb4⟩ : ∃ bb : Bool, bb = true ↔ acP (N : Int) (K : Int) (B : Int) (Cd.wd N xsr) (zi es) ws := by
    by_cases h : acP (N : Int) (K : Int) (B : Int) (Cd.wd N xsr) (zi es) ws
    · exact ⟨true, fun _ => h, fun _ => rfl⟩
    · exact ⟨false, fun e => (by cases e), fun e => absurd e h⟩
  have K4 : Hid (∀ W, (Tc f B_f T_f P (N : Nat) (K : Nat) (B : Nat) w W ∧ But (· = T_f) w7 W) → Calls Tryz.prog 15 #[.pointer (some ⟨B_f, 0, none⟩), .agg #[.int .i64 (N : Nat), .int .i64 (K : Nat), .int .i64 (B : Nat)], .slice q8 N c8, .slice q7 m c7, .slice q5 N c5] W fun e w' => e = .returned (.bool b4) ∧ (Tc f B_f T_f P (N : Nat) (K : Nat) (B : Nat) w w' ∧ But (· = T_f) w7 w')) := fun W hW => (kacc f B_f T_f P N K B N K B w q8 q7 q5 N c8 m c7 N c5 (Cd.wd N xsr) ws (zi es) b4 hb4 (by have := HM.out.2.2; omega) (by have := HQ.out.2.2.2.1; omega) W hW.1 (H7.out _ hW.2).2.2 (H7.out _ hW.2).1.2.1 (H7.out _ hW.2).2.1).mono fun _ w' ⟨he, h⟩ => ⟨he, TBd.out W hW w' h⟩
  have K5 : Hid (∀ W, (Tc f B_f T_f P (N : Nat) (K : Nat) (B : Nat) w W ∧ But (· = T_f) w7 W) → Calls Tryz.prog 16 #[] W fun e w' => e = .returned (.bool true) ∧ (Tc f B_f T_f P (N : Nat) (K : Nat) (B : Nat) w w' ∧ But (· = T_f) w7 w')) := fun W hW => (kkn13 f B_f T_f P N K B w W hW.1).mono fun _ w' ⟨he, h⟩ => ⟨he, TBd.out W hW w' h⟩
  have K6 : Hid (vs = ws → ∀ W, (Tc f B_f T_f P (N : Nat) (K : Nat) (B : Nat) w W ∧ But (· = T_f) w7 W) → Calls Tryz.prog 17 #[.slice q4 N c4, .slice q5 N c5] W fun e w' => e = .returned (.bool true) ∧ (Tc f B_f T_f P (N : Nat) (K : Nat) (B : Nat) w w' ∧ But (· = T_f) w7 w')) := fun e W hW => (ksame f B_f T_f P N K B w q4 q5 N c4 c5 vs W hW.1 (H7.out _ hW.2).1.1 (e ▸ (H7.out _ hW.2).1.2.1)).mono fun _ w' ⟨he, h⟩ => ⟨he, TBd.out W hW w' h⟩
  have HV : Hid ((b1 = true → b2 = true → vs = ws) ∧ (b3 = true → b4 = true → vs = ws)) := ⟨fun h1 h2 => only HM.out.1 HM.out.2.1 HR.out HQ.out.2.2.1 HQ.out.2.2.2.2.1.word HQ.out.2.2.2.2.2.word HQ.out.2.2.2.2.1.byt HQ.out.2.2.2.2.2.byt (hb1.1 h1) (hb2.1 h2), fun h1 h2 => only HM.out.1 HM.out.2.1 (Cd.wd_length N xsr) HQ.out.2.2.1 HQ.out.2.2.2.2.1.word HQ.out.2.2.2.2.2.word HQ.out.2.2.2.2.1.byt HQ.out.2.2.2.2.2.byt (hb3.1 h1) (hb4.1 h2)⟩
  have HT7 : Hid (Tc f B_f T_f P (N : Nat) (K : Nat) (B : Nat) w w7 ∧ But (· = T_f) w7 w7) := ⟨hT7, But.refl _ _⟩
  clear hT7 TBd hb1 hb2 hb3 hb4 H7 HR
  cases b1 with
  | false =>
    have u0 := (HT7.out.1.cb).c0
    have u1 := (HT7.out.1.cb).c1
    have u2 := (HT7.out.1.cb).c2
    go_wp2_with fail
    refine (K1.out _ HT7.out).mono ?_
    rintro e w8 ⟨rfl, hT⟩
    clear u0 u1 u2
    have HT8 : Hid (Tc f B_f T_f P (N : Nat) (K : Nat) (B : Nat) w w8 ∧ But (· = T_f) w7 w8) := hT
    clear hT
    cases b3 with
    | false =>
      have u0 := (HT8.out.1.cb).c0
      have u1 := (HT8.out.1.cb).c1
      have u2 := (HT8.out.1.cb).c2
      go_wp2_with fail
      refine (K3.out _ HT8.out).mono ?_
      rintro e w9 ⟨rfl, hT⟩
      clear u0 u1 u2
      have HT9 : Hid (Tc f B_f T_f P (N : Nat) (K : Nat) (B : Nat) w w9 ∧ But (· = T_f) w7 w9) := hT
      clear hT
      have u0 := (HT9.out.1.cb).c0
      have u1 := (HT9.out.1.cb).c1
      have u2 := (HT9.out.1.cb).c2
      go_wp2_with fail
      refine (K5.out _ HT9.out).mono ?_
      rintro e w10 ⟨rfl, hT⟩
      clear u0 u1 u2
      have HT10 : Hid (Tc f B_f T_f P (N : Nat) (K : Nat) (B : Nat) w w10 ∧ But (· = T_f) w7 w10) := hT
      clear hT
      go_wp2
      go_ret
      exact ⟨rfl, HT10.out.1.tw.but.below (Nat.le_refl _) (by rintro k rfl; exact HTf.out)⟩
    | true =>
      have u0 := (HT8.out.1.cb).c0
      have u1 := (HT8.out.1.cb).c1
      have u2 := (HT8.out.1.cb).c2
      go_wp2_with fail
      refine (K3.out _ HT8.out).mono ?_
      rintro e w9 ⟨rfl, hT⟩
      clear u0 u1 u2
      have HT9 : Hid (Tc f B_f T_f P (N : Nat) (K : Nat) (B : Nat) w w9 ∧ But (· = T_f) w7 w9) := hT
      clear hT
      cases b4 with
      | false =>
        have u0 := (HT9.out.1.cb).c0
        have u1 := (HT9.out.1.cb).c1
        have u2 := (HT9.out.1.cb).c2
        go_wp2_with fail
        refine (K4.out _ HT9.out).mono ?_
        rintro e w10 ⟨rfl, hT⟩
        clear u0 u1 u2
        have HT10 : Hid (Tc f B_f T_f P (N : Nat) (K : Nat) (B : Nat) w w10 ∧ But (· = T_f) w7 w10) := hT
        clear hT
        have u0 := (HT10.out.1.cb).c0
        have u1 := (HT10.out.1.cb).c1
        have u2 := (HT10.out.1.cb).c2
        go_wp2_with fail
        refine (K5.out _ HT10.out).mono ?_
        rintro e w11 ⟨rfl, hT⟩
        clear u0 u1 u2
        have HT11 : Hid (Tc f B_f T_f P (N : Nat) (K : Nat) (B : Nat) w w11 ∧ But (· = T_f) w7 w11) := hT
        clear hT
        go_wp2
        go_ret
        exact ⟨rfl, HT11.out.1.tw.but.below (Nat.le_refl _) (by rintro k rfl; exact HTf.out)⟩
      | true =>
        have u0 := (HT9.out.1.cb).c0
        have u1 := (HT9.out.1.cb).c1
        have u2 := (HT9.out.1.cb).c2
        go_wp2_with fail
        refine (K4.out _ HT9.out).mono ?_
        rintro e w10 ⟨rfl, hT⟩
        clear u0 u1 u2
        have HT10 : Hid (Tc f B_f T_f P (N : Nat) (K : Nat) (B : Nat) w w10 ∧ But (· = T_f) w7 w10) := hT
        clear hT
        have u0 := (HT10.out.1.cb).c0
        have u1 := (HT10.out.1.cb).c1
        have u2 := (HT10.out.1.cb).c2
        go_wp2_with fail
        refine (K5.out _ HT10.out).mono ?_
        rintro e w11 ⟨rfl, hT⟩
        clear u0 u1 u2
        have HT11 : Hid (Tc f B_f T_f P (N : Nat) (K : Nat) (B : Nat) w w11 ∧ But (· = T_f) w7 w11) := hT
        clear hT
        have K6' := K6.out (HV.out.2 (by trivial) (by trivial))
        go_wp2_with fail
        refine (K6' _ HT11.out).mono ?_
        rintro e w12 ⟨rfl, hT⟩
        go_wp2
        go_ret
        exact ⟨rfl, hT.1.tw.but.below (Nat.le_refl _) (by rintro k rfl; exact HTf.out)⟩
  | true =>
    have u0 := (HT7.out.1.cb).c0
    have u1 := (HT7.out.1.cb).c1
    have u2 := (HT7.out.1.cb).c2
    go_wp2_with fail
    refine (K1.out _ HT7.out).mono ?_
    rintro e w8 ⟨rfl, hT⟩
    clear u0 u1 u2
    have HT8 : Hid (Tc f B_f T_f P (N : Nat) (K : Nat) (B : Nat) w w8 ∧ But (· = T_f) w7 w8) := hT
    clear hT
    cases b2 with
    | false =>
      have u0 := (HT8.out.1.cb).c0
      have u1 := (HT8.out.1.cb).c1
      have u2 := (HT8.out.1.cb).c2
      go_wp2_with fail
      refine (K2.out _ HT8.out).mono ?_
      rintro e w9 ⟨rfl, hT⟩
      clear u0 u1 u2
      have HT9 : Hid (Tc f B_f T_f P (N : Nat) (K : Nat) (B : Nat) w w9 ∧ But (· = T_f) w7 w9) := hT
      clear hT
      cases b3 with
      | false =>
        have u0 := (HT9.out.1.cb).c0
        have u1 := (HT9.out.1.cb).c1
        have u2 := (HT9.out.1.cb).c2
        go_wp2_with fail
        refine (K3.out _ HT9.out).mono ?_
        rintro e w10 ⟨rfl, hT⟩
        clear u0 u1 u2
        have HT10 : Hid (Tc f B_f T_f P (N : Nat) (K : Nat) (B : Nat) w w10 ∧ But (· = T_f) w7 w10) := hT
        clear hT
        have u0 := (HT10.out.1.cb).c0
        have u1 := (HT10.out.1.cb).c1
        have u2 := (HT10.out.1.cb).c2
        go_wp2_with fail
        refine (K5.out _ HT10.out).mono ?_
        rintro e w11 ⟨rfl, hT⟩
        clear u0 u1 u2
        have HT11 : Hid (Tc f B_f T_f P (N : Nat) (K : Nat) (B : Nat) w w11 ∧ But (· = T_f) w7 w11) := hT
        clear hT
        go_wp2
        go_ret
        exact ⟨rfl, HT11.out.1.tw.but.below (Nat.le_refl _) (by rintro k rfl; exact HTf.out)⟩
      | true =>
        have u0 := (HT9.out.1.cb).c0
        have u1 := (HT9.out.1.cb).c1
        have u2 := (HT9.out.1.cb).c2
        go_wp2_with fail
        refine (K3.out _ HT9.out).mono ?_
        rintro e w10 ⟨rfl, hT⟩
        clear u0 u1 u2
        have HT10 : Hid (Tc f B_f T_f P (N : Nat) (K : Nat) (B : Nat) w w10 ∧ But (· = T_f) w7 w10) := hT
        clear hT
        cases b4 with
        | false =>
          have u0 := (HT10.out.1.cb).c0
          have u1 := (HT10.out.1.cb).c1
          have u2 := (HT10.out.1.cb).c2
          go_wp2_with fail
          refine (K4.out _ HT10.out).mono ?_
          rintro e w11 ⟨rfl, hT⟩
          clear u0 u1 u2
          have HT11 : Hid (Tc f B_f T_f P (N : Nat) (K : Nat) (B : Nat) w w11 ∧ But (· = T_f) w7 w11) := hT
          clear hT
          have u0 := (HT11.out.1.cb).c0
          have u1 := (HT11.out.1.cb).c1
          have u2 := (HT11.out.1.cb).c2
          go_wp2_with fail
          refine (K5.out _ HT11.out).mono ?_
          rintro e w12 ⟨rfl, hT⟩
          clear u0 u1 u2
          have HT12 : Hid (Tc f B_f T_f P (N : Nat) (K : Nat) (B : Nat) w w12 ∧ But (· = T_f) w7 w12) := hT
          clear hT
          go_wp2
          go_ret
          exact ⟨rfl, HT12.out.1.tw.but.below (Nat.le_refl _) (by rintro k rfl; exact HTf.out)⟩
        | true =>
          have u0 := (HT10.out.1.cb).c0
          have u1 := (HT10.out.1.cb).c1
          have u2 := (HT10.out.1.cb).c2
          go_wp2_with fail
          refine (K4.out _ HT10.out).mono ?_
          rintro e w11 ⟨rfl, hT⟩
          clear u0 u1 u2
          have HT11 : Hid (Tc f B_f T_f P (N : Nat) (K : Nat) (B : Nat) w w11 ∧ But (· = T_f) w7 w11) := hT
          clear hT
          have u0 := (HT11.out.1.cb).c0
          have u1 := (HT11.out.1.cb).c1
          have u2 := (HT11.out.1.cb).c2
          go_wp2_with fail
          refine (K5.out _ HT11.out).mono ?_
          rintro e w12 ⟨rfl, hT⟩
          clear u0 u1 u2
          have HT12 : Hid (Tc f B_f T_f P (N : Nat) (K : Nat) (B : Nat) w w12 ∧ But (· = T_f) w7 w12) := hT
          clear hT
          have K6' := K6.out (HV.out.2 (by trivial) (by trivial))
          go_wp2_with fail
          refine (K6' _ HT12.out).mono ?_
          rintro e w13 ⟨rfl, hT⟩
          go_wp2
          go_ret
          exact ⟨rfl, hT.1.tw.but.below (Nat.le_refl _) (by rintro k rfl; exact HTf.out)⟩
    | true =>
      have u0 := (HT8.out.1.cb).c0
      have u1 := (HT8.out.1.cb).c1
      have u2 := (HT8.out.1.cb).c2
      go_wp2_with fail
      refine (K2.out _ HT8.out).mono ?_
      rintro e w9 ⟨rfl, hT⟩
      clear u0 u1 u2
      have HT9 : Hid (Tc f B_f T_f P (N : Nat) (K : Nat) (B : Nat) w w9 ∧ But (· = T_f) w7 w9) := hT
      clear hT
      cases b3 with
      | false =>
        have u0 := (HT9.out.1.cb).c0
        have u1 := (HT9.out.1.cb).c1
        have u2 := (HT9.out.1.cb).c2
        go_wp2_with fail
        refine (K3.out _ HT9.out).mono ?_
        rintro e w10 ⟨rfl, hT⟩
        clear u0 u1 u2
        have HT10 : Hid (Tc f B_f T_f P (N : Nat) (K : Nat) (B : Nat) w w10 ∧ But (· = T_f) w7 w10) := hT
        clear hT
        have u0 := (HT10.out.1.cb).c0
        have u1 := (HT10.out.1.cb).c1
        have u2 := (HT10.out.1.cb).c2
        go_wp2_with fail
        refine (K5.out _ HT10.out).mono ?_
        rintro e w11 ⟨rfl, hT⟩
        clear u0 u1 u2
        have HT11 : Hid (Tc f B_f T_f P (N : Nat) (K : Nat) (B : Nat) w w11 ∧ But (· = T_f) w7 w11) := hT
        clear hT
        have K6' := K6.out (HV.out.1 (by trivial) (by trivial))
        go_wp2_with fail
        refine (K6' _ HT11.out).mono ?_
        rintro e w12 ⟨rfl, hT⟩
        go_wp2
        go_ret
        exact ⟨rfl, hT.1.tw.but.below (Nat.le_refl _) (by rintro k rfl; exact HTf.out)⟩
      | true =>
        have u0 := (HT9.out.1.cb).c0
        have u1 := (HT9.out.1.cb).c1
        have u2 := (HT9.out.1.cb).c2
        go_wp2_with fail
        refine (K3.out _ HT9.out).mono ?_
        rintro e w10 ⟨rfl, hT⟩
        clear u0 u1 u2
        have HT10 : Hid (Tc f B_f T_f P (N : Nat) (K : Nat) (B : Nat) w w10 ∧ But (· = T_f) w7 w10) := hT
        clear hT
        cases b4 with
        | false =>
          have u0 := (HT10.out.1.cb).c0
          have u1 := (HT10.out.1.cb).c1
          have u2 := (HT10.out.1.cb).c2
          go_wp2_with fail
          refine (K4.out _ HT10.out).mono ?_
          rintro e w11 ⟨rfl, hT⟩
          clear u0 u1 u2
          have HT11 : Hid (Tc f B_f T_f P (N : Nat) (K : Nat) (B : Nat) w w11 ∧ But (· = T_f) w7 w11) := hT
          clear hT
          have u0 := (HT11.out.1.cb).c0
          have u1 := (HT11.out.1.cb).c1
          have u2 := (HT11.out.1.cb).c2
          go_wp2_with fail
          refine (K5.out _ HT11.out).mono ?_
          rintro e w12 ⟨rfl, hT⟩
          clear u0 u1 u2
          have HT12 : Hid (Tc f B_f T_f P (N : Nat) (K : Nat) (B : Nat) w w12 ∧ But (· = T_f) w7 w12) := hT
          clear hT
          have K6' := K6.out (HV.out.1 (by trivial) (by trivial))
          go_wp2_with fail
          refine (K6' _ HT12.out).mono ?_
          rintro e w13 ⟨rfl, hT⟩
          go_wp2
          go_ret
          exact ⟨rfl, hT.1.tw.but.below (Nat.le_refl _) (by rintro k rfl; exact HTf.out)⟩
        | true =>
          have u0 := (HT10.out.1.cb).c0
          have u1 := (HT10.out.1.cb).c1
          have u2 := (HT10.out.1.cb).c2
          go_wp2_with fail
          refine (K4.out _ HT10.out).mono ?_
          rintro e w11 ⟨rfl, hT⟩
          clear u0 u1 u2
          have HT11 : Hid (Tc f B_f T_f P (N : Nat) (K : Nat) (B : Nat) w w11 ∧ But (· = T_f) w7 w11) := hT
          clear hT
          have u0 := (HT11.out.1.cb).c0
          have u1 := (HT11.out.1.cb).c1
          have u2 := (HT11.out.1.cb).c2
          go_wp2_with fail
          refine (K5.out _ HT11.out).mono ?_
          rintro e w12 ⟨rfl, hT⟩
          clear u0 u1 u2
          have HT12 : Hid (Tc f B_f T_f P (N : Nat) (K : Nat) (B : Nat) w w12 ∧ But (· = T_f) w7 w12) := hT
          clear hT
          have K6' := K6.out (HV.out.1 (by trivial) (by trivial))
          go_wp2_with fail
          refine (K6' _ HT12.out).mono ?_
          rintro e w13 ⟨rfl, hT⟩
          go_wp2
          go_ret
          exact ⟨rfl, hT.1.tw.but.below (Nat.le_refl _) (by rintro k rfl; exact HTf.out)⟩
theorem own : ownKnob Tryz.prog.godebug = none := by kernel_rfl
theorem laidOut : laidOutB Tryz.prog = true := by kernel_rfl
set_option maxRecDepth 100000 in
theorem lifted (os : Os) (started : os.Started) (H : Type) (enc : TypeId × Value → H) :
    ReturnsInHanded {} Tryz.checked os 3 .any (Rows.checkOnlySpec.pre6 enc Tryz.prog Tryz.f3 Rows.checkOnlyRow.domain false) (Rows.checkOnlySpec.post enc Tryz.prog Tryz.f3 false true false false) := by
  refine returnsInHanded_of_change_sized (C := Tryz.checked) own started (by kernel_rfl) Tryz.func3
    (ChangeSpec.witness6 (enc := enc) (C := Tryz.checked) false ⟨#[], #[.int .u8 0, .int .u8 0, .int .u8 0, .int .u8 0, .slice none 0 0, .slice none 0 0, .slice none 0 0, .slice none 0 0, .slice none 0 0, .slice none 0 0], []⟩ 8 (by kernel_rfl) (by kernel_rfl) (by kernel_rfl) (by kernel_rfl)) ?_
  intro W base args ds gs before hval0 hW _ hz _
  have hval : ∀ (j : Nat) t v, Tryz.f3.params[j]? = some t → args[j]? = some v → Value.okWide Tryz.prog W .any base t v := hval0
  have hW' := hW
  obtain ⟨p, q, hA0, hV, rfl, _, _⟩ := hW
  have hA : DataW.TrodAll enc Tryz.prog W 0 (fun _ => true) true Tryz.f3.params.toList args.toList ds p := hA0
  rw [Tryz.params3] at hA hval
  obtain ⟨v0, vs0, d0, ds0, p0, q0, hargs, rfl, rfl, h0, r0⟩ := trodAll_cons hA
  obtain ⟨v1, vs1, d1, ds1, p1, q1, rfl, rfl, rfl, h1, r1⟩ := trodAll_cons r0
  obtain ⟨v2, vs2, d2, ds2, p2, q2, rfl, rfl, rfl, h2, r2⟩ := trodAll_cons r1
  obtain ⟨v3, vs3, d3, ds3, p3, q3, rfl, rfl, rfl, h3, r3⟩ := trodAll_cons r2
  obtain ⟨v4, vs4, d4, ds4, p4, q4, rfl, rfl, rfl, h4, r4⟩ := trodAll_cons r3
  obtain ⟨v5, vs5, d5, ds5, p5, q5, rfl, rfl, rfl, h5, r5⟩ := trodAll_cons r4
  obtain ⟨v6, vs6, d6, ds6, p6, q6, rfl, rfl, rfl, h6, r6⟩ := trodAll_cons r5
  obtain ⟨v7, vs7, d7, ds7, p7, q7, rfl, rfl, rfl, h7, r7⟩ := trodAll_cons r6
  obtain ⟨v8, vs8, d8, ds8, p8, q8, rfl, rfl, rfl, h8, r8⟩ := trodAll_cons r7
  obtain ⟨v9, vs9, d9, ds9, p9, q9, rfl, rfl, rfl, h9, r9⟩ := trodAll_cons r8
  obtain ⟨rfl, rfl, rfl⟩ := trodAll_nil r9
  obtain rfl : args = #[v0, v1, v2, v3, v4, v5, v6, v7, v8, v9] := by cases args; simp_all
  obtain ⟨rfl, rfl⟩ := trodVars_none hV
  obtain ⟨a0, rfl, rfl, rfl, w0⟩ := open_int Tryz.underlying5 (hval 0 5 v0 rfl rfl) h0
  obtain ⟨n0, b0, rfl⟩ := nat_of_u8 w0
  obtain ⟨a1, rfl, rfl, rfl, w1⟩ := open_int Tryz.underlying5 (hval 1 5 v1 rfl rfl) h1
  obtain ⟨n1, b1, rfl⟩ := nat_of_u8 w1
  obtain ⟨a2, rfl, rfl, rfl, w2⟩ := open_int Tryz.underlying5 (hval 2 5 v2 rfl rfl) h2
  obtain ⟨n2, b2, rfl⟩ := nat_of_u8 w2
  obtain ⟨a3, rfl, rfl, rfl, w3⟩ := open_int Tryz.underlying5 (hval 3 5 v3 rfl rfl) h3
  obtain ⟨n3, b3, rfl⟩ := nat_of_u8 w3
  have k4 := h4
  obtain ⟨q4, n4, c4, xs4, rfl, w4, m4⟩ := open_bytes_sz Tryz.underlying22 Tryz.underlying5 (by kernel_rfl) (hval 4 22 v4 rfl rfl) h4
  have y4 : n4 ≤ c4 ∧ c4 ≤ 140737488351232 := ⟨m4.1, m4.2 _ fun el sp hd => by have := sized_slice (j := 4) (t := 22) (e := 5) (elems := el) (spare := sp) hz (by kernel_rfl) (by first | (rw [← hd]; done) | (rw [← hd]; rfl)) Tryz.underlying22; have hbe : Tryz.checked.prog.bytesOf 5 = 1 := (by kernel_rfl); have hre : reachBytes = 140737488351232 := rfl; rw [hbe, hre] at this; omega⟩
  have k5 := h5
  obtain ⟨q5, n5, c5, xs5, rfl, w5, m5⟩ := open_bytes_sz Tryz.underlying22 Tryz.underlying5 (by kernel_rfl) (hval 5 22 v5 rfl rfl) h5
  have y5 : n5 ≤ c5 ∧ c5 ≤ 140737488351232 := ⟨m5.1, m5.2 _ fun el sp hd => by have := sized_slice (j := 5) (t := 22) (e := 5) (elems := el) (spare := sp) hz (by kernel_rfl) (by first | (rw [← hd]; done) | (rw [← hd]; rfl)) Tryz.underlying22; have hbe : Tryz.checked.prog.bytesOf 5 = 1 := (by kernel_rfl); have hre : reachBytes = 140737488351232 := rfl; rw [hbe, hre] at this; omega⟩
  have k6 := h6
  obtain ⟨q6, n6, c6, xs6, rfl, w6, m6⟩ := open_bytes_sz Tryz.underlying22 Tryz.underlying5 (by kernel_rfl) (hval 6 22 v6 rfl rfl) h6
  have y6 : n6 ≤ c6 ∧ c6 ≤ 140737488351232 := ⟨m6.1, m6.2 _ fun el sp hd => by have := sized_slice (j := 6) (t := 22) (e := 5) (elems := el) (spare := sp) hz (by kernel_rfl) (by first | (rw [← hd]; done) | (rw [← hd]; rfl)) Tryz.underlying22; have hbe : Tryz.checked.prog.bytesOf 5 = 1 := (by kernel_rfl); have hre : reachBytes = 140737488351232 := rfl; rw [hbe, hre] at this; omega⟩
  have k7 := h7
  obtain ⟨q7, n7, c7, xs7, rfl, w7, m7⟩ := open_bytes_sz Tryz.underlying22 Tryz.underlying5 (by kernel_rfl) (hval 7 22 v7 rfl rfl) h7
  have y7 : n7 ≤ c7 ∧ c7 ≤ 140737488351232 := ⟨m7.1, m7.2 _ fun el sp hd => by have := sized_slice (j := 7) (t := 22) (e := 5) (elems := el) (spare := sp) hz (by kernel_rfl) (by first | (rw [← hd]; done) | (rw [← hd]; rfl)) Tryz.underlying22; have hbe : Tryz.checked.prog.bytesOf 5 = 1 := (by kernel_rfl); have hre : reachBytes = 140737488351232 := rfl; rw [hbe, hre] at this; omega⟩
  have k8 := h8
  obtain ⟨q8, n8, c8, xs8, rfl, w8, m8⟩ := open_bytes_sz Tryz.underlying22 Tryz.underlying5 (by kernel_rfl) (hval 8 22 v8 rfl rfl) h8
  have y8 : n8 ≤ c8 ∧ c8 ≤ 140737488351232 := ⟨m8.1, m8.2 _ fun el sp hd => by have := sized_slice (j := 8) (t := 22) (e := 5) (elems := el) (spare := sp) hz (by kernel_rfl) (by first | (rw [← hd]; done) | (rw [← hd]; rfl)) Tryz.underlying22; have hbe : Tryz.checked.prog.bytesOf 5 = 1 := (by kernel_rfl); have hre : reachBytes = 140737488351232 := rfl; rw [hbe, hre] at this; omega⟩
  have k9 := h9
  obtain ⟨q9, n9, c9, xs9, rfl, w9, m9⟩ := open_bytes_sz Tryz.underlying22 Tryz.underlying5 (by kernel_rfl) (hval 9 22 v9 rfl rfl) h9
  have y9 : n9 ≤ c9 ∧ c9 ≤ 140737488351232 := ⟨m9.1, m9.2 _ fun el sp hd => by have := sized_slice (j := 9) (t := 22) (e := 5) (elems := el) (spare := sp) hz (by kernel_rfl) (by first | (rw [← hd]; done) | (rw [← hd]; rfl)) Tryz.underlying22; have hbe : Tryz.checked.prog.bytesOf 5 = 1 := (by kernel_rfl); have hre : reachBytes = 140737488351232 := rfl; rw [hbe, hre] at this; omega⟩
  clear hA0 hval0
  simp only [List.append_nil] at hW'
  refine (walk (w := W) n0 n1 n2 n3 q4 n4 c4 xs4 q5 n5 c5 xs5 q6 n6 c6 xs6 q7 n7 c7 xs7 q8 n8 c8 xs8 q9 n9 c9 xs9 b0 b1 b2 b3 w4 y4 w5 y5 w6 y6 w7 y7 w8 y8 w9 y9).mono fun e W' ⟨he, bel⟩ => ?_
  subst he
  exact ⟨_, rfl, _, _, _, [], _, [], hW', trodAll_mk1 (shut_bool Tryz.underlying4 _), (trodAll_cons_mk (shut_int Tryz.underlying5 w0) (trodAll_cons_mk (shut_int Tryz.underlying5 w1) (trodAll_cons_mk (shut_int Tryz.underlying5 w2) (trodAll_cons_mk (shut_int Tryz.underlying5 w3) (trodAll_cons_mk (shut_same laidOut (by kernel_rfl) (of_decide_eq_true (by kernel_rfl)) k4 bel) (trodAll_cons_mk (shut_same laidOut (by kernel_rfl) (of_decide_eq_true (by kernel_rfl)) k5 bel) (trodAll_cons_mk (shut_same laidOut (by kernel_rfl) (of_decide_eq_true (by kernel_rfl)) k6 bel) (trodAll_cons_mk (shut_same laidOut (by kernel_rfl) (of_decide_eq_true (by kernel_rfl)) k7 bel) (trodAll_cons_mk (shut_same laidOut (by kernel_rfl) (of_decide_eq_true (by kernel_rfl)) k8 bel) (trodAll_cons_mk (shut_same laidOut (by kernel_rfl) (of_decide_eq_true (by kernel_rfl)) k9 bel) trodAll_mk0)))))))))), rfl, bel.frame _, fun h => by cases h⟩
theorem over : Rows.checkOnlyRow.holds Tryz.pinned (OpenSpec.ofChange Rows.checkOnlySpec) :=
  OpenClaim.holds_of_wide 3 Tryz.f3 rfl rfl rfl rfl rfl rfl rfl ⟨rfl, rfl, rfl, rfl, rfl⟩ rfl rfl rfl rfl rfl (by kernel_rfl) Tryz.func3 (by kernel_rfl)
    (of_decide_eq_true (by kernel_rfl)) (by unfold Func.isWrapper; first | (rw [if_pos (by decide +kernel)]; kernel_rfl) | (rw [if_neg (by decide +kernel)]; exact ⟨rfl, rfl⟩))
    (fun os started H enc _ => lifted os started H enc)
theorem proved : Rows.CheckOnlySaid := over
#print axioms proved
end Go.Proofs.YtjnkkokhkooegaaGreat.checkOnly
