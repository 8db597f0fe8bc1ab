/- The walks of the document's answers of layer 11 (erratumref11): Encode and Message. Conditions: any code; lists of at most a million bytes, no longer than their capacities. -/
import Derived.Test.YtjnkkokhkooegaaGreatOF
import Derived.Test.YtjnkkokhkooegaaGreatNY
import Derived.Test.YtjnkkokhkooegaaGreatMT
namespace Go.Proofs
open Go.RowKit Go.ChangeShapes Go.WideShapes
open Pol (IsN Dg ofL Byt)
attribute [local go_sem ↓ high] builtin_ap
attribute [local go_sem] ap_sem

theorem wd_succ (t : Nat) (rs : List Nat) : Cd.wd (t + 1) rs = Cd.wd t rs ++ [rs.getD t 0] := by unfold Cd.wd; rw [List.range_succ, List.map_append]; rfl
/-- What the document's way comes to. -/
structure Rdt (N K S B : Nat) (xs us zs rs : List Nat) : Prop where
  up : IsN us (Pol.up S (ofL xs))
  ul : us.length ≤ S + K
  dv : IsDiv us (Cd.gen B S) zs rs true
  byt : Byt rs
  len : rs.length ≤ 300
  enc : Cd.IsEnc N S B xs (Cd.wd S rs ++ xs)
theorem rdt_exists {N K B S : Nat} (h : Cod N K B) (hS : N - K = S) {xs : List Nat} (hx : xs.length = K) (bx : Byt xs) : ∃ us zs rs, Rdt N K S B xs us zs rs := by
  obtain ⟨us, hu, hul⟩ := Pol.isN_of_bd ((Pol.ofL_bd xs).up S)
  obtain ⟨P1, P2, h1, h2, e⟩ := Pol.div_exists (gen_dg B S) _ (Pol.up S (ofL xs)) ((Pol.ofL_bd xs).up S)
  obtain ⟨zs, hz, -⟩ := Pol.isN_of_bd h1
  obtain ⟨rs, hr, hl⟩ := Pol.isN_of_bd h2
  have := h.m
  refine ⟨us, zs, rs, hu, by rw [hx] at hul; omega, .inr ⟨rfl, S, P1, P2, gen_dg B S, hz, hr, h2, by rw [hu.eq]; exact e⟩, hr.byt, by omega, ?_⟩
  exact Cd.isEnc_rest (N := N) (B := B) (r := rs) hx bx hr.byt (by have := h.n; omega) (hr.eq ▸ h2) h1 (by rw [hr.eq]; exact e)

set_option maxRecDepth 100000 in
set_option maxHeartbeats 1000000 in
theorem r11en_ten (N K B : Int) (q : Option Addr) (n c : Nat) (hc : cdB N K B = false) (w : World) :
    Calls Tryz.prog 10 #[.agg #[.int .i64 N, .int .i64 K, .int .i64 B], .slice q n c] w fun e w' => e = .returned (.tuple #[.slice none 0 0, .int .i64 10]) ∧ Below w.heap.size w w' := by
  obtain ⟨R, hR⟩ : ∃ R, w.heap.size = R := ⟨_, rfl⟩
  obtain ⟨W0, hW0⟩ : ∃ W0, w.alloc (.cells #[.int .i64 N, .int .i64 K, .int .i64 B] 26) = W0 := ⟨_, rfl⟩
  have hb0 : Below w.heap.size w W0 := hW0 ▸ (Below.refl _ w).alloc (Nat.le_refl _) _
  have hC : Cb W0 R N K B := by rw [← hW0, ← hR]; exact cb_new w _ _ _
  have K1 := r10right_calls N K B W0
  rw [cdE_no hc] at K1
  have HB : Hid (Below w.heap.size w W0) := hb0
  clear hb0 hc
  have c0 := (hC).c0
  have c1 := (hC).c1
  have c2 := (hC).c2
  clear hC
  go_enter Tryz.func10, Tryz.ntmps10
  go_wp2_with fail
  refine K1.mono ?_
  rintro e w1 ⟨rfl, hb⟩
  have HZ : Hid (Below w.heap.size w w1) := HB.out.trans (hb.mono HB.out.size)
  clear K1 hb
  clear c0 c1 c2
  go_wp2
  go_ret2
  exact ⟨rfl, HZ.out⟩
set_option maxRecDepth 100000 in
set_option maxHeartbeats 1000000 in
theorem r11en_len (N K B : Int) (q : Option Addr) (n c : Nat) (hc : cdB N K B = true) (hl : ¬ (n : Int) = K) (w : World) :
    Calls Tryz.prog 10 #[.agg #[.int .i64 N, .int .i64 K, .int .i64 B], .slice q n c] w fun e w' => e = .returned (.tuple #[.slice none 0 0, .int .i64 12]) ∧ Below w.heap.size w w' := by
  obtain ⟨R, hR⟩ : ∃ R, w.heap.size = R := ⟨_, rfl⟩
  obtain ⟨W0, hW0⟩ : ∃ W0, w.alloc (.cells #[.int .i64 N, .int .i64 K, .int .i64 B] 26) = W0 := ⟨_, rfl⟩
  have hb0 : Below w.heap.size w W0 := hW0 ▸ (Below.refl _ w).alloc (Nat.le_refl _) _
  have hC : Cb W0 R N K B := by rw [← hW0, ← hR]; exact cb_new w _ _ _
  have K1 := r10right_calls N K B W0
  rw [cdE_yes hc] at K1
  have HB : Hid (Below w.heap.size w W0 ∧ Cb W0 R N K B) := ⟨hb0, hC⟩
  have hl' : ((n : Int) != K) = true := by simp; exact hl
  clear hb0 hc hl
  have c0 := (hC).c0
  have c1 := (hC).c1
  have c2 := (hC).c2
  clear hC
  go_enter Tryz.func10, Tryz.ntmps10
  go_wp2_with fail
  refine K1.mono ?_
  rintro e w1 ⟨rfl, hb⟩
  have HZ : Hid (Below w.heap.size w w1) := HB.out.1.trans (hb.mono HB.out.1.size)
  have hC := HB.out.2.below hb
  clear K1 hb
  clear c0 c1 c2
  have c0 := (hC).c0
  have c1 := (hC).c1
  have c2 := (hC).c2
  clear hC
  go_wp2
  go_ret2
  exact ⟨rfl, HZ.out⟩
set_option maxRecDepth 100000 in
set_option maxHeartbeats 2000000 in
theorem r11en_ok (N K B S c : Nat) (q : Option Addr) (xs ws : List Nat) (h : Cod N K B) (hS : N - K = S) (hE : Cd.IsEnc N S B xs ws) (hc : K ≤ c) (w : World) (hs : Bs w q K xs) :
    Calls Tryz.prog 10 #[.agg #[.int .i64 (N : Nat), .int .i64 (K : Nat), .int .i64 (B : Nat)], .slice q K c] w fun e w' => ∃ v, e = .returned (.tuple #[v, .int .i64 0]) ∧ Ow w' w.heap.size v ws ∧ Below w.heap.size w w' := by
  obtain ⟨R, hR⟩ : ∃ R, w.heap.size = R := ⟨_, rfl⟩
  obtain ⟨W0, hW0⟩ : ∃ W0, w.alloc (.cells #[.int .i64 (N : Nat), .int .i64 (K : Nat), .int .i64 (B : Nat)] 26) = W0 := ⟨_, rfl⟩
  have hb0 : Below w.heap.size w W0 := hW0 ▸ (Below.refl _ w).alloc (Nat.le_refl _) _
  have hC : Cb W0 R (N : Nat) (K : Nat) (B : Nat) := by rw [← hW0, ← hR]; exact cb_new w _ _ _
  have K1 := r10right_calls (N : Int) (K : Int) (B : Int) W0
  rw [cdE_yes h.yes] at K1
  obtain ⟨us, zs, rs, hR0⟩ := rdt_exists h hS hs.len hs.byte
  obtain rfl := hR0.enc.unique hE h.m
  have KS : Hid (∀ W, Calls Tryz.prog 27 #[.agg #[.int .i64 (N : Nat), .int .i64 (K : Nat), .int .i64 (B : Nat)]] W fun e w' => e = .returned (.int .i64 (S : Nat)) ∧ Below W.heap.size W w') := fun W => by
    have := r10space_calls (N : Int) (K : Int) (B : Int) W
    rw [cdS_nat h, hS] at this
    exact this
  have KU : Hid (∀ W, Cb W R (N : Nat) (K : Nat) (B : Nat) ∧ Below w.heap.size w W → Calls Tryz.prog 29 #[.slice q K c, .int .i64 (S : Nat)] W fun e w' => ∃ q1 n1 c1, e = .returned (.slice q1 n1 c1) ∧ (Bs w' q1 n1 us ∧ n1 ≤ c1 ∧ n1 ≤ 300) ∧ (Cb w' R (N : Nat) (K : Nat) (B : Nat) ∧ Below w.heap.size w w')) := fun W hW =>
    (rup_calls q K c S xs us hR0.up (by have := h.m; have := h.n; omega) (by have := h.m; omega) W (hs.below hW.2)).mono fun e w' ⟨v, he, hO, hb⟩ => by
      obtain ⟨q1, c1, rfl, S1, C1, -⟩ := hO.tell hR0.up.byt rfl
      exact ⟨q1, _, c1, he, ⟨S1, C1, by have := hR0.ul; have := h.m; have := h.n; omega⟩, hW.1.below hb, hW.2.trans (hb.mono hW.2.size)⟩
  have KG : Hid (∀ q1 n1 W, Bs W q1 n1 us → Cb W R (N : Nat) (K : Nat) (B : Nat) ∧ Below w.heap.size w W → Calls Tryz.prog 30 #[.agg #[.int .i64 (N : Nat), .int .i64 (K : Nat), .int .i64 (B : Nat)]] W fun e w' => ∃ q2 c2, e = .returned (.slice q2 (S + 1) c2) ∧ (Bs w' q1 n1 us ∧ Bs w' q2 (S + 1) (Cd.gen B S)) ∧ (Cb w' R (N : Nat) (K : Nat) (B : Nat) ∧ Below w.heap.size w w')) := fun q1 n1 W h1 hW =>
    (r10gen_calls N K B S h hS W).mono fun e w' ⟨v, he, hO, hb⟩ => by
      obtain ⟨q2, c2, rfl, S2, C2, -⟩ := hO.tell (Cd.gen_isN B S).byt (Cd.gen_length B S)
      exact ⟨q2, c2, he, ⟨h1.below hb, S2⟩, hW.1.below hb, hW.2.trans (hb.mono hW.2.size)⟩
  have KM : Hid (∀ q1 n1 c1 q2 c2 W, n1 ≤ c1 ∧ n1 ≤ 300 → Bs W q1 n1 us ∧ Bs W q2 (S + 1) (Cd.gen B S) → Cb W R (N : Nat) (K : Nat) (B : Nat) ∧ Below w.heap.size w W → Calls Tryz.prog 28 #[.slice q1 n1 c1, .slice q2 (S + 1) c2] W fun e w' => ∃ q3 n3 c3, e = .returned (.tuple #[.slice q3 n3 c3, .bool true]) ∧ Bs w' q3 n3 rs ∧ (Cb w' R (N : Nat) (K : Nat) (B : Nat) ∧ Below w.heap.size w w')) := fun q1 n1 c1 q2 c2 W hn h1 hW =>
    (r6mod_u q1 q2 n1 c1 (S + 1) c2 us (Cd.gen B S) zs rs true hR0.dv (by omega) (by have := h.m; omega) hn.1 W h1.1 h1.2).mono fun e w' ⟨v, he, hO, hb⟩ => by
      obtain ⟨q3, c3, rfl, S3, C3, -⟩ := hO.tell hR0.byt rfl
      exact ⟨q3, _, c3, he, S3, hW.1.below hb, hW.2.trans (hb.mono hW.2.size)⟩
  have HM : Hid (Cod N K B ∧ N - K = S ∧ Rdt N K S B xs us zs rs ∧ Bs w q K xs ∧ K ≤ c) := ⟨h, hS, hR0, hs, hc⟩
  have HB : Hid (Below w.heap.size w W0 ∧ Cb W0 R (N : Nat) (K : Nat) (B : Nat)) := ⟨hb0, hC⟩
  have hS3 : (S : Int) ≤ 300 := by have := h.m; omega
  clear hb0 h hS hE hR0 hs hc
  have c0 := (hC).c0
  have c1 := (hC).c1
  have c2 := (hC).c2
  clear hC
  go_enter Tryz.func10, Tryz.ntmps10
  go_wp2_with fail
  refine K1.mono ?_
  rintro e w1 ⟨rfl, hb⟩
  have H1 : Hid (Cb w1 R (N : Nat) (K : Nat) (B : Nat) ∧ Below w.heap.size w w1) := ⟨HB.out.2.below hb, HB.out.1.trans (hb.mono HB.out.1.size)⟩
  have hC := H1.out.1
  have KS1 := KS.out w1
  clear K1 hb KS
  clear c0 c1 c2
  have c0 := (hC).c0
  have c1 := (hC).c1
  have c2 := (hC).c2
  clear hC
  go_wp2_with fail
  refine KS1.mono ?_
  rintro e w2 ⟨rfl, hb⟩
  have hT0 : Cb w2.drew R (N : Nat) (K : Nat) (B : Nat) ∧ Below w.heap.size w w2.drew := ⟨(H1.out.1.below hb).drew, (H1.out.2.trans (hb.mono H1.out.2.size)).drew⟩
  have hC := H1.out.1.below hb
  clear KS1 hb
  clear c0 c1 c2
  have c0 := (hC).c0
  have c1 := (hC).c1
  have c2 := (hC).c2
  clear hC
  go_wp2
  go_region_held3 (fun w' => w'.cell? ⟨R, 0, none⟩ = some (.int .i64 (N : Nat)) ∧ w'.cell? ⟨R, 1, none⟩ = some (.int .i64 (K : Nat)) ∧ w'.cell? ⟨R, 2, none⟩ = some (.int .i64 (B : Nat)))
    (first | (with_reducible exact ⟨hT3.1.c0, hT3.1.c1, hT3.1.c2⟩) | (with_reducible exact ⟨hT2.1.c0, hT2.1.c1, hT2.1.c2⟩) | (with_reducible exact ⟨hT1.1.c0, hT1.1.c1, hT1.1.c2⟩) | (with_reducible exact ⟨hT0.1.c0, hT0.1.c1, hT0.1.c2⟩))
    (first
      | (go_at_call 29; with_reducible refine (KU.out _ hT0).mono ?_; rintro e w3 ⟨q1, n1, d1, rfl, ⟨hu, hn1⟩, hT1⟩)
      | (go_at_call 30; with_reducible refine (KG.out _ _ _ hu hT1).mono ?_; rintro e w4 ⟨q2, d2, rfl, hug, hT2⟩)
      | (go_at_call 28; with_reducible refine (KM.out _ _ _ _ _ _ hn1 hug hT2).mono ?_; rintro e w5 ⟨q3, n3, d3, rfl, hr, hT3⟩))
  have H5 : Hid (Bs w5 q3 n3 rs ∧ Below w.heap.size w w5) := ⟨hr, hT3.2⟩
  clear KU KG KM hT0 hT1 hT2 hT3 hu hug hr hn1 H1 c0 c1 c2
  go_wp2
  go_loopw [9, 10] (fun v i wr => ∃ t : Nat, t ≤ S ∧ i = .int .i64 (t : Int) ∧ Ow wr w5.heap.size v (Cd.wd t rs) ∧ Below w5.heap.size w5 wr) (fun _ i _ => S - (intOf i).toNat)
  case atStart => exact ⟨0, by omega, rfl, ow_nil _ _, Below.refl _ _⟩
  case round =>
    obtain ⟨t, ht, rfl, hO, hB⟩ := hrel
    by_cases hlt : t < S
    · have hi : (t : Int) < (S : Int) := by omega
      have KC := rcoef_calls q3 n3 d3 rs (t : Int) wr (H5.out.1.below hB)
      rw [cof_nat] at KC
      have hws := wd_succ t rs
      obtain ⟨x, hx⟩ : ∃ x, rs.getD t 0 = x := ⟨_, rfl⟩
      rw [hx] at KC hws
      have hlu : (Cd.wd t rs).length ≤ 1000000000 := by rw [Cd.wd_length]; omega
      obtain ⟨vs, hvs⟩ : ∃ vs, Cd.wd t rs = vs := ⟨_, rfl⟩
      rw [hvs] at hO hlu hws
      obtain ⟨g, cg, W', hap, hO', hbw⟩ := run_append_one wr w5.heap.size _ vs x hO hlu hB.size
      obtain ⟨L, hL⟩ : ∃ L, (vs ++ [x]).length = L := ⟨_, rfl⟩
      rw [hL] at hap hO'
      have ha1 := ap_ok hap
      have ha2 := ap_v hap
      have ha3 := ap_w hap
      have HZ : Hid (Ow W' w5.heap.size (.slice (some ⟨g, 0, none⟩) L cg) (Cd.wd (t + 1) rs) ∧ Below w5.heap.size w5 W') := ⟨by rw [hws]; exact hO', hB.trans (hbw _ (Nat.le_refl _))⟩
      clear hO' hbw hap hL hO hx hvs hws hlu hB
      go_wp2_with fail
      refine KC.mono ?_
      rintro e w6 ⟨rfl, hw⟩
      subst hw
      clear KC
      go_wp2
      go_roundw
      case rel => exact ⟨t + 1, by omega, by go_num, HZ.out⟩
      case measure => simp [intOf]; omega
    · obtain rfl : t = S := by omega
      obtain ⟨v', W', hap, hO', hg⟩ := run_append_list wr w5.heap.size _ (Cd.wd t rs) q K c xs hO ((HM.out.2.2.2.1.below (H5.out.2)).below hB) (by rw [Cd.wd_length]; have := HM.out.1.m; have := HM.out.1.n; omega) hB.size
      have ha1 := ap_ok hap
      have ha2 := ap_v hap
      have ha3 := ap_w hap
      have hbk : Below w5.heap.size w5 W' := hB.grown hg hB.size (fun i hi => (hO.lt i hi).1)
      have HZ : Hid (Ow W' w.heap.size v' (Cd.wd t rs ++ xs) ∧ Below w.heap.size w W') := ⟨hO'.mono H5.out.2.size, H5.out.2.trans (hbk.mono H5.out.2.size)⟩
      clear hO' hg hap hO hB hbk
      go_wp2
      go_ret2
      exact ⟨_, rfl, HZ.out⟩
theorem r11en_u (N K B : Int) (q : Option Addr) (n c : Nat) (xs ws : List Nat) (r : Nat) (hE : IsEn N K B xs ws r) (hnc : n ≤ c) (w : World) (hs : Bs w q n xs) :
    Calls Tryz.prog 10 #[.agg #[.int .i64 N, .int .i64 K, .int .i64 B], .slice q n c] w fun e w' => ∃ v, e = .returned (.tuple #[v, .int .i64 (r : Nat)]) ∧ Ow w' w.heap.size v ws ∧ Below w.heap.size w w' := by
  have hl := hs.len
  rcases hE with ⟨hc, rfl, rfl⟩ | ⟨hc, hl', rfl, rfl⟩ | ⟨rfl, N', K', B', S, rfl, rfl, rfl, h, hS, hl', hE⟩
  · exact (r11en_ten N K B q n c hc w).mono fun e w' ⟨he, hb⟩ => ⟨_, he, ow_nil _ _, hb⟩
  · exact (r11en_len N K B q n c hc (by rw [← hl]; exact hl') w).mono fun e w' ⟨he, hb⟩ => ⟨_, he, ow_nil _ _, hb⟩
  · obtain rfl : n = K' := by omega
    exact r11en_ok N' n B' S c q xs ws h hS hE hnc w hs
end Go.Proofs
