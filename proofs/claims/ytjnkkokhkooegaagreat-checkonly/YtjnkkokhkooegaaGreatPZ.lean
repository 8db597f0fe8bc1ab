/- Texts laid together: Bent, Ref13, ChX2. Each says its own conditions. -/
import Derived.Test.YtjnkkokhkooegaaGreatOU
import Derived.Test.YtjnkkokhkooegaaGreatOH
import Derived.Test.YtjnkkokhkooegaaGreatOG
import Derived.Test.YtjnkkokhkooegaaGreatNU
import Derived.Test.YtjnkkokhkooegaaGreatMG
import Derived.Test.YtjnkkokhkooegaaGreatOW
import Derived.Test.YtjnkkokhkooegaaGreatMN
import Derived.Test.YtjnkkokhkooegaaGreatOY
/- The walk of erratumlaw13.Bent: a word, and what came of it. Conditions: a right code of at most a thousand bytes. -/
namespace Go.Proofs
open Go.RowKit Go.ChangeShapes Go.WideShapes
open Pol (IsN Dg ofL Byt vl)
attribute [local go_sem ↓ high] builtin_ap
attribute [local go_sem] ap_sem

set_option maxRecDepth 100000 in
set_option maxHeartbeats 4000000 in
theorem bent_calls (X Y Z S most : Nat) (h : Cod X Y Z) (hS : X - Y = S) (hm6 : most ≤ 1000) (qm qd qx : Option Addr) (lm cm ld cd lx cx : Nat) (ms ds xs ws : List Nat) (hE : Cd.IsEnc X S Z (Cd.wd Y ms) ws) (w : World) (s1 : Bs w qm lm ms) (s2 : Bs w qd ld ds) (s3 : Bs w qx lx xs) :
    Calls Tryz.prog 12 #[.agg #[.int .i64 (X : Nat), .int .i64 (Y : Nat), .int .i64 (Z : Nat)], .slice qm lm cm, .slice qd ld cd, .slice qx lx cx, .int .i64 (most : Nat)] w fun e w' => ∃ v1 v2 rs, e = .returned (.tuple #[v1, v2]) ∧ Ow w' w.heap.size v1 ws ∧ Ow w' w.heap.size v2 rs ∧ (rs.length = X ∧ Byt rs) ∧ Below w.heap.size w w' := by
  obtain ⟨P, hP⟩ : ∃ P, w.heap.size = P := ⟨_, rfl⟩
  obtain ⟨W0, hW0⟩ : ∃ W0, w.alloc (.cells #[.int .i64 (X : Nat), .int .i64 (Y : Nat), .int .i64 (Z : Nat)] 26) = W0 := ⟨_, rfl⟩
  have hb0 : Below w.heap.size w W0 := hW0 ▸ (Below.refl _ w).alloc (Nat.le_refl _) _
  have hC0 : Cb W0 P (X : Nat) (Y : Nat) (Z : Nat) := by rw [← hW0, ← hP]; exact cb_new w _ _ _
  have hwl : ws.length = X := hE.word.1
  have H0 : Hid (Bs w qm lm ms ∧ Bs w qd ld ds ∧ Bs w qx lx xs ∧ ws.length = X ∧ Byt ws ∧ Cod X Y Z) := ⟨s1, s2, s3, hwl, hE.byt, h⟩
  have HF : Hid (∀ W W', (Cb W P (X : Nat) (Y : Nat) (Z : Nat) ∧ Below w.heap.size w W) → Below W.heap.size W W' → (Cb W' P (X : Nat) (Y : Nat) (Z : Nat) ∧ Below w.heap.size w W')) := fun W W' h hb => ⟨h.1.below hb, h.2.trans (hb.mono h.2.size)⟩
  have K1 : Hid (∀ W, (Cb W P (X : Nat) (Y : Nat) (Z : Nat) ∧ Below w.heap.size w W) → Calls Tryz.prog 11 #[.agg #[.int .i64 (X : Nat), .int .i64 (Y : Nat), .int .i64 (Z : Nat)], .slice qm lm cm] W fun e w' => ∃ q c, e = .returned (.slice q Y c) ∧ Hid (Bs w' q Y (Cd.wd Y ms) ∧ Y ≤ c) ∧ (Cb w' P (X : Nat) (Y : Nat) (Z : Nat) ∧ Below w.heap.size w w')) := fun W hW =>
    (lmsg_calls Y lm cm X Z qm ms (by have := h.n; have := h.m; omega) W (s1.below hW.2)).mono fun e w' ⟨v, he, hO, hb⟩ => by
      obtain ⟨q, c, rfl, S', C', -⟩ := hO.tell (n := Y) (Cd.wd_byt s1.byte Y) (Cd.wd_length Y ms)
      exact ⟨q, c, he, ⟨S', C'⟩, HF.out W w' hW hb⟩
  have K2 : Hid (∀ q c W, (Cb W P (X : Nat) (Y : Nat) (Z : Nat) ∧ Below w.heap.size w W) → Hid (Bs W q Y (Cd.wd Y ms) ∧ Y ≤ c) → Calls Tryz.prog 10 #[.agg #[.int .i64 (X : Nat), .int .i64 (Y : Nat), .int .i64 (Z : Nat)], .slice q Y c] W fun e w' => ∃ v, e = .returned (.tuple #[v, .int .i64 0]) ∧ Hid (Ow w' w.heap.size v ws) ∧ (Cb w' P (X : Nat) (Y : Nat) (Z : Nat) ∧ Below w.heap.size w w')) := fun q c W hW hB =>
    (r11en_u X Y Z q Y c (Cd.wd Y ms) ws 0 (.inr (.inr ⟨rfl, X, Y, Z, S, rfl, rfl, rfl, h, hS, Cd.wd_length Y ms, hE⟩)) hB.out.2 W hB.out.1).mono fun e w' ⟨v, he, hO, hb⟩ => ⟨v, he, hO.mono hW.2.size, HF.out W w' hW hb⟩
  have hT0 : Cb W0.drew P (X : Nat) (Y : Nat) (Z : Nat) ∧ Below w.heap.size w W0.drew := ⟨hC0.drew, hb0.drew⟩
  have u0 := (hC0).c0
  have u1 := (hC0).c1
  have u2 := (hC0).c2
  clear hb0 hC0 s1 s2 s3 hE h hS hwl
  go_enter Tryz.func12, Tryz.ntmps12
  go_wp2
  go_region_held3 (fun w' => w'.cell? ⟨P, 0, none⟩ = some (.int .i64 (X : Nat)) ∧ w'.cell? ⟨P, 1, none⟩ = some (.int .i64 (Y : Nat)) ∧ w'.cell? ⟨P, 2, none⟩ = some (.int .i64 (Z : Nat)))
    (first | (with_reducible exact ⟨hT2.1.c0, hT2.1.c1, hT2.1.c2⟩) | (with_reducible exact ⟨hT1.1.c0, hT1.1.c1, hT1.1.c2⟩) | (with_reducible exact ⟨hT0.1.c0, hT0.1.c1, hT0.1.c2⟩))
    (first
      | (go_at_call 11; with_reducible refine (K1.out _ hT0).mono ?_; rintro e w1 ⟨q1, c1, rfl, h1, hT1⟩)
      | (go_at_call 10; with_reducible refine (K2.out _ _ _ hT1 h1).mono ?_; rintro e w2 ⟨v1, rfl, h2, hT2⟩))
  have hC := hT2.1
  obtain ⟨q1, c1, rfl, S1, C1, -⟩ := h2.out.tell (n := X) H0.out.2.2.2.2.1 H0.out.2.2.2.1
  obtain ⟨G, hG⟩ : ∃ G, w2.heap.size = G := ⟨_, rfl⟩
  have hGw : w.heap.size ≤ G := by rw [← hG]; exact hT2.2.size
  obtain ⟨v2, W3, hap, hO3, hg3⟩ := run_append_list w2 G (.slice none 0 0) [] q1 X c1 ws (ow_nil _ _) S1 (by have := H0.out.2.2.2.2.2.m; simp; omega) (by rw [hG]; exact Nat.le_refl _)
  rw [List.nil_append] at hO3
  have hb23 : Below G w2 W3 := (Below.refl G w2).grown hg3 (by rw [hG]; exact Nat.le_refl _) (fun k e => by cases e)
  obtain ⟨g, cg, rfl, hGg, hg3lt⟩ : ∃ g cg, v2 = .slice (some ⟨g, 0, none⟩) X cg ∧ G ≤ g ∧ g < W3.heap.size := by
    rcases hO3.shape with ⟨_, h0⟩ | ⟨g, c', h1, h2', h3', _⟩
    · have := congrArg List.length h0; rw [H0.out.2.2.2.1] at this; have h9 := H0.out.2.2.2.2.2; have h8 := h9.n; have h7 := h9.k; simp at this; omega
    · rw [H0.out.2.2.2.1] at h1; exact ⟨g, c', h1, h2', h3'⟩
  have ha1 := ap_ok hap
  have ha2 := ap_v hap
  have ha3 := ap_w hap
  have H3 : Hid (Ow w2 w.heap.size (.slice q1 X c1) ws ∧ Ow W3 G (.slice (some ⟨g, 0, none⟩) X cg) ws ∧ Below G w2 W3 ∧ Below w.heap.size w W3 ∧ Cb W3 P (X : Nat) (Y : Nat) (Z : Nat) ∧ (w.heap.size ≤ G ∧ w2.heap.size = G) ∧ G ≤ g ∧ g < W3.heap.size) := ⟨h2.out, hO3, hb23, hT2.2.trans (hb23.mono hGw), hC.below (hG.symm ▸ hb23), ⟨hGw, hG⟩, hGg, hg3lt⟩
  obtain ⟨es, hes⟩ : ∃ es, erL X most ds = es := ⟨_, rfl⟩
  obtain ⟨m, hm⟩ : ∃ m, es.length = m := ⟨_, rfl⟩
  have hok : ErOk X most es := hes ▸ erL_ok (by have := H0.out.2.2.2.2.2.n; omega) ds
  have HQ : Hid (erL X most ds = es ∧ es.length = m ∧ ErOk X most es ∧ m ≤ 1000) := ⟨hes, hm, hok, by have := hok.len; omega⟩
  have hm1000 : (m : Int) ≤ 1000 := by have := HQ.out.2.2.2; omega
  have K4 := erased_calls X (Y : Int) (Z : Int) ld cd most qd ds (by have := H0.out.2.2.2.2.2.n; omega) (by have := H0.out.2.2.2.2.2.m; omega) hm6 W3 (H0.out.2.1.below H3.out.2.2.2.1)
  rw [hes] at K4
  clear hT0 hT1 hT2 h1 h2 hC S1 C1 hO3 hg3 hb23 hap hes hm hok K1 K2 HF hGw hG hGg hg3lt hW0 hP
  clear u0 u1 u2
  have hC := H3.out.2.2.2.2.1
  have u0 := (hC).c0
  have u1 := (hC).c1
  have u2 := (hC).c2
  clear hC
  go_wp2_with fail
  refine K4.mono ?_
  rintro e w4 ⟨v4, rfl, hO4, hb4⟩
  clear u0 u1 u2
  obtain ⟨q4, c4, rfl, N4, C4, hQ4⟩ := OwV.tell_z (n := m) hO4 (zi_wf fun i hi => by have := HQ.out.2.2.1.lt i hi; have := H0.out.2.2.2.2.2.m; omega) (by rw [zi_length, HQ.out.2.1])
  have H4 : Hid (Ns .i64 w4 q4 m (zi es) ∧ Off g m q4 ∧ Below W3.heap.size W3 w4) := ⟨N4, hQ4 g H3.out.2.2.2.2.2.2.2, hb4⟩
  clear K4 hO4 hb4 N4 C4 hQ4
  go_wp2
  go_loopw [16, 17] (fun i z wr => ∃ (t : Nat) (rs : List Nat), t ≤ m ∧ i = .int .i64 (t : Int) ∧ Hid (rs.length = X ∧ Byt rs ∧ Ow wr G (.slice (some ⟨g, 0, none⟩) X cg) rs ∧ But (· = g) w4 wr)) (fun i _ _ => m - (intOf i).toNat)
  case atStart => exact ⟨0, ws, by omega, rfl, (⟨H0.out.2.2.2.1, H0.out.2.2.2.2.1, H3.out.2.1.below H4.out.2.2, But.refl _ _⟩ : ws.length = X ∧ _)⟩
  case round =>
    obtain ⟨t, rs, ht, rfl, HR⟩ := hrel
    by_cases hlt : t < m
    · have hti : (t : Int) < (m : Int) := by omega
      have hti0 : (0 : Int) ≤ (t : Int) := by omega
      obtain ⟨a, ha, _, ca⟩ := (H4.out.1.but HR.out.2.2.2 H4.out.2.1).cell t hlt
      have hmem : (zi es).getD t 0 ∈ zi es := getD_mem_z (by rw [zi_length, HQ.out.2.1]; exact hlt)
      obtain ⟨p, hp, hpe⟩ : ∃ p : Nat, p ∈ es ∧ (zi es).getD t 0 = (p : Int) := by
        obtain ⟨i, hi, e⟩ := List.mem_map.1 hmem
        exact ⟨i, hi, e.symm⟩
      have hpN := HQ.out.2.2.1.lt p hp
      rw [hpe] at ca
      have hxp := HR.out.2.2.1.at HR.out.1.symm p hpN
      have hxf := hxp.2
      have hxc := hxp.1
      have hrb := HR.out.2.1 p
      obtain ⟨o1, ho1⟩ : ∃ o1, rs.getD p 0 = o1 := ⟨_, rfl⟩
      rw [ho1] at hxc hrb
      have hpNi : (p : Int) < (X : Int) := by omega
      have hp0 : (0 : Int) ≤ (p : Int) := by omega
      have HN : Hid (∀ (x : Nat) (W' : World), x < 256 → W' = wr.setCell ⟨g, p, none⟩ (.int .u8 ((o1 ^^^ x : Nat) : Int)) → (rs.set p (o1 ^^^ x)).length = X ∧ Byt (rs.set p (o1 ^^^ x)) ∧ Ow W' G (.slice (some ⟨g, 0, none⟩) X cg) (rs.set p (o1 ^^^ x)) ∧ But (· = g) w4 W') := fun x W' hx e => by
        subst e
        refine ⟨by rw [List.length_set]; exact HR.out.1, fun i => ?_, HR.out.2.2.1.set HR.out.1.symm p _, HR.out.2.2.2.trans ((But.refl (· = g) wr).setCell (p := ⟨g, p, none⟩) (.inl rfl) _)⟩
        rw [Mx.getD_set]; split
        · exact Gf.xor_lt8 hrb hx
        · exact HR.out.2.1 i
      subst ha
      clear hmem hp hpe hpN hxp ho1
      obtain ⟨z0, hz0⟩ : ∃ z0 : Nat, (1 + t) % 256 = z0 := ⟨_, rfl⟩
      have hu8 : IntKind.u8.wrap (1 + (t : Int)) = (z0 : Int) := by rw [IntKind.wrap_u8]; omega
      have hz8 : z0 < 256 := by omega
      clear hz0
      by_cases hlx : t < lx
      · have hlxi : (t : Int) < (lx : Int) := by omega
        obtain ⟨a', ha', _, ca'⟩ := ((H0.out.2.2.1.below (H3.out.2.2.2.1.trans (H4.out.2.2.mono H3.out.2.2.2.1.size))).butS HR.out.2.2.2 (fun h0 a e => by
          obtain ⟨b, e2, hl2, _⟩ := H0.out.2.2.1.cell 0 h0
          obtain rfl : b = a := Option.some.inj (e2.symm.trans e)
          have := H3.out.2.2.2.2.2; omega)).cell t hlx
        obtain ⟨x, hx⟩ : ∃ x, xs.getD t 0 = x := ⟨_, rfl⟩
        have hx8 : x < 256 := by rw [← hx]; exact H0.out.2.2.1.byte t
        rw [hx] at ca'
        have hxo := u8_xor_nat o1 x hrb hx8
        subst ha'
        obtain ⟨W6, hW6⟩ : ∃ W6, wr.setCell ⟨g, p, none⟩ (.int .u8 ((o1 ^^^ x : Nat) : Int)) = W6 := ⟨_, rfl⟩
        have HZ : Hid ((rs.set p (o1 ^^^ x)).length = X ∧ Byt (rs.set p (o1 ^^^ x)) ∧ Ow W6 G (.slice (some ⟨g, 0, none⟩) X cg) (rs.set p (o1 ^^^ x)) ∧ But (· = g) w4 W6) := HN.out x W6 hx8 hW6.symm
        clear hx HR HN hrb hx8 hz8
        go_wp2
        go_region
        all_goals
          go_wp2
          go_roundw
          case rel => exact ⟨t + 1, _, hlt, by go_num, (⟨HZ.out.1, HZ.out.2.1, HZ.out.2.2.1.drew, HZ.out.2.2.2.os, HZ.out.2.2.2.tape, HZ.out.2.2.2.output, HZ.out.2.2.2.size, HZ.out.2.2.2.block⟩ : _ ∧ _)⟩
          case measure => simp [intOf]; omega
      · have hlxi : ((t : Int) < (lx : Int)) = False := eq_false (by omega)
        have hxo := u8_xor_nat o1 z0 hrb hz8
        obtain ⟨W6, hW6⟩ : ∃ W6, wr.setCell ⟨g, p, none⟩ (.int .u8 ((o1 ^^^ z0 : Nat) : Int)) = W6 := ⟨_, rfl⟩
        have HZ : Hid ((rs.set p (o1 ^^^ z0)).length = X ∧ Byt (rs.set p (o1 ^^^ z0)) ∧ Ow W6 G (.slice (some ⟨g, 0, none⟩) X cg) (rs.set p (o1 ^^^ z0)) ∧ But (· = g) w4 W6) := HN.out z0 W6 hz8 hW6.symm
        clear HR HN hrb hz8 hlx
        go_wp2
        go_region
        all_goals
          go_wp2
          go_roundw
          case rel => exact ⟨t + 1, _, hlt, by go_num, (⟨HZ.out.1, HZ.out.2.1, HZ.out.2.2.1.drew, HZ.out.2.2.2.os, HZ.out.2.2.2.tape, HZ.out.2.2.2.output, HZ.out.2.2.2.size, HZ.out.2.2.2.block⟩ : _ ∧ _)⟩
          case measure => simp [intOf]; omega
    · obtain rfl : t = m := by omega
      have hti : ((t : Int) < (t : Int)) = False := eq_false (by omega)
      have hb3 : Below G w2 w4 := H3.out.2.2.1.trans (H4.out.2.2.mono (by have := H3.out.2.2.1.size; have := H3.out.2.2.2.2.2.1.2; omega))
      have hbw : Below w.heap.size w w4 := H3.out.2.2.2.1.trans (H4.out.2.2.mono H3.out.2.2.2.1.size)
      have HZ : Hid (Ow wr w.heap.size (.slice q1 X c1) ws ∧ Ow wr w.heap.size (.slice (some ⟨g, 0, none⟩) X cg) rs ∧ (rs.length = X ∧ Byt rs) ∧ Below w.heap.size w wr) := by
        have hG := H3.out.2.2.2.2.2
        refine ⟨(H3.out.1.below (hG.1.2.symm ▸ hb3)).block fun k hk => HR.out.2.2.2.block k ((H3.out.1.below (hG.1.2.symm ▸ hb3)).lt k hk).2 (fun e => by have := (H3.out.1.lt k hk).2; omega), HR.out.2.2.1.mono hG.1.1, ⟨HR.out.1, HR.out.2.1⟩, hbw.trans (HR.out.2.2.2.below (Nat.le_trans hbw.size (Nat.le_refl _)) (fun k hk => by omega))⟩
      clear HR hb3 hbw hlt
      go_wp2
      go_ret2
      exact ⟨_, _, rs, rfl, HZ.out⟩
end Go.Proofs
/- The walks of erratumref13.Apart and Wrong. Conditions: lists of at most a million. -/
namespace Go.Proofs
open Go.RowKit Go.ChangeShapes Go.WideShapes
attribute [local go_sem ↓ high] builtin_ap
attribute [local go_sem] ap_sem

set_option maxRecDepth 100000 in
set_option maxHeartbeats 2000000 in
theorem r13apart_calls (q p : Option Addr) (n c m d : Nat) (xs ys : List Nat) (hn : n ≤ 1000000) (w : World) (hs : Bs w q n xs) (hy : Bs w p m ys) :
    Calls Tryz.prog 46 #[.slice q n c, .slice p m d] w fun e w' => ∃ v, e = .returned v ∧ OwZ w' w.heap.size v (zi (Cd.ap xs ys)) ∧ Below w.heap.size w w' := by
  obtain ⟨R, hR⟩ : ∃ R, w.heap.size = R := ⟨_, rfl⟩
  obtain ⟨u, hu⟩ : ∃ u, min n m = u := ⟨_, rfl⟩
  have HS : Hid (Bs w q n xs ∧ Bs w p m ys) := ⟨hs, hy⟩
  have HU : Hid (min n m = u ∧ n ≤ 1000000 ∧ u ≤ n ∧ u ≤ m ∧ xs.length = n ∧ ys.length = m) := ⟨hu, hn, by omega, by omega, hs.len, hy.len⟩
  have hu6 : (u : Int) ≤ 1000000 := by omega
  clear hs hy hu hn
  go_enter Tryz.func46, Tryz.ntmps46
  go_wp2
  go_loopw [5, 6] (fun v i wr => ∃ (t : Nat), t ≤ u ∧ i = .int .i64 (t : Int) ∧ Hid (OwZ wr R v (zi (Cd.apK xs ys t)) ∧ (Cd.apK xs ys t).length ≤ t ∧ Below R w wr)) (fun _ i _ => u - (intOf i).toNat)
  case atStart => exact ⟨0, by omega, rfl, (⟨owV_nil _ _ _, Nat.zero_le _, Below.refl _ _⟩ : OwZ _ _ _ (zi (Cd.apK xs ys 0)) ∧ _)⟩
  case round =>
    obtain ⟨t, ht, rfl, HO⟩ := hrel
    by_cases hlt : t < u
    · have hi1 : (t : Int) < (n : Int) := by have := HU.out; omega
      have hi2 : (t : Int) < (m : Int) := by have := HU.out; omega
      have hi0 : (0 : Int) ≤ (t : Int) := by omega
      have hb0 := hR.symm ▸ HO.out.2.2
      obtain ⟨a, ha, _, ca⟩ := (HS.out.1.below hb0).cell t (by have := HU.out; omega)
      obtain ⟨a', ha', _, ca'⟩ := (HS.out.2.below hb0).cell t (by have := HU.out; omega)
      have e1 := Cd.apK_yes (r := xs) (w := ys) (k := t)
      have e2 := Cd.apK_no (r := xs) (w := ys) (k := t)
      obtain ⟨x, hx⟩ : ∃ x, xs.getD t 0 = x := ⟨_, rfl⟩
      obtain ⟨y, hy⟩ : ∃ y, ys.getD t 0 = y := ⟨_, rfl⟩
      rw [hx] at ca
      rw [hy] at ca'
      rw [hx, hy] at e1 e2
      subst ha ha'
      clear hx hy hb0
      have hrs : R ≤ wr.heap.size := by have := HO.out.2.2.size; omega
      by_cases hxy : x = y
      · subst hxy
        have HE : Hid (Cd.apK xs ys (t + 1) = Cd.apK xs ys t) := e2 rfl
        clear e1 e2
        go_wp2
        go_quiet (fail)
        go_wp2
        go_roundw
        case rel => exact ⟨t + 1, hlt, by go_num, (by rw [HE.out]; exact ⟨HO.out.1.block fun _ _ => rfl, by have := HO.out.2.1; omega, ⟨HO.out.2.2.os, HO.out.2.2.tape, HO.out.2.2.output, HO.out.2.2.size, HO.out.2.2.block⟩⟩ : _ ∧ _)⟩
        case measure => simp [intOf]; omega
      · have HE : Hid (Cd.apK xs ys (t + 1) = Cd.apK xs ys t ++ [t]) := e1 hxy
        have hne : ((x : Int) != (y : Int)) = true := by simp; omega
        clear e1 e2 hxy
        go_wp2
        go_quiet (fail)
        obtain ⟨W2, hW2⟩ : ∃ W2, wr.drewN nq = W2 := ⟨_, rfl⟩
        rw [hW2]
        have hO2 : OwZ W2 R u5 (zi (Cd.apK xs ys t)) := hW2 ▸ HO.out.1.block fun _ _ => rfl
        have hsz2 : R ≤ W2.heap.size := by rw [← hW2]; exact hrs
        have hB2 : Below R w W2 := hW2 ▸ ⟨HO.out.2.2.os, HO.out.2.2.tape, HO.out.2.2.output, HO.out.2.2.size, HO.out.2.2.block⟩
        obtain ⟨g, cg, W3, hap, hO3, hbw⟩ := run_append_z W2 R u5 (zi (Cd.apK xs ys t)) (t : Int) hO2 (by rw [zi_length]; have := HO.out.2.1; omega) hsz2
        obtain ⟨l, hl⟩ : ∃ l, (zi (Cd.apK xs ys t)).length + 1 = l := ⟨_, rfl⟩
        rw [hl] at hap hO3
        rw [← zi_snoc] at hO3
        have ha1 := ap_ok hap
        have ha2 := ap_v hap
        have ha3 := ap_w hap
        have HZ : Hid (OwZ W3 R (.slice (some ⟨g, 0, none⟩) l cg) (zi (Cd.apK xs ys (t + 1))) ∧ (Cd.apK xs ys (t + 1)).length ≤ t + 1 ∧ Below R w W3) := by
          rw [HE.out]
          exact ⟨hO3, by rw [List.length_append]; have := HO.out.2.1; simp; omega, hB2.trans (hbw _ (Nat.le_refl _))⟩
        clear hO2 hsz2 hB2 hap hO3 hbw hl hW2 hrs
        go_wp2
        go_roundw
        case rel => exact ⟨t + 1, hlt, by go_num, HZ⟩
        case measure => simp [intOf]; omega
    · obtain rfl : t = u := by omega
      have HZ : Hid (OwZ wr w.heap.size u5 (zi (Cd.ap xs ys)) ∧ Below w.heap.size w wr) := by
        have e : Cd.apK xs ys t = Cd.ap xs ys := by
          have := Cd.apK_all xs ys
          rwa [HU.out.2.2.2.2.1, HU.out.2.2.2.2.2, HU.out.1] at this
        rw [← e, hR]; exact ⟨HO.out.1, HO.out.2.2⟩
      clear HO hlt
      by_cases hn : t < n
      · have h1 : (t : Int) < (n : Int) := by omega
        have h2 : ((t : Int) < (m : Int)) = False := eq_false (by have := HU.out; omega)
        clear hn
        go_wp2
        go_ret
        exact ⟨_, rfl, HZ.out⟩
      · have h1 : ((t : Int) < (n : Int)) = False := eq_false (by omega)
        clear hn
        go_wp2
        go_ret
        exact ⟨_, rfl, HZ.out⟩
set_option maxRecDepth 100000 in
set_option maxHeartbeats 2000000 in
theorem r13wrong_calls (q p s : Option Addr) (n c m d l k : Nat) (xs ys : List Nat) (zs : List Int) (hn : n ≤ 1000000) (hl : l ≤ 1000000) (w : World) (hs : Bs w q n xs) (hy : Bs w p m ys) (hz : Ns .i64 w s l zs) :
    Calls Tryz.prog 24 #[.slice q n c, .slice p m d, .slice s l k] w fun e w' => e = .returned (.int .i64 (Cd.wrZ xs ys zs : Nat)) ∧ Below w.heap.size w w' := by
  have K1 := r13apart_calls q p n c m d xs ys hn w hs hy
  obtain ⟨L, hL⟩ : ∃ L, Cd.ap xs ys = L := ⟨_, rfl⟩
  obtain ⟨o, ho⟩ : ∃ o, L.length = o := ⟨_, rfl⟩
  have HL : Hid (Cd.ap xs ys = L ∧ L.length = o ∧ o ≤ n ∧ (∀ i ∈ L, i < n)) := ⟨hL, ho, by have := Cd.ap_length xs ys; rw [hL, ho, hs.len] at this; omega, fun i hi => by rw [← hL] at hi; have := (Cd.mem_ap.1 hi).1; rw [hs.len] at this; exact this⟩
  have HZ0 : Hid (Ns .i64 w s l zs ∧ l ≤ 1000000 ∧ n ≤ 1000000) := ⟨hz, hl, hn⟩
  have ho6 : (o : Int) ≤ 1000000 := by have := HL.out; omega
  rw [hL] at K1
  clear hs hy hz hL ho hn hl
  go_enter Tryz.func24, Tryz.ntmps24
  go_wp2_with fail
  refine K1.mono ?_
  rintro e w1 ⟨v, rfl, hO, hb⟩
  obtain ⟨q1, c1, rfl, hN, -, -⟩ := hO.tell_z (n := o) (zi_wf fun i hi => by have := HL.out.2.2.2 i hi; have := HZ0.out; omega) (by rw [zi_length, HL.out.2.1])
  have H1 : Hid (Ns .i64 w1 q1 o (zi L) ∧ Below w.heap.size w w1) := ⟨hN, hb⟩
  clear K1 hO hN hb
  go_wp2
  go_loopw [7, 9] (fun v i wr => ∃ (t r : Nat), t ≤ o ∧ i = .int .i64 (t : Int) ∧ v = .int .i64 (r : Int) ∧ r ≤ t ∧ Hid (Cd.wrK xs ys zs t = r) ∧ Hid (Below w1.heap.size w1 wr)) (fun _ i _ => o - (intOf i).toNat)
  case atStart => exact ⟨0, 0, by omega, rfl, rfl, Nat.le_refl _, (rfl : Cd.wrK xs ys zs 0 = 0), Below.refl _ _⟩
  case round =>
    obtain ⟨t, r, ht, rfl, rfl, hrt, HK, HW⟩ := hrel
    by_cases hlt : t < o
    · have hti : (t : Int) < (o : Int) := by omega
      have hti0 : (0 : Int) ≤ (t : Int) := by omega
      have hri : (r : Int) ≤ 1000000 := by omega
      have hri0 : (0 : Int) ≤ (r : Int) := by omega
      obtain ⟨a, ha, _, ca⟩ := (H1.out.1.below HW.out).cell t hlt
      have hst := Cd.wrK_succ (r := xs) (w := ys) (e := zs) (k := t) (by rw [HL.out.1, HL.out.2.1]; exact hlt)
      rw [HL.out.1, HK.out] at hst
      have hgz : (zi L).getD t 0 = ((L.getD t 0 : Nat) : Int) := by simp [zi, List.getD, show t < L.length by rw [HL.out.2.1]; exact hlt]
      rw [hgz] at ca
      obtain ⟨x, hx⟩ : ∃ x, L.getD t 0 = x := ⟨_, rfl⟩
      rw [hx] at ca hst
      have hP := place_calls s l k zs (x : Int) HZ0.out.2.1 wr (HZ0.out.1.below (H1.out.2.trans (HW.out.mono H1.out.2.size)))
      have hpl : plZ zs (x : Int) < 0 ↔ (x : Int) ∉ zs := plZ_neg
      obtain ⟨p0, hp0⟩ : ∃ p0, plZ zs (x : Int) = p0 := ⟨_, rfl⟩
      rw [hp0] at hP hpl
      subst ha
      by_cases hin : (x : Int) ∈ zs
      · have hp1 : (p0 < 0) = False := eq_false (fun h => hpl.1 h hin)
        rw [if_pos hin, Nat.add_zero] at hst
        have HE : Hid (Cd.wrK xs ys zs (t + 1) = r) := hst
        clear hin hpl hst hx hp0 hgz
        go_wp2_with (go_at_call 19; refine hP.mono ?_; rintro e w3 ⟨rfl, rfl⟩)
        go_roundw
        case rel => exact ⟨t + 1, r, hlt, by go_num, rfl, by omega, HE, HW⟩
        case measure => simp [intOf]; omega
      · have hp1 : p0 < 0 := hpl.2 hin
        rw [if_neg hin] at hst
        have HE : Hid (Cd.wrK xs ys zs (t + 1) = r + 1) := hst
        clear hin hpl hst hx hp0 hgz
        go_wp2_with (go_at_call 19; refine hP.mono ?_; rintro e w3 ⟨rfl, rfl⟩)
        go_roundw
        case rel => exact ⟨t + 1, r + 1, hlt, by go_num, by go_num, by omega, HE, HW⟩
        case measure => simp [intOf]; omega
    · obtain rfl : t = o := by omega
      have hti : ((t : Int) < (t : Int)) = False := eq_false (by omega)
      have HZ : Hid (Cd.wrZ xs ys zs = r ∧ Below w.heap.size w wr) := ⟨by rw [← Cd.wrK_all, HL.out.1, HL.out.2.1]; exact HK.out, H1.out.2.trans (HW.out.mono H1.out.2.size)⟩
      clear HK HW
      go_wp2
      go_ret
      exact ⟨by rw [HZ.out.1]; rfl, HZ.out.2⟩
end Go.Proofs
/- More of what the laws of check ask: Bent, the document's Wrong, the example; when a word is accepted. Conditions: a field that Of has made; lists apart from its table. -/
namespace Go.Proofs
open Go.RowKit Go.ChangeShapes Go.WideShapes
open Pol (IsN Dg ofL Byt vl)

theorem erB_ok {N most : Nat} {L : List Nat} (h : ErOk N most L) : erB (N : Nat) (zi L) = true := by
  unfold erB
  have h1 : (zi L).any (outB (N : Nat)) = false := by
    rw [Bool.eq_false_iff]
    intro h2
    obtain ⟨z, hz, ho⟩ := List.any_eq_true.1 h2
    obtain ⟨i, hi, rfl⟩ := List.mem_map.1 hz
    have := h.lt i hi
    unfold outB at ho
    simp at ho
    omega
  rw [h1, decide_eq_true (zi_nodup.2 h.nd)]
  rfl
section
variable (k Bf T P : Nat) (N K B S : Nat) (w0 : World)
theorem kbent (most : Nat) (h : Cod N K B) (hS : N - K = S) (hm6 : most ≤ 1000) (qm qd qx : Option Addr) (lm cm ld cd lx cx : Nat) (ms ds xs ws : List Nat) (hE : Cd.IsEnc N S B (Cd.wd K ms) ws) (W : World) (hW : Tc k Bf T P (N : Nat) (K : Nat) (B : Nat) w0 W) (s1 : Tl W T qm lm cm ms) (s2 : Tl W T qd ld cd ds) (s3 : Tl W T qx lx cx xs) :
    Calls Tryz.prog 12 #[.agg #[.int .i64 (N : Nat), .int .i64 (K : Nat), .int .i64 (B : Nat)], .slice qm lm cm, .slice qd ld cd, .slice qx lx cx, .int .i64 (most : Nat)] W fun e w' => ∃ q1 c1 q2 c2 rs, e = .returned (.tuple #[.slice q1 N c1, .slice q2 N c2]) ∧ Tl w' T q1 N c1 ws ∧ Tl w' T q2 N c2 rs ∧ (rs.length = N ∧ Byt rs) ∧ Tc k Bf T P (N : Nat) (K : Nat) (B : Nat) w0 w' ∧ But (· = T) W w' :=
  (bent_calls N K B S most h hS hm6 qm qd qx lm cm ld cd lx cx ms ds xs ws hE W s1.bs s2.bs s3.bs).mono fun e w' ⟨v1, v2, rs, he, hO1, hO2, hr, hb⟩ => by
    obtain ⟨q1, c1, rfl, t1⟩ := hO1.tl hW.lt hE.byt hE.word.1
    obtain ⟨q2, c2, rfl, t2⟩ := hO2.tl hW.lt hr.2 hr.1
    exact ⟨q1, c1, q2, c2, rs, he, t1, t2, hr, hW.below hb, But.of_below hb⟩
theorem kwr13 (q p s : Option Addr) (n c m d l o r : Nat) (xs ys : List Nat) (zs : List Int) (hn : n ≤ 1000000) (hl : l ≤ 1000000) (hr : Cd.wrZ xs ys zs = r) (W : World) (hW : Tc k Bf T P (N : Nat) (K : Nat) (B : Nat) w0 W) (h1 : Tl W T q n c xs) (h2 : Tl W T p m d ys) (h3 : Tz W T s l o zs) :
    Calls Tryz.prog 24 #[.slice q n c, .slice p m d, .slice s l o] W fun e w' => e = .returned (.int .i64 (r : Nat)) ∧ Tc k Bf T P (N : Nat) (K : Nat) (B : Nat) w0 w' ∧ But (· = T) W w' :=
  (r13wrong_calls q p s n c m d l o xs ys zs hn hl W h1.bs h2.bs h3.ns).mono fun _ _ ⟨he, hb⟩ => ⟨hr ▸ he, hW.below hb, But.of_below hb⟩
theorem kkn13 (W : World) (hW : Tc k Bf T P (N : Nat) (K : Nat) (B : Nat) w0 W) :
    Calls Tryz.prog 16 #[] W fun e w' => e = .returned (.bool true) ∧ Tc k Bf T P (N : Nat) (K : Nat) (B : Nat) w0 w' ∧ But (· = T) W w' :=
  (known13_calls W).mono fun _ _ ⟨he, hb⟩ => ⟨he, hW.below hb, But.of_below hb⟩
theorem kenc13 (h : Cod N K B) (hS : N - K = S) (q : Option Addr) (c : Nat) (ms ws : List Nat) (hl : ms.length = K) (hE : Cd.IsEnc N S B ms ws) (W : World) (hW : Tc k Bf T P (N : Nat) (K : Nat) (B : Nat) w0 W) (s1 : Tl W T q K c ms) :
    Calls Tryz.prog 10 #[.agg #[.int .i64 (N : Nat), .int .i64 (K : Nat), .int .i64 (B : Nat)], .slice q K c] W fun e w' => ∃ q1 c1, e = .returned (.tuple #[.slice q1 N c1, .int .i64 0]) ∧ Tl w' T q1 N c1 ws ∧ Tc k Bf T P (N : Nat) (K : Nat) (B : Nat) w0 w' ∧ But (· = T) W w' :=
  (r11en_u N K B q K c ms ws 0 (.inr (.inr ⟨rfl, N, K, B, S, rfl, rfl, rfl, h, hS, hl, hE⟩)) s1.le W s1.bs).mono fun e w' ⟨v, he, hO, hb⟩ => by
    obtain ⟨q1, c1, rfl, t1⟩ := hO.tl hW.lt hE.byt hE.word.1
    exact ⟨q1, c1, he, t1, hW.below hb, But.of_below hb⟩
end
/-- When a word that is as long as it says is accepted, with places that are right. -/
theorem acP_word {N K B S most : Nat} (h : Cod N K B) (hS : N - K = S) {rs ws es : List Nat} (hr : rs.length = N) (he : ErOk N most es) (hw : Cd.IsW N S B ws) : acP (N : Int) (K : Int) (B : Int) rs (zi es) ws ↔ 2 * Cd.wrZ rs ws (zi es) + es.length ≤ S := by
  rw [acP_yes h hS, zi_length]
  exact ⟨fun h => h.2.2.2, fun h => ⟨hr, erB_ok he, hw, h⟩⟩
end Go.Proofs
