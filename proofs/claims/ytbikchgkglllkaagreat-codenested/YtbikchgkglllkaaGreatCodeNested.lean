/- CodeNested holds for every input: with one byte more of a message each word that was is one still; with another first root a word is one, scaled place by place. No conditions. -/
import Derived.Test.YtbikchgkglllkaaGreatRows
import Derived.Test.YtbikchgkglllkaaGreatMB
import Derived.Test.YtbikchgkglllkaaGreatOB
import Derived.Test.YtbikchgkglllkaaGreatMO
import Derived.Test.YtbikchgkglllkaaGreatMV
namespace Go.Proofs.YtbikchgkglllkaaGreat.codeNested
open Go.ChangeShapes Go.WideShapes Go.ChangeAt Go.RowKit
open Pol (IsN Dg ofL Byt)
attribute [local go_sem ↓ high] builtin_ap
attribute [local go_sem] ap_sem

/-- A word scaled place by place, as far as t. -/
def vsK (ws : List Nat) : Nat → List Nat
  | 0 => []
  | t + 1 => vsK ws t ++ [Gf.mul (ws.getD t 0) (Gf.inv (Cd.pt t))]
theorem vsK_length (ws : List Nat) (t : Nat) : (vsK ws t).length = t := by
  induction t with
  | zero => rfl
  | succ t ih => simp [vsK, ih]
theorem vsK_at (ws : List Nat) (i : Nat) : ∀ t, i < t → (vsK ws t).getD i 0 = Gf.mul (ws.getD i 0) (Gf.inv (Cd.pt i))
  | 0, h => absurd h (Nat.not_lt_zero i)
  | t + 1, h => by
    show (vsK ws t ++ [_]).getD i 0 = _
    rw [Pol.getD_append, vsK_length]
    rcases Nat.lt_or_ge i t with h1 | h1
    · rw [if_pos h1, vsK_at ws i t h1]
    · obtain rfl : i = t := by omega
      rw [if_neg (Nat.lt_irrefl i), Nat.sub_self]; rfl
theorem vsK_byt {ws : List Nat} (h : Byt ws) (t : Nat) : Byt (vsK ws t) := fun i => by
  rcases Nat.lt_or_ge i t with h1 | h1
  · rw [vsK_at ws i t h1]; exact Gf.mul_lt _ _ (h i)
  · rw [Mx.getD_out (by rw [vsK_length]; exact h1)]; decide

set_option maxRecDepth 100000 in
set_option maxHeartbeats 4000000 in
theorem walk (j n k b : Nat) (qx : Option Addr) (lx cx : Nat) (xsx : List Nat) (w : World) (_hj : j < 256) (hn : n < 256) (hk : k < 256) (hb : b < 256) (hsx : Bs w qx lx xsx) (hcx : lx ≤ cx ∧ cx ≤ 140737488351232) :
    Calls Tryz.prog 9 #[.int .u8 j, .int .u8 n, .int .u8 k, .int .u8 b, .slice qx lx cx] w fun e w' => e = .returned (.bool true) ∧ Below w.heap.size w w' := by
  obtain ⟨f, hf⟩ : ∃ f : Nat, 1 + j % 3 = f := ⟨_, rfl⟩
  have hf1 : 1 ≤ f := by omega
  have hf3 : f ≤ 3 := by omega
  have hfi : (1 : Int) + (j : Int) % 3 = (f : Int) := by omega
  have hK0 : ∀ W, Calls Tryz.prog 11 _ W _ := fun W => lcode_calls n k b hn hk hb W
  have hcod := ck_cod n k b
  have hle := ckN_le n k
  obtain ⟨N, hN⟩ : ∃ N, ckN n k = N := ⟨_, rfl⟩
  obtain ⟨K, hK⟩ : ∃ K, ckK n k = K := ⟨_, rfl⟩
  obtain ⟨B, hB⟩ : ∃ B, ckB b = B := ⟨_, rfl⟩
  obtain ⟨S, hS⟩ : ∃ S, N - K = S := ⟨_, rfl⟩
  rw [hN, hK, hB] at hK0 hcod
  rw [hN] at hle
  obtain ⟨cs, zs, m, l2, d, wf⟩ := wf_exists hcod hS xsx
  have K0 : Hid (∀ W, Calls Tryz.prog 11 #[.int .u8 n, .int .u8 k, .int .u8 b] W fun e w' => e = .returned (.agg #[.int .i64 (N : Nat), .int .i64 (K : Nat), .int .i64 (B : Nat)]) ∧ Below W.heap.size W w') := hK0
  have HM : Hid (Cod N K B ∧ N - K = S ∧ N ≤ 69 ∧ WF N K B S xsx cs zs m l2 d) := ⟨hcod, hS, hle.2, wf⟩
  have hN69 : (N : Int) ≤ 69 := by omega
  have HSx : Hid (Bs w qx lx xsx ∧ lx ≤ cx) := ⟨hsx, hcx.1⟩
  clear hf hN hK hB hS hK0 hcod hle hn hk hb _hj hsx hcx
  obtain ⟨K1, hK1⟩ : ∃ K1, K + 1 = K1 := ⟨_, rfl⟩
  have hK1i : (K : Int) + 1 = (K1 : Int) := by omega
  obtain ⟨B1, hB1⟩ : ∃ B1, (B + 1) % 255 = B1 := ⟨_, rfl⟩
  have hB0 : (B : Int) ≤ 254 := by have := HM.out.1.b; omega
  obtain ⟨B2, hB2⟩ : ∃ B2, B + 1 = B2 := ⟨_, rfl⟩
  have hB2i : (B : Int) + 1 = (B2 : Int) := by omega
  have hB1i : (B2 : Int).tmod 255 = (B1 : Int) := by rw [Int.tmod_eq_emod_of_nonneg (by omega)]; omega
  have hKN : (K : Int) ≤ 69 := by have := HM.out.1.n; have := HM.out.2.2.1; omega
  have HK : Hid (K + 1 = K1 ∧ (B + 1) % 255 = B1 ∧ (vsK (Cd.wd N zs) N).length = N) := ⟨hK1, hB1, vsK_length _ _⟩
  clear wf hK1 hB1 hB2
  have HB : Below w.heap.size w w := Below.refl _ _
  go_enter Tryz.func9, Tryz.ntmps9
  go_wp2_with fail
  refine (fof_calls f hf1 hf3 _).mono ?_
  rintro e w1 ⟨B_f, T_f, rfl, HF_f, hb, hlB, hlT⟩
  have HL_f : w.heap.size ≤ T_f := Nat.le_trans HB.size hlT
  replace HB := HB.trans (hb.mono HB.size)
  clear hb hlB hlT
  clear hfi hf1 hf3
  have HT1 : Hid (Below w.heap.size w w1 ∧ Fd f B_f T_f w1 ∧ w.heap.size ≤ T_f) := ⟨HB, HF_f, HL_f⟩
  clear HB HF_f HL_f
  go_wp2_with fail
  refine (K0.out w1).mono ?_
  rintro e w2 ⟨rfl, hb⟩
  have HT2 : Hid (Below w.heap.size w w2 ∧ Fd f B_f T_f w2 ∧ w.heap.size ≤ T_f) := ⟨HT1.out.1.trans (hb.mono HT1.out.1.size), HT1.out.2.1.below hb, HT1.out.2.2⟩
  have HTf : Hid (w.heap.size ≤ T_f) := HT2.out.2.2
  clear hb K0
  obtain ⟨P, hP⟩ : ∃ P, w2.heap.size = P := ⟨_, rfl⟩
  obtain ⟨W3, hW3⟩ : ∃ W3, w2.alloc (.cells #[.int .i64 (N : Nat), .int .i64 (K : Nat), .int .i64 (B : Nat)] 23) = W3 := ⟨_, rfl⟩
  have hT3 : Tc f B_f T_f P (N : Nat) (K : Nat) (B : Nat) w W3 := by
    have h := tc_new HT2.out.2.1 (N : Int) (K : Int) (B : Int)
    rw [hP, hW3] at h
    exact ⟨⟨h.tw.fd, (But.of_below HT2.out.1).trans h.tw.but⟩, h.cb, h.nT⟩
  have HPlx : Hid (∀ W, Tc f B_f T_f P (N : Nat) (K : Nat) (B : Nat) w W → Tl W T_f qx lx cx xsx) := fun W hW => (⟨HSx.out.1, HSx.out.2, HSx.out.1.off HT2.out.2.2⟩ : Tl w T_f qx lx cx xsx).but hW.tw.but
  have HT3 : Hid (Tc f B_f T_f P (N : Nat) (K : Nat) (B : Nat) w W3) := hT3
  clear HT1 HT2
  have KG : Hid (∀ W, _ → _) := kgen f B_f T_f P N K B S w HM.out.1 HM.out.2.1
  have KC : Hid (∀ W, Tc f B_f T_f P (N : Nat) (K : Nat) (B : Nat) w W → _) := fun W hW => kcut f B_f T_f P N K B w qx lx cx m xsx cs (by have := HM.out.1.n; have := HM.out.2.2.1; omega) HM.out.2.2.2.cut HM.out.2.2.2.cl W hW (HPlx.out W hW)
  have KM : Hid (∀ q p c d W, Tc f B_f T_f P (N : Nat) (K : Nat) (B : Nat) w W → Tl W T_f q (S + 1) c (Cd.gen B S) → Tl W T_f p m d cs → _) := fun q p c d W hW h1 h2 => kmul f B_f T_f P N K B w q p (S + 1) c m d l2 (Cd.gen B S) cs zs HM.out.2.2.2.mul HM.out.2.2.2.zl (by have := HM.out; omega) (by have := HM.out.2.2.2.mK; have := HM.out.1.n; have := HM.out.2.2.1; omega) W hW h1 h2
  have KW : Hid (∀ q c W, Tc f B_f T_f P (N : Nat) (K : Nat) (B : Nat) w W → Tl W T_f q l2 c zs → _) := fun q c W hW h => kword f B_f T_f P N K B w q l2 c zs (by have := HM.out.2.2.1; omega) W hW h
  have hT0 := hT3.drew
  have hC := hT3.cb
  clear hT3
  have c0 := (hC).c0
  have c1 := (hC).c1
  have c2 := (hC).c2
  clear hC
  go_wp2
  go_region_held3 (fun w' => w'.cell? ⟨P, 0, none⟩ = some (.int .i64 (N : Nat)) ∧ w'.cell? ⟨P, 1, none⟩ = some (.int .i64 (K : Nat)) ∧ w'.cell? ⟨P, 2, none⟩ = some (.int .i64 (B : Nat)))
    (first | (with_reducible exact ⟨hT4.cb.c0, hT4.cb.c1, hT4.cb.c2⟩) | (with_reducible exact ⟨hT3.cb.c0, hT3.cb.c1, hT3.cb.c2⟩) | (with_reducible exact ⟨hT2.cb.c0, hT2.cb.c1, hT2.cb.c2⟩) | (with_reducible exact ⟨hT1.cb.c0, hT1.cb.c1, hT1.cb.c2⟩) | (with_reducible exact ⟨hT0.cb.c0, hT0.cb.c1, hT0.cb.c2⟩))
    (first
      | (go_at_call 19; with_reducible refine (KG.out _ hT0).mono ?_; rintro e w4 ⟨q_g, c_g, rfl, hG, hT1, hb1⟩)
      | (go_at_call 21; with_reducible refine (KC.out _ hT1).mono ?_; rintro e w5 ⟨q_c, c_c, rfl, hC2, hT2, hb2⟩)
      | (go_at_call 20; with_reducible refine (KM.out _ _ _ _ _ hT2 (hG.but hb2) hC2).mono ?_; rintro e w6 ⟨q_m, c_m, rfl, hM3, hT3, hb3⟩)
      | (go_at_call 14; with_reducible refine (KW.out _ _ _ hT3 hM3).mono ?_; rintro e w7 ⟨q_w, c_w, rfl, hW4, hT4, hb4⟩))
  obtain ⟨Q1, hQ1⟩ : ∃ Q1, w7.heap.size = Q1 := ⟨_, rfl⟩
  obtain ⟨W8, hW8⟩ : ∃ W8, w7.alloc (.cells #[.int .i64 (N : Nat), .int .i64 (K1 : Nat), .int .i64 (B : Nat)] 23) = W8 := ⟨_, rfl⟩
  obtain ⟨W9, hW9⟩ : ∃ W9, W8.alloc (.cells #[.int .i64 (N : Nat), .int .i64 (K : Nat), .int .i64 (B1 : Nat)] 23) = W9 := ⟨_, rfl⟩
  have hs8 : W8.heap.size = Q1 + 1 := by rw [← hW8, ← hQ1]; simp
  have hb78 : Below w7.heap.size w7 W8 := hW8 ▸ (Below.refl _ w7).alloc (Nat.le_refl _) _
  have hb89 : Below W8.heap.size W8 W9 := hW9 ▸ (Below.refl _ W8).alloc (Nat.le_refl _) _
  have hb79 : Below w7.heap.size w7 W9 := hb78.trans (hb89.mono hb78.size)
  obtain ⟨ws, hws⟩ : ∃ ws, Cd.wd N zs = ws := ⟨_, rfl⟩
  rw [hws] at hW4
  have HT9 : Hid (Tc f B_f T_f P (N : Nat) (K : Nat) (B : Nat) w W9 ∧ Tl W9 T_f q_w N c_w ws ∧ Cb W9 Q1 (N : Nat) (K1 : Nat) (B : Nat) ∧ Cb W9 (Q1 + 1) (N : Nat) (K : Nat) (B1 : Nat) ∧ T_f < Q1 ∧ B_f < Q1 ∧ W9.heap.size = Q1 + 2 ∧ Cd.IsW N S B ws) := by
    have c1 := cb_new w7 (N : Int) (K1 : Int) (B : Int)
    have c2 := cb_new W8 (N : Int) (K : Int) (B1 : Int)
    rw [hW8, hQ1] at c1
    rw [hW9, hs8] at c2
    exact ⟨hT4.below hb79, hW4.below hb79, c1.below hb89, c2, hQ1 ▸ hT4.lt, hQ1 ▸ hT4.tw.fd.blt, by rw [← hW9]; simp [hs8], hws ▸ HM.out.2.2.2.isW⟩
  have HK2 : Hid (K + 1 = K1 ∧ (B + 1) % 255 = B1) := ⟨HK.out.1, HK.out.2.1⟩
  have hC := hT4.cb
  have hC8 := (hT4.below hb78).cb
  have hC9 := (hT4.below hb79).cb
  clear KG KC KM KW hT0 hT1 hT2 hT3 hT4 hG hC2 hM3 hW4 hb1 hb2 hb3 hb4 hP hW3 hb78 hb89 hb79 hws HK
  have c0 := (hC).c0
  have c1 := (hC).c1
  have c2 := (hC).c2
  have d0 := (hC8).c0
  have d1 := (hC8).c1
  have d2 := (hC8).c2
  have hl2 := cell_alloc_l (.cells #[.int .i64 (N : Nat), .int .i64 (K : Nat), .int .i64 (B : Nat)] 23) d2
  clear hC hC8 hC9
  go_wp2
  clear hl2
  clear c0 c1 c2
  clear d0 d1 d2
  clear hW8 hW9 hs8 hQ1
  go_loopw [16, 17] (fun v i wr => ∃ t : Nat, t ≤ N ∧ i = .int .i64 (t : Int) ∧ Ow wr (Q1 + 2) v (vsK ws t) ∧ Fd f B_f T_f wr ∧ But (· = T_f) W9 wr) (fun _ i _ => N - (intOf i).toNat)
  case atStart => exact ⟨0, by omega, rfl, ow_nil _ _, HT9.out.1.tw.fd, But.refl _ _⟩
  case round =>
    obtain ⟨t, ht, rfl, hO, hF, hB⟩ := hrel
    by_cases hlt : t < N
    · have hi : (t : Int) < (N : Int) := by omega
      have hi0 : (0 : Int) ≤ (t : Int) := by omega
      have hpl := Cd.pt_lt t
      have hp0 : (Cd.pt t != 0) = true := bne_iff_ne.2 (Cd.pt_ne t)
      have K2 := cpoint_e f B_f T_f (t : Int) (Cd.pt t) (by omega) (by omega) (pt_nat t) wr hF
      obtain ⟨p, hp⟩ : ∃ p, Cd.pt t = p := ⟨_, rfl⟩
      have hbx := HT9.out.2.1.bs.byte t
      have hvs : vsK ws (t + 1) = vsK ws t ++ [Gf.mul (ws.getD t 0) (Gf.inv (Cd.pt t))] := rfl
      have hsz : Q1 + 2 ≤ wr.heap.size := by have := hB.size; have := HT9.out.2.2.2.2.2.2.1; omega
      rw [hp] at K2 hpl hp0 hvs
      have hil := Gf.inv_lt p hpl
      have K3 : Hid (∀ W, Fd f B_f T_f W → Calls Tryz.prog 32 #[.pointer (some ⟨B_f, 0, none⟩), .int .u8 (p : Nat)] W fun e w' => e = .returned (.tuple #[.int .u8 (Gf.inv p : Nat), .bool true]) ∧ Fd f B_f T_f w' ∧ But (· = T_f) W w') := fun W hW => finv_e f B_f T_f p _ true hpl rfl hp0 W hW
      obtain ⟨i, hie⟩ : ∃ i, Gf.inv p = i := ⟨_, rfl⟩
      obtain ⟨x, hx⟩ : ∃ x, ws.getD t 0 = x := ⟨_, rfl⟩
      obtain ⟨y, hy⟩ : ∃ y, Gf.mul x i = y := ⟨_, rfl⟩
      rw [hie] at K3 hil hvs
      rw [hx] at hbx hvs
      rw [hy] at hvs
      have K4 : Hid (∀ W, Fd f B_f T_f W → Calls Tryz.prog 30 #[.pointer (some ⟨B_f, 0, none⟩), .int .u8 (x : Nat), .int .u8 (i : Nat)] W fun e w' => e = .returned (.int .u8 (y : Nat)) ∧ Fd f B_f T_f w' ∧ But (· = T_f) W w') := fun W hW => fmul_e f B_f T_f x i y hbx hil hy W hW
      have HC : Hid (∀ W, But (· = T_f) W9 W → ∃ a, q_w = some a ∧ W.cell? (a.add t) = some (.int .u8 (x : Nat))) := fun W hW => by
        obtain ⟨a, e, _, ca⟩ := (HT9.out.2.1.but hW).bs.cell t hlt
        rw [hx] at ca
        exact ⟨a, e, ca⟩
      have HO : Hid (Ow wr (Q1 + 2) u16 (vsK ws t) ∧ But (· = T_f) W9 wr ∧ vsK ws (t + 1) = vsK ws t ++ [y]) := ⟨hO, hB, hvs⟩
      clear hO hB hF hvs hp hp0 hpl hil hie hx hy hbx
      go_wp2_with fail
      refine K2.mono ?_
      rintro e w10 ⟨rfl, hF, hb⟩
      clear K2
      have K3a := K3.out w10 hF
      have hB10 := HO.out.2.1.trans hb
      have hO10 := HO.out.1.butT hb (by have := HT9.out.2.2.2.2.1; omega)
      have HO1 : Hid (Ow w10 (Q1 + 2) u16 (vsK ws t) ∧ But (· = T_f) W9 w10 ∧ vsK ws (t + 1) = vsK ws t ++ [y]) := ⟨hO10, hB10, HO.out.2.2⟩
      have hsz1 : Q1 + 2 ≤ w10.heap.size := Nat.le_trans hsz hb.size
      clear hF hb hB10 hO10 HO K3 hsz
      go_wp2_with fail
      refine K3a.mono ?_
      rintro e w11 ⟨rfl, hF, hb⟩
      clear K3a
      have K4a := K4.out w11 hF
      have hB11 := HO1.out.2.1.trans hb
      obtain ⟨a, rfl, ca⟩ := HC.out w11 hB11
      have hO11 := HO1.out.1.butT hb (by have := HT9.out.2.2.2.2.1; omega)
      have HO2 : Hid (Ow w11 (Q1 + 2) u16 (vsK ws t) ∧ But (· = T_f) W9 w11 ∧ vsK ws (t + 1) = vsK ws t ++ [y]) := ⟨hO11, hB11, HO1.out.2.2⟩
      have hsz2 : Q1 + 2 ≤ w11.heap.size := Nat.le_trans hsz1 hb.size
      clear hF hb hB11 hO11 HO1 K4 hsz1
      go_wp2_with fail
      refine K4a.mono ?_
      rintro e w12 ⟨rfl, hF, hb⟩
      clear K4a ca
      have hO12 := HO2.out.1.butT hb (by have := HT9.out.2.2.2.2.1; omega)
      have hB12 := HO2.out.2.1.trans hb
      have hsz3 : Q1 + 2 ≤ w12.heap.size := Nat.le_trans hsz2 hb.size
      have hlu : (vsK ws t).length ≤ 1000000000 := by rw [vsK_length]; omega
      obtain ⟨us, hus⟩ : ∃ us, vsK ws t = us := ⟨_, rfl⟩
      have hnx := HO2.out.2.2
      rw [hus] at hO12 hlu hnx
      obtain ⟨g, cg, W', hap, hO', hbw⟩ := run_append_one w12 (Q1 + 2) _ us y hO12 hlu hsz3
      obtain ⟨L, hL⟩ : ∃ L, (us ++ [y]).length = L := ⟨_, rfl⟩
      rw [hL] at hap hO'
      have ha1 := ap_ok hap
      have ha2 := ap_v hap
      have ha3 := ap_w hap
      have HZ : Hid (Ow W' (Q1 + 2) (.slice (some ⟨g, 0, none⟩) L cg) (vsK ws (t + 1)) ∧ Fd f B_f T_f W' ∧ But (· = T_f) W9 W') := by
        have hbo := but_at (hbw (Q1 + 2) (Nat.le_refl _))
        have h5 := HT9.out.2.2.2.2
        exact ⟨by rw [hnx]; exact hO', hF.but hbo (by omega) (by omega), hB12.past hbo (fun i hi => by omega)⟩
      clear hO' hbw hap hL hlu hus hO12 hB12 hb HO2 hF hnx hsz2 hsz3
      go_wp2
      go_roundw
      case rel => exact ⟨t + 1, by omega, by go_num, HZ.out⟩
      case measure => simp [intOf]; omega
    · obtain rfl : t = N := by omega
      have hT5 := HT9.out.2.2.2.2
      have hTC : Tc f B_f T_f P (t : Nat) (K : Nat) (B : Nat) w wr := ⟨⟨hF, HT9.out.1.tw.but.trans hB⟩, HT9.out.1.cb.but hB HT9.out.1.nT, HT9.out.1.nT⟩
      obtain ⟨q_v, c_v, rfl, tV⟩ := hO.tl (T := T_f) (n := t) (by omega) (vsK_byt HT9.out.2.1.bs.byte t) (vsK_length ws t)
      have isV : Cd.IsW t S B1 (vsK ws t) := by
        have h := Cd.isW_next HT9.out.2.2.2.2.2.2.2 HT9.out.2.1.bs.byte (vsK_length ws t) (fun i hi => vsK_at ws i t hi)
        rw [← HK2.out.2]; exact Cd.IsW.mod.2 h
      have HV : Hid (∀ W, But (· = T_f) wr W → Tl W T_f q_v t c_v (vsK ws t)) := fun W hW => tV.but hW
      have HX : Hid (∀ W, But (· = T_f) wr W → Tl W T_f q_w t c_w ws ∧ Cb W Q1 (t : Nat) (K1 : Nat) (B : Nat) ∧ Cb W (Q1 + 1) (t : Nat) (K : Nat) (B1 : Nat)) := fun W hW => ⟨HT9.out.2.1.but (hB.trans hW), HT9.out.2.2.1.but (hB.trans hW) (by omega), HT9.out.2.2.2.1.but (hB.trans hW) (by omega)⟩
      have KK := kknown f B_f T_f P t K B w wr hTC
      have KH1 : Hid (∀ W, Tc f B_f T_f P (t : Nat) (K : Nat) (B : Nat) w W → But (· = T_f) wr W → _) := fun W hW hb => khas f B_f T_f P t K B S w q_w t c_w ws true HM.out.1 HM.out.2.1 (decide_eq_true HT9.out.2.2.2.2.2.2.2) W hW (HX.out W hb).1
      have KH3 : Hid (∀ W, Tc f B_f T_f P (t : Nat) (K : Nat) (B : Nat) w W → But (· = T_f) wr W → Calls Tryz.prog 24 #[.pointer (some ⟨B_f, 0, none⟩), .agg #[.int .i64 (t : Nat), .int .i64 (K : Nat), .int .i64 (B1 : Nat)], .slice q_v t c_v] W fun e w' => e = .returned (.bool true) ∧ Tc f B_f T_f P (t : Nat) (K : Nat) (B : Nat) w w' ∧ But (· = T_f) W w') := fun W hW hb =>
        (chas_e f B_f T_f t K B1 S t c_v q_v (vsK ws t) true ⟨HM.out.1.k, HM.out.1.n, HM.out.1.m, by have := HK2.out.2; omega⟩ HM.out.2.1 (decide_eq_true isV) W hW.tw.fd (HV.out W hb).bs (HV.out W hb).off).mono fun _ _ ⟨he, hF, hb⟩ => ⟨he, hW.next hF hb, hb⟩
      clear hO hF hB tV isV hTC hT5
      go_wp2_with fail
      refine KK.mono ?_
      rintro e w11 ⟨rfl, hT, hb⟩
      clear KK
      have KX := KH1.out w11 hT hb
      have HBx : Hid (But (· = T_f) wr w11) := hb
      have hC := hT.cb
      clear hT hb KH1
      have c0 := (hC).c0
      have c1 := (hC).c1
      have c2 := (hC).c2
      clear hC
      go_wp2_with fail
      refine KX.mono ?_
      rintro e w12 ⟨rfl, hT, hb⟩
      clear c0 c1 c2
      clear KX
      have HBy : Hid (But (· = T_f) wr w12) := HBx.out.trans hb
      have hC1 := (HX.out w12 HBy.out).2.1
      have hC2 := (HX.out w12 HBy.out).2.2
      by_cases hKN1 : K1 = t
      · have KX := KH3.out w12 hT HBy.out
        subst hKN1
        clear hT hb HBx KH3
        have c0 := (hC1).c0
        have c1 := (hC1).c1
        have c2 := (hC1).c2
        have d0 := (hC2).c0
        have d1 := (hC2).c1
        have d2 := (hC2).c2
        clear hC1 hC2
        go_wp2_with fail
        refine KX.mono ?_
        rintro e w13 ⟨rfl, hT, hb⟩
        clear c0 c1 c2
        clear d0 d1 d2
        clear KX
        go_wp2
        go_ret
        exact ⟨rfl, hT.tw.but.below (Nat.le_refl _) (by rintro k rfl; exact HTf.out)⟩
      · have hne : ((K1 : Int) == (t : Int)) = false := by simp; omega
        have KX : Calls Tryz.prog 24 #[.pointer (some ⟨B_f, 0, none⟩), .agg #[.int .i64 (t : Nat), .int .i64 (K1 : Nat), .int .i64 (B : Nat)], .slice q_w t c_w] w12 fun e w' => e = .returned (.bool true) ∧ Tc f B_f T_f P (t : Nat) (K : Nat) (B : Nat) w w' ∧ But (· = T_f) w12 w' :=
          (chas_e f B_f T_f t K1 B (t - K1) t c_w q_w ws true ⟨by have := HK2.out.1; omega, by have := HK2.out.1; have := HM.out.1.n; omega, HM.out.1.m, HM.out.1.b⟩ rfl (decide_eq_true (HT9.out.2.2.2.2.2.2.2.less (by have := HK2.out.1; have := HM.out.2.1; omega))) w12 hT.tw.fd (HX.out w12 HBy.out).1.bs (HX.out w12 HBy.out).1.off).mono fun _ _ ⟨he, hF, hb⟩ => ⟨he, hT.next hF hb, hb⟩
        clear hT hb HBx hKN1
        have c0 := (hC1).c0
        have c1 := (hC1).c1
        have c2 := (hC1).c2
        clear hC1 hC2
        go_wp2_with fail
        refine KX.mono ?_
        rintro e w13 ⟨rfl, hT, hb⟩
        clear c0 c1 c2
        clear KX
        have HBz : Hid (But (· = T_f) wr w13) := HBy.out.trans hb
        have KX := KH3.out w13 hT HBz.out
        have hC2 := (HX.out w13 HBz.out).2.2
        clear hT hb HBy
        have d0 := (hC2).c0
        have d1 := (hC2).c1
        have d2 := (hC2).c2
        clear hC2
        go_wp2_with fail
        refine KX.mono ?_
        rintro e w14 ⟨rfl, hT, hb⟩
        clear d0 d1 d2
        clear KX
        go_wp2
        go_ret
        exact ⟨rfl, hT.tw.but.below (Nat.le_refl _) (by rintro k rfl; exact HTf.out)⟩
theorem own : ownKnob Tryz.prog.godebug = none := by kernel_rfl
theorem laidOut : laidOutB Tryz.prog = true := by kernel_rfl
set_option maxRecDepth 100000 in
theorem lifted (os : Os) (started : os.Started) (H : Type) (enc : TypeId × Value → H) :
    ReturnsInHanded {} Tryz.checked os 9 .any (Rows.codeNestedSpec.pre6 enc Tryz.prog Tryz.f9 Rows.codeNestedRow.domain false) (Rows.codeNestedSpec.post enc Tryz.prog Tryz.f9 false true false false) := by
  refine returnsInHanded_of_change_sized (C := Tryz.checked) own started (by kernel_rfl) Tryz.func9
    (ChangeSpec.witness6 (enc := enc) (C := Tryz.checked) false ⟨#[], #[.int .u8 0, .int .u8 0, .int .u8 0, .int .u8 0, .slice none 0 0], []⟩ 8 (by kernel_rfl) (by kernel_rfl) (by kernel_rfl) (by kernel_rfl)) ?_
  intro W base args ds gs before hval0 hW _ hz _
  have hval : ∀ (j : Nat) t v, Tryz.f9.params[j]? = some t → args[j]? = some v → Value.okWide Tryz.prog W .any base t v := hval0
  have hW' := hW
  obtain ⟨p, q, hA0, hV, rfl, _, _⟩ := hW
  have hA : DataW.TrodAll enc Tryz.prog W 0 (fun _ => true) true Tryz.f9.params.toList args.toList ds p := hA0
  rw [Tryz.params9] at hA hval
  obtain ⟨v0, vs0, d0, ds0, p0, q0, hargs, rfl, rfl, h0, r0⟩ := trodAll_cons hA
  obtain ⟨v1, vs1, d1, ds1, p1, q1, rfl, rfl, rfl, h1, r1⟩ := trodAll_cons r0
  obtain ⟨v2, vs2, d2, ds2, p2, q2, rfl, rfl, rfl, h2, r2⟩ := trodAll_cons r1
  obtain ⟨v3, vs3, d3, ds3, p3, q3, rfl, rfl, rfl, h3, r3⟩ := trodAll_cons r2
  obtain ⟨v4, vs4, d4, ds4, p4, q4, rfl, rfl, rfl, h4, r4⟩ := trodAll_cons r3
  obtain ⟨rfl, rfl, rfl⟩ := trodAll_nil r4
  obtain rfl : args = #[v0, v1, v2, v3, v4] := by cases args; simp_all
  obtain ⟨rfl, rfl⟩ := trodVars_none hV
  obtain ⟨a0, rfl, rfl, rfl, w0⟩ := open_int Tryz.underlying5 (hval 0 5 v0 rfl rfl) h0
  obtain ⟨n0, b0, rfl⟩ := nat_of_u8 w0
  obtain ⟨a1, rfl, rfl, rfl, w1⟩ := open_int Tryz.underlying5 (hval 1 5 v1 rfl rfl) h1
  obtain ⟨n1, b1, rfl⟩ := nat_of_u8 w1
  obtain ⟨a2, rfl, rfl, rfl, w2⟩ := open_int Tryz.underlying5 (hval 2 5 v2 rfl rfl) h2
  obtain ⟨n2, b2, rfl⟩ := nat_of_u8 w2
  obtain ⟨a3, rfl, rfl, rfl, w3⟩ := open_int Tryz.underlying5 (hval 3 5 v3 rfl rfl) h3
  obtain ⟨n3, b3, rfl⟩ := nat_of_u8 w3
  have k4 := h4
  obtain ⟨q4, n4, c4, xs4, rfl, w4, m4⟩ := open_bytes_sz Tryz.underlying24 Tryz.underlying5 (by kernel_rfl) (hval 4 24 v4 rfl rfl) h4
  have y4 : n4 ≤ c4 ∧ c4 ≤ 140737488351232 := ⟨m4.1, m4.2 _ fun el sp hd => by have := sized_slice (j := 4) (t := 24) (e := 5) (elems := el) (spare := sp) hz (by kernel_rfl) (by first | (rw [← hd]; done) | (rw [← hd]; rfl)) Tryz.underlying24; have hbe : Tryz.checked.prog.bytesOf 5 = 1 := (by kernel_rfl); have hre : reachBytes = 140737488351232 := rfl; rw [hbe, hre] at this; omega⟩
  clear hA0 hval0
  simp only [List.append_nil] at hW'
  refine (walk (w := W) n0 n1 n2 n3 q4 n4 c4 xs4 b0 b1 b2 b3 w4 y4).mono fun e W' ⟨he, bel⟩ => ?_
  subst he
  exact ⟨_, rfl, _, _, _, [], _, [], hW', trodAll_mk1 (shut_bool Tryz.underlying4 _), (trodAll_cons_mk (shut_int Tryz.underlying5 w0) (trodAll_cons_mk (shut_int Tryz.underlying5 w1) (trodAll_cons_mk (shut_int Tryz.underlying5 w2) (trodAll_cons_mk (shut_int Tryz.underlying5 w3) (trodAll_cons_mk (shut_same laidOut (by kernel_rfl) (of_decide_eq_true (by kernel_rfl)) k4 bel) trodAll_mk0))))), rfl, bel.frame _, fun h => by cases h⟩
theorem over : Rows.codeNestedRow.holds Tryz.pinned (OpenSpec.ofChange Rows.codeNestedSpec) :=
  OpenClaim.holds_of_wide 9 Tryz.f9 rfl rfl rfl rfl rfl rfl rfl ⟨rfl, rfl, rfl, rfl, rfl⟩ rfl rfl rfl rfl rfl (by kernel_rfl) Tryz.func9 (by kernel_rfl)
    (of_decide_eq_true (by kernel_rfl)) (by unfold Func.isWrapper; first | (rw [if_pos (by decide +kernel)]; kernel_rfl) | (rw [if_neg (by decide +kernel)]; exact ⟨rfl, rfl⟩))
    (fun os started H enc _ => lifted os started H enc)
theorem proved : Rows.CodeNestedSaid := over
#print axioms proved
end Go.Proofs.YtbikchgkglllkaaGreat.codeNested
