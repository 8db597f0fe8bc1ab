/- CodeLinear holds for every input: sums and multiples of words are words; a word with one byte another one is none. No conditions. -/
import Derived.Test.YtbikchgkglllkaaGreatRows
import Derived.Test.YtbikchgkglllkaaGreatMB
import Derived.Test.YtbikchgkglllkaaGreatOB
namespace Go.Proofs.YtbikchgkglllkaaGreat.codeLinear
open Go.ChangeShapes Go.WideShapes Go.ChangeAt Go.RowKit
open Pol (IsN Dg ofL Byt)

theorem set_same (xs : List Nat) (i : Nat) : xs.set i (xs.getD i 0) = xs := Mx.list_ext (by rw [List.length_set]) fun t _ => by
  rw [Mx.getD_set]
  split
  · rename_i e; rw [e.1]
  · rfl

set_option maxRecDepth 100000 in
set_option maxHeartbeats 4000000 in
theorem walk (j n k b : Nat) (qx : Option Addr) (lx cx : Nat) (xsx : List Nat) (qy : Option Addr) (ly cy : Nat) (xsy : List Nat) (a h x : Nat) (w : World) (_hj : j < 256) (hn : n < 256) (hk : k < 256) (hb : b < 256) (hsx : Bs w qx lx xsx) (hcx : lx ≤ cx ∧ cx ≤ 140737488351232) (hsy : Bs w qy ly xsy) (hcy : ly ≤ cy ∧ cy ≤ 140737488351232) (ha : a < 256) (hh : h < 256) (hx : x < 256) :
    Calls Tryz.prog 6 #[.int .u8 j, .int .u8 n, .int .u8 k, .int .u8 b, .slice qx lx cx, .slice qy ly cy, .int .u8 a, .int .u8 h, .int .u8 x] w fun e w' => e = .returned (.bool true) ∧ Below w.heap.size w w' := by
  obtain ⟨f, hf⟩ : ∃ f : Nat, 1 + j % 3 = f := ⟨_, rfl⟩
  have hf1 : 1 ≤ f := by omega
  have hf3 : f ≤ 3 := by omega
  have hfi : (1 : Int) + (j : Int) % 3 = (f : Int) := by omega
  have hK0 : ∀ W, Calls Tryz.prog 11 _ W _ := fun W => lcode_calls n k b hn hk hb W
  have hcod := ck_cod n k b
  have hle := ckN_le n k
  obtain ⟨N, hN⟩ : ∃ N, ckN n k = N := ⟨_, rfl⟩
  obtain ⟨K, hK⟩ : ∃ K, ckK n k = K := ⟨_, rfl⟩
  obtain ⟨B, hB⟩ : ∃ B, ckB b = B := ⟨_, rfl⟩
  obtain ⟨S, hS⟩ : ∃ S, N - K = S := ⟨_, rfl⟩
  rw [hN, hK, hB] at hK0 hcod
  rw [hN] at hle
  obtain ⟨cs, zs, m, l2, d, wf⟩ := wf_exists hcod hS xsx
  obtain ⟨ct, zt, mt, lt, dt, wt⟩ := wf_exists hcod hS xsy
  obtain ⟨sc, ad, ms, ma, wl⟩ := wl_exists (a := a) wf.isW wt.isW
  have K0 : Hid (∀ W, Calls Tryz.prog 11 #[.int .u8 n, .int .u8 k, .int .u8 b] W fun e w' => e = .returned (.agg #[.int .i64 (N : Nat), .int .i64 (K : Nat), .int .i64 (B : Nat)]) ∧ Below W.heap.size W w') := hK0
  have HM : Hid (Cod N K B ∧ N - K = S ∧ N ≤ 69 ∧ WF N K B S xsx cs zs m l2 d ∧ WF N K B S xsy ct zt mt lt dt ∧ a < 256 ∧ x < 256 ∧ WL N S B a (Cd.wd N zs) (Cd.wd N zt) sc ad ms ma) := ⟨hcod, hS, hle.2, wf, wt, ha, hx, wl⟩
  have hN69 : (N : Int) ≤ 69 := by omega
  have HSx : Hid (Bs w qx lx xsx ∧ lx ≤ cx) := ⟨hsx, hcx.1⟩
  have HSy : Hid (Bs w qy ly xsy ∧ ly ≤ cy) := ⟨hsy, hcy.1⟩
  obtain ⟨i, hi⟩ : ∃ i, h % N = i := ⟨_, rfl⟩
  have hiN : i < N := by rw [← hi]; exact Nat.mod_lt _ (by omega)
  have hii : (h : Int).tmod (N : Int) = (i : Int) := by rw [Int.tmod_eq_emod_of_nonneg (by omega), ← hi]; exact (Int.natCast_emod h N).symm
  have hiN' : (i : Int) < (N : Int) := by omega
  have hi0 : (0 : Int) ≤ (i : Int) := by omega
  have hwh : wrap64 (h : Int) = (h : Int) := by unfold wrap64; omega
  have hNz : ((N : Int) == 0) = false := by simp; omega
  have hmk := make_bytes N (by omega)
  have HI : Hid (i < N ∧ 0 < S) := ⟨hiN, by have := hcod.n; omega⟩
  clear hi hiN wf wt wl ha hh hx
  clear hf hN hK hB hS hK0 hcod hle hn hk hb _hj hsx hcx hsy hcy
  have HB : Below w.heap.size w w := Below.refl _ _
  go_enter Tryz.func6, Tryz.ntmps6
  go_wp2_with fail
  refine (fof_calls f hf1 hf3 _).mono ?_
  rintro e w1 ⟨B_f, T_f, rfl, HF_f, hb, hlB, hlT⟩
  have HL_f : w.heap.size ≤ T_f := Nat.le_trans HB.size hlT
  replace HB := HB.trans (hb.mono HB.size)
  clear hb hlB hlT
  clear hfi hf1 hf3
  have HT1 : Hid (Below w.heap.size w w1 ∧ Fd f B_f T_f w1 ∧ w.heap.size ≤ T_f) := ⟨HB, HF_f, HL_f⟩
  clear HB HF_f HL_f
  go_wp2_with fail
  refine (K0.out w1).mono ?_
  rintro e w2 ⟨rfl, hb⟩
  have HT2 : Hid (Below w.heap.size w w2 ∧ Fd f B_f T_f w2 ∧ w.heap.size ≤ T_f) := ⟨HT1.out.1.trans (hb.mono HT1.out.1.size), HT1.out.2.1.below hb, HT1.out.2.2⟩
  have HTf : Hid (w.heap.size ≤ T_f) := HT2.out.2.2
  clear hb K0
  obtain ⟨P, hP⟩ : ∃ P, w2.heap.size = P := ⟨_, rfl⟩
  obtain ⟨W3, hW3⟩ : ∃ W3, w2.alloc (.cells #[.int .i64 (N : Nat), .int .i64 (K : Nat), .int .i64 (B : Nat)] 23) = W3 := ⟨_, rfl⟩
  have hT3 : Tc f B_f T_f P (N : Nat) (K : Nat) (B : Nat) w W3 := by
    have h := tc_new HT2.out.2.1 (N : Int) (K : Int) (B : Int)
    rw [hP, hW3] at h
    exact ⟨⟨h.tw.fd, (But.of_below HT2.out.1).trans h.tw.but⟩, h.cb, h.nT⟩
  have HPlx : Hid (∀ W, Tc f B_f T_f P (N : Nat) (K : Nat) (B : Nat) w W → Tl W T_f qx lx cx xsx) := fun W hW => (⟨HSx.out.1, HSx.out.2, HSx.out.1.off HT2.out.2.2⟩ : Tl w T_f qx lx cx xsx).but hW.tw.but
  have HPly : Hid (∀ W, Tc f B_f T_f P (N : Nat) (K : Nat) (B : Nat) w W → Tl W T_f qy ly cy xsy) := fun W hW => (⟨HSy.out.1, HSy.out.2, HSy.out.1.off HT2.out.2.2⟩ : Tl w T_f qy ly cy xsy).but hW.tw.but
  have HT3 : Hid (Tc f B_f T_f P (N : Nat) (K : Nat) (B : Nat) w W3) := hT3
  clear HT1 HT2
  have KG := kgen f B_f T_f P N K B S w HM.out.1 HM.out.2.1 W3 hT3
  obtain ⟨G1, hG1⟩ : ∃ G1, S + 1 = G1 := ⟨_, rfl⟩
  rw [hG1] at KG
  have HG1 : Hid (S + 1 = G1) := hG1
  clear hG1
  have hC := hT3.cb
  have c0 := (hC).c0
  have c1 := (hC).c1
  have c2 := (hC).c2
  clear hC
  clear hT3
  go_wp2_with fail
  refine KG.mono ?_
  rintro e w4 ⟨q_g, c_g, rfl, hG, hT4, -⟩
  clear c0 c1 c2
  have HG : Hid (∀ W, But (· = T_f) w4 W → Tl W T_f q_g G1 c_g (Cd.gen B S)) := fun W hW => hG.but hW
  clear hG KG hP hW3
  have KC : Hid (∀ W, Tc f B_f T_f P (N : Nat) (K : Nat) (B : Nat) w W → _) := fun W hW => kcut f B_f T_f P N K B w qx lx cx m xsx cs (by have := HM.out.1.n; have := HM.out.2.2.1; omega) HM.out.2.2.2.1.cut HM.out.2.2.2.1.cl W hW (HPlx.out W hW)
  have KM : Hid (∀ q p c d W, Tc f B_f T_f P (N : Nat) (K : Nat) (B : Nat) w W → Tl W T_f q G1 c (Cd.gen B S) → Tl W T_f p m d cs → _) := fun q p c d W hW h1 h2 => kmul f B_f T_f P N K B w q p G1 c m d l2 (Cd.gen B S) cs zs HM.out.2.2.2.1.mul HM.out.2.2.2.1.zl (by have := HM.out; have := HG1.out; omega) (by have := HM.out.2.2.2.1.mK; have := HM.out.1.n; have := HM.out.2.2.1; omega) W hW h1 h2
  have KW : Hid (∀ q c W, Tc f B_f T_f P (N : Nat) (K : Nat) (B : Nat) w W → Tl W T_f q l2 c zs → _) := fun q c W hW h => kword f B_f T_f P N K B w q l2 c zs (by have := HM.out.2.2.1; omega) W hW h
  have hT0 := hT4.drew
  have hB0 : But (· = T_f) w4 w4.drew := (But.refl _ w4).drew
  have hC := hT4.cb
  have c0 := (hC).c0
  have c1 := (hC).c1
  have c2 := (hC).c2
  clear hC
  clear hT4
  go_wp2
  go_region_held3 (fun w' => w'.cell? ⟨P, 0, none⟩ = some (.int .i64 (N : Nat)) ∧ w'.cell? ⟨P, 1, none⟩ = some (.int .i64 (K : Nat)) ∧ w'.cell? ⟨P, 2, none⟩ = some (.int .i64 (B : Nat)))
    (first | (with_reducible exact ⟨hT3.cb.c0, hT3.cb.c1, hT3.cb.c2⟩) | (with_reducible exact ⟨hT2.cb.c0, hT2.cb.c1, hT2.cb.c2⟩) | (with_reducible exact ⟨hT1.cb.c0, hT1.cb.c1, hT1.cb.c2⟩) | (with_reducible exact ⟨hT0.cb.c0, hT0.cb.c1, hT0.cb.c2⟩))
    (first
      | (go_at_call 21; with_reducible refine (KC.out _ hT0).mono ?_; rintro e wa ⟨q_c, c_c, rfl, hC2, hT1, hb2⟩)
      | (go_at_call 20; with_reducible refine (KM.out _ _ _ _ _ hT1 (HG.out _ (hB0.trans hb2)) hC2).mono ?_; rintro e wb ⟨q_m, c_m, rfl, hM3, hT2, hb3⟩)
      | (go_at_call 14; with_reducible refine (KW.out _ _ _ hT2 hM3).mono ?_; rintro e w7 ⟨q_v, c_v, rfl, hW4, hT3, hb4⟩))
  have HB7 : Hid (But (· = T_f) w4 w7) := ((hB0.trans hb2).trans hb3).trans hb4
  have HV7 : Hid (∀ W, But (· = T_f) w7 W → Tl W T_f q_v N c_v (Cd.wd N zs)) := fun W hW => hW4.but hW
  have hT7 := hT3
  clear c0 c1 c2
  clear KC KM KW hT0 hT1 hT2 hT3 hC2 hM3 hW4 hb2 hb3 hb4 hB0
  have KC : Hid (∀ W, Tc f B_f T_f P (N : Nat) (K : Nat) (B : Nat) w W → _) := fun W hW => kcut f B_f T_f P N K B w qy ly cy mt xsy ct (by have := HM.out.1.n; have := HM.out.2.2.1; omega) HM.out.2.2.2.2.1.cut HM.out.2.2.2.2.1.cl W hW (HPly.out W hW)
  have KM : Hid (∀ q p c d W, Tc f B_f T_f P (N : Nat) (K : Nat) (B : Nat) w W → Tl W T_f q G1 c (Cd.gen B S) → Tl W T_f p mt d ct → _) := fun q p c d W hW h1 h2 => kmul f B_f T_f P N K B w q p G1 c mt d lt (Cd.gen B S) ct zt HM.out.2.2.2.2.1.mul HM.out.2.2.2.2.1.zl (by have := HM.out; have := HG1.out; omega) (by have := HM.out.2.2.2.2.1.mK; have := HM.out.1.n; have := HM.out.2.2.1; omega) W hW h1 h2
  have KW : Hid (∀ q c W, Tc f B_f T_f P (N : Nat) (K : Nat) (B : Nat) w W → Tl W T_f q lt c zt → _) := fun q c W hW h => kword f B_f T_f P N K B w q lt c zt (by have := HM.out.2.2.1; omega) W hW h
  have hT0 := hT7.drew
  have hB0 : But (· = T_f) w4 w7.drew := HB7.out.trans (But.refl _ w7).drew
  have hC := hT7.cb
  have c0 := (hC).c0
  have c1 := (hC).c1
  have c2 := (hC).c2
  clear hC
  clear hT7
  go_wp2
  go_region_held3 (fun w' => w'.cell? ⟨P, 0, none⟩ = some (.int .i64 (N : Nat)) ∧ w'.cell? ⟨P, 1, none⟩ = some (.int .i64 (K : Nat)) ∧ w'.cell? ⟨P, 2, none⟩ = some (.int .i64 (B : Nat)))
    (first | (with_reducible exact ⟨hT3.cb.c0, hT3.cb.c1, hT3.cb.c2⟩) | (with_reducible exact ⟨hT2.cb.c0, hT2.cb.c1, hT2.cb.c2⟩) | (with_reducible exact ⟨hT1.cb.c0, hT1.cb.c1, hT1.cb.c2⟩) | (with_reducible exact ⟨hT0.cb.c0, hT0.cb.c1, hT0.cb.c2⟩))
    (first
      | (go_at_call 21; with_reducible refine (KC.out _ hT0).mono ?_; rintro e wa ⟨q_c, c_c, rfl, hC2, hT1, hb2⟩)
      | (go_at_call 20; with_reducible refine (KM.out _ _ _ _ _ hT1 (HG.out _ (hB0.trans hb2)) hC2).mono ?_; rintro e wb ⟨q_m, c_m, rfl, hM3, hT2, hb3⟩)
      | (go_at_call 14; with_reducible refine (KW.out _ _ _ hT2 hM3).mono ?_; rintro e w8 ⟨q_u, c_u, rfl, hW4, hT3, hb4⟩))
  have HB8 : Hid (But (· = T_f) w7 w8) := (((But.refl _ w7).drew.trans hb2).trans hb3).trans hb4
  have HU8 : Hid (∀ W, But (· = T_f) w8 W → Tl W T_f q_u N c_u (Cd.wd N zt) ∧ Tl W T_f q_v N c_v (Cd.wd N zs)) := fun W hW => ⟨hW4.but hW, HV7.out W (HB8.out.trans hW)⟩
  have hT8 := hT3
  clear c0 c1 c2
  clear KC KM KW hT0 hT1 hT2 hT3 hC2 hM3 hW4 hb2 hb3 hb4 hB0 HV7 HB7
  have KC : Hid (∀ W, Tc f B_f T_f P (N : Nat) (K : Nat) (B : Nat) w W → But (· = T_f) w8 W → _) := fun W hW hb => kscale f B_f T_f P N K B w a N c_u ms q_u (Cd.wd N zt) sc HM.out.2.2.2.2.2.1 HM.out.2.2.2.2.2.2.2.sI HM.out.2.2.2.2.2.2.2.sl (by have := HM.out.2.2.1; omega) W hW (HU8.out W hb).1
  have KM : Hid (∀ q c W, Tc f B_f T_f P (N : Nat) (K : Nat) (B : Nat) w W → But (· = T_f) w8 W → Tl W T_f q ms c sc → _) := fun q c W hW hb h => kadd f B_f T_f P N K B w q_v q N c_v ms c ma (Cd.wd N zs) sc ad HM.out.2.2.2.2.2.2.2.aI HM.out.2.2.2.2.2.2.2.al (by have := HM.out.2.2.1; omega) (by have := HM.out.2.2.2.2.2.2.2.sN; have := HM.out.2.2.1; omega) W hW (HU8.out W hb).2 h
  have KW : Hid (∀ q c W, Tc f B_f T_f P (N : Nat) (K : Nat) (B : Nat) w W → Tl W T_f q ma c ad → _) := fun q c W hW h => kword f B_f T_f P N K B w q ma c ad (by have := HM.out.2.2.1; omega) W hW h
  have hT0 := hT8.drew
  have hB0 : But (· = T_f) w8 w8.drew := (But.refl _ w8).drew
  have hC := hT8.cb
  have c0 := (hC).c0
  have c1 := (hC).c1
  have c2 := (hC).c2
  clear hC
  clear hT8
  go_wp2
  go_region_held3 (fun w' => w'.cell? ⟨P, 0, none⟩ = some (.int .i64 (N : Nat)) ∧ w'.cell? ⟨P, 1, none⟩ = some (.int .i64 (K : Nat)) ∧ w'.cell? ⟨P, 2, none⟩ = some (.int .i64 (B : Nat)))
    (first | (with_reducible exact ⟨hT3.cb.c0, hT3.cb.c1, hT3.cb.c2⟩) | (with_reducible exact ⟨hT2.cb.c0, hT2.cb.c1, hT2.cb.c2⟩) | (with_reducible exact ⟨hT1.cb.c0, hT1.cb.c1, hT1.cb.c2⟩) | (with_reducible exact ⟨hT0.cb.c0, hT0.cb.c1, hT0.cb.c2⟩))
    (first
      | (go_at_call 26; with_reducible refine (KC.out _ hT0 hB0).mono ?_; rintro e wa ⟨q_c, c_c, rfl, hC2, hT1, hb2⟩)
      | (go_at_call 25; with_reducible refine (KM.out _ _ _ hT1 (hB0.trans hb2) hC2).mono ?_; rintro e wb ⟨q_m, c_m, rfl, hM3, hT2, hb3⟩)
      | (go_at_call 14; with_reducible refine (KW.out _ _ _ hT2 hM3).mono ?_; rintro e w9 ⟨q_s, c_s, rfl, hW4, hT3, hb4⟩))
  clear c0 c1 c2
  have HB9 : Hid (But (· = T_f) w8 w9) := (((But.refl _ w8).drew.trans hb2).trans hb3).trans hb4
  have HV9 : Hid (Tl w9 T_f q_v N c_v (Cd.wd N zs) ∧ Tl w9 T_f q_s N c_s (Cd.wd N ad)) := ⟨(HU8.out w9 HB9.out).2, hW4⟩
  have K9 := lword_calls N N c_v (K : Int) (B : Int) q_v (Cd.wd N zs) (by have := HM.out.2.2.1; omega) w9 HV9.out.1.bs
  rw [Cd.wd_same (Cd.wd_length N zs)] at K9
  have HT9 : Hid (Tc f B_f T_f P (N : Nat) (K : Nat) (B : Nat) w w9) := hT3
  have hC := hT3.cb
  have c0 := (hC).c0
  have c1 := (hC).c1
  have c2 := (hC).c2
  clear hC
  clear KC KM KW hT0 hT1 hT2 hT3 hC2 hM3 hW4 hb2 hb3 hb4 hB0 HU8 HB8 HB9 HG
  go_wp2_with fail
  refine K9.mono ?_
  rintro e w10 ⟨v, rfl, hO, hb⟩
  clear c0 c1 c2
  clear K9
  have hT10 := HT9.out.below hb
  have hv10 := HV9.out.1.below hb
  have hs10 := HV9.out.2.below hb
  obtain ⟨g, cg, rfl, hgb⟩ : ∃ g cg, v = .slice (some ⟨g, 0, none⟩) N cg ∧ w9.heap.size ≤ g := by
    rcases hO.shape with ⟨_, h0⟩ | ⟨g, cap, e, h1, _⟩
    · have h2 := Cd.wd_length N zs
      rw [h0] at h2
      have h3 : 0 = N := h2
      have := HI.out; omega
    · rw [Cd.wd_length] at e; exact ⟨g, cap, e, h1⟩
  obtain ⟨hca, hfa⟩ := hO.at (Cd.wd_length N zs).symm i HI.out.1
  have hbv := (Cd.wd_byt HV9.out.1.bs.byte N)
  have hob := Cd.not_isW (x := x) (v := Cd.wd N zs) (u := (Cd.wd N zs).set i ((Cd.wd N zs).getD i 0 ^^^ x)) HM.out.2.2.2.1.isW HI.out.2 HI.out.1 HM.out.2.2.2.2.2.2.1
  have hbyt := HV9.out.1.bs.byte
  have hyl := hbyt i
  obtain ⟨y, hy⟩ : ∃ y, (Cd.wd N zs).getD i 0 = y := ⟨_, rfl⟩
  rw [hy] at hca hob hyl
  have hxo := u8_xor_nat y x hyl HM.out.2.2.2.2.2.2.1
  obtain ⟨W11, hW11⟩ : ∃ W11, w10.setCell ⟨g, i, none⟩ (.int .u8 ((y ^^^ x : Nat) : Int)) = W11 := ⟨_, rfl⟩
  have hbt : But (· = g) w10 W11 := hW11 ▸ (But.refl (· = g) w10).setCell (p := ⟨g, i, none⟩) (.inl rfl) _
  have hgw : g < w10.heap.size := (hO.lt g rfl).2
  have hlt9 := HT9.out.lt
  have hbl9 := HT9.out.tw.fd.blt
  have hPl9 := HT9.out.cb.blt
  have hO11 : Ow W11 w9.heap.size (.slice (some ⟨g, 0, none⟩) N cg) ((Cd.wd N zs).set i (y ^^^ x)) := by rw [← hW11]; exact hO.set (Cd.wd_length N zs).symm i (y ^^^ x)
  have hbset : Byt ((Cd.wd N zs).set i (y ^^^ x)) := Mx.byt_set hbyt i _ (Gf.xor_lt8 hyl HM.out.2.2.2.2.2.2.1)
  obtain ⟨qb, cb, eb, tb⟩ := hO11.tl (T := T_f) (n := N) hlt9 hbset (by rw [List.length_set, Cd.wd_length])
  cases eb
  have HT11 : Hid (Tc f B_f T_f P (N : Nat) (K : Nat) (B : Nat) w W11 ∧ Tl W11 T_f q_v N c_v (Cd.wd N zs) ∧ Tl W11 T_f q_s N c_s (Cd.wd N ad) ∧ Tl W11 T_f (some ⟨g, 0, none⟩) N cg ((Cd.wd N zs).set i (y ^^^ x))) := by
    refine ⟨hT10.past hbt (Nat.le_trans HT9.out.size hgb) (by omega) (by omega) (by omega), ⟨hv10.bs.but hbt (HV9.out.1.bs.off hgb), hv10.le, hv10.off⟩, ⟨hs10.bs.but hbt (HV9.out.2.bs.off hgb), hs10.le, hs10.off⟩, tb⟩
  have hdb : decide (Cd.IsW N S B ((Cd.wd N zs).set i (y ^^^ x))) = ((x : Int) == 0) := by
    rw [Bool.eq_iff_iff, decide_eq_true_iff]
    constructor
    · intro hw
      by_cases h0 : x = 0
      · subst h0; rfl
      · exact absurd hw (hob h0 hbyt rfl)
    · intro h0
      have h1 : x = 0 := by simpa using h0
      subst h1
      have e : (Cd.wd N zs).set i (y ^^^ 0) = Cd.wd N zs := by
        rw [Nat.xor_zero, ← hy]
        exact set_same _ _
      rw [e]; exact HM.out.2.2.2.1.isW
  obtain ⟨z, hz⟩ : ∃ z : Bool, ((x : Int) == 0) = z := ⟨_, rfl⟩
  rw [hz] at hdb
  have hC10 := hT10.cb
  have KK : Hid (∀ W, Tc f B_f T_f P (N : Nat) (K : Nat) (B : Nat) w W → _) := fun W hW => kknown f B_f T_f P N K B w W hW
  have K1 : Hid (∀ W, Tc f B_f T_f P (N : Nat) (K : Nat) (B : Nat) w W → But (· = T_f) W11 W → _) := fun W hW hb => khas f B_f T_f P N K B S w q_v N c_v (Cd.wd N zs) true HM.out.1 HM.out.2.1 (decide_eq_true HM.out.2.2.2.1.isW) W hW (HT11.out.2.1.but hb)
  have K2 : Hid (∀ W, Tc f B_f T_f P (N : Nat) (K : Nat) (B : Nat) w W → But (· = T_f) W11 W → _) := fun W hW hb => khas f B_f T_f P N K B S w q_s N c_s (Cd.wd N ad) true HM.out.1 HM.out.2.1 (decide_eq_true HM.out.2.2.2.2.2.2.2.isW) W hW (HT11.out.2.2.1.but hb)
  have K3 : Hid (∀ W, Tc f B_f T_f P (N : Nat) (K : Nat) (B : Nat) w W → But (· = T_f) W11 W → _) := fun W hW hb => khas f B_f T_f P N K B S w (some ⟨g, 0, none⟩) N cg _ z HM.out.1 HM.out.2.1 hdb W hW (HT11.out.2.2.2.but hb)
  have K4 : Hid (∀ W, Tc f B_f T_f P (N : Nat) (K : Nat) (B : Nat) w W → Calls Tryz.prog 24 #[.pointer (some ⟨B_f, 0, none⟩), .agg #[.int .i64 (N : Nat), .int .i64 (K : Nat), .int .i64 (B : Nat)], .slice (some ⟨W.heap.size, 0, none⟩) N N] (W.alloc (.cells (madeCells #[.int .u8 0] N) 5)) fun e w' => e = .returned (.bool true) ∧ Tc f B_f T_f P (N : Nat) (K : Nat) (B : Nat) w w' ∧ But (· = T_f) (W.alloc (.cells (madeCells #[.int .u8 0] N) 5)) w') := fun W hW =>
    khas f B_f T_f P N K B S w (some ⟨W.heap.size, 0, none⟩) N N (List.replicate N 0) true HM.out.1 HM.out.2.1 (decide_eq_true (Cd.isW_zero N S B)) _ (hW.below ((Below.refl _ W).alloc (Nat.le_refl _) _)) ⟨bs_mk W N (by have := HM.out.2.2.1; omega), Nat.le_refl _, off_at (by have := hW.lt; omega)⟩
  have hT0 := HT11.out.1.drew
  have hB0 : But (· = T_f) W11 W11.drew := (But.refl _ W11).drew
  clear hob hbyt hyl hbv hO hb hT10 hv10 hs10 hbt hgw hlt9 hbl9 hPl9 hO11 hbset tb hdb hy hgb
  have c0 := (hC10).c0
  have c1 := (hC10).c1
  have c2 := (hC10).c2
  clear hC10
  have hC11 := HT11.out.1.cb
  have d0 := (hC11).c0
  have d1 := (hC11).c1
  have d2 := (hC11).c2
  clear hC11
  go_wp2
  clear c0 c1 c2
  clear d0 d1 d2
  have hC11 := HT11.out.1.cb
  have d0 := (hC11).c0
  have d1 := (hC11).c1
  have d2 := (hC11).c2
  clear hC11
  cases z
  all_goals
    go_region_held3 (fun w' => w'.cell? ⟨P, 0, none⟩ = some (.int .i64 (N : Nat)) ∧ w'.cell? ⟨P, 1, none⟩ = some (.int .i64 (K : Nat)) ∧ w'.cell? ⟨P, 2, none⟩ = some (.int .i64 (B : Nat)))
      (first | (with_reducible exact ⟨cell_alloc_l _ hT4.cb.c0, cell_alloc_l _ hT4.cb.c1, cell_alloc_l _ hT4.cb.c2⟩) | (with_reducible exact ⟨hT5.cb.c0, hT5.cb.c1, hT5.cb.c2⟩) | (with_reducible exact ⟨hT4.cb.c0, hT4.cb.c1, hT4.cb.c2⟩) | (with_reducible exact ⟨hT3.cb.c0, hT3.cb.c1, hT3.cb.c2⟩) | (with_reducible exact ⟨hT2.cb.c0, hT2.cb.c1, hT2.cb.c2⟩) | (with_reducible exact ⟨hT1.cb.c0, hT1.cb.c1, hT1.cb.c2⟩) | (with_reducible exact ⟨hT0.cb.c0, hT0.cb.c1, hT0.cb.c2⟩))
      (first
        | (go_at_call 10; with_reducible refine (KK.out _ hT0).mono ?_; rintro e w12 ⟨rfl, hT1, hb1⟩; have hB1 := hB0.trans hb1)
        | (go_at_call 24; with_reducible refine (K1.out _ hT1 hB1).mono ?_; rintro e w13 ⟨rfl, hT2, hb2⟩; have hB2 := hB1.trans hb2)
        | (go_at_call 24; with_reducible refine (K2.out _ hT2 hB2).mono ?_; rintro e w14 ⟨rfl, hT3, hb3⟩; have hB3 := hB2.trans hb3)
        | (go_at_call 24; with_reducible refine (K3.out _ hT3 hB3).mono ?_; rintro e w15 ⟨rfl, hT4, hb4⟩)
        | (go_at_call 24; with_reducible refine (K4.out _ hT4).mono ?_; rintro e w16 ⟨rfl, hT5, hb5⟩))
    go_wp2
    go_ret
    exact ⟨rfl, hT5.tw.but.below (Nat.le_refl _) (by rintro k rfl; exact HTf.out)⟩
theorem own : ownKnob Tryz.prog.godebug = none := by kernel_rfl
theorem laidOut : laidOutB Tryz.prog = true := by kernel_rfl
set_option maxRecDepth 100000 in
theorem lifted (os : Os) (started : os.Started) (H : Type) (enc : TypeId × Value → H) :
    ReturnsInHanded {} Tryz.checked os 6 .any (Rows.codeLinearSpec.pre6 enc Tryz.prog Tryz.f6 Rows.codeLinearRow.domain false) (Rows.codeLinearSpec.post enc Tryz.prog Tryz.f6 false true false false) := by
  refine returnsInHanded_of_change_sized (C := Tryz.checked) own started (by kernel_rfl) Tryz.func6
    (ChangeSpec.witness6 (enc := enc) (C := Tryz.checked) false ⟨#[], #[.int .u8 0, .int .u8 0, .int .u8 0, .int .u8 0, .slice none 0 0, .slice none 0 0, .int .u8 0, .int .u8 0, .int .u8 0], []⟩ 8 (by kernel_rfl) (by kernel_rfl) (by kernel_rfl) (by kernel_rfl)) ?_
  intro W base args ds gs before hval0 hW _ hz _
  have hval : ∀ (j : Nat) t v, Tryz.f6.params[j]? = some t → args[j]? = some v → Value.okWide Tryz.prog W .any base t v := hval0
  have hW' := hW
  obtain ⟨p, q, hA0, hV, rfl, _, _⟩ := hW
  have hA : DataW.TrodAll enc Tryz.prog W 0 (fun _ => true) true Tryz.f6.params.toList args.toList ds p := hA0
  rw [Tryz.params6] at hA hval
  obtain ⟨v0, vs0, d0, ds0, p0, q0, hargs, rfl, rfl, h0, r0⟩ := trodAll_cons hA
  obtain ⟨v1, vs1, d1, ds1, p1, q1, rfl, rfl, rfl, h1, r1⟩ := trodAll_cons r0
  obtain ⟨v2, vs2, d2, ds2, p2, q2, rfl, rfl, rfl, h2, r2⟩ := trodAll_cons r1
  obtain ⟨v3, vs3, d3, ds3, p3, q3, rfl, rfl, rfl, h3, r3⟩ := trodAll_cons r2
  obtain ⟨v4, vs4, d4, ds4, p4, q4, rfl, rfl, rfl, h4, r4⟩ := trodAll_cons r3
  obtain ⟨v5, vs5, d5, ds5, p5, q5, rfl, rfl, rfl, h5, r5⟩ := trodAll_cons r4
  obtain ⟨v6, vs6, d6, ds6, p6, q6, rfl, rfl, rfl, h6, r6⟩ := trodAll_cons r5
  obtain ⟨v7, vs7, d7, ds7, p7, q7, rfl, rfl, rfl, h7, r7⟩ := trodAll_cons r6
  obtain ⟨v8, vs8, d8, ds8, p8, q8, rfl, rfl, rfl, h8, r8⟩ := trodAll_cons r7
  obtain ⟨rfl, rfl, rfl⟩ := trodAll_nil r8
  obtain rfl : args = #[v0, v1, v2, v3, v4, v5, v6, v7, v8] := by cases args; simp_all
  obtain ⟨rfl, rfl⟩ := trodVars_none hV
  obtain ⟨a0, rfl, rfl, rfl, w0⟩ := open_int Tryz.underlying5 (hval 0 5 v0 rfl rfl) h0
  obtain ⟨n0, b0, rfl⟩ := nat_of_u8 w0
  obtain ⟨a1, rfl, rfl, rfl, w1⟩ := open_int Tryz.underlying5 (hval 1 5 v1 rfl rfl) h1
  obtain ⟨n1, b1, rfl⟩ := nat_of_u8 w1
  obtain ⟨a2, rfl, rfl, rfl, w2⟩ := open_int Tryz.underlying5 (hval 2 5 v2 rfl rfl) h2
  obtain ⟨n2, b2, rfl⟩ := nat_of_u8 w2
  obtain ⟨a3, rfl, rfl, rfl, w3⟩ := open_int Tryz.underlying5 (hval 3 5 v3 rfl rfl) h3
  obtain ⟨n3, b3, rfl⟩ := nat_of_u8 w3
  have k4 := h4
  obtain ⟨q4, n4, c4, xs4, rfl, w4, m4⟩ := open_bytes_sz Tryz.underlying24 Tryz.underlying5 (by kernel_rfl) (hval 4 24 v4 rfl rfl) h4
  have y4 : n4 ≤ c4 ∧ c4 ≤ 140737488351232 := ⟨m4.1, m4.2 _ fun el sp hd => by have := sized_slice (j := 4) (t := 24) (e := 5) (elems := el) (spare := sp) hz (by kernel_rfl) (by first | (rw [← hd]; done) | (rw [← hd]; rfl)) Tryz.underlying24; have hbe : Tryz.checked.prog.bytesOf 5 = 1 := (by kernel_rfl); have hre : reachBytes = 140737488351232 := rfl; rw [hbe, hre] at this; omega⟩
  have k5 := h5
  obtain ⟨q5, n5, c5, xs5, rfl, w5, m5⟩ := open_bytes_sz Tryz.underlying24 Tryz.underlying5 (by kernel_rfl) (hval 5 24 v5 rfl rfl) h5
  have y5 : n5 ≤ c5 ∧ c5 ≤ 140737488351232 := ⟨m5.1, m5.2 _ fun el sp hd => by have := sized_slice (j := 5) (t := 24) (e := 5) (elems := el) (spare := sp) hz (by kernel_rfl) (by first | (rw [← hd]; done) | (rw [← hd]; rfl)) Tryz.underlying24; have hbe : Tryz.checked.prog.bytesOf 5 = 1 := (by kernel_rfl); have hre : reachBytes = 140737488351232 := rfl; rw [hbe, hre] at this; omega⟩
  obtain ⟨a6, rfl, rfl, rfl, w6⟩ := open_int Tryz.underlying5 (hval 6 5 v6 rfl rfl) h6
  obtain ⟨n6, b6, rfl⟩ := nat_of_u8 w6
  obtain ⟨a7, rfl, rfl, rfl, w7⟩ := open_int Tryz.underlying5 (hval 7 5 v7 rfl rfl) h7
  obtain ⟨n7, b7, rfl⟩ := nat_of_u8 w7
  obtain ⟨a8, rfl, rfl, rfl, w8⟩ := open_int Tryz.underlying5 (hval 8 5 v8 rfl rfl) h8
  obtain ⟨n8, b8, rfl⟩ := nat_of_u8 w8
  clear hA0 hval0
  simp only [List.append_nil] at hW'
  refine (walk (w := W) n0 n1 n2 n3 q4 n4 c4 xs4 q5 n5 c5 xs5 n6 n7 n8 b0 b1 b2 b3 w4 y4 w5 y5 b6 b7 b8).mono fun e W' ⟨he, bel⟩ => ?_
  subst he
  exact ⟨_, rfl, _, _, _, [], _, [], hW', trodAll_mk1 (shut_bool Tryz.underlying4 _), (trodAll_cons_mk (shut_int Tryz.underlying5 w0) (trodAll_cons_mk (shut_int Tryz.underlying5 w1) (trodAll_cons_mk (shut_int Tryz.underlying5 w2) (trodAll_cons_mk (shut_int Tryz.underlying5 w3) (trodAll_cons_mk (shut_same laidOut (by kernel_rfl) (of_decide_eq_true (by kernel_rfl)) k4 bel) (trodAll_cons_mk (shut_same laidOut (by kernel_rfl) (of_decide_eq_true (by kernel_rfl)) k5 bel) (trodAll_cons_mk (shut_int Tryz.underlying5 w6) (trodAll_cons_mk (shut_int Tryz.underlying5 w7) (trodAll_cons_mk (shut_int Tryz.underlying5 w8) trodAll_mk0))))))))), rfl, bel.frame _, fun h => by cases h⟩
theorem over : Rows.codeLinearRow.holds Tryz.pinned (OpenSpec.ofChange Rows.codeLinearSpec) :=
  OpenClaim.holds_of_wide 6 Tryz.f6 rfl rfl rfl rfl rfl rfl rfl ⟨rfl, rfl, rfl, rfl, rfl⟩ rfl rfl rfl rfl rfl (by kernel_rfl) Tryz.func6 (by kernel_rfl)
    (of_decide_eq_true (by kernel_rfl)) (by unfold Func.isWrapper; first | (rw [if_pos (by decide +kernel)]; kernel_rfl) | (rw [if_neg (by decide +kernel)]; exact ⟨rfl, rfl⟩))
    (fun os started H enc _ => lifted os started H enc)
theorem proved : Rows.CodeLinearSaid := over
#print axioms proved
end Go.Proofs.YtbikchgkglllkaaGreat.codeLinear
