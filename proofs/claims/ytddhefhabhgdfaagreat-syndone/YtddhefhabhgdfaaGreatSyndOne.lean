/- SyndOne holds for every input: of one byte that is wrong syndromes are a row of powers. No conditions. -/
import Derived.Test.YtddhefhabhgdfaaGreatRows
import Derived.Test.YtddhefhabhgdfaaGreatMB
import Derived.Test.YtddhefhabhgdfaaGreatOB
import Derived.Test.YtddhefhabhgdfaaGreatOQ
import Derived.Test.YtddhefhabhgdfaaGreatMN
import Derived.Test.YtddhefhabhgdfaaGreatOU
namespace Go.Proofs.YtddhefhabhgdfaaGreat.syndOne
open Go.ChangeShapes Go.WideShapes Go.ChangeAt Go.RowKit
open Pol (IsN Dg ofL Byt vl)

theorem add0 (a : Addr) : a.add 0 = a := by unfold Addr.add; split <;> simp_all
/-- Nothing but one byte. -/
def one (N i x : Nat) : List Nat := (List.replicate N 0).set i x
theorem one_length (N i x : Nat) : (one N i x).length = N := by simp [one]
theorem one_at {N i x : Nat} (hi : i < N) (a : Nat) : (one N i x).getD a 0 = if i = a then x else 0 := by
  unfold one
  rw [Mx.getD_set, List.length_replicate]
  by_cases h : i = a
  · subst h; rw [if_pos ⟨rfl, hi⟩, if_pos rfl]
  · rw [if_neg (fun k => h k.1), if_neg h]
    simp only [List.getD, List.getElem?_replicate]; split <;> rfl
theorem one_byt {N i x : Nat} (hi : i < N) (hx : x < 256) : Byt (one N i x) := fun a => by rw [one_at hi]; split; exact hx; decide
theorem one_sy {N S B i x j : Nat} (hi : i < N) (hj : j < S) : ofL (Cd.syL S B (one N i x)) j = (GF.of x * GF.pw (GF.al i) B) * GF.pw (GF.al i) j := by
  rw [Cd.ofL_syL (one_length N i x) hj, Cd.sy_ls]
  have h := GF.ls_one (List.range N) (fun a => (ofL (one N i x) a * GF.pw (GF.al a) B) * GF.pw (GF.al a) j) i List.nodup_range (List.mem_range.2 hi) (fun a _ ha => by
    show (GF.of ((one N i x).getD a 0) * _) * _ = 0
    rw [one_at hi, if_neg (fun e => ha e.symm)]
    show (0 * _) * _ = (0 : GF)
    rw [GF.zero_mul, GF.zero_mul])
  rw [h]
  show (GF.of ((one N i x).getD i 0) * _) * _ = _
  rw [one_at hi, if_pos rfl]
theorem of_eq {a b : Nat} (ha : a < 256) (hb : b < 256) (h : GF.of a = GF.of b) : a = b := by rw [← GF.of_val a ha, h, GF.of_val b hb]
theorem one_zero {N S B i x : Nat} (hi : i < N) (hS : 0 < S) (hx : x < 256) : Gf.mul x (Gf.powZ (Cd.pt i) (B : Int)) = (Cd.syL S B (one N i x)).getD 0 0 := by
  refine of_eq (Gf.mul_lt _ _ hx) (Cd.syL_byt _ _ _ 0) ?_
  have h1 := one_sy (B := B) (x := x) hi hS
  have h2 : GF.of ((Cd.syL S B (one N i x)).getD 0 0) = (GF.of x * GF.pw (GF.al i) B) * GF.pw (GF.al i) 0 := h1
  rw [h2, GF.of_mul _ _ hx (Gf.powZ_lt _ _ (Cd.pt_lt i))]
  have h3 : Gf.powZ (Cd.pt i) (B : Int) = Gf.pow (Cd.pt i) B := by unfold Gf.powZ; rw [if_neg (by omega), Int.toNat_natCast]
  rw [h3, GF.of_pow _ _ (Cd.pt_lt i), Cd.of_pt]
  exact (GF.mul_one _).symm
theorem one_succ {N S B i x t : Nat} (hi : i < N) (ht : t + 1 < S) (_hx : x < 256) : Gf.mul ((Cd.syL S B (one N i x)).getD t 0) (Cd.pt i) = (Cd.syL S B (one N i x)).getD (t + 1) 0 := by
  have hb := Cd.syL_byt S B (one N i x) t
  refine of_eq (Gf.mul_lt _ _ hb) (Cd.syL_byt _ _ _ _) ?_
  have h1 : GF.of ((Cd.syL S B (one N i x)).getD t 0) = _ := one_sy (B := B) (x := x) hi (by omega : t < S)
  have h2 : GF.of ((Cd.syL S B (one N i x)).getD (t + 1) 0) = _ := one_sy (B := B) (x := x) hi ht
  rw [GF.of_mul _ _ hb (Cd.pt_lt i), h1, h2, Cd.of_pt]
  show _ = (GF.of x * GF.pw (GF.al i) B) * (GF.al i * GF.pw (GF.al i) t)
  rw [GF.mul_assoc, GF.mul_comm (GF.pw (GF.al i) t)]

set_option maxRecDepth 100000 in
set_option maxHeartbeats 8000000 in
theorem walk (j n k b at_ x : Nat) (w : World) (_hj : j < 256) (hn : n < 256) (hk : k < 256) (hb : b < 256) (hat : at_ < 256) (hx : x < 256) :
    Calls Tryz.prog 6 #[.int .u8 j, .int .u8 n, .int .u8 k, .int .u8 b, .int .u8 at_, .int .u8 x] w fun e w' => e = .returned (.bool true) ∧ Below w.heap.size w w' := by
  obtain ⟨f, hf⟩ : ∃ f : Nat, 1 + j % 3 = f := ⟨_, rfl⟩
  have hf1 : 1 ≤ f := by omega
  have hf3 : f ≤ 3 := by omega
  have hfi : (1 : Int) + (j : Int) % 3 = (f : Int) := by omega
  have hK0 : ∀ W, Calls Tryz.prog 10 _ W _ := fun W => lcode_calls n k b hn hk hb W
  have hcod := ck_cod n k b
  have hle := ckN_le n k
  obtain ⟨N, hN⟩ : ∃ N, ckN n k = N := ⟨_, rfl⟩
  obtain ⟨K, hK⟩ : ∃ K, ckK n k = K := ⟨_, rfl⟩
  obtain ⟨B, hB⟩ : ∃ B, ckB b = B := ⟨_, rfl⟩
  obtain ⟨S, hS⟩ : ∃ S, N - K = S := ⟨_, rfl⟩
  rw [hN, hK, hB] at hK0 hcod
  rw [hN] at hle
  obtain ⟨p, hp⟩ : ∃ p, at_ % N = p := ⟨_, rfl⟩
  have hpN : p < N := by rw [← hp]; exact Nat.mod_lt _ (by omega)
  obtain ⟨r, hr⟩ : ∃ r, Cd.pt p = r := ⟨_, rfl⟩
  have hr8 : r < 256 := by rw [← hr]; exact Cd.pt_lt p
  obtain ⟨g, hg⟩ : ∃ g, Gf.powZ r (B : Int) = g := ⟨_, rfl⟩
  have hg8 : g < 256 := by rw [← hg]; exact Gf.powZ_lt _ _ hr8
  obtain ⟨os, hos⟩ : ∃ os, one N p x = os := ⟨_, rfl⟩
  obtain ⟨ys, hys⟩ : ∃ ys, Cd.syL S B os = ys := ⟨_, rfl⟩
  obtain ⟨y0, hy0⟩ : ∃ y0, ys.getD 0 0 = y0 := ⟨_, rfl⟩
  have hS1 : 0 < S := by have := hcod.n; omega
  have h0 : Gf.mul x g = y0 := by rw [← hy0, ← hys, ← hos, ← hg, ← hr]; exact one_zero hpN hS1 hx
  have hsu : ∀ t, t + 1 < S → Gf.mul (ys.getD t 0) r = ys.getD (t + 1) 0 := fun t ht => by rw [← hys, ← hos, ← hr]; exact one_succ hpN ht hx
  have hyb : Byt ys := hys ▸ Cd.syL_byt S B os
  have hyl : ys.length = S := hys ▸ Cd.syL_length S B os
  have hol : os.length = N := hos ▸ one_length N p x
  have hob : Byt os := hos ▸ one_byt hpN hx
  have HQ : Hid (p < N ∧ Cd.pt p = r ∧ r < 256 ∧ Gf.powZ r (B : Int) = g ∧ g < 256 ∧ one N p x = os ∧ Cd.syL S B os = ys ∧ ys.getD 0 0 = y0 ∧ 0 < S ∧ Gf.mul x g = y0 ∧ Byt ys ∧ ys.length = S ∧ os.length = N ∧ Byt os ∧ x < 256) := ⟨hpN, hr, hr8, hg, hg8, hos, hys, hy0, hS1, h0, hyb, hyl, hol, hob, hx⟩
  have HSu : Hid (∀ t, t + 1 < S → Gf.mul (ys.getD t 0) r = ys.getD (t + 1) 0) := hsu
  have hpNi : (p : Int) < (N : Int) := by omega
  have hp0 : (0 : Int) ≤ (p : Int) := by omega
  have hmod : (at_ : Int).tmod (N : Int) = (p : Int) := by rw [← hp]; exact (Int.ofNat_tmod at_ N).symm
  have hN0 : ((N : Int) = 0) = False := eq_false (by omega)
  have hNN : (N = 0) = False := eq_false (by omega)
  have hu : IntKind.i64.wrap (at_ : Int) = (at_ : Int) := wrap_nat at_ (by omega)
  have K0 : Hid (∀ W, Calls Tryz.prog 10 #[.int .u8 n, .int .u8 k, .int .u8 b] W fun e w' => e = .returned (.agg #[.int .i64 (N : Nat), .int .i64 (K : Nat), .int .i64 (B : Nat)]) ∧ Below W.heap.size W w') := hK0
  have HM : Hid (Cod N K B ∧ N - K = S ∧ N ≤ 69) := ⟨hcod, hS, hle.2⟩
  have hN69 : (N : Int) ≤ 69 := by omega
  clear hp hpN hr hr8 hg hg8 hos hys hy0 hS1 h0 hsu hyb hyl hol hob hf hN hK hB hS hK0 hcod hle hn hk hb _hj hat hx 
  have hwN : IntKind.i64.wrap ((N : Int) - (K : Int)) = (S : Int) := by rw [show (N : Int) - (K : Int) = (S : Int) by have := HM.out.1.n; have := HM.out.2.1; omega]; exact wrap_nat S (by have := HM.out.2.1; have := HM.out.2.2; omega)
  have HB : Below w.heap.size w w := Below.refl _ _
  go_enter Tryz.func6, Tryz.ntmps6
  go_wp2_with fail
  refine (fof_calls f hf1 hf3 _).mono ?_
  rintro e w1 ⟨B_f, T_f, rfl, HF_f, hb, hlB, hlT⟩
  have HL_f : w.heap.size ≤ T_f := Nat.le_trans HB.size hlT
  replace HB := HB.trans (hb.mono HB.size)
  clear hb hlB hlT
  clear hfi hf1 hf3
  have HT1 : Hid (Below w.heap.size w w1 ∧ Fd f B_f T_f w1 ∧ w.heap.size ≤ T_f) := ⟨HB, HF_f, HL_f⟩
  clear HB HF_f HL_f
  go_wp2_with fail
  refine (K0.out w1).mono ?_
  rintro e w2 ⟨rfl, hb⟩
  have HT2 : Hid (Below w.heap.size w w2 ∧ Fd f B_f T_f w2 ∧ w.heap.size ≤ T_f) := ⟨HT1.out.1.trans (hb.mono HT1.out.1.size), HT1.out.2.1.below hb, HT1.out.2.2⟩
  have HTf : Hid (w.heap.size ≤ T_f) := HT2.out.2.2
  clear hb K0
  obtain ⟨P, hP⟩ : ∃ P, w2.heap.size = P := ⟨_, rfl⟩
  obtain ⟨W3, hW3⟩ : ∃ W3, w2.alloc (.cells #[.int .i64 (N : Nat), .int .i64 (K : Nat), .int .i64 (B : Nat)] 23) = W3 := ⟨_, rfl⟩
  have hT3 : Tc f B_f T_f P (N : Nat) (K : Nat) (B : Nat) w W3 := by
    have h := tc_new HT2.out.2.1 (N : Int) (K : Int) (B : Int)
    rw [hP, hW3] at h
    exact ⟨⟨h.tw.fd, (But.of_below HT2.out.1).trans h.tw.but⟩, h.cb, h.nT⟩
  have HT3 : Hid (Tc f B_f T_f P (N : Nat) (K : Nat) (B : Nat) w W3) := hT3
  clear HT1 HT2
  obtain ⟨G, hG⟩ : ∃ G, W3.heap.size = G := ⟨_, rfl⟩
  obtain ⟨W4, hW4⟩ : ∃ W4, W3.alloc (.cells (madeCells #[.int .u8 0] N) 5) = W4 := ⟨_, rfl⟩
  have hmk := make_bytes N (by have := HM.out.2.2; omega)
  have hb34 : Below W3.heap.size W3 W4 := hW4 ▸ (Below.refl _ W3).alloc (Nat.le_refl _) _
  have hO4 : Ow W4 G (.slice (some ⟨G, 0, none⟩) N N) (List.replicate N 0) := by rw [← hW4, ← hG]; exact ow_made W3 (Nat.le_refl _) N (by have := HM.out.2.2; omega)
  have hx4 := hO4.at (by simp) p HQ.out.1
  have hxf := hx4.2
  have hxc := hx4.1
  have hjz : ((List.replicate N 0).getD p 0 : Nat) = 0 := by simp only [List.getD, List.getElem?_replicate]; split <;> rfl
  rw [hjz] at hxc
  have H4 : Hid (Ow W4 G (.slice (some ⟨G, 0, none⟩) N N) (List.replicate N 0) ∧ Below W3.heap.size W3 W4 ∧ W3.heap.size = G ∧ Tc f B_f T_f P (N : Nat) (K : Nat) (B : Nat) w W3) := ⟨hO4, hb34, hG, hT3⟩
  obtain ⟨W5, hW5⟩ : ∃ W5, W4.setCell ⟨G, p, none⟩ (.int .u8 (x : Nat)) = W5 := ⟨_, rfl⟩
  have hO5 : Ow W5 G (.slice (some ⟨G, 0, none⟩) N N) os := by
    rw [← hW5, ← HQ.out.2.2.2.2.2.1]
    exact H4.out.1.set (by simp) p x
  have hb35 : Below W3.heap.size W3 W5 := by
    have hb : But (· = G) W4 W5 := hW5 ▸ (But.refl (· = G) W4).setCell (p := ⟨G, p, none⟩) (.inl rfl) _
    exact H4.out.2.1.trans (hb.below H4.out.2.1.size (fun k hk => by have := H4.out.2.2.1; omega))
  have hT5 := H4.out.2.2.2.below hb35
  obtain ⟨q5, c5, e5, l5⟩ := hO5.tl (T := T_f) (n := N) (by rw [← H4.out.2.2.1]; exact H4.out.2.2.2.lt) HQ.out.2.2.2.2.2.2.2.2.2.2.2.2.2.1 HQ.out.2.2.2.2.2.2.2.2.2.2.2.2.1
  cases e5
  have KX := ksynd f B_f T_f P N K B N K B w (some ⟨G, 0, none⟩) N N S os ys ((syR_yes HM.out.1 HM.out.2.1 HQ.out.2.2.2.2.2.2.2.2.2.2.2.2.1).trans HQ.out.2.2.2.2.2.2.1) HQ.out.2.2.2.2.2.2.2.2.2.2.2.1 W5 hT5 l5
  have hC := hT3.cb
  have hC4 := hC.below hb34
  have hC5 := hT5.cb
  clear hT3 hb34 hO4 hx4 hjz hO5 hb35 hT5 l5
  have u0 := (hC).c0
  have u1 := (hC).c1
  have u2 := (hC).c2
  have v0 := (hC4).c0
  have v1 := (hC4).c1
  have v2 := (hC4).c2
  have y0 := (hC5).c0
  have y1 := (hC5).c1
  have y2 := (hC5).c2
  clear hC hC4 hC5
  go_wp2_with fail
  refine KX.mono ?_
  rintro e w6 ⟨qs, cs, rfl, l6, hT6, -⟩
  clear KX hP hW3 hG hW4 hmk hxf hxc hW5
  clear u0 u1 u2
  clear v0 v1 v2
  clear y0 y1 y2
  have HL : Hid (∀ W, But (· = T_f) w6 W → Tl W T_f qs S cs ys) := fun W hW => l6.but hW
  have HCz : Hid (∀ W, But (· = T_f) w6 W → ∃ a, qs = some a ∧ ∀ t, t < S → W.cell? (a.add t) = some (.int .u8 (ys.getD t 0 : Nat))) := fun W hW => by
    obtain ⟨a, e, _, _⟩ := (HL.out W hW).bs.cell 0 HQ.out.2.2.2.2.2.2.2.2.1
    refine ⟨a, e, fun t ht => ?_⟩
    obtain ⟨a', e', _, ct⟩ := (HL.out W hW).bs.cell t ht
    rw [e] at e'; cases e'
    exact ct
  obtain ⟨al, rfl, -⟩ := HCz.out w6 (But.refl _ _)
  have HC : Hid (∀ W, But (· = T_f) w6 W → ∀ t, t < S → W.cell? (al.add t) = some (.int .u8 (ys.getD t 0 : Nat))) := fun W hW t ht => by
    obtain ⟨a, e, h⟩ := HCz.out W hW
    cases e
    exact h t ht
  have HC0 : Hid (∀ W, But (· = T_f) w6 W → W.cell? al = some (.int .u8 (y0 : Nat))) := fun W hW => by
    have := HC.out W hW 0 HQ.out.2.2.2.2.2.2.2.2.1
    rw [add0, HQ.out.2.2.2.2.2.2.2.1] at this
    exact this
  have KP : Hid (∀ W, Tc f B_f T_f P (N : Nat) (K : Nat) (B : Nat) w W → _) := fun W hW => kpoint f B_f T_f P N K B w p r (by have := HQ.out.1; have := HM.out.2.2; omega) HQ.out.2.1 W hW
  have KG : Hid (∀ W, Tc f B_f T_f P (N : Nat) (K : Nat) (B : Nat) w W → Calls Tryz.prog 28 #[.pointer (some ⟨B_f, 0, none⟩), .int .u8 (r : Nat), .int .i64 (B : Nat)] W fun e w' => e = .returned (.int .u8 (g : Nat)) ∧ Tc f B_f T_f P (N : Nat) (K : Nat) (B : Nat) w w' ∧ But (· = T_f) W w') := fun W hW => (fpow_e f B_f T_f r (B : Int) g HQ.out.2.2.1 (by omega) (by have := HM.out.1.b; omega) HQ.out.2.2.2.1 W hW.tw.fd).mono fun _ _ ⟨e, hF, hb⟩ => ⟨e, hW.next hF hb, hb⟩
  have KM : Hid (∀ W, Tc f B_f T_f P (N : Nat) (K : Nat) (B : Nat) w W → Calls Tryz.prog 27 #[.pointer (some ⟨B_f, 0, none⟩), .int .u8 (x : Nat), .int .u8 (g : Nat)] W fun e w' => e = .returned (.int .u8 (y0 : Nat)) ∧ Tc f B_f T_f P (N : Nat) (K : Nat) (B : Nat) w w' ∧ But (· = T_f) W w') := fun W hW => kmulb f B_f T_f P N K B w x g y0 HQ.out.2.2.2.2.2.2.2.2.2.2.2.2.2.2 HQ.out.2.2.2.2.1 HQ.out.2.2.2.2.2.2.2.2.2.1 W hW
  have hT0 := hT6.drew
  have hB0 : But (· = T_f) w6 w6.drew := (But.refl _ w6).drew
  have ca0 := HC0.out w6 (But.refl _ _)
  have hC := hT6.cb
  have HT6 : Hid (Tc f B_f T_f P (N : Nat) (K : Nat) (B : Nat) w w6) := hT6
  have hS1 : (0 : Int) < (S : Int) := by have := HQ.out.2.2.2.2.2.2.2.2.1; omega
  have hS1n : 0 < S := HQ.out.2.2.2.2.2.2.2.2.1
  clear l6 hT6
  have u0 := (hC).c0
  have u1 := (hC).c1
  have u2 := (hC).c2
  clear hC
  go_wp2
  go_region_held3 (fun w' => w'.cell? ⟨P, 0, none⟩ = some (.int .i64 (N : Nat)) ∧ w'.cell? ⟨P, 1, none⟩ = some (.int .i64 (K : Nat)) ∧ w'.cell? ⟨P, 2, none⟩ = some (.int .i64 (B : Nat)) ∧ w'.cell? al = some (.int .u8 (y0 : Nat)))
    (first | (with_reducible exact ⟨hT3.cb.c0, hT3.cb.c1, hT3.cb.c2, HC0.out _ hB3⟩) | (with_reducible exact ⟨hT2.cb.c0, hT2.cb.c1, hT2.cb.c2, HC0.out _ hB2⟩) | (with_reducible exact ⟨hT1.cb.c0, hT1.cb.c1, hT1.cb.c2, HC0.out _ hB1⟩) | (with_reducible exact ⟨hT0.cb.c0, hT0.cb.c1, hT0.cb.c2, HC0.out _ hB0⟩))
    (first
      | (go_at_call 22; with_reducible refine (KP.out _ hT0).mono ?_; rintro e w7 ⟨rfl, hT1, hb1⟩; have hB1 := hB0.trans hb1)
      | (go_at_call 28; with_reducible refine (KG.out _ hT1).mono ?_; rintro e w8 ⟨rfl, hT2, hb2⟩; have hB2 := hB1.trans hb2)
      | (go_at_call 27; with_reducible refine (KM.out _ hT2).mono ?_; rintro e w9 ⟨rfl, hT3, hb3⟩; have hB3 := hB2.trans hb3))
  have HT9 : Hid (Tc f B_f T_f P (N : Nat) (K : Nat) (B : Nat) w w9 ∧ But (· = T_f) w6 w9) := ⟨hT3, hB3⟩
  clear hT0 hT1 hT2 hT3 hb1 hb2 hb3 hB0 hB1 hB2 hB3 ca0 KG KM HC0
  clear u0 u1 u2
  go_wp2
  go_loopw [18] (fun i wr => ∃ t : Nat, 1 ≤ t ∧ t ≤ S ∧ i = .int .i64 (t : Int) ∧ Hid (Tc f B_f T_f P (N : Nat) (K : Nat) (B : Nat) w wr ∧ But (· = T_f) w6 wr)) (fun i _ => S - (intOf i).toNat)
  case atStart => exact ⟨1, Nat.le_refl _, hS1n, rfl, HT9⟩
  case round =>
    obtain ⟨t, h1t, ht, rfl, hHT⟩ := hrel
    by_cases hlt : t < S
    · have hti : (t : Int) < (S : Int) := by omega
      have hti0 : (0 : Int) ≤ (t : Int) := by omega
      have ht6 : (t : Int) ≤ 1000000 := by have := HM.out.2.1; have := HM.out.2.2; omega
      obtain ⟨s, hs⟩ : ∃ s, t - 1 = s := ⟨_, rfl⟩
      have hst : s + 1 = t := by omega
      have hsw := wrap_nat s (by omega)
      have hmj : (t : Int) - 1 = (s : Int) := by omega
      have hs0 : (0 : Int) ≤ (s : Int) := by omega
      have hsS : (s : Int) < (S : Int) := by omega
      have hsS2 : s < S := by omega
      obtain ⟨y, hy⟩ : ∃ y, ys.getD s 0 = y := ⟨_, rfl⟩
      obtain ⟨z, hz⟩ : ∃ z, ys.getD t 0 = z := ⟨_, rfl⟩
      have hyz : Gf.mul y r = z := by rw [← hy, ← hz, ← hst]; exact HSu.out s (by omega)
      have hy8 : y < 256 := by rw [← hy]; exact HQ.out.2.2.2.2.2.2.2.2.2.2.1 s
      have HCs : Hid (∀ W, But (· = T_f) w6 W → W.cell? (al.add s) = some (.int .u8 (y : Nat)) ∧ W.cell? (al.add t) = some (.int .u8 (z : Nat))) := fun W hW => by
        have h1 := HC.out W hW s hsS2
        have h2 := HC.out W hW t hlt
        rw [hy] at h1
        rw [hz] at h2
        exact ⟨h1, h2⟩
      have KM : Hid (∀ W, Tc f B_f T_f P (N : Nat) (K : Nat) (B : Nat) w W → Calls Tryz.prog 27 #[.pointer (some ⟨B_f, 0, none⟩), .int .u8 (y : Nat), .int .u8 (r : Nat)] W fun e w' => e = .returned (.int .u8 (z : Nat)) ∧ Tc f B_f T_f P (N : Nat) (K : Nat) (B : Nat) w w' ∧ But (· = T_f) W w') := fun W hW => kmulb f B_f T_f P N K B w y r z hy8 HQ.out.2.2.1 hyz W hW
      have hT0 := hHT.out.1.drew
      have hB0 : But (· = T_f) w6 wr.drew := hHT.out.2.drew
      have ca1 := (HCs.out wr hHT.out.2).1
      have ca2 := (HCs.out wr hHT.out.2).2
      clear hs hst hy hz hyz hy8 hHT
      go_wp2
      go_region_held3 (fun w' => w'.cell? (al.add s) = some (.int .u8 (y : Nat)) ∧ w'.cell? (al.add t) = some (.int .u8 (z : Nat)))
        (first | (with_reducible exact HCs.out _ hB2) | (with_reducible exact HCs.out _ hB1) | (with_reducible exact HCs.out _ hB0))
        (first
          | (go_at_call 22; with_reducible refine (KP.out _ hT0).mono ?_; rintro e w7' ⟨rfl, hT1, hb1⟩; have hB1 := hB0.trans hb1)
          | (go_at_call 27; with_reducible refine (KM.out _ hT1).mono ?_; rintro e w8' ⟨rfl, hT2, hb2⟩; have hB2 := hB1.trans hb2))
      have HZ : Hid (Tc f B_f T_f P (N : Nat) (K : Nat) (B : Nat) w w8' ∧ But (· = T_f) w6 w8') := ⟨hT2, hB2⟩
      clear KM hT0 HCs hB0 hT1 hb1 hB1 hT2 hb2 hB2 ca1 ca2
      go_wp2
      go_roundw
      case rel => exact ⟨t + 1, by omega, by omega, by go_num, HZ⟩
      case measure => simp [intOf]; omega
    · obtain rfl : S = t := by omega
      have KN := known12_calls wr
      go_wp2_with fail
      refine KN.mono ?_
      rintro e wb ⟨rfl, hb⟩
      clear KN
      have HZ : Hid (Tc f B_f T_f P (N : Nat) (K : Nat) (B : Nat) w wb) := hHT.out.1.below hb
      clear hb hHT
      go_wp2
      go_ret
      exact ⟨rfl, HZ.out.tw.but.below (Nat.le_refl _) (by rintro k rfl; exact HTf.out)⟩
theorem own : ownKnob Tryz.prog.godebug = none := by kernel_rfl
set_option maxRecDepth 100000 in
theorem lifted (os : Os) (started : os.Started) (H : Type) (enc : TypeId × Value → H) :
    ReturnsInHanded {} Tryz.checked os 6 .any (Rows.syndOneSpec.pre6 enc Tryz.prog Tryz.f6 Rows.syndOneRow.domain false) (Rows.syndOneSpec.post enc Tryz.prog Tryz.f6 false true false false) := by
  refine returnsInHanded_of_change (C := Tryz.checked) own started (by kernel_rfl) Tryz.func6
    (ChangeSpec.witness6 (enc := enc) (C := Tryz.checked) false ⟨#[], #[.int .u8 0, .int .u8 0, .int .u8 0, .int .u8 0, .int .u8 0, .int .u8 0], []⟩ 8 (by kernel_rfl) (by kernel_rfl) (by kernel_rfl) (by kernel_rfl)) ?_
  intro W base args ds gs before hval0 hW _ _
  have hval : ∀ (j : Nat) t v, Tryz.f6.params[j]? = some t → args[j]? = some v → Value.okWide Tryz.prog W .any base t v := hval0
  have hW' := hW
  obtain ⟨p, q, hA0, hV, rfl, _, _⟩ := hW
  have hA : DataW.TrodAll enc Tryz.prog W 0 (fun _ => true) true Tryz.f6.params.toList args.toList ds p := hA0
  rw [Tryz.params6] at hA hval
  obtain ⟨v0, vs0, d0, ds0, p0, q0, hargs, rfl, rfl, h0, r0⟩ := trodAll_cons hA
  obtain ⟨v1, vs1, d1, ds1, p1, q1, rfl, rfl, rfl, h1, r1⟩ := trodAll_cons r0
  obtain ⟨v2, vs2, d2, ds2, p2, q2, rfl, rfl, rfl, h2, r2⟩ := trodAll_cons r1
  obtain ⟨v3, vs3, d3, ds3, p3, q3, rfl, rfl, rfl, h3, r3⟩ := trodAll_cons r2
  obtain ⟨v4, vs4, d4, ds4, p4, q4, rfl, rfl, rfl, h4, r4⟩ := trodAll_cons r3
  obtain ⟨v5, vs5, d5, ds5, p5, q5, rfl, rfl, rfl, h5, r5⟩ := trodAll_cons r4
  obtain ⟨rfl, rfl, rfl⟩ := trodAll_nil r5
  obtain rfl : args = #[v0, v1, v2, v3, v4, v5] := by cases args; simp_all
  obtain ⟨rfl, rfl⟩ := trodVars_none hV
  obtain ⟨a0, rfl, rfl, rfl, w0⟩ := open_int Tryz.underlying5 (hval 0 5 v0 rfl rfl) h0
  obtain ⟨n0, b0, rfl⟩ := nat_of_u8 w0
  obtain ⟨a1, rfl, rfl, rfl, w1⟩ := open_int Tryz.underlying5 (hval 1 5 v1 rfl rfl) h1
  obtain ⟨n1, b1, rfl⟩ := nat_of_u8 w1
  obtain ⟨a2, rfl, rfl, rfl, w2⟩ := open_int Tryz.underlying5 (hval 2 5 v2 rfl rfl) h2
  obtain ⟨n2, b2, rfl⟩ := nat_of_u8 w2
  obtain ⟨a3, rfl, rfl, rfl, w3⟩ := open_int Tryz.underlying5 (hval 3 5 v3 rfl rfl) h3
  obtain ⟨n3, b3, rfl⟩ := nat_of_u8 w3
  obtain ⟨a4, rfl, rfl, rfl, w4⟩ := open_int Tryz.underlying5 (hval 4 5 v4 rfl rfl) h4
  obtain ⟨n4, b4, rfl⟩ := nat_of_u8 w4
  obtain ⟨a5, rfl, rfl, rfl, w5⟩ := open_int Tryz.underlying5 (hval 5 5 v5 rfl rfl) h5
  obtain ⟨n5, b5, rfl⟩ := nat_of_u8 w5
  clear hA0 hval0
  simp only [List.append_nil] at hW'
  refine (walk (w := W) n0 n1 n2 n3 n4 n5 b0 b1 b2 b3 b4 b5).mono fun e W' ⟨he, bel⟩ => ?_
  subst he
  exact ⟨_, rfl, _, _, _, [], _, [], hW', trodAll_mk1 (shut_bool Tryz.underlying4 _), (trodAll_cons_mk (shut_int Tryz.underlying5 w0) (trodAll_cons_mk (shut_int Tryz.underlying5 w1) (trodAll_cons_mk (shut_int Tryz.underlying5 w2) (trodAll_cons_mk (shut_int Tryz.underlying5 w3) (trodAll_cons_mk (shut_int Tryz.underlying5 w4) (trodAll_cons_mk (shut_int Tryz.underlying5 w5) trodAll_mk0)))))), rfl, bel.frame _, fun h => by cases h⟩
theorem over : Rows.syndOneRow.holds Tryz.pinned (OpenSpec.ofChange Rows.syndOneSpec) :=
  OpenClaim.holds_of_wide 6 Tryz.f6 rfl rfl rfl rfl rfl rfl rfl ⟨rfl, rfl, rfl, rfl, rfl⟩ rfl rfl rfl rfl rfl (by kernel_rfl) Tryz.func6 (by kernel_rfl)
    (of_decide_eq_true (by kernel_rfl)) (by unfold Func.isWrapper; first | (rw [if_pos (by decide +kernel)]; kernel_rfl) | (rw [if_neg (by decide +kernel)]; exact ⟨rfl, rfl⟩))
    (fun os started H enc _ => lifted os started H enc)
theorem proved : Rows.SyndOneSaid := over
#print axioms proved
end Go.Proofs.YtddhefhabhgdfaaGreat.syndOne
