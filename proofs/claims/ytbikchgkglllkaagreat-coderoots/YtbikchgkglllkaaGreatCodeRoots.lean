/- CodeRoots holds for every input: roots are powers in a row, all unlike; the generator is 0 at these alone. No conditions. -/
import Derived.Test.YtbikchgkglllkaaGreatRows
import Derived.Test.YtbikchgkglllkaaGreatMB
import Derived.Test.YtbikchgkglllkaaGreatOB
namespace Go.Proofs.YtbikchgkglllkaaGreat.codeRoots
open Go.ChangeShapes Go.WideShapes Go.ChangeAt Go.RowKit
open Pol (IsN Dg ofL Byt vl)

/-- Is x among the first i roots? -/
def inK (B x i : Nat) : Bool := (Cd.rts B i).any fun y => y == x
theorem inK_succ (B x i : Nat) : inK B x (i + 1) = (inK B x i || (Cd.pt (B + i) == x)) := by
  unfold inK; rw [Cd.rts_succ, List.any_append]; simp
theorem add0 (a : Addr) : a.add 0 = a := by cases a; unfold Addr.add; split <;> simp_all
theorem inK_all (B x S : Nat) : inK B x S = true ↔ x ∈ Cd.rts B S := by
  unfold inK; rw [List.any_eq_true]
  constructor
  · rintro ⟨y, h1, h2⟩
    have e : y = x := by simpa using h2
    exact e ▸ h1
  · exact fun h => ⟨x, h, by simp⟩

set_option maxRecDepth 100000 in
set_option maxHeartbeats 4000000 in
theorem walk (j n k b x : Nat) (w : World) (_hj : j < 256) (hn : n < 256) (hk : k < 256) (hb : b < 256) (hx : x < 256) :
    Calls Tryz.prog 8 #[.int .u8 j, .int .u8 n, .int .u8 k, .int .u8 b, .int .u8 x] w fun e w' => e = .returned (.bool true) ∧ Below w.heap.size w w' := by
  obtain ⟨f, hf⟩ : ∃ f : Nat, 1 + j % 3 = f := ⟨_, rfl⟩
  have hf1 : 1 ≤ f := by omega
  have hf3 : f ≤ 3 := by omega
  have hfi : (1 : Int) + (j : Int) % 3 = (f : Int) := by omega
  have hK0 : ∀ W, Calls Tryz.prog 11 _ W _ := fun W => lcode_calls n k b hn hk hb W
  have hcod := ck_cod n k b
  have hle := ckN_le n k
  obtain ⟨N, hN⟩ : ∃ N, ckN n k = N := ⟨_, rfl⟩
  obtain ⟨K, hK⟩ : ∃ K, ckK n k = K := ⟨_, rfl⟩
  obtain ⟨B, hB⟩ : ∃ B, ckB b = B := ⟨_, rfl⟩
  obtain ⟨S, hS⟩ : ∃ S, N - K = S := ⟨_, rfl⟩
  rw [hN, hK, hB] at hK0 hcod
  rw [hN] at hle
  have K0 : Hid (∀ W, Calls Tryz.prog 11 #[.int .u8 n, .int .u8 k, .int .u8 b] W fun e w' => e = .returned (.agg #[.int .i64 (N : Nat), .int .i64 (K : Nat), .int .i64 (B : Nat)]) ∧ Below W.heap.size W w') := hK0
  have HM : Hid (Cod N K B ∧ N - K = S ∧ N ≤ 69 ∧ S ≤ 69 ∧ 0 < S ∧ n < 256 ∧ k < 256 ∧ x < 256) := ⟨hcod, hS, hle.2, by omega, by have := hcod.n; omega, hn, hk, hx⟩
  have hN69 : (N : Int) ≤ 69 := by omega
  have hS0 : 0 < S := by have := hcod.n; omega
  have hS69 : (S : Int) ≤ 69 := by omega
  have hSne : ((S : Int) == 0) = false := by have := hcod.n; simp; omega
  clear hf hN hK hB hS hK0 hcod hle hn hk hb _hj hx
  have HB : Below w.heap.size w w := Below.refl _ _
  go_enter Tryz.func8, Tryz.ntmps8
  go_wp2_with fail
  refine (fof_calls f hf1 hf3 _).mono ?_
  rintro e w1 ⟨B_f, T_f, rfl, HF_f, hb, hlB, hlT⟩
  have HL_f : w.heap.size ≤ T_f := Nat.le_trans HB.size hlT
  replace HB := HB.trans (hb.mono HB.size)
  clear hb hlB hlT
  clear hfi hf1 hf3
  have HT1 : Hid (Below w.heap.size w w1 ∧ Fd f B_f T_f w1 ∧ w.heap.size ≤ T_f) := ⟨HB, HF_f, HL_f⟩
  clear HB HF_f HL_f
  go_wp2_with fail
  refine (K0.out w1).mono ?_
  rintro e w2 ⟨rfl, hb⟩
  have HT2 : Hid (Below w.heap.size w w2 ∧ Fd f B_f T_f w2 ∧ w.heap.size ≤ T_f) := ⟨HT1.out.1.trans (hb.mono HT1.out.1.size), HT1.out.2.1.below hb, HT1.out.2.2⟩
  have HTf : Hid (w.heap.size ≤ T_f) := HT2.out.2.2
  clear hb K0
  obtain ⟨P, hP⟩ : ∃ P, w2.heap.size = P := ⟨_, rfl⟩
  obtain ⟨W3, hW3⟩ : ∃ W3, w2.alloc (.cells #[.int .i64 (N : Nat), .int .i64 (K : Nat), .int .i64 (B : Nat)] 23) = W3 := ⟨_, rfl⟩
  have hT3 : Tc f B_f T_f P (N : Nat) (K : Nat) (B : Nat) w W3 := by
    have h := tc_new HT2.out.2.1 (N : Int) (K : Int) (B : Int)
    rw [hP, hW3] at h
    exact ⟨⟨h.tw.fd, (But.of_below HT2.out.1).trans h.tw.but⟩, h.cb, h.nT⟩
  have HT3 : Hid (Tc f B_f T_f P (N : Nat) (K : Nat) (B : Nat) w W3) := hT3
  clear HT1 HT2
  have KR := kroots f B_f T_f P N K B S w HM.out.1 HM.out.2.1 W3 hT3
  have hC := hT3.cb
  have c0 := (hC).c0
  have c1 := (hC).c1
  have c2 := (hC).c2
  clear hC
  clear hT3
  go_wp2_with fail
  refine KR.mono ?_
  rintro e w4 ⟨q_l, c_l, rfl, hL, hT4, -⟩
  clear c0 c1 c2
  have HL : Hid (∀ W, But (· = T_f) w4 W → Tl W T_f q_l S c_l (Cd.rts B S)) := fun W hW => hL.but hW
  have hB0 : But (· = T_f) w4 w4.drew := (But.refl _ w4).drew
  have hcz : ∀ W, But (· = T_f) w4 W → ∃ a, q_l = some a ∧ W.cell? a = some (.int .u8 (Cd.pt B : Nat)) := fun W hW => by
    obtain ⟨a, e, _, ca⟩ := (HL.out W hW).bs.cell 0 (by have := HM.out; omega)
    rw [Cd.rts_at (by have := HM.out; omega), add0] at ca
    exact ⟨a, e, ca⟩
  obtain ⟨al, rfl, -⟩ := hcz w4 (But.refl _ _)
  have HC0 : Hid (∀ W, But (· = T_f) w4 W → W.cell? al = some (.int .u8 (Cd.pt B : Nat))) := fun W hW => by
    obtain ⟨a, e, ca⟩ := hcz W hW
    cases e
    exact ca
  have KS : Hid (∀ W, _ → _) := kspace f B_f T_f P N K B S w HM.out.1 HM.out.2.1
  have KP : Hid (∀ W, Tc f B_f T_f P (N : Nat) (K : Nat) (B : Nat) w W → _) := fun W hW => kpoint f B_f T_f P N K B w B (Cd.pt B) (by have := HM.out.1.b; omega) rfl W hW
  obtain ⟨p0, hp0⟩ : ∃ p0, Cd.pt B = p0 := ⟨_, rfl⟩
  rw [hp0] at HC0 KP
  have hT0 := hT4.drew
  have ca0 := HC0.out w4 (But.refl _ _)
  have hC := hT4.cb
  have c0 := (hC).c0
  have c1 := (hC).c1
  have c2 := (hC).c2
  clear hC
  have HT4 : Hid (Tc f B_f T_f P (N : Nat) (K : Nat) (B : Nat) w w4) := hT4
  clear hT4 hL KR hP hW3 hcz hp0
  go_wp2
  go_region_held3 (fun w' => w'.cell? ⟨P, 0, none⟩ = some (.int .i64 (N : Nat)) ∧ w'.cell? ⟨P, 1, none⟩ = some (.int .i64 (K : Nat)) ∧ w'.cell? ⟨P, 2, none⟩ = some (.int .i64 (B : Nat)) ∧ w'.cell? al = some (.int .u8 (p0 : Nat)))
    (first | (with_reducible exact ⟨hT2.cb.c0, hT2.cb.c1, hT2.cb.c2, HC0.out _ hB2⟩) | (with_reducible exact ⟨hT1.cb.c0, hT1.cb.c1, hT1.cb.c2, HC0.out _ hB1⟩) | (with_reducible exact ⟨hT0.cb.c0, hT0.cb.c1, hT0.cb.c2, HC0.out _ hB0⟩))
    (first
      | (go_at_call 16; with_reducible refine (KS.out _ hT0).mono ?_; rintro e w5 ⟨rfl, hT1, hb1⟩; have hB1 := hB0.trans hb1)
      | (go_at_call 29; with_reducible refine (KP.out _ hT1).mono ?_; rintro e w6 ⟨rfl, hT2, hb2⟩; have hB2 := hB1.trans hb2))
  have hT6 := hT2
  have HL6 : Hid (∀ W, But (· = T_f) w6 W → ∀ t, t < S → W.cell? (al.add t) = some (.int .u8 (Cd.pt (B + t) : Nat))) := fun W hW t ht => by
    obtain ⟨a, e, _, ca⟩ := (HL.out W (hB2.trans hW)).bs.cell t ht
    cases e
    rw [Cd.rts_at ht] at ca
    exact ca
  have HT6 : Hid (Tc f B_f T_f P (N : Nat) (K : Nat) (B : Nat) w w6) := hT6
  clear KS KP hT0 hT1 hT2 hT6 hB0 hB1 hB2 hb1 hb2 ca0 HC0 HL HT4
  go_wp2
  go_loopw [14, 15] (fun v i wr => ∃ t : Nat, t ≤ S ∧ i = .int .i64 (t : Int) ∧ v = .bool (inK B x t) ∧ Tc f B_f T_f P (N : Nat) (K : Nat) (B : Nat) w wr ∧ But (· = T_f) w6 wr) (fun _ i _ => S - (intOf i).toNat)
  case atStart => exact ⟨0, by omega, rfl, rfl, HT6.out, But.refl _ _⟩
  case round =>
    obtain ⟨t, ht, rfl, rfl, hT, hB⟩ := hrel
    by_cases hlt : t < S
    · have hi : (t : Int) < (S : Int) := by omega
      have hi0 : (0 : Int) ≤ (t : Int) := by omega
      have ct := HL6.out wr hB t hlt
      have hbp := Cd.pt_lt (B + t)
      have hin := inK_succ B x t
      obtain ⟨W1, hW1⟩ : ∃ W1, W1 = wr := ⟨_, rfl⟩
      subst hW1
      have HT1 : Hid (Tc f B_f T_f P (N : Nat) (K : Nat) (B : Nat) w W1 ∧ But (· = T_f) w6 W1) := ⟨hT, hB⟩
      have hcs : ∀ s, s < t → Cd.pt (B + s) ≠ Cd.pt (B + t) := fun s hs e => by have := HM.out; have := Cd.pt_near (b := B) (i := s) (j := t) (by omega) (by omega) e; omega
      have hst : t ≠ 0 → Gf.mul (Cd.pt (B + (t - 1))) 2 = Cd.pt (B + t) := fun h => by
        have e2 : (2 : Nat) = Cd.pt 1 := by decide +kernel
        conv => lhs; rw [e2]
        rw [Cd.pt_mul]; congr 1; omega
      obtain ⟨p, hp⟩ : ∃ p, Cd.pt (B + t) = p := ⟨_, rfl⟩
      obtain ⟨z, hz⟩ : ∃ z, inK B x (t + 1) = z := ⟨_, rfl⟩
      rw [hp] at ct hin hbp hcs hst
      rw [hz] at hin
      have HS : Hid (inK B x (t + 1) = z ∧ (∀ s, s < t → Cd.pt (B + s) ≠ p) ∧ (t ≠ 0 → Gf.mul (Cd.pt (B + (t - 1))) 2 = p) ∧ p < 256) := ⟨hz, hcs, hst, hbp⟩
      obtain ⟨y, hy⟩ : ∃ y, inK B x t = y := ⟨_, rfl⟩
      rw [hy] at hin ⊢
      have hpx : y = false → ((p : Int) == (x : Int)) = z := fun h => by rw [hin, h, Bool.false_or, Bool.eq_iff_iff]; simp; omega
      have hyt : y = true → true = z := fun h => by rw [hin, h, Bool.true_or]
      have ctd : ∀ W, Below W1.heap.size W1 W → W.cell? (al.add t) = some (.int .u8 (p : Nat)) := fun W hW => by have := HL6.out W (hB.trans (But.of_below hW)) t hlt; rwa [hp] at this
      have HCT : Hid (∀ W, Below W1.heap.size W1 W → W.cell? (al.add t) = some (.int .u8 (p : Nat))) := ctd
      clear hp hz hin hcs hst hbp hy hT hB ctd
      cases y
      all_goals
        first | (have hpx' := hpx rfl; clear hpx hyt) | (obtain rfl := hyt rfl; clear hpx hyt)
        go_wp2
        try rw [hpx']
        try clear hpx'
        go_loopw [16] (fun a wr => ∃ s : Nat, s ≤ t ∧ a = .int .i64 (s : Int) ∧ Below W1.heap.size W1 wr) (fun a _ => t - (intOf a).toNat)
        case atStart => exact ⟨0, by omega, rfl, Below.refl _ _⟩
        case round =>
          obtain ⟨s, hs, rfl, hB⟩ := hrel
          by_cases hst : s < t
          · have hsi : (s : Int) < (t : Int) := by omega
            have hsS : (s : Int) < (S : Int) := by omega
            have hs0 : (0 : Int) ≤ (s : Int) := by omega
            have c1 := HCT.out wr hB
            have c2 := HL6.out wr (HT1.out.2.trans (But.of_below hB)) s (by omega)
            have hne := HS.out.2.1 s hst
            obtain ⟨r, hr⟩ : ∃ r, Cd.pt (B + s) = r := ⟨_, rfl⟩
            rw [hr] at c2 hne
            have hne' : ((r : Int) == (p : Int)) = false := by simp; omega
            have HB : Hid (Below W1.heap.size W1 wr) := hB
            clear hB hr hne ct
            go_wp2
            go_quiet (fail)
            go_wp2
            go_roundw
            case rel => exact ⟨s + 1, by omega, by go_num, HB.out.trans (below_drewM _ _ _)⟩
            case measure => simp [intOf]; omega
          · obtain rfl : s = t := by omega
            have HB : Hid (Below W1.heap.size W1 wr) := hB
            have c1 := HCT.out wr hB
            have hTs := HT1.out.1.below hB
            by_cases h0 : s = 0
            · subst h0
              clear hB c1 ct
              have HTs : Hid (Tc f B_f T_f P (N : Nat) (K : Nat) (B : Nat) w wr) := hTs
              clear hTs
              go_wp2
              go_quiet (fail)
              go_wp2
              go_roundw
              case rel => exact ⟨0 + 1, by omega, by go_num, by rw [HS.out.1], HTs.out.below (below_drewM _ _ _), (HT1.out.2.trans (But.of_below HB.out)).trans (But.of_below (below_drewM _ _ _))⟩
              case measure => simp [intOf]; omega
            · obtain ⟨u, hu⟩ : ∃ u : Nat, s = u + 1 := ⟨s - 1, by omega⟩
              have hui : (s : Int) - 1 = (u : Int) := by omega
              have huS : (u : Int) < (S : Int) := by omega
              have hu0 : (0 : Int) ≤ (u : Int) := by omega
              have hs0 : 0 < s := by omega
              have hwu := wrap_nat u (by omega)
              have c2 := HL6.out wr (HT1.out.2.trans (But.of_below hB)) u (by omega)
              have hml := HS.out.2.2.1 h0
              have e1 : s - 1 = u := by omega
              rw [e1] at hml
              have hrl := Cd.pt_lt (B + u)
              obtain ⟨r, hr⟩ : ∃ r, Cd.pt (B + u) = r := ⟨_, rfl⟩
              rw [hr] at c2 hml hrl
              have KM : Hid (∀ W, Tc f B_f T_f P (N : Nat) (K : Nat) (B : Nat) w W → _) := fun W hW => kmulb f B_f T_f P N K B w r 2 p hrl (by decide) hml W hW
              have hT0 : Tc f B_f T_f P (N : Nat) (K : Nat) (B : Nat) w wr.drew := hTs.drew
              have HCs : Hid (∀ W, But (· = T_f) wr W → W.cell? (al.add s) = some (.int .u8 (p : Nat)) ∧ W.cell? (al.add u) = some (.int .u8 (r : Nat))) := fun W hW => by
                have h1 := (HT1.out.2.trans (But.of_below hB)).trans hW
                have h2 := HL6.out W h1 u (by omega)
                rw [hr] at h2
                refine ⟨?_, h2⟩
                have h3 := HL6.out W h1 s (by omega)
                have h4 := HL6.out W1 HT1.out.2 s (by omega)
                have h5 := HCT.out W1 (Below.refl _ _)
                rw [h4] at h5
                rw [h3]; exact h5
              have hB0 : But (· = T_f) wr wr.drew := (But.refl _ wr).drew
              have HU : Hid (s = u + 1) := hu
              clear hB ct h0 hu e1 hml hrl hr hTs
              go_wp2
              go_region_held3 (fun w' => w'.cell? (al.add s) = some (.int .u8 (p : Nat)) ∧ w'.cell? (al.add u) = some (.int .u8 (r : Nat)))
                (first | (with_reducible exact HCs.out _ hB1) | (with_reducible exact HCs.out _ hB0))
                (first
                  | (go_at_call 30; refine (KM.out _ hT0).mono ?_; rintro e w8 ⟨rfl, hT1, hb1⟩; have hB1 := hB0.trans hb1))
              have HZ : Hid (Tc f B_f T_f P (N : Nat) (K : Nat) (B : Nat) w w8 ∧ But (· = T_f) w6 w8) := ⟨hT1, (HT1.out.2.trans (But.of_below HB.out)).trans hB1⟩
              clear KM hT0 HCs hB0 hT1 hb1 hB1 c1 c2
              go_wp2
              go_roundw
              case rel => exact ⟨s + 1, by omega, by go_num, by rw [HS.out.1], HZ.out⟩
              case measure => simp [intOf]; omega
    · obtain rfl : t = S := by omega
      have hgz := Cd.gen_zero (B := B) (S := t) HM.out.2.2.2.2.2.2.2
      obtain ⟨v, hv⟩ : ∃ v, vl (Cd.gen B t) x = v := ⟨_, rfl⟩
      obtain ⟨z, hz⟩ : ∃ z, inK B x t = z := ⟨_, rfl⟩
      have hvz : ((v : Int) == 0) = z := by
        rw [← hz, Bool.eq_iff_iff, inK_all, ← hgz, hv]; simp
      rw [hz]
      obtain ⟨pn, hpn⟩ : ∃ pn, Cd.pt n = pn := ⟨_, rfl⟩
      obtain ⟨pk, hpk⟩ : ∃ pk, Cd.pt k = pk := ⟨_, rfl⟩
      obtain ⟨nk, hnk⟩ : ∃ nk, n + k = nk := ⟨_, rfl⟩
      obtain ⟨r, hr⟩ : ∃ r, Cd.pt nk = r := ⟨_, rfl⟩
      have hnki : (n : Int) + (k : Int) = (nk : Int) := by omega
      have hpl : pn < 256 ∧ pk < 256 := ⟨hpn ▸ Cd.pt_lt n, hpk ▸ Cd.pt_lt k⟩
      have hml : Gf.mul pn pk = r := by rw [← hpn, ← hpk, Cd.pt_mul, hnk, hr]
      have hn256 : n ≤ 1000000 ∧ k ≤ 1000000 ∧ nk ≤ 1000000 := by have := HM.out; omega
      have hni : (nk : Int) ≤ 600 := by have := HM.out; omega
      have hn8 : (n : Int) < 256 := by have := HM.out; omega
      have hk8 : (k : Int) < 256 := by have := HM.out; omega
      have KK := kknown f B_f T_f P N K B w wr hT
      have KG : Hid (∀ W, _ → _) := kgen f B_f T_f P N K B t w HM.out.1 HM.out.2.1
      have KA : Hid (∀ q c W, Tc f B_f T_f P (N : Nat) (K : Nat) (B : Nat) w W → Tl W T_f q (t + 1) c (Cd.gen B t) → _) := fun q c W hW h => kat f B_f T_f P N K B w q (t + 1) c x v (Cd.gen B t) HM.out.2.2.2.2.2.2.2 hv W hW h
      have KP0 : Hid (∀ W, Tc f B_f T_f P (N : Nat) (K : Nat) (B : Nat) w W → _) := fun W hW => kpoint f B_f T_f P N K B w 0 1 (by decide) (by decide +kernel) W hW
      have KPn : Hid (∀ W, Tc f B_f T_f P (N : Nat) (K : Nat) (B : Nat) w W → _) := fun W hW => kpoint f B_f T_f P N K B w n pn hn256.1 hpn W hW
      have KPk : Hid (∀ W, Tc f B_f T_f P (N : Nat) (K : Nat) (B : Nat) w W → _) := fun W hW => kpoint f B_f T_f P N K B w k pk hn256.2.1 hpk W hW
      have KPz : Hid (∀ W, Tc f B_f T_f P (N : Nat) (K : Nat) (B : Nat) w W → _) := fun W hW => kpoint f B_f T_f P N K B w nk r hn256.2.2 hr W hW
      have KM : Hid (∀ W, Tc f B_f T_f P (N : Nat) (K : Nat) (B : Nat) w W → _) := fun W hW => kmulb f B_f T_f P N K B w pn pk r hpl.1 hpl.2 hml W hW
      clear hgz hv hz hpn hpk hnk hr hpl hml hn256 hT hB
      go_wp2_with fail
      refine KK.mono ?_
      rintro e w7 ⟨rfl, hT, hb⟩
      clear KK
      have KX := KG.out w7 hT
      have hC := hT.cb
      clear hT hb KG
      have c0 := (hC).c0
      have c1 := (hC).c1
      have c2 := (hC).c2
      clear hC
      go_wp2_with fail
      refine KX.mono ?_
      rintro e w8 ⟨q_g, c_g, rfl, hG, hT, hb⟩
      clear c0 c1 c2
      clear KX
      have KX := KA.out q_g c_g w8 hT hG
      clear hT hb hG KA
      go_wp2_with fail
      refine KX.mono ?_
      rintro e w9 ⟨rfl, hT, hb⟩
      clear KX
      have KX := KP0.out w9 hT
      clear hT hb KP0
      go_wp2_with fail
      refine KX.mono ?_
      rintro e w10 ⟨rfl, hT, hb⟩
      clear KX
      have KX := KPn.out w10 hT
      clear hT hb KPn
      go_wp2_with fail
      refine KX.mono ?_
      rintro e w11 ⟨rfl, hT, hb⟩
      clear KX
      have KX := KPk.out w11 hT
      clear hT hb KPk
      go_wp2_with fail
      refine KX.mono ?_
      rintro e w12 ⟨rfl, hT, hb⟩
      clear KX
      have KX := KM.out w12 hT
      clear hT hb KM
      go_wp2_with fail
      refine KX.mono ?_
      rintro e w13 ⟨rfl, hT, hb⟩
      clear KX
      have KX := KPz.out w13 hT
      clear hT hb KPz
      go_wp2_with fail
      refine KX.mono ?_
      rintro e w14 ⟨rfl, hT, hb⟩
      clear KX
      go_wp2
      go_ret
      exact ⟨rfl, hT.tw.but.below (Nat.le_refl _) (by rintro k rfl; exact HTf.out)⟩
theorem own : ownKnob Tryz.prog.godebug = none := by kernel_rfl
set_option maxRecDepth 100000 in
theorem lifted (os : Os) (started : os.Started) (H : Type) (enc : TypeId × Value → H) :
    ReturnsInHanded {} Tryz.checked os 8 .any (Rows.codeRootsSpec.pre6 enc Tryz.prog Tryz.f8 Rows.codeRootsRow.domain false) (Rows.codeRootsSpec.post enc Tryz.prog Tryz.f8 false true false false) := by
  refine returnsInHanded_of_change (C := Tryz.checked) own started (by kernel_rfl) Tryz.func8
    (ChangeSpec.witness6 (enc := enc) (C := Tryz.checked) false ⟨#[], #[.int .u8 0, .int .u8 0, .int .u8 0, .int .u8 0, .int .u8 0], []⟩ 8 (by kernel_rfl) (by kernel_rfl) (by kernel_rfl) (by kernel_rfl)) ?_
  intro W base args ds gs before hval0 hW _ _
  have hval : ∀ (j : Nat) t v, Tryz.f8.params[j]? = some t → args[j]? = some v → Value.okWide Tryz.prog W .any base t v := hval0
  have hW' := hW
  obtain ⟨p, q, hA0, hV, rfl, _, _⟩ := hW
  have hA : DataW.TrodAll enc Tryz.prog W 0 (fun _ => true) true Tryz.f8.params.toList args.toList ds p := hA0
  rw [Tryz.params8] at hA hval
  obtain ⟨v0, vs0, d0, ds0, p0, q0, hargs, rfl, rfl, h0, r0⟩ := trodAll_cons hA
  obtain ⟨v1, vs1, d1, ds1, p1, q1, rfl, rfl, rfl, h1, r1⟩ := trodAll_cons r0
  obtain ⟨v2, vs2, d2, ds2, p2, q2, rfl, rfl, rfl, h2, r2⟩ := trodAll_cons r1
  obtain ⟨v3, vs3, d3, ds3, p3, q3, rfl, rfl, rfl, h3, r3⟩ := trodAll_cons r2
  obtain ⟨v4, vs4, d4, ds4, p4, q4, rfl, rfl, rfl, h4, r4⟩ := trodAll_cons r3
  obtain ⟨rfl, rfl, rfl⟩ := trodAll_nil r4
  obtain rfl : args = #[v0, v1, v2, v3, v4] := by cases args; simp_all
  obtain ⟨rfl, rfl⟩ := trodVars_none hV
  obtain ⟨a0, rfl, rfl, rfl, w0⟩ := open_int Tryz.underlying5 (hval 0 5 v0 rfl rfl) h0
  obtain ⟨n0, b0, rfl⟩ := nat_of_u8 w0
  obtain ⟨a1, rfl, rfl, rfl, w1⟩ := open_int Tryz.underlying5 (hval 1 5 v1 rfl rfl) h1
  obtain ⟨n1, b1, rfl⟩ := nat_of_u8 w1
  obtain ⟨a2, rfl, rfl, rfl, w2⟩ := open_int Tryz.underlying5 (hval 2 5 v2 rfl rfl) h2
  obtain ⟨n2, b2, rfl⟩ := nat_of_u8 w2
  obtain ⟨a3, rfl, rfl, rfl, w3⟩ := open_int Tryz.underlying5 (hval 3 5 v3 rfl rfl) h3
  obtain ⟨n3, b3, rfl⟩ := nat_of_u8 w3
  obtain ⟨a4, rfl, rfl, rfl, w4⟩ := open_int Tryz.underlying5 (hval 4 5 v4 rfl rfl) h4
  obtain ⟨n4, b4, rfl⟩ := nat_of_u8 w4
  clear hA0 hval0
  simp only [List.append_nil] at hW'
  refine (walk (w := W) n0 n1 n2 n3 n4 b0 b1 b2 b3 b4).mono fun e W' ⟨he, bel⟩ => ?_
  subst he
  exact ⟨_, rfl, _, _, _, [], _, [], hW', trodAll_mk1 (shut_bool Tryz.underlying4 _), (trodAll_cons_mk (shut_int Tryz.underlying5 w0) (trodAll_cons_mk (shut_int Tryz.underlying5 w1) (trodAll_cons_mk (shut_int Tryz.underlying5 w2) (trodAll_cons_mk (shut_int Tryz.underlying5 w3) (trodAll_cons_mk (shut_int Tryz.underlying5 w4) trodAll_mk0))))), rfl, bel.frame _, fun h => by cases h⟩
theorem over : Rows.codeRootsRow.holds Tryz.pinned (OpenSpec.ofChange Rows.codeRootsSpec) :=
  OpenClaim.holds_of_wide 8 Tryz.f8 rfl rfl rfl rfl rfl rfl rfl ⟨rfl, rfl, rfl, rfl, rfl⟩ rfl rfl rfl rfl rfl (by kernel_rfl) Tryz.func8 (by kernel_rfl)
    (of_decide_eq_true (by kernel_rfl)) (by unfold Func.isWrapper; first | (rw [if_pos (by decide +kernel)]; kernel_rfl) | (rw [if_neg (by decide +kernel)]; exact ⟨rfl, rfl⟩))
    (fun os started H enc _ => lifted os started H enc)
theorem proved : Rows.CodeRootsSaid := over
#print axioms proved
end Go.Proofs.YtbikchgkglllkaaGreat.codeRoots
