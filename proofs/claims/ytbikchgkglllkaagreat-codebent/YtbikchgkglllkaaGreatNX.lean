/- The walk of code.Parity. Conditions: any code; a field that Of has made. -/
import Derived.Deep.RegionLaw
import Derived.Deep.DeepAppendRoom
import Derived.Test.YtbikchgkglllkaaGreatNW
import Derived.Test.YtbikchgkglllkaaGreatNC
import Derived.Test.YtbikchgkglllkaaGreatMG
import Derived.Test.YtbikchgkglllkaaGreatNR
namespace Go.Proofs
open Go.RowKit Go.ChangeShapes Go.WideShapes
open Pol (Byt)
attribute [local go_sem ↓ high] builtin_ap
attribute [local go_sem] ap_sem

theorem pwr_one (x : Nat) : ∀ i, pwr 1 x i = Gf.pow x i
  | 0 => rfl
  | i + 1 => by show Gf.mul (pwr 1 x i) x = Gf.mul (Gf.pow x i) x; rw [pwr_one x i]
theorem par_succ (N j B : Nat) : Cd.par N (j + 1) B = Cd.par N j B ++ pws 1 (Cd.pt (B + j)) N := by
  unfold Cd.par Mx.cells
  rw [Nat.succ_mul, List.range_add, List.map_append, pws_eq, List.map_map]
  congr 1
  refine List.map_congr_left fun i hi => ?_
  rw [List.mem_range] at hi
  show (GF.pw (GF.al (B + (j * N + i) / N)) ((j * N + i) % N)).val = _
  rw [Mx.cell_div hi, Mx.cell_mod hi, pwr_one, ← Cd.of_pt, ← GF.of_pow _ _ (Cd.pt_lt _), GF.of_val _ (Gf.pow_lt _ _ (Cd.pt_lt _))]
theorem par_zero (N B : Nat) : Cd.par N 0 B = [] := by unfold Cd.par Mx.cells; rw [Nat.zero_mul]; rfl
theorem but_at {n : Nat} {W W' : World} (h : Below n W W') : But (fun k => n ≤ k) W W' := ⟨h.os, h.tape, h.output, h.size, fun k _ hs => h.block k (by omega)⟩

/-- 'append(xs, ys...)' where there is room: in its place. -/
theorem run_append_room (W : World) (base g n cap : Nat) (xs : List Nat) (ad : Addr) (m c : Nat) (ys : List Nat) (hown : Ow W base (.slice (some ⟨g, 0, none⟩) n cap) xs) (hn : xs.length = n) (hs : Bs W (some ad) m ys) (hroom : n + m ≤ cap) :
    ∃ W', (Builtin.append_ #[24, 24] 24 #[.slice (some ⟨g, 0, none⟩) n cap, .slice (some ad) m c]).run Tryz.prog W = .ok (.slice (some ⟨g, 0, none⟩) (n + m) cap) W' ∧ Ow W' base (.slice (some ⟨g, 0, none⟩) (n + m) cap) (xs ++ ys) ∧ But (· = g) W W' := by
  subst hn
  obtain ⟨i, hi, hz, hsz, hby⟩ := info_parts info_u8
  have hl := hs.len
  subst hl
  obtain ⟨W', h1, h2, h3⟩ := run_append_own_spare (P := Tryz.prog) W base 24 24 5 i 1 Tryz.underlying24 hi hsz g xs.length cap (ob xs) hown ad ys.length c (ob ys) (by rw [ob_length, Nat.mul_one]) (fun j u hj => by
    have hlj : j < ys.length := by rw [← ob_length ys]; exact (List.getElem?_eq_some_iff.1 hj).1
    rw [ob_at ys j hlj] at hj
    cases hj
    obtain ⟨a, e, _, hc⟩ := hs.cell j hlj
    cases e
    exact hc) (fun u hu => by
      unfold ob at hu
      obtain ⟨x, _, rfl⟩ := List.mem_map.1 hu
      rfl) hroom
  refine ⟨W', h1, ?_, ⟨h3.os, h3.tape, h3.output, h3.size, fun k hk hs => h3.block k hk (fun e => by cases e; exact hs rfl)⟩⟩
  unfold Ow
  rw [List.length_append, show ob (xs ++ ys) = ob xs ++ ob ys by simp [ob]]
  exact h2
theorem FdM.past {k B T : Nat} {S : Nat → Prop} {W W' : World} (h : FdM k B T W) (hb : But S W W') (hB : ¬ S B) (hT : ¬ S T) : FdM k B T W' := h.but hb hB hT
theorem Tc.past {k Bf T R G : Nat} {N K B : Int} {w W W' : World} (h : Tc k Bf T R N K B w W) (hb : But (· = G) W W') (hG : w.heap.size ≤ G) (hB : ¬ Bf = G) (hT : ¬ T = G) (hR : ¬ R = G) : Tc k Bf T R N K B w W' :=
  ⟨⟨h.tw.fd.but hb hB hT, h.tw.but.past hb (fun i e => by omega)⟩, h.cb.but hb hR, h.nT⟩

set_option maxRecDepth 100000 in
set_option maxHeartbeats 2000000 in
theorem cpar_calls (k Bf T N K B S : Nat) (h : Cod N K B) (hS : N - K = S) (w : World) (hF : Fd k Bf T w) :
    Calls Tryz.prog 23 #[.pointer (some ⟨Bf, 0, none⟩), .agg #[.int .i64 (N : Nat), .int .i64 (K : Nat), .int .i64 (B : Nat)]] w fun e w' => ∃ v, e = .returned (.agg #[.int .i64 (S : Nat), .int .i64 (N : Nat), v]) ∧ Ow w' w.heap.size v (Cd.par N S B) ∧ Fd k Bf T w' ∧ But (· = T) w w' := by
  have hT := tc_new hF (N : Int) (K : Int) (B : Int)
  obtain ⟨R, hR⟩ : ∃ R, w.heap.size = R := ⟨_, rfl⟩
  obtain ⟨P1, hP1⟩ : ∃ P1, w.alloc (.cells #[.int .i64 (N : Nat), .int .i64 (K : Nat), .int .i64 (B : Nat)] 23) = P1 := ⟨_, rfl⟩
  obtain ⟨W0, hW0⟩ : ∃ W0, P1.alloc (.cells #[.int .i64 0, .int .i64 0, .slice none 0 0] 43) = W0 := ⟨_, rfl⟩
  rw [hP1, hR] at hT
  have hs1 : P1.heap.size = R + 1 := by rw [← hP1, ← hR]; simp
  have hZ := z3_new P1
  rw [hs1, hW0] at hZ
  have hT := hT.below (hW0 ▸ (Below.refl _ P1).alloc (Nat.le_refl _) _)
  have K1 := cusable_calls (some ⟨Bf, 0, none⟩) true (N : Int) (K : Int) (B : Int) (by rw [h.yes]; rfl) W0
  have KS : Hid (∀ W, Tc k Bf T R N K B w W ∧ Z3 W (R + 1) → Calls Tryz.prog 16 #[.agg #[.int .i64 (N : Nat), .int .i64 (K : Nat), .int .i64 (B : Nat)]] W fun e w' => e = .returned (.int .i64 (S : Nat)) ∧ (Tc k Bf T R N K B w w' ∧ Z3 w' (R + 1)) ∧ Below W.heap.size W w') := fun W hW =>
    (cspace_e N K B S h hS W).mono fun _ _ ⟨e, hb⟩ => ⟨e, ⟨hW.1.below hb, hW.2.below hb⟩, hb⟩
  have KR : Hid (∀ W, Fd k Bf T W → Calls Tryz.prog 28 #[.pointer (some ⟨Bf, 0, none⟩), .agg #[.int .i64 (N : Nat), .int .i64 (K : Nat), .int .i64 (B : Nat)]] W fun e w' => ∃ v, e = .returned v ∧ Ow w' W.heap.size v (Cd.rts B S) ∧ FdM k Bf T w' ∧ But (· = T) W w') := fun W hW => croots_made k Bf T N K B S h hS W hW
  have hN0 : 0 < N := by have := h.n; omega
  have hN255 : N ≤ 255 := h.m
  have hS255 : S ≤ 255 := by omega
  obtain ⟨M, hM⟩ : ∃ M, S * N = M := ⟨_, rfl⟩
  have hMi : (S : Int) * (N : Int) = (M : Int) := by rw [← hM]; exact (Int.natCast_mul S N).symm
  have hM6 : M ≤ 65025 := by rw [← hM]; exact Nat.mul_le_mul hS255 hN255
  have HT : Hid ((Tc k Bf T R N K B w W0 ∧ Z3 W0 (R + 1)) ∧ T < R ∧ Bf < R ∧ S * N = M) := ⟨⟨hT, hZ⟩, hR ▸ hF.lt, hR ▸ hF.blt, hM⟩
  have hmk := make_bytes0 M (by omega)
  have hC := hT.cb
  have hwM := wrap_nat M (by omega)
  clear hF h hS hT hZ hM
  have HW0 : Hid (P1.alloc (.cells #[.int .i64 0, .int .i64 0, .slice none 0 0] 43) = W0) := hW0
  have c0 := (hC).c0
  have c1 := (hC).c1
  have c2 := (hC).c2
  clear hC
  go_enter Tryz.func23, Tryz.ntmps23
  go_wp2_with fail
  refine K1.mono ?_
  rintro e w1 ⟨rfl, hb1⟩
  clear K1 HW0
  clear c0 c1 c2
  have hT0 : Tc k Bf T R N K B w w1.drew ∧ Z3 w1.drew (R + 1) := ⟨HT.out.1.1.below hb1.drew, HT.out.1.2.below hb1.drew⟩
  have hC := (HT.out.1.1.below hb1).cb
  clear hb1 hW0 hP1
  have c0 := (hC).c0
  have c1 := (hC).c1
  have c2 := (hC).c2
  clear hC
  go_wp2
  go_region_held3 (fun w' => w'.cell? ⟨R, 0, none⟩ = some (.int .i64 (N : Nat)) ∧ w'.cell? ⟨R, 1, none⟩ = some (.int .i64 (K : Nat)) ∧ w'.cell? ⟨R, 2, none⟩ = some (.int .i64 (B : Nat)))
    (first | (exact ⟨hT1.1.cb.c0, hT1.1.cb.c1, hT1.1.cb.c2⟩) | (go_keep; done))
    (first
      | (go_at_call 16; with_reducible refine (KS.out _ hT0).mono ?_; rintro e w2 ⟨rfl, hT1, hbw⟩))
  clear hwM
  obtain ⟨G, hG⟩ : ∃ G, w2.heap.size = G := ⟨_, rfl⟩
  obtain ⟨P3, hP3⟩ : ∃ P3, w2.alloc (.cells (madeCells #[.int .u8 0] M) 5) = P3 := ⟨_, rfl⟩
  have h23 : Below w2.heap.size w2 P3 := hP3 ▸ (Below.refl _ w2).alloc (Nat.le_refl _) _
  have hT3 : Tc k Bf T R N K B w P3 ∧ Z3 P3 (R + 1) := ⟨hT1.1.below h23, hT1.2.below h23⟩
  have hG2 : R + 2 ≤ G := by have := hT1.2.blt; omega
  have hO3 : Ow P3 (R + 2) (.slice (some ⟨G, 0, none⟩) 0 M) [] := by rw [← hP3, ← hG]; exact ow_made0 w2 (by omega) M (by omega)
  have KR3 := KR.out P3 hT3.1.tw.fd
  have HT3 : Hid ((Tc k Bf T R N K B w P3 ∧ Z3 P3 (R + 1)) ∧ Ow P3 (R + 2) (.slice (some ⟨G, 0, none⟩) 0 M) [] ∧ R + 2 ≤ P3.heap.size) := ⟨hT3, hO3, by have := h23.size; omega⟩
  have hC := hT3.1.cb
  rw [hG, hP3]
  clear hmk KR hT0 hT1 hbw h23 hT3 hO3 hP3 hG hG2
  have c0 := (hC).c0
  have c1 := (hC).c1
  have c2 := (hC).c2
  clear hC
  go_wp2_with fail
  refine KR3.mono ?_
  rintro e w4 ⟨v, rfl, hO, hM, hb⟩
  clear KR3
  clear c0 c1 c2
  obtain ⟨p, d, rfl, S4, C4, hQ⟩ := hO.tell (n := S) (Cd.rts_byt B S) (Cd.rts_length B S)
  have hTP : T < P3.heap.size := by have := HT3.out.2.2; have := HT.out.2.1; omega
  have hGP : G < P3.heap.size := (HT3.out.2.1.lt G rfl).2
  have HT4 : Hid ((Tc k Bf T R N K B w w4 ∧ Z3 w4 (R + 1)) ∧ FdM k Bf T w4 ∧ Bs w4 p S (Cd.rts B S) ∧ Ow w4 (R + 2) (.slice (some ⟨G, 0, none⟩) 0 M) [] ∧ Off G S p ∧ R + 2 ≤ G ∧ G < w4.heap.size) :=
    ⟨⟨HT3.out.1.1.next hM.fd hb, HT3.out.1.2.but hb (by have := HT.out.2.1; omega)⟩, hM, S4, HT3.out.2.1.block (fun i hi => hb.block i (HT3.out.2.1.lt i hi).2 (by have := (HT3.out.2.1.lt i hi).1; have := HT.out.2.1; omega)), hQ G hGP, (HT3.out.2.1.lt G rfl).1, Nat.lt_of_lt_of_le hGP hb.size⟩
  clear hO hM hb S4 hQ hTP hGP
  go_wp2
  go_loopw [5, 23] (fun v i wr => ∃ t m : Nat, t ≤ S ∧ t * N = m ∧ i = .int .i64 (t : Int) ∧ v = .slice (some ⟨G, 0, none⟩) m M ∧ Ow wr (R + 2) (.slice (some ⟨G, 0, none⟩) m M) (Cd.par N t B) ∧ (Tc k Bf T R N K B w wr ∧ Z3 wr (R + 1)) ∧ FdM k Bf T wr ∧ But (· = G) w4 wr) (fun _ i _ => S - (intOf i).toNat)
  case atStart => exact ⟨0, 0, by omega, by omega, rfl, rfl, by rw [par_zero]; exact HT4.out.2.2.2.1, HT4.out.1, HT4.out.2.1, But.refl _ _⟩
  case round =>
    obtain ⟨t, m, ht, hm, rfl, rfl, hO, hT, hFM, hB⟩ := hrel
    have hTR := HT.out.2.1
    have hBR := HT.out.2.2.1
    have hG2 := HT4.out.2.2.2.2.2.1
    by_cases hlt : t < S
    · have hi : (t : Int) < (S : Int) := by omega
      have hi0 : (0 : Int) ≤ (t : Int) := by omega
      obtain ⟨a, rfl, _, ca⟩ := (HT4.out.2.2.1.but hB HT4.out.2.2.2.2.1).cell t hlt
      rw [Cd.rts_at hlt] at ca
      have hbx := Cd.pt_lt (B + t)
      have hps := par_succ N t B
      have hbp := Cd.par_byt N (t + 1) B
      have hmM : m + N ≤ M := by
        have h1 : (t + 1) * N ≤ S * N := Nat.mul_le_mul_right N hlt
        rw [Nat.succ_mul, hm, HT.out.2.2.2] at h1
        exact h1
      obtain ⟨x, hx⟩ : ∃ x, Cd.pt (B + t) = x := ⟨_, rfl⟩
      rw [hx] at ca hbx hps
      have KW : Hid (Calls Tryz.prog 51 #[.pointer (some ⟨Bf, 0, none⟩), .int .u8 1, .int .u8 (x : Nat)] wr.drew fun e w' => ∃ A, e = .returned (.func (.func 62) #[] #[.pointer (some ⟨A + 1, 0, none⟩), .pointer (some ⟨A, 0, none⟩), .pointer (some ⟨A + 1 + 1, 0, none⟩)]) ∧ w'.cell? ⟨R, 0, none⟩ = some (.int .i64 (N : Nat)) ∧ Hid (PwB A k Bf T 1 x w' ∧ Below wr.heap.size wr w')) :=
        ((callsIn_wide (n := 1)).1 (cpowers_calls 1 Bf 1 x wr.drew)).mono fun e w' ⟨he, hw⟩ => by
          subst hw
          have hb : Below wr.heap.size wr (((wr.drew.alloc (.cells #[.pointer (some ⟨Bf, 0, none⟩)] 35)).alloc (.cells #[.int .u8 ((1 : Nat) : Int)] 5)).alloc (.cells #[.int .u8 (x : Nat)] 5)) := ((((Below.refl _ wr).drew).alloc (Nat.le_refl _) _).alloc (by simp) _).alloc (by simp; omega) _
          exact ⟨wr.heap.size, he, (hT.1.cb.below hb).c0, pwB_new (hFM.below (Below.refl _ wr).drew), hb⟩
      have KF : Hid (∀ A w', Hid (PwB A k Bf T 1 x w' ∧ Below wr.heap.size wr w') → Calls Tryz.prog 50 #[.int .i64 (N : Nat), .func (.func 62) #[] #[.pointer (some ⟨A + 1, 0, none⟩), .pointer (some ⟨A, 0, none⟩), .pointer (some ⟨A + 1 + 1, 0, none⟩)]] w' fun e w'' => ∃ q1 n1 c1 W5, e = .returned (.slice q1 n1 c1) ∧ (Builtin.append_ #[24, 24] 24 #[.slice (some ⟨G, 0, none⟩) m M, .slice q1 n1 c1]).run Tryz.prog w'' = .ok (.slice (some ⟨G, 0, none⟩) (m + N) M) W5 ∧ Hid (Ow W5 (R + 2) (.slice (some ⟨G, 0, none⟩) (m + N) M) (Cd.par N (t + 1) B) ∧ (Tc k Bf T R N K B w W5 ∧ Z3 W5 (R + 1)) ∧ FdM k Bf T W5 ∧ But (· = G) w4 W5)) := fun A w' hw' => by
        refine (cfirst_calls A k Bf T N 1 x (by decide) hbx (by omega) w' hw'.out.1).mono ?_
        rintro e w'' ⟨v, rfl, hOv, hb2⟩
        have hb : Below wr.heap.size wr w'' := hw'.out.2.trans (hb2.mono hw'.out.2.size)
        have hbyt : ∀ i, (pws 1 x N).getD i 0 < 256 := fun i => by
          rw [pws_eq]
          by_cases hi : i < N
          · rw [Mx.getD_range_map _ _ _ hi]; exact pwr_lt (by decide) i
          · rw [Mx.getD_out (by simp; omega)]; decide
        obtain ⟨q1, c1, rfl, S1, _, _⟩ := hOv.tell (n := N) hbyt (pws_length _ _ _)
        obtain ⟨ad, rfl⟩ : ∃ ad, q1 = some ad := by obtain ⟨ad, e, _⟩ := S1.cell 0 hN0; exact ⟨ad, e⟩
        obtain ⟨W5, hap, hO5, hb5⟩ := run_append_room w'' (R + 2) G m M (Cd.par N t B) ad N c1 (pws 1 x N) (hO.below hb) (by rw [Cd.par_length, hm]) S1 hmM
        rw [← hps] at hO5
        exact ⟨_, _, _, W5, rfl, hap, hO5, ⟨(hT.1.below hb).past hb5 (by omega) (by omega) (by omega) (by omega), (hT.2.below hb).but hb5 (by omega)⟩, (hFM.below hb).but hb5 (by omega) (by omega), (hB.trans (But.of_below hb)).trans hb5⟩
      have hC := hT.1.cb
      have c0 := hC.c0
      have HM : Hid ((t + 1) * N = m + N) := by show (t + 1) * N = m + N; rw [Nat.succ_mul, hm]
      clear hO hT hFM hB hps hbp hx hC hm
      go_wp2
      go_region_law
        (first
          | (refine step_go rfl (by go_simp) KW.out ?_; rintro e w5 ⟨A, rfl, c05, H5⟩; refine ⟨_, rfl, ?_⟩)
          | (refine step_go rfl (by go_simp) (KF.out A w5 H5) ?_; rintro e w6 ⟨q1, n1, c1, W5, rfl, hap5, H6⟩; refine ⟨_, rfl, ?_⟩)
          | (refine step_ap9 rfl (.tmp 27) (.tmp 33) 24 rfl rfl hap5 rfl rfl ?_))
      all_goals
        go_wp2
        go_roundw
        case rel => exact ⟨t + 1, m + N, by omega, HM.out, by go_num, rfl, H6.out⟩
        case measure => simp [intOf]; omega
    · obtain rfl : t = S := by omega
      have hC := hT.1.cb
      have hT0 : Tc k Bf T R N K B w wr.drew ∧ Z3 wr.drew (R + 1) := ⟨hT.1.drew, hT.2.below (Below.refl _ wr).drew⟩
      have HO : Hid (Ow wr.drew (R + 2) (.slice (some ⟨G, 0, none⟩) m M) (Cd.par N t B)) := hO.drew
      have HG : Hid (R + 2 ≤ G ∧ T < R ∧ Bf < R) := ⟨hG2, hTR, hBR⟩
      clear hO hT hFM hB hm hlt hG2 hTR hBR
      have c0 := (hC).c0
      have c1 := (hC).c1
      have c2 := (hC).c2
      clear hC
      go_wp2
      go_region_held3 (fun w' => w'.cell? ⟨R, 0, none⟩ = some (.int .i64 (N : Nat)) ∧ w'.cell? ⟨R, 1, none⟩ = some (.int .i64 (K : Nat)) ∧ w'.cell? ⟨R, 2, none⟩ = some (.int .i64 (B : Nat)))
        (first | (exact ⟨hT1.1.cb.c0, hT1.1.cb.c1, hT1.1.cb.c2⟩) | (go_keep; done))
        (first
          | (go_at_call 16; with_reducible refine (KS.out _ hT0).mono ?_; rintro e w5 ⟨rfl, hT1, hb5⟩; have z0 := hT1.2.c0; have z1 := hT1.2.c1; have z2 := hT1.2.c2; have y0 := hT1.2.f0; have y1 := hT1.2.f1; have y2 := hT1.2.f2))
      go_wp2
      have hO5 := HO.out.below hb5
      have hbt := but_set3 w5 (R + 1) (.int .i64 (t : Nat)) (.int .i64 (N : Nat)) (.slice (some ⟨G, 0, none⟩) m M)
      refine bodyPost_ret (results_cell Tryz.results23 rfl (load_set3 hT1.2 _ _ _)) rfl ⟨_, rfl, ?_, ?_, ?_⟩
      · exact (hO5.block fun i hi => hbt.block i (hO5.lt i hi).2 (by have := (hO5.lt i hi).1; omega)).mono (by omega)
      · exact hT1.1.tw.fd.but hbt (by have := HG.out; omega) (by have := HG.out; omega)
      · exact hT1.1.tw.but.past hbt (fun i e => by omega)

set_option maxRecDepth 100000 in
set_option maxHeartbeats 1000000 in
theorem cpar_none (P : Option Addr) (N K B : Int) (hc : (P.isSome && cdB N K B) = false) (w : World) :
    Calls Tryz.prog 23 #[.pointer P, .agg #[.int .i64 N, .int .i64 K, .int .i64 B]] w fun e w' => e = .returned (.agg #[.int .i64 0, .int .i64 0, .slice none 0 0]) ∧ Below w.heap.size w w' := by
  obtain ⟨R, hR⟩ : ∃ R, w.heap.size = R := ⟨_, rfl⟩
  obtain ⟨P1, hP1⟩ : ∃ P1, w.alloc (.cells #[.int .i64 N, .int .i64 K, .int .i64 B] 23) = P1 := ⟨_, rfl⟩
  obtain ⟨W0, hW0⟩ : ∃ W0, P1.alloc (.cells #[.int .i64 0, .int .i64 0, .slice none 0 0] 43) = W0 := ⟨_, rfl⟩
  have hs1 : P1.heap.size = R + 1 := by rw [← hP1, ← hR]; simp
  have hZ := z3_new P1
  rw [hs1, hW0] at hZ
  have hb0 : Below w.heap.size w W0 := by rw [← hW0, ← hP1]; exact ((Below.refl _ w).alloc (Nat.le_refl _) _).alloc (by simp) _
  have hC : Cb W0 R N K B := by
    rw [← hW0]
    have h1 := cb_new w N K B
    rw [hP1, hR] at h1
    exact h1.below ((Below.refl _ P1).alloc (Nat.le_refl _) _)
  have K1 := cusable_calls P false N K B hc W0
  have HB : Hid (Below w.heap.size w W0 ∧ Z3 W0 (R + 1)) := ⟨hb0, hZ⟩
  clear hb0 hc hZ
  have c0 := (hC).c0
  have c1 := (hC).c1
  have c2 := (hC).c2
  clear hC
  go_enter Tryz.func23, Tryz.ntmps23
  go_wp2_with fail
  refine K1.mono ?_
  rintro e w1 ⟨rfl, hb1⟩
  clear K1
  clear c0 c1 c2
  have HZ : Hid (Below w.heap.size w w1 ∧ Z3 w1 (R + 1)) := ⟨HB.out.1.trans (hb1.mono HB.out.1.size), HB.out.2.below hb1⟩
  have z0 := HZ.out.2.c0
  have z1 := HZ.out.2.c1
  have z2 := HZ.out.2.c2
  have y0 := HZ.out.2.f0
  have y1 := HZ.out.2.f1
  have y2 := HZ.out.2.f2
  clear hb1
  go_wp2
  have hbt := but_set3 w1 (R + 1) (.int .i64 0) (.int .i64 0) (.slice none 0 0)
  exact bodyPost_ret (results_cell Tryz.results23 rfl (load_set3 HZ.out.2 _ _ _)) rfl ⟨rfl, HZ.out.1.trans (hbt.below HZ.out.1.size (fun k hk => by omega))⟩
end Go.Proofs
