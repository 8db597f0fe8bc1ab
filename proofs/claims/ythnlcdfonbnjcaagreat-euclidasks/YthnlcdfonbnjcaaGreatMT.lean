/- Texts laid together: Ref06, Ref06b. Each says its own conditions. -/
import Derived.BigQuiet
import Derived.Test.YthnlcdfonbnjcaaGreatMS
import Derived.Test.YthnlcdfonbnjcaaGreatMA
import Derived.Test.YthnlcdfonbnjcaaGreatMK
/- The walks of the document's answers of layer 6 (erratumref06): Div; and of erratumref05.Up. Conditions: lists of at most a million bytes, no longer than their capacities. -/
namespace Go.Proofs
open Go.RowKit Go.ChangeShapes Go.WideShapes
open Pol (IsN Dg ofL Byt)

section
attribute [local go_sem ↓ high] builtin_ap
attribute [local go_sem] ap_sem
set_option maxRecDepth 100000 in
set_option maxHeartbeats 1000000 in
theorem rup_calls (q : Option Addr) (n c k : Nat) (xs zs : List Nat) (hz : IsN zs (Pol.up k (ofL xs))) (hn : n ≤ 10000000) (hk : k ≤ 10000000) (w : World) (hs : Bs w q n xs) :
    Calls Tryz.prog 48 #[.slice q n c, .int .i64 (k : Int)] w fun e w' => ∃ v, e = .returned v ∧ Ow w' w.heap.size v zs ∧ Below w.heap.size w w' := by
  have hmk := make_bytes k (by omega)
  have hO0 := ow_made w (Nat.le_refl _) k (by omega)
  obtain ⟨v1, W1, hap, hO, hg⟩ := run_append_list _ w.heap.size _ (List.replicate k 0) q n c xs hO0 (hs.alloc _) (by simp; omega) (by simp)
  have ha1 := ap_ok hap
  have ha2 := ap_v hap
  have ha3 := ap_w hap
  have hb1 : Below w.heap.size w W1 := ((Below.refl _ w).alloc (Nat.le_refl _) _).grown hg (by simp) (fun k hk => (hO0.lt k hk).1)
  have hl : (List.replicate k 0 ++ xs).length = k + n := by rw [List.length_append, List.length_replicate, hs.len]
  obtain ⟨N, hN⟩ : ∃ N, k + n = N := ⟨_, rfl⟩
  rw [hN] at hl
  obtain ⟨q2, c2, rfl, S2, C2, -⟩ := hO.tell (n := N) (Pol.byt_append (Pol.byt_rep k) hs.byt) hl
  have K := rnorm_calls q2 N c2 _ zs (by rw [Pol.ofL_up]; exact hz) (by omega) C2 W1 S2
  have HB : Hid (Below w.heap.size w W1) := hb1
  clear hs hz hO0 hap hO hg hb1 hl hN S2 C2 hn
  go_enter Tryz.func48, Tryz.ntmps48
  go_wp2_with fail
  refine K.mono ?_
  rintro e w1 ⟨v, rfl, hO, hb⟩
  go_wp2
  go_ret
  exact ⟨_, rfl, hO.mono HB.out.size, HB.out.trans (hb.mono HB.out.size)⟩
end

theorem Bs.drewN {W : World} {q : Option Addr} {n : Nat} {xs : List Nat} (h : Bs W q n xs) (k : Nat) : Bs (W.drewN k) q n xs := h.below ⟨rfl, rfl, rfl, Nat.le_refl _, fun _ _ => rfl⟩
/-- One place of the document's division. -/
theorem ref_step {d J a : Nat} {ts : List Nat} {Y S X : Pol} (hY : Dg (d + 1) Y) (hS : Pol.Bd (J + 1) S) (hd : d ≤ J) (ha : GF.of a = S J * GF.inv (Y d)) (hl : J - d < ts.length) (h0 : ts.getD (J - d) 0 = 0) (e : Pol.add (Pol.mul (ofL ts) Y) S = X) :
    Pol.Bd J (Pol.add S (Pol.up (J - d) (Pol.smul (GF.of a) Y))) ∧ Pol.add (Pol.mul (ofL (ts.set (J - d) a)) Y) (Pol.add S (Pol.up (J - d) (Pol.smul (GF.of a) Y))) = X := by
  refine ⟨by rw [ha]; exact Pol.div_step hY hS hd, ?_⟩
  rw [ofL_setq hl h0, Pol.add_mul, Pol.mono_mul, ← e]
  funext i
  show (Pol.mul (ofL ts) Y i + Pol.up (J - d) (Pol.smul (GF.of a) Y) i) + (S i + Pol.up (J - d) (Pol.smul (GF.of a) Y) i) = Pol.mul (ofL ts) Y i + S i
  generalize Pol.mul (ofL ts) Y i = x
  generalize Pol.up (J - d) (Pol.smul (GF.of a) Y) i = y
  generalize S i = z
  rw [show x + y + (z + y) = (x + z) + (y + y) by ac_rfl, GF.add_self, GF.add_zero]
/-- Between the rounds of the document's division. -/
structure RI (R G N d n1 : Nat) (X Y : Pol) (w : World) (J : Nat) (q : Option Addr) (l c : Nat) (s ts : List Nat) (W : World) : Prop where
  bt : Byt ts
  lt : ts.length = N
  zero : ∀ i, i + d < J → ts.getD i 0 = 0
  nrm : IsN s (ofL s)
  len : s.length = l
  bd : Pol.Bd J (ofL s)
  eq : Pol.add (Pol.mul (ofL ts) Y) (ofL s) = X
  os : Ow W R (.slice q l c) s
  off : ∀ g, (Value.slice q l c).ownBlock = some g → ¬ g = G
  ot : Ow W R (.slice (some ⟨G, 0, none⟩) N N) ts
  below : Below R w W
  bl : l ≤ n1

set_option maxRecDepth 100000 in
set_option maxHeartbeats 4000000 in
theorem r6div_calls (q p : Option Addr) (n c m d e : Nat) (xs ys zs rs : List Nat) (P1 P2 : Pol) (hd : Dg (e + 1) (ofL ys)) (ha : IsN zs P1) (hr : IsN rs P2) (h2 : Pol.Bd e P2) (he : ofL xs = Pol.add (Pol.mul P1 (ofL ys)) P2)
    (hn : n ≤ 1000000) (hm : m ≤ 1000000) (hnc : n ≤ c) (w : World) (hx : Bs w q n xs) (hy : Bs w p m ys) :
    Calls Tryz.prog 45 #[.slice q n c, .slice p m d] w fun r w' => ∃ v1 v2, r = .returned (.tuple #[v1, v2, .bool true]) ∧ Ow w' w.heap.size v1 zs ∧ Ow w' w.heap.size v2 rs ∧ Below w.heap.size w w' := by
  have K1 : Calls Tryz.prog 10 #[.slice p m d] w fun r w' => r = .returned (.int .i64 (e : Int)) ∧ w' = w :=
    (rdeg_calls p m d ys (e + 1) hd (by omega) w hy).mono (by rintro r w' ⟨rfl, h⟩; exact ⟨by congr 2; omega, h⟩)
  obtain ⟨ls, hls, hll⟩ := Pol.isN_norm xs
  rw [hx.len] at hll
  have K2 := rnorm_calls q n c xs ls hls (by omega) hnc w hx
  obtain ⟨nl, hnl⟩ : ∃ nl, ls.length = nl := ⟨_, rfl⟩
  obtain ⟨N, hN⟩ : ∃ N, n + 1 = N := ⟨_, rfl⟩
  have hNi : (n : Int) + 1 = (N : Int) := by omega
  have hem : e + 1 ≤ m := by have := hd.le (Pol.ofL_bd ys); rwa [hy.len] at this
  have hmk := make_bytes N (by omega)
  have b1 : (n : Int) ≤ 1000000 := by omega
  have HX : Hid (IsN ls (ofL xs) ∧ ls.length = nl ∧ nl ≤ n ∧ Pol.Bd n (ofL xs)) := ⟨hls, hnl, by omega, by have := Pol.ofL_bd xs; rwa [hx.len] at this⟩
  have HY : Hid (Bs w p m ys ∧ Dg (e + 1) (ofL ys)) := ⟨hy, hd⟩
  have HZ : Hid (IsN zs P1 ∧ IsN rs P2 ∧ Pol.Bd e P2 ∧ ofL xs = Pol.add (Pol.mul P1 (ofL ys)) P2) := ⟨ha, hr, h2, he⟩
  have HN : Hid (n + 1 = N ∧ e + 1 ≤ m ∧ n ≤ 1000000 ∧ m ≤ 1000000) := ⟨hN, hem, hn, hm⟩
  clear hd ha hr h2 he hx hy hls hll hnl hN hem hn hm hnc
  go_enter Tryz.func45, Tryz.ntmps45
  go_wp2_with fail
  refine K1.mono ?_
  rintro r w0 ⟨rfl, hw⟩
  subst w0
  clear K1
  go_wp2_with fail
  refine K2.mono ?_
  rintro r w1 ⟨v1, rfl, hO, hb⟩
  clear K2
  obtain ⟨q1, c1, rfl, -⟩ := hO.tell (n := nl) HX.out.1.byt HX.out.2.1
  obtain ⟨R, hR⟩ : ∃ R, w.heap.size = R := ⟨_, rfl⟩
  obtain ⟨G, hG⟩ : ∃ G, w1.heap.size = G := ⟨_, rfl⟩
  have HI : Hid (RI R G N e (n + m) (ofL xs) (ofL ys) w N q1 nl c1 ls (List.replicate N 0) (w1.alloc (.cells (madeCells #[.int .u8 0] N) 5))) := by
    have hRG : R ≤ G := by rw [← hR, ← hG]; exact hb.size
    refine ⟨Pol.byt_rep _, by simp, fun i _ => Pol.getD_rep _ _, ⟨HX.out.1.nrm, HX.out.1.byt, rfl⟩, HX.out.2.1, ?_, ?_, hR ▸ hO.alloc _, fun g hg => ?_, ?_, ?_, ?_⟩
    · rw [HX.out.1.eq]; exact HX.out.2.2.2.mono_le (by have := HN.out; omega)
    · rw [Pol.ofL_rep, Pol.zero_mul, Pol.zero_add]; exact HX.out.1.eq
    · have := (hO.lt g hg).2; omega
    · rw [← hG]; exact ow_made w1 (by omega) N (by have := HN.out; omega)
    · rw [← hR]; exact hb.alloc hb.size _
    · have := HX.out.2.2.1; omega
  have HR : Hid (w.heap.size = R ∧ R ≤ G) := ⟨hR, by rw [← hR, ← hG]; exact hb.size⟩
  clear hO hb
  go_wp2
  clear hmk hNi
  go_loopw [8, 10] (fun v k wr => ∃ (J : Nat) (q' : Option Addr) (l c' : Nat) (s ts : List Nat), J ≤ N ∧ k = .int .i64 ((J : Int) - 1) ∧ v = .slice q' l c' ∧ RI R G N e (n + m) (ofL xs) (ofL ys) w J q' l c' s ts wr) (fun _ k _ => (intOf k + 1).toNat)
  case atStart => exact ⟨N, q1, nl, c1, ls, _, by omega, by rw [← HN.out.1]; congr 1; omega, rfl, HI.out⟩
  case round =>
    clear HI
    obtain ⟨J, q', l, c', s, ts, hJ2, rfl, rfl, hq⟩ := hrel
    by_cases hJe : J ≤ e
    · have hun := Pol.div_unique (Pol.Fin.ofL ts) HZ.out.1.dg.fin HY.out.2 (hq.bd.mono_le hJe) HZ.out.2.2.1 (hq.eq.trans HZ.out.2.2.2)
      obtain ⟨q2, c2, e2, S2, C2, -⟩ := hq.ot.tell (n := N) hq.bt hq.lt
      cases e2
      have K := rnorm_calls _ N N ts zs (hun.1 ▸ HZ.out.1) (by have := HN.out; omega) (Nat.le_refl _) wr S2
      have hrs := (hun.2 ▸ hq.nrm : IsN s P2).unique HZ.out.2.1
      subst hrs
      have HQ : Hid (RI R G N e (n + m) (ofL xs) (ofL ys) w J q' l c' s ts wr) := hq
      have hk : ((e : Int) ≤ (J : Int) - 1) = False := eq_false (by omega)
      obtain ⟨k, hkk⟩ : ∃ k : Int, (J : Int) - 1 = k := ⟨_, rfl⟩
      rw [hkk] at hk ⊢
      clear hq hun S2
      go_wp2_with fail
      refine K.mono ?_
      rintro r w2 ⟨v, rfl, hO, hb⟩
      go_wp2
      go_ret3
      have hsz : w.heap.size ≤ wr.heap.size := by rw [HR.out.1]; have := HQ.out.below.size; have := HR.out.1; omega
      exact ⟨_, _, rfl, hO.mono hsz, by rw [HR.out.1]; exact HQ.out.os.below hb, by rw [HR.out.1]; exact HQ.out.below.trans (hb.mono (by have := HR.out.1; omega))⟩
    · obtain ⟨i, rfl⟩ : ∃ i, J = i + 1 := ⟨J - 1, by omega⟩
      have ei : ((i + 1 : Nat) : Int) - 1 = (i : Int) := by omega
      rw [ei]
      have hk : (e : Int) ≤ (i : Int) := by omega
      obtain ⟨io, hio⟩ : ∃ io, i - e = io := ⟨_, rfl⟩
      have hioi : (i : Int) - (e : Int) = (io : Int) := by omega
      have hioN : (io : Int) < (N : Int) := by have := HN.out; omega
      have bi : (i : Int) ≤ 1000000 := by have := HN.out; omega
      obtain ⟨q2, c2, e2, Ss, Cs, -⟩ := hq.os.tell (n := l) hq.nrm.byt hq.len
      cases e2
      have hyw : Bs wr p m ys := HY.out.1.below (HR.out.1 ▸ hq.below)
      obtain ⟨ap, rfl, -, cy⟩ := hyw.cell e (by have := HN.out; omega)
      have hem : (e : Int) < (m : Int) := by have := HN.out; omega
      have C1 : Hid (∀ W, Bs W q' l s → Calls Tryz.prog 50 #[.slice q' l c', .int .i64 (i : Int)] W fun r w' => r = .returned (.int .u8 (s.getD i 0 : Nat)) ∧ w' = W) := fun W hW => cof_nat5 s i ▸ rcoef_calls q' l c' s (i : Int) W hW
      have hsx := hq.nrm.byt i
      have hyy := hyw.byte e
      obtain ⟨x, hxe⟩ : ∃ x, s.getD i 0 = x := ⟨_, rfl⟩
      obtain ⟨y, hye⟩ : ∃ y, ys.getD e 0 = y := ⟨_, rfl⟩
      rw [hxe] at C1 hsx
      rw [hye] at cy hyy
      have C2 : Hid (∀ W, Calls Tryz.prog 60 #[.int .u8 x, .int .u8 y] W fun r w' => r = .returned (.int .u8 (Gf.div x y : Nat)) ∧ w' = W) := fun W => rdiv_calls x y hsx hyy W
      obtain ⟨a, hae⟩ : ∃ a, Gf.div x y = a := ⟨_, rfl⟩
      rw [hae] at C2
      obtain ⟨hcg, hfg⟩ := hq.ot.at hq.lt.symm io (by have := HN.out; omega)
      have HQ : Hid (RI R G N e (n + m) (ofL xs) (ofL ys) w (i + 1) q' l c' s ts wr ∧ Bs wr q' l s ∧ Bs wr (some ap) m ys ∧ s.getD i 0 = x ∧ ys.getD e 0 = y ∧ Gf.div x y = a ∧ x < 256 ∧ y < 256 ∧ i - e = io) := ⟨hq, Ss, hyw, hxe, hye, hae, hsx, hyy, hio⟩
      clear hq Ss hyw hxe hye hae hsx hyy hio
      go_wp2
      go_quiet ((first | (go_at_call 50; with_reducible refine Calls.quiet_of_same (C1.out _ (HQ.out.2.1.drewN _))) | (go_at_call 60; with_reducible refine Calls.quiet_of_same (C2.out _))))
      go_wp2_with fail
      have hq := HQ.out.1
      have ha8 : a < 256 := by rw [← HQ.out.2.2.2.2.2.1]; exact Gf.mul_lt _ _ HQ.out.2.2.2.2.2.2.1
      have haG : GF.of a = ofL s i * GF.inv (ofL ys e) := by
        show _ = GF.of (s.getD i 0) * GF.inv (GF.of (ys.getD e 0))
        rw [HQ.out.2.2.2.1, HQ.out.2.2.2.2.1, ← HQ.out.2.2.2.2.2.1, ← GF.of_inv _ HQ.out.2.2.2.2.2.2.2.1]
        exact GF.of_mul _ _ HQ.out.2.2.2.2.2.2.1 (Gf.inv_lt _ HQ.out.2.2.2.2.2.2.2.1)
      obtain ⟨lsc, hsc, bsc⟩ := Pol.isN_smul (GF.of a) ys
      obtain ⟨lup, hup, bup⟩ : ∃ lup, IsN lup (Pol.up io (ofL lsc)) ∧ lup.length ≤ lsc.length + io := Pol.isN_of_bd ((Pol.ofL_bd lsc).up io)
      obtain ⟨sn, hsn, bsn⟩ := Pol.isN_add s lup
      have hlys := HY.out.1.len
      obtain ⟨nsc, hnsc⟩ : ∃ nsc, lsc.length = nsc := ⟨_, rfl⟩
      obtain ⟨nup, hnup⟩ : ∃ nup, lup.length = nup := ⟨_, rfl⟩
      obtain ⟨l', hl'⟩ : ∃ l', sn.length = l' := ⟨_, rfl⟩
      have hlen := hq.len
      have hst := ref_step HY.out.2 hq.bd (by omega) haG (by rw [hq.lt]; have := HN.out; omega) (hq.zero (i - e) (by omega)) hq.eq
      have hio := HQ.out.2.2.2.2.2.2.2.2
      rw [hio, ← hsc.eq, ← hup.eq, ← hsn.eq] at hst
      have hli : l' ≤ i := by rw [← hl']; exact hsn.dg.le (hsn.eq ▸ hst.1)
      have hRG := HR.out.2
      have hbG : But (fun x => x = G) wr ((wr.drewN nq).setCell ⟨G, io, none⟩ (.int .u8 (a : Nat))) := (But.drewN (fun x => x = G) wr nq).setCell (p := ⟨G, io, none⟩) (.inl rfl) _
      have hyW : Bs ((wr.drewN nq).setCell ⟨G, io, none⟩ (.int .u8 (a : Nat))) (some ap) m ys := HQ.out.2.2.1.butS hbG (HY.out.1.off (by have := HR.out; omega))
      have hoW : Ow ((wr.drewN nq).setCell ⟨G, io, none⟩ (.int .u8 (a : Nat))) R (.slice q' l c') s := hq.os.block fun k hk => hbG.block k (hq.os.lt k hk).2 (hq.off k hk)
      have htW : Ow ((wr.drewN nq).setCell ⟨G, io, none⟩ (.int .u8 (a : Nat))) R (.slice (some ⟨G, 0, none⟩) N N) (ts.set io a) := (hq.ot.below (W' := wr.drewN nq) ⟨rfl, rfl, rfl, Nat.le_refl _, fun _ _ => rfl⟩).set hq.lt.symm io a
      have hbW : Below R w ((wr.drewN nq).setCell ⟨G, io, none⟩ (.int .u8 (a : Nat))) := (hq.below.trans (c := wr.drewN nq) ⟨rfl, rfl, rfl, Nat.le_refl _, fun _ _ => rfl⟩).setCell (p := ⟨G, io, none⟩) hRG _
      have hGl : G < ((wr.drewN nq).setCell ⟨G, io, none⟩ (.int .u8 (a : Nat))).heap.size := Nat.lt_of_lt_of_le (hq.ot.lt G rfl).2 hbG.size
      obtain ⟨W1, hW1⟩ : ∃ W1, (wr.drewN nq).setCell ⟨G, io, none⟩ (.int .u8 (a : Nat)) = W1 := ⟨_, rfl⟩
      rw [hW1] at hyW hoW htW hbW hGl ⊢
      have HF : Hid (IsN lsc (Pol.smul (GF.of a) (ofL ys)) ∧ IsN lup (Pol.up io (ofL lsc)) ∧ IsN sn (Pol.add (ofL s) (ofL lup)) ∧ lsc.length = nsc ∧ lup.length = nup ∧ sn.length = l' ∧ nsc ≤ 1000000 ∧ nup ≤ 3000000 ∧ l ≤ 3000000 ∧ io ≤ 1000000 ∧ l' ≤ i ∧ Pol.Bd i (ofL sn) ∧ Pol.add (Pol.mul (ofL (ts.set io a)) (ofL ys)) (ofL sn) = ofL xs) :=
        ⟨hsc, hup, hsn, hnsc, hnup, hl', by have := HN.out; omega, by have := HN.out; omega, by have := HN.out; have := hq.bl; omega, by omega, hli, hst.1, hst.2⟩
      have HT : Hid (Ow W1 R (.slice (some ⟨G, 0, none⟩) N N) (ts.set io a) ∧ Below R w W1 ∧ G < W1.heap.size ∧ Byt (ts.set io a) ∧ (ts.set io a).length = N ∧ ∀ j, j + e < i → (ts.set io a).getD j 0 = 0) :=
        ⟨htW, hbW, hGl, byt_setq hq.bt ha8, by rw [List.length_set]; exact hq.lt, fun j hj => by rw [getD_setq, if_neg (by omega)]; exact hq.zero j (by omega)⟩
      have HS : Hid (Bs W1 q' l s) := by
        obtain ⟨q3, c3, e3, S3, -⟩ := hoW.tell (n := l) hq.nrm.byt hq.len
        cases e3; exact S3
      have hm6 : m ≤ 100000000 := by have := HN.out; omega
      clear hW1 hbG hoW htW hbW hGl hst haG hsc hup hsn bsc bup bsn hlys hnsc hnup hl' hlen hli hRG hq hio HQ C1 C2 hcg hfg cy
      refine (rscale_calls a m d _ ys lsc ha8 HF.out.1 hm6 _ hyW).mono ?_
      rintro r w2 ⟨v2, rfl, hO2, hb2⟩
      obtain ⟨q2, c2, rfl, S2, -, -⟩ := hO2.tell (n := nsc) HF.out.1.byt HF.out.2.2.2.1
      clear hO2
      have HS2 : Hid (Bs w2 q' l s ∧ Below W1.heap.size W1 w2) := ⟨HS.out.below hb2, hb2⟩
      clear hb2 hyW
      go_wp2_with fail
      refine (rup_calls q2 nsc c2 io lsc lup HF.out.2.1 (by have := HF.out; omega) (by have := HF.out; omega) _ S2).mono ?_
      rintro r w3 ⟨v3, rfl, hO3, hb3⟩
      obtain ⟨q3, c3, rfl, S3, -, -⟩ := hO3.tell (n := nup) HF.out.2.1.byt HF.out.2.2.2.2.1
      clear hO3 S2
      have HS3 : Hid (Bs w3 q' l s ∧ Below W1.heap.size W1 w3) := ⟨HS2.out.1.below hb3, HS2.out.2.trans (hb3.mono HS2.out.2.size)⟩
      clear hb3
      go_wp2_with fail
      refine (radd_calls q' q3 l c' nup c3 s lup sn HF.out.2.2.1 (by have := HF.out; omega) (by have := HF.out; omega) _ HS3.out.1 S3).mono ?_
      rintro r w4 ⟨v4, rfl, hO4, hb4⟩
      obtain ⟨q4, c4, rfl, S4, -, -⟩ := hO4.tell (n := l') HF.out.2.2.1.byt HF.out.2.2.2.2.2.1
      have HO4 : Hid (Ow w4 w3.heap.size (.slice q4 l' c4) sn ∧ Below w3.heap.size w3 w4) := ⟨hO4, hb4⟩
      clear hO4 hb4 S3 S4 HS HS2
      go_wp2
      go_roundw
      case rel =>
        have hsz3 := HS3.out.2.size
        have hb14 : Below W1.heap.size W1 w4 := HS3.out.2.trans (HO4.out.2.mono hsz3)
        have hRW : R ≤ W1.heap.size := by have := HT.out.2.2.1; have := HR.out.2; omega
        refine ⟨i, q4, l', c4, sn, ts.set io a, by omega, by go_num, rfl, HT.out.2.2.2.1, HT.out.2.2.2.2.1, HT.out.2.2.2.2.2, ⟨HF.out.2.2.1.nrm, HF.out.2.2.1.byt, rfl⟩, HF.out.2.2.2.2.2.1, HF.out.2.2.2.2.2.2.2.2.2.2.2.1, HF.out.2.2.2.2.2.2.2.2.2.2.2.2, HO4.out.1.mono (by omega), fun g hg => ?_, HT.out.1.below hb14, HT.out.2.1.trans (hb14.mono hRW), by have := HF.out; have := HN.out; omega⟩
        have := (HO4.out.1.lt g hg).1
        have := HT.out.2.2.1
        omega
      case measure => simp [intOf]
end Go.Proofs
/- The walks of the document's answers of layer 6 (erratumref06): Div by nothing, Mod, Exact, Monic, Gcd. Conditions: lists of at most a million bytes, no longer than their capacities. -/
namespace Go.Proofs
open Go.RowKit Go.ChangeShapes Go.WideShapes
open Pol (IsN Dg ofL Byt Mon)

set_option maxRecDepth 100000 in
set_option maxHeartbeats 1000000 in
theorem r6div_zero (q p : Option Addr) (n c m d : Nat) (ys : List Nat) (hd : Dg 0 (ofL ys)) (hm : m ≤ 1000000) (w : World) (hy : Bs w p m ys) :
    Calls Tryz.prog 45 #[.slice q n c, .slice p m d] w fun r w' => r = .returned (.tuple #[.slice none 0 0, .slice none 0 0, .bool false]) ∧ Below w.heap.size w w' := by
  have K1 : Calls Tryz.prog 10 #[.slice p m d] w fun r w' => r = .returned (.int .i64 (-1)) ∧ w' = w := rdeg_calls p m d ys 0 hd (by omega) w hy
  clear hd hy hm
  go_enter Tryz.func45, Tryz.ntmps45
  go_wp2_with fail
  refine K1.mono ?_
  rintro r w0 ⟨rfl, hw⟩
  subst w0
  go_wp2
  go_ret3
  exact ⟨rfl, Below.refl _ _⟩
theorem r6div_u (q p : Option Addr) (n c m d : Nat) (xs ys zs rs : List Nat) (b : Bool) (hD : IsDiv xs ys zs rs b) (hn : n ≤ 1000000) (hm : m ≤ 1000000) (hnc : n ≤ c) (w : World) (hx : Bs w q n xs) (hy : Bs w p m ys) :
    Calls Tryz.prog 45 #[.slice q n c, .slice p m d] w fun r w' => ∃ v1 v2, r = .returned (.tuple #[v1, v2, .bool b]) ∧ Ow w' w.heap.size v1 zs ∧ Ow w' w.heap.size v2 rs ∧ Below w.heap.size w w' := by
  rcases hD with ⟨rfl, hd, rfl, rfl⟩ | ⟨rfl, e, P1, P2, hd, h1, h2, h3, he⟩
  · refine (r6div_zero q p n c m d ys hd hm w hy).mono ?_
    rintro r w' ⟨rfl, hb⟩
    exact ⟨_, _, rfl, ow_nil _ _, ow_nil _ _, hb⟩
  · exact r6div_calls q p n c m d e xs ys zs rs P1 P2 hd h1 h2 h3 he hn hm hnc w hx hy
/-- Between two steps. -/
structure HI (R : Nat) (w : World) (i : Nat) (v u : Value) (us vs zs : List Nat) (W : World) : Prop where
  ou : Ow W R v us
  ov : Ow W R u vs
  bu : Byt us
  bv : Byt vs
  lu : us.length ≤ 1000000
  lv : vs.length ≤ 1000000
  nv : IsN vs (ofL vs)
  gc : IsGc us vs zs
  len : vs.length = i
  below : Below R w W
theorem IsGc.step {us vs zs ls rs : List Nat} (h : IsGc us vs zs) (hD : IsDiv us vs ls rs true) : IsGc vs rs zs := by
  rcases hD with ⟨h, _⟩ | ⟨_, e, P1, P2, hd, h1, h2, h3, he⟩
  · cases h
  · rcases h with ⟨_, h, _⟩ | ⟨e', g, a1, a2, a3, a4⟩
    · exact absurd (hd.unique h) (by omega)
    · exact .inr ⟨e', g, a1, a2, by rw [h2.eq]; exact a3.back h1.dg.fin he, .inl hd.ne_zero⟩
theorem IsGc.last {us zs : List Nat} (h : IsGc us [] zs) : IsMo us zs := by
  rcases h with ⟨h, _, rfl⟩ | ⟨e, g, a1, a2, a3, a4⟩
  · exact .inl ⟨h, rfl⟩
  · obtain ⟨d, hd⟩ := (Pol.Fin.ofL us).dg
    rw [Pol.ofL_nil] at a3 a4
    cases d with
    | zero => exact absurd hd.eq_zero (a4.elim id (fun h => absurd rfl h))
    | succ d => exact .inr ⟨d, hd, by rw [Pol.monic_of_gcd a2 hd a3]; exact a1⟩
end Go.Proofs
