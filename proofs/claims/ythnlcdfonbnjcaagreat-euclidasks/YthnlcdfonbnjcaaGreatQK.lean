/- The walks of the document's answer of layer 15 (erratumref15): Run and Key. Conditions: lists of at most a thousand bytes. -/
import Derived.OwnWalk
import Derived.Test.YthnlcdfonbnjcaaGreatNU
import Derived.Test.YthnlcdfonbnjcaaGreatMT
import Derived.Test.YthnlcdfonbnjcaaGreatMS
import Derived.Test.YthnlcdfonbnjcaaGreatMG
import Derived.Test.YthnlcdfonbnjcaaGreatMO
import Derived.Test.YthnlcdfonbnjcaaGreatNA
namespace Go.Proofs
open Go.RowKit Go.ChangeShapes Go.WideShapes
open Pol (IsN Dg ofL Byt)
open Eu (Er Gr IsRun IsKey)

/-- Euclid's rows in memory, t steps gone. -/
structure Est (w W : World) (xs ys : List Nat) (k C N t : Nat) (ss vs : List Nat) (q1 q2 q3 q4 : Option Addr) (n1 c1 n2 c2 n3 c3 n4 c4 : Nat) (r s u v : List Nat) : Prop where
  er : Er k (ofL r) (ofL s) (ofL u) (ofL v) (N - t) (ofL ss) (ofL vs)
  gr : ∃ a b c d, Gr C (ofL r) (ofL s) (ofL u) (ofL v) a b c d
  nr : IsN r (ofL r)
  ns : IsN s (ofL s)
  nu : IsN u (ofL u)
  nv : IsN v (ofL v)
  br : Bs W q1 n1 r
  cr : n1 ≤ c1
  os : Ow W w.heap.size (.slice q2 n2 c2) s
  bs : Bs W q2 n2 s
  cs : n2 ≤ c2
  bu : Bs W q3 n3 u
  cu : n3 ≤ c3
  ov : Ow W w.heap.size (.slice q4 n4 c4) v
  bv : Bs W q4 n4 v
  cv : n4 ≤ c4
  bl : Below w.heap.size w W
theorem Est.sizes {w W : World} {xs ys : List Nat} {k C N t : Nat} {ss vs : List Nat} {q1 q2 q3 q4 : Option Addr} {n1 c1 n2 c2 n3 c3 n4 c4 : Nat} {r s u v : List Nat} (h : Est w W xs ys k C N t ss vs q1 q2 q3 q4 n1 c1 n2 c2 n3 c3 n4 c4 r s u v) : n1 ≤ C ∧ n2 ≤ C ∧ n3 ≤ C ∧ n4 ≤ C ∧ Dg n2 (ofL s) := by
  obtain ⟨a, b, c, d, g⟩ := h.gr
  have h1 := h.nr.len g.dr
  have h2 := h.ns.len g.ds
  have h3 := h.nu.dg.le g.bu
  have h4 := h.nv.dg.le g.bv
  have e1 := h.br.len
  have e2 := h.bs.len
  have e3 := h.bu.len
  have e4 := h.bv.len
  have g1 := g.vr
  have g2 := g.us
  have g3 := g.vs
  refine ⟨by omega, by omega, by omega, by omega, ?_⟩
  have := g.ds
  rw [← h2, e2] at this
  exact this

set_option maxRecDepth 100000 in
set_option maxHeartbeats 4000000 in
theorem r15run_calls (q p : Option Addr) (n c m d k N : Nat) (xs ys ss vs : List Nat) (z : Int) (hz : (if z < 0 then 0 else z) = (k : Int)) (hR : IsRun xs ys k ss vs N) (hn : n ≤ 1000) (hm : m ≤ 1000) (hnc : n ≤ c) (hmd : m ≤ d) (w : World) (hx : Bs w q n xs) (hy : Bs w p m ys) :
    Calls Tryz.prog 25 #[.slice q n c, .slice p m d, .int .i64 z] w fun e w' => ∃ v1 v2, e = .returned (.tuple #[v1, v2, .int .i64 (N : Nat)]) ∧ Ow w' w.heap.size v1 ss ∧ Ow w' w.heap.size v2 vs ∧ Below w.heap.size w w' := by
  obtain ⟨a, ha, hda⟩ := Pol.dg_list xs
  obtain ⟨b, hb, hdb⟩ := Pol.dg_list ys
  rw [hx.len] at ha
  rw [hy.len] at hb
  obtain ⟨rs, hrs, -⟩ := Pol.isN_of_bd (Pol.ofL_bd xs)
  obtain ⟨sl, hsl, -⟩ := Pol.isN_of_bd (Pol.ofL_bd ys)
  have hNb : N ≤ 1000 := by have := hR.count hdb; omega
  have KN1 := rnorm_calls q n c xs rs hrs (by omega) hnc w hx
  have KN2 : Hid (∀ W, Below w.heap.size w W → Calls Tryz.prog 44 #[.slice p m d] W fun e w' => ∃ v, e = .returned v ∧ Ow w' W.heap.size v sl ∧ Below W.heap.size W w') := fun W hW => rnorm_calls p m d ys sl hsl (by omega) hmd W (hy.below hW)
  have HR : Hid (IsRun xs ys k ss vs N ∧ IsN rs (ofL xs) ∧ IsN sl (ofL ys) ∧ Dg a (ofL xs) ∧ Dg b (ofL ys) ∧ a ≤ 1000 ∧ b ≤ 1000 ∧ N ≤ 1000) := ⟨hR, hrs, hsl, hda, hdb, by omega, by omega, hNb⟩
  clear hx hy hrs hsl hda hdb hR ha hb
  go_enter Tryz.func25, Tryz.ntmps25
  go_wp2_with fail
  refine KN1.mono ?_
  rintro e w1 ⟨v1, rfl, hO1, hb1⟩
  clear KN1
  obtain ⟨n1, hn1⟩ : ∃ n1, rs.length = n1 := ⟨_, rfl⟩
  obtain ⟨q1, c1, rfl, S1, C1, -⟩ := hO1.tell HR.out.2.1.byt hn1
  have H1 : Hid (Bs w1 q1 n1 rs ∧ n1 ≤ c1 ∧ Below w.heap.size w w1) := ⟨S1, C1, hb1⟩
  clear hO1 S1 C1 hn1
  go_wp2_with fail
  refine (KN2.out w1 H1.out.2.2).mono ?_
  rintro e w2 ⟨v2, rfl, hO2, hb2⟩
  clear KN2 hb1
  obtain ⟨n2, hn2⟩ : ∃ n2, sl.length = n2 := ⟨_, rfl⟩
  obtain ⟨q2, c2, rfl, S2, C2, -⟩ := hO2.tell HR.out.2.2.1.byt hn2
  obtain ⟨A, hA⟩ : ∃ A, w2.heap.size = A := ⟨_, rfl⟩
  obtain ⟨W3, hW3⟩ : ∃ W3, w2.alloc (.cells #[.int .u8 1] 5) = W3 := ⟨_, rfl⟩
  have hb3 : Below w2.heap.size w2 W3 := hW3 ▸ (Below.refl _ w2).alloc (Nat.le_refl _) _
  have hO3 : Ow W3 w.heap.size (.slice (some ⟨A, 0, none⟩) 1 1) [1] := by
    rw [← hW3, ← hA]
    exact ow_one w2 (by have := H1.out.2.2.size; have := hb2.size; omega) 1
  obtain ⟨q3, c3, e3, S3, C3, -⟩ := hO3.tell (n := 1) Eu.one_isN.byt rfl
  have H3 : Hid (Est w W3 xs ys k (a + b + 1) N 0 ss vs q1 q2 none (some ⟨A, 0, none⟩) n1 c1 n2 c2 0 0 1 1 rs sl [] [1]) := by
    cases e3
    have hbb := hb2.trans (hb3.mono hb2.size)
    have er := HR.out.1.er
    refine ⟨?_, ⟨a, b, 0, 1, ?_⟩, by rw [HR.out.2.1.eq]; exact HR.out.2.1, by rw [HR.out.2.2.1.eq]; exact HR.out.2.2.1, by rw [Pol.ofL_nil]; exact Pol.isN_nil, by rw [Eu.one_isN.eq]; exact Eu.one_isN, H1.out.1.below hbb, H1.out.2.1, (hO2.mono H1.out.2.2.size).below hb3, S2.below hb3, C2, ⟨rfl, by omega, fun i hi => absurd hi (Nat.not_lt_zero i), Pol.byt_nil⟩, Nat.le_refl _, hO3, S3, C3, H1.out.2.2.trans (hbb.mono H1.out.2.2.size)⟩
    · rw [HR.out.2.1.eq, HR.out.2.2.1.eq, Pol.ofL_nil, Eu.one_isN.eq, Nat.sub_zero]; exact er
    · rw [HR.out.2.1.eq, HR.out.2.2.1.eq, Pol.ofL_nil, Eu.one_isN.eq]; exact Gr.start HR.out.2.2.2.1 HR.out.2.2.2.2.1
  clear hO2 hb2 S2 C2 hb3 hO3 S3 C3 e3 H1 hn2
  go_wp2
  clear hW3 hA
  go_loopw [9, 10, 11, 12, 13] (fun r s u v i wr => ∃ (t : Nat) (q1 q2 q3 q4 : Option Addr) (n1 c1 n2 c2 n3 c3 n4 c4 : Nat), t ≤ N ∧ r = .slice q1 n1 c1 ∧ s = .slice q2 n2 c2 ∧ u = .slice q3 n3 c3 ∧ v = .slice q4 n4 c4 ∧ i = .int .i64 (t : Int) ∧ Hid (∃ r s u v, Est w wr xs ys k (a + b + 1) N t ss vs q1 q2 q3 q4 n1 c1 n2 c2 n3 c3 n4 c4 r s u v)) (fun _ _ _ _ i _ => N - (intOf i).toNat)
  case atStart => exact ⟨0, q1, q2, none, some ⟨A, 0, none⟩, n1, c1, n2, c2, 0, 0, 1, 1, Nat.zero_le _, rfl, rfl, rfl, rfl, rfl, (⟨rs, sl, [], [1], H3.out⟩ : ∃ r s u v, Est w W3 xs ys k (a + b + 1) N 0 ss vs q1 q2 none (some ⟨A, 0, none⟩) n1 c1 n2 c2 0 0 1 1 r s u v)⟩
  case round =>
    obtain ⟨t, q1, q2, q3, q4, n1, c1, n2, c2, n3, c3, n4, c4, ht, rfl, rfl, rfl, rfl, rfl, HE0⟩ := hrel
    obtain ⟨r, s, u, v, hE⟩ := HE0.out
    have HE : Hid (Est w wr xs ys k (a + b + 1) N t ss vs q1 q2 q3 q4 n1 c1 n2 c2 n3 c3 n4 c4 r s u v) := hE
    obtain ⟨z1, z2, z3, z4, hds⟩ := hE.sizes
    have hC : a + b + 1 ≤ 2001 := by have := HR.out; omega
    have KD := rdeg_calls q2 n2 c2 s n2 hds (by omega) wr hE.bs
    have hinv := hE.er.inv hds
    have HZ : Hid (n1 ≤ 2001 ∧ n2 ≤ 2001 ∧ n3 ≤ 2001 ∧ n4 ≤ 2001 ∧ Dg n2 (ofL s)) := ⟨by omega, by omega, by omega, by omega, hds⟩
    clear HE0 hE hds z1 z2 z3 z4
    rcases hinv with ⟨hk, hN0, hS, hV⟩ | ⟨e, N', Q, tt, rfl, hke, hN1, hQ, htt, heq, her⟩
    · have hlt : ¬ (k : Int) ≤ (n2 : Int) - 1 := by omega
      obtain rfl : N = t := by omega
      have HX : Hid (s = ss ∧ v = vs) := ⟨HE.out.ns.unique (by rw [← hS]; exact HR.out.1.s), HE.out.nv.unique (by rw [← hV]; exact HR.out.1.v)⟩
      obtain ⟨rfl, rfl⟩ := HX.out
      clear hS hV hN0
      go_wp2_with fail
      refine KD.mono ?_
      rintro e w4 ⟨rfl, hw⟩
      obtain rfl := hw.symm
      clear KD
      go_wp2
      go_ret3
      exact ⟨_, _, rfl, HE.out.os, HE.out.ov, HE.out.bl⟩
    · have hlt : (k : Int) ≤ ((e + 1 : Nat) : Int) - 1 := by omega
      obtain ⟨qs, ts, bb, hD, hql, -⟩ := isDiv_exists r s
      obtain ⟨rfl, hqs, hts⟩ : bb = true ∧ IsN qs Q ∧ IsN ts tt := by
        rcases hD with ⟨_, h0, _, _⟩ | ⟨h1, e', P1, P2, hd, h2, h3, h4, h5⟩
        · exact absurd (h0.unique HZ.out.2.2.2.2) (by omega)
        · obtain rfl : e' = e := by have := hd.unique HZ.out.2.2.2.2; omega
          obtain ⟨f1, f2⟩ := Pol.div_unique h2.dg.fin hQ hd h4 htt (h5.symm.trans heq)
          exact ⟨h1, f1 ▸ h2, f2 ▸ h3⟩
      obtain ⟨ms, hms, hml⟩ := Pol.isN_mul qs v
      obtain ⟨us, hus, -⟩ := Pol.isN_add u ms
      obtain ⟨n5, hn5⟩ : ∃ n5, qs.length = n5 := ⟨_, rfl⟩
      obtain ⟨n6, hn6⟩ : ∃ n6, ts.length = n6 := ⟨_, rfl⟩
      obtain ⟨n7, hn7⟩ : ∃ n7, ms.length = n7 := ⟨_, rfl⟩
      obtain ⟨n8, hn8⟩ : ∃ n8, us.length = n8 := ⟨_, rfl⟩
      have K1 := r6div_u q1 q2 n1 c1 (e + 1) c2 r s qs ts true hD (by have := HZ.out; omega) (by have := HZ.out; omega) HE.out.cr wr HE.out.br HE.out.bs
      have HQ : Hid (IsN qs (ofL qs) ∧ IsN ts (ofL ts) ∧ IsN ms (Pol.mul (ofL qs) (ofL v)) ∧ IsN us (Pol.add (ofL u) (ofL ms)) ∧ qs.length = n5 ∧ ts.length = n6 ∧ ms.length = n7 ∧ us.length = n8 ∧ n5 ≤ 2001 ∧ n7 ≤ 5000 ∧ N - t = N' + 1) := by
        have e1 := HE.out.br.len
        have e4 := HE.out.bv.len
        have := HZ.out
        exact ⟨by rw [hqs.eq]; exact hqs, by rw [hts.eq]; exact hts, hms, hus, hn5, hn6, hn7, hn8, by omega, by omega, hN1⟩
      have HX : Hid (Er k (ofL s) (ofL ts) (ofL v) (ofL us) N' (ofL ss) (ofL vs) ∧ ∃ a' b' c' d', Gr (a + b + 1) (ofL s) (ofL ts) (ofL v) (ofL us) a' b' c' d') := by
        have eus : ofL us = Pol.add (ofL u) (Pol.mul Q (ofL v)) := by rw [hus.eq, hms.eq, hqs.eq]
        rw [eus, hts.eq]
        refine ⟨her, ?_⟩
        obtain ⟨x1, x2, x3, x4, hg⟩ := HE.out.gr
        obtain rfl : x2 = e + 1 := hg.ds.unique HZ.out.2.2.2.2
        obtain ⟨s', v', _, hg'⟩ := hg.step hQ htt heq
        exact ⟨_, _, _, _, hg'⟩
      clear hD hql hqs hts hms hml hus hn5 hn6 hn7 hn8 hQ htt heq her hN1 hke
      go_wp2_with fail
      refine KD.mono ?_
      rintro e_ w4 ⟨rfl, hw⟩
      obtain rfl := hw.symm
      clear KD
      go_wp2_with fail
      refine K1.mono ?_
      rintro e_ w5 ⟨v5, v6, rfl, hO5, hO6, hb5⟩
      clear K1
      obtain ⟨q5, c5, rfl, S5, C5, -⟩ := hO5.tell HQ.out.1.byt HQ.out.2.2.2.2.1
      obtain ⟨q6, c6, rfl, S6, C6, -⟩ := hO6.tell HQ.out.2.1.byt HQ.out.2.2.2.2.2.1
      have K2 := rpmul_calls q5 q4 n5 c5 n4 c4 qs v ms HQ.out.2.2.1 (by have := HQ.out; omega) (by have := HZ.out; omega) w5 S5 (HE.out.bv.below hb5)
      have H5 : Hid (Below wr.heap.size wr w5 ∧ Ow w5 wr.heap.size (.slice q6 n6 c6) ts ∧ Bs w5 q6 n6 ts ∧ n6 ≤ c6) := ⟨hb5, hO6, S6, C6⟩
      clear hO5 hO6 hb5 S5 C5 S6 C6
      go_wp2_with fail
      refine K2.mono ?_
      rintro e_ w6 ⟨v7, rfl, hO7, hb6⟩
      clear K2
      obtain ⟨q7, c7, rfl, S7, C7, -⟩ := hO7.tell HQ.out.2.2.1.byt HQ.out.2.2.2.2.2.2.1
      have K3 := radd_calls q3 q7 n3 c3 n7 c7 u ms us HQ.out.2.2.2.1 (by have := HZ.out; omega) (by have := HQ.out; omega) w6 (HE.out.bu.below (H5.out.1.trans (hb6.mono H5.out.1.size))) S7
      have H6 : Hid (Below wr.heap.size wr w6 ∧ Ow w6 wr.heap.size (.slice q6 n6 c6) ts ∧ Bs w6 q6 n6 ts) := ⟨H5.out.1.trans (hb6.mono H5.out.1.size), H5.out.2.1.below hb6, H5.out.2.2.1.below hb6⟩
      clear hO7 hb6 S7 C7
      go_wp2_with fail
      refine K3.mono ?_
      rintro e_ w7 ⟨v8, rfl, hO8, hb7⟩
      clear K3
      obtain ⟨q8, c8, rfl, S8, C8, -⟩ := hO8.tell HQ.out.2.2.2.1.byt HQ.out.2.2.2.2.2.2.2.1
      have HN : Hid (∃ r s u v, Est w w7 xs ys k (a + b + 1) N (t + 1) ss vs q2 q6 q4 q8 (e + 1) c2 n6 c6 n4 c4 n8 c8 r s u v) := by
        have hbb := H6.out.1.trans (hb7.mono H6.out.1.size)
        have g := HE.out
        have hw := g.bl.size
        have hw6 := H6.out.1.size
        refine ⟨s, ts, v, us, ?_, HX.out.2, g.ns, HQ.out.2.1, g.nv, by rw [HQ.out.2.2.2.1.eq]; exact HQ.out.2.2.2.1, g.bs.below hbb, g.cs, (H6.out.2.1.below hb7).mono hw, H6.out.2.2.below hb7, H5.out.2.2.2, g.bv.below hbb, g.cv, hO8.mono (by omega), S8, C8, g.bl.trans (hbb.mono hw)⟩
        rw [show N - (t + 1) = N' by have := HQ.out; omega]
        exact HX.out.1
      have htN : t + 1 ≤ N := by have := HQ.out; omega
      have hwt := wrap_nat (t + 1) (by have := HR.out; omega)
      clear hO8 hb7 S8 C8 HX
      go_wp2
      go_roundw
      case rel => exact ⟨t + 1, q2, q6, q4, q8, e + 1, c2, n6, c6, n4, c4, n8, c8, htN, rfl, rfl, rfl, rfl, by go_num, HN⟩
      case measure => simp [intOf]; omega

set_option maxRecDepth 100000 in
set_option maxHeartbeats 4000000 in
theorem r15key_calls (q : Option Addr) (n c : Nat) (xs ls es : List Nat) (z : Int) (b : Bool) (hK : IsKey xs z ls es b) (hn : n ≤ 500) (hnc : n ≤ c) (w : World) (hx : Bs w q n xs) :
    Calls Tryz.prog 26 #[.slice q n c, .int .i64 z] w fun e w' => ∃ v1 v2, e = .returned (.tuple #[v1, v2, .bool b]) ∧ Ow w' w.heap.size v1 ls ∧ Ow w' w.heap.size v2 es ∧ Below w.heap.size w w' := by
  have hl := hx.len
  by_cases hz0 : z < 0
  · obtain ⟨rfl, rfl, rfl⟩ : b = false ∧ ls = [] ∧ es = [] := by
      rcases hK with ⟨_, h1, _⟩ | ⟨h1, h2, h3, _⟩
      · omega
      · exact ⟨h1, h2, h3⟩
    clear hK
    go_enter Tryz.func26, Tryz.ntmps26
    go_wp2
    go_ret3
    exact ⟨_, _, rfl, ow_nil _ _, ow_nil _ _, Below.refl _ _⟩
  · obtain ⟨t, rfl⟩ := Int.eq_ofNat_of_zero_le (show 0 ≤ z by omega)
    by_cases htn : (n : Int) < (t : Int)
    · obtain ⟨rfl, rfl, rfl⟩ : b = false ∧ ls = [] ∧ es = [] := by
        rcases hK with ⟨_, _, h1, _⟩ | ⟨h1, h2, h3, _⟩
        · omega
        · exact ⟨h1, h2, h3⟩
      clear hK
      go_enter Tryz.func26, Tryz.ntmps26
      go_wp2
      go_ret3
      exact ⟨_, _, rfl, ow_nil _ _, ow_nil _ _, Below.refl _ _⟩
    · obtain ⟨h, hh⟩ : ∃ h, (n + t + 1) / 2 = h := ⟨_, rfl⟩
      obtain ⟨ss, vs, N, hR⟩ := Eu.isRun_exists h (Eu.xM n) xs
      have hcase : (b = true ∧ ofL vs 0 ≠ 0 ∧ IsN ls (Pol.smul (GF.inv (ofL vs 0)) (ofL vs)) ∧ IsN es (Pol.smul (GF.inv (ofL vs 0)) (ofL ss))) ∨ (b = false ∧ ls = [] ∧ es = [] ∧ ofL vs 0 = 0) := by
        have hR' := hR
        rw [← hh] at hR'
        rcases hK with ⟨h1, _, _, ss', vs', N', h2, h3, h4, h5⟩ | ⟨h1, h2, h3, h4⟩
        · rw [hl, Int.toNat_natCast] at h2
          obtain ⟨rfl, rfl, rfl⟩ := h2.unique hR'
          exact .inl ⟨h1, h3, h4, h5⟩
        · rcases h4 with h4 | h4 | ⟨ss', vs', N', h5, h6⟩
          · omega
          · rw [hl] at h4; omega
          · rw [hl, Int.toNat_natCast] at h5
            obtain ⟨rfl, rfl, rfl⟩ := h5.unique hR'
            exact .inr ⟨h1, h2, h3, h6⟩
      obtain ⟨x0, hx0⟩ : ∃ x0, vs.getD 0 0 = x0 := ⟨_, rfl⟩
      have hx08 : x0 < 256 := by rw [← hx0]; exact hR.v.byt 0
      have hof : ofL vs 0 = GF.of x0 := by rw [← hx0]; rfl
      obtain ⟨D1, hD1⟩ : ∃ D1, n + t = D1 := ⟨_, rfl⟩
      obtain ⟨D2, hD2⟩ : ∃ D2, D1 + 1 = D2 := ⟨_, rfl⟩
      have hs1 : (n : Int) + (t : Int) = (D1 : Int) := by omega
      have hs2 : (D1 : Int) + 1 = (D2 : Int) := by omega
      have hw1 := wrap_nat D1 (by omega)
      have hw2 := wrap_nat D2 (by omega)
      have hw3 := wrap_nat h (by omega)
      have hquo : (D2 : Int).tdiv 2 = (h : Int) := by
        rw [← hh, hD1, hD2]
        exact (Int.ofNat_tdiv D2 2).symm
      have hh5 : h ≤ 1000 := by omega
      have hzk : (if (h : Int) < 0 then 0 else (h : Int)) = (h : Int) := if_neg (by omega)
      have hnt : (t : Int) ≤ (n : Int) := by omega
      have hn5 : (n : Int) ≤ 500 := by omega
      -- the first list: x to the power of n
      have S1 : Bs (w.alloc (.cells #[.int .u8 1] 5)) (some ⟨w.heap.size, 0, none⟩) 1 [1] := bs_lits w _ [1] _ 1 rfl rfl rfl rfl (by simp)
      have K1 := rup_calls (some ⟨w.heap.size, 0, none⟩) 1 1 n [1] (Eu.xM n) (by have := Eu.xM_isN n; rw [← Eu.xM_ofL] at this; unfold Eu.xM at this; rw [Pol.ofL_up] at this; exact this) (by omega) (by omega) _ S1
      have HX : Hid (Bs w q n xs ∧ IsRun (Eu.xM n) xs h ss vs N ∧ n ≤ c ∧ ((b = true ∧ ofL vs 0 ≠ 0 ∧ IsN ls (Pol.smul (GF.inv (ofL vs 0)) (ofL vs)) ∧ IsN es (Pol.smul (GF.inv (ofL vs 0)) (ofL ss))) ∨ (b = false ∧ ls = [] ∧ es = [] ∧ ofL vs 0 = 0)) ∧ vs.getD 0 0 = x0 ∧ x0 < 256 ∧ ofL vs 0 = GF.of x0) := ⟨hx, hR, hnc, hcase, hx0, hx08, hof⟩
      have hb0 : Below w.heap.size w (w.alloc (.cells #[.int .u8 1] 5)) := (Below.refl _ w).alloc (Nat.le_refl _) _
      obtain ⟨W1, hW1⟩ : ∃ W1, w.alloc (.cells #[.int .u8 1] 5) = W1 := ⟨_, rfl⟩
      rw [hW1] at K1 hb0
      have HB0 : Hid (Below w.heap.size w W1) := hb0
      clear hK hx hh hR hcase hx0 hx08 hof hD1 hD2 S1 hb0 hl
      go_enter Tryz.func26, Tryz.ntmps26
      go_wp2_with fail
      refine K1.mono ?_
      rintro e w2 ⟨v2, rfl, hO2, hb2⟩
      clear K1 hW1
      obtain ⟨g, hg⟩ : ∃ g, n + 1 = g := ⟨_, rfl⟩
      obtain ⟨q2, c2, rfl, S2, C2, -⟩ := hO2.tell (n := g) (Eu.xM_isN n).byt (by rw [Eu.xM_length, hg])
      have hb02 := HB0.out.trans (hb2.mono HB0.out.size)
      have K2 := r15run_calls q2 q g c2 n c h N (Eu.xM n) xs ss vs (h : Int) hzk HX.out.2.1 (by omega) (by omega) C2 HX.out.2.2.1 w2 S2 (HX.out.1.below hb02)
      have H2 : Hid (Below w.heap.size w w2) := hb02
      clear hO2 hb2 S2 C2 hb02 HB0 hzk
      go_wp2_with fail
      refine K2.mono ?_
      rintro e w3 ⟨v3, v4, rfl, hO3, hO4, hb3⟩
      clear K2
      obtain ⟨n3, hn3⟩ : ∃ n3, ss.length = n3 := ⟨_, rfl⟩
      obtain ⟨n4, hn4⟩ : ∃ n4, vs.length = n4 := ⟨_, rfl⟩
      obtain ⟨q3, c3, rfl, S3, C3, -⟩ := hO3.tell HX.out.2.1.s.byt hn3
      obtain ⟨q4, c4, rfl, S4, C4, -⟩ := hO4.tell HX.out.2.1.v.byt hn4
      have K3 := rcoef_calls q4 n4 c4 vs 0 w3 S4
      rw [show cof vs 0 = x0 from HX.out.2.2.2.2.1] at K3
      have K4 := rinv_calls x0 HX.out.2.2.2.2.2.1 w3
      have H3 : Hid (Below w.heap.size w w3 ∧ Bs w3 q3 n3 ss ∧ Bs w3 q4 n4 vs ∧ n3 ≤ 100000000 ∧ n4 ≤ 100000000) := by
        refine ⟨H2.out.trans (hb3.mono H2.out.size), S3, S4, ?_, ?_⟩
        · have h1 := HX.out.2.1.short
          omega
        · have h1 := HX.out.2.1.lenV
          have h2 := HX.out.1.len
          rw [Eu.xM_length] at h1
          omega
      clear hO3 hO4 hb3 S3 C3 S4 C4 H2
      go_wp2_with fail
      refine K3.mono ?_
      rintro e w4 ⟨rfl, hw⟩
      obtain rfl := hw.symm
      clear K3
      go_wp2_with fail
      refine K4.mono ?_
      rintro e w4 ⟨rfl, hw⟩
      obtain rfl := hw.symm
      clear K4
      rcases HX.out.2.2.2.1 with ⟨rfl, h1, h2, h3⟩ | ⟨rfl, rfl, rfl, h1⟩
      · have hx0 : (x0 != 0) = true := by
          rw [bne_iff_ne]
          intro e0
          rw [HX.out.2.2.2.2.2.2, e0] at h1
          exact h1 rfl
        rw [hx0]
        obtain ⟨y, hy⟩ : ∃ y, Gf.inv x0 = y := ⟨_, rfl⟩
        have hy8 : y < 256 := by rw [← hy]; exact Gf.inv_lt _ HX.out.2.2.2.2.2.1
        have hyf : GF.of y = GF.inv (ofL vs 0) := by rw [← hy, GF.of_inv _ HX.out.2.2.2.2.2.1, HX.out.2.2.2.2.2.2]
        rw [hy]
        have K5 := rscale_calls y n4 c4 q4 vs ls hy8 (by rw [hyf]; exact h2) H3.out.2.2.2.2 w3 H3.out.2.2.1
        have KS : Hid (∀ W, Below w3.heap.size w3 W → Calls Tryz.prog 51 #[.int .u8 (y : Nat), .slice q3 n3 c3] W fun e w' => ∃ v, e = .returned v ∧ Ow w' W.heap.size v es ∧ Below W.heap.size W w') := fun W hW => rscale_calls y n3 c3 q3 ss es hy8 (by rw [hyf]; exact h3) H3.out.2.2.2.1 W (H3.out.2.1.below hW)
        clear h1 h2 h3 hx0 hy hy8 hyf
        go_wp2_with fail
        refine K5.mono ?_
        rintro e w5 ⟨v5, rfl, hO5, hb5⟩
        clear K5
        have H5 : Hid (Below w.heap.size w w5 ∧ Ow w5 w.heap.size v5 ls) := ⟨H3.out.1.trans (hb5.mono H3.out.1.size), hO5.mono H3.out.1.size⟩
        have K6 := KS.out w5 hb5
        clear KS hO5 hb5
        go_wp2_with fail
        refine K6.mono ?_
        rintro e w6 ⟨v6, rfl, hO6, hb6⟩
        clear K6
        have HZ : Hid (Ow w6 w.heap.size v5 ls ∧ Ow w6 w.heap.size v6 es ∧ Below w.heap.size w w6) := ⟨H5.out.2.below hb6, hO6.mono H5.out.1.size, H5.out.1.trans (hb6.mono H5.out.1.size)⟩
        clear hO6 hb6
        go_wp2
        go_ret3
        exact ⟨_, _, rfl, HZ.out⟩
      · have hx0 : (x0 != 0) = false := by
          rw [HX.out.2.2.2.2.2.2] at h1
          have h2 := GF.of_val x0 HX.out.2.2.2.2.2.1
          rw [h1] at h2
          rw [← h2]; rfl
        rw [hx0]
        clear h1 hx0
        go_wp2
        go_ret3
        exact ⟨_, _, rfl, ow_nil _ _, ow_nil _ _, H3.out.1⟩
end Go.Proofs
