/- The walks of quot.Div, Mod and Exact. Conditions: lists of at most a thousand million bytes, no longer than their capacities; a field that Of has made, or none. -/
import Derived.Test.YtphhehppcfddgaaGreatQDown
import Derived.Test.YtphhehppcfddgaaGreatQTop
import Derived.Test.YtphhehppcfddgaaGreatPolyX
namespace Go.Proofs
open Go.RowKit Go.ChangeShapes Go.WideShapes
open Pol (IsN Dg ofL Byt Mon)

theorem But.pastq {S U : Nat → Prop} {a b c : World} (h : But S a b) (k : But U b c) (hU : ∀ i, U i → a.heap.size ≤ i ∨ S i) : But S a c :=
  ⟨k.os.trans h.os, k.tape.trans h.tape, k.output.trans h.output, Nat.le_trans h.size k.size, fun i hi hs => (k.block i (Nat.lt_of_lt_of_le hi h.size) (fun hu => (hU i hu).elim (fun h' => absurd hi (by omega)) hs)).trans (h.block i hi hs)⟩

set_option maxRecDepth 100000 in
set_option maxHeartbeats 2000000 in
theorem qdown_short (n c m mb cb : Nat) (f : Value) (q qb : Option Addr) (ls rs : List Nat) (hmb : mb = m + 1) (hmn : n ≤ m) (hm : m ≤ 1000000000) (hcb : mb ≤ cb) (hrs : IsN rs (ofL ls)) (w : World) (hl : Bs w q n ls) (hnc : n ≤ c) :
    Calls Tryz.prog 22 #[f, .slice q n c, .slice qb mb cb] w fun r w' => ∃ v1 v2, r = .returned (.tuple #[v1, v2]) ∧ Ow w' w.heap.size v1 [] ∧ Ow w' w.heap.size v2 rs ∧ Below w.heap.size w w' := by
  have K : Hid (∀ W, Bs W q n ls → Calls Tryz.prog 23 #[.slice q n c] W fun e w' => ∃ v, e = .returned v ∧ Ow w' W.heap.size v rs ∧ Below W.heap.size W w') := fun W hW => pnorm_calls q n c ls rs hrs (by omega) hnc W hW
  have HI : Hid (Bs w q n ls) := hl
  have hmk := make_bytes 0 (by omega)
  have HM := ow_made w (Nat.le_refl _) 0 (by omega)
  simp only [Int.ofNat_zero, List.replicate_zero] at hmk HM
  have HM2 : Hid (Ow (w.alloc (.cells (madeCells #[.int .u8 0] 0) 5)) w.heap.size (.slice (some ⟨w.heap.size, 0, none⟩) 0 0) []) := HM
  have e1 : (mb : Int) - 1 = (m : Int) := by omega
  obtain ⟨u, hu⟩ : ∃ u : Int, (n : Int) - (m : Int) = u := ⟨_, rfl⟩
  have u1 : u ≤ 0 := by omega
  have u2 : -1000000000 ≤ u := by omega
  have u3 : (0 < u) = False := eq_false (by omega)
  obtain ⟨z, hz⟩ : ∃ z : Int, (n : Int) - 1 = z := ⟨_, rfl⟩
  have z1 : -1 ≤ z := by omega
  have z2 : z ≤ 1000000000 := by omega
  obtain ⟨y, hy⟩ : ∃ y : Int, z - (m : Int) = y := ⟨_, rfl⟩
  have y1 : (y < 0) = True := eq_true (by omega)
  have b1 : (m : Int) ≤ 1000000000 := by omega
  have b3 : (m : Int) ≤ (cb : Int) := by omega
  have b4 : (mb : Int) ≤ 1000000001 := by omega
  have b5 : (n : Int) ≤ 1000000000 := by omega
  clear hl hrs hmb hmn HM hcb
  go_enter Tryz.func22, Tryz.ntmps22
  go_wp2
  go_step3
  go_wp2
  go_step3
  go_wp2
  clear hmk hu u1 u2 u3 e1 b3 b4
  go_loopw [1] (fun v wr => v = .slice q n c ∧ wr = w.alloc (.cells (madeCells #[.int .u8 0] 0) 5)) (fun _ _ => 0)
  case atStart => exact ⟨rfl, rfl⟩
  case round =>
    obtain ⟨rfl, rfl⟩ := hrel
    go_wp2_with (go_at_call 23; refine (K.out _ (HI.out.alloc _)).mono ?_; rintro e w1 ⟨v, rfl, hO, hb⟩)
    rw [Exit.noGoto_ret]
    go_ret2
    exact ⟨_, _, rfl, HM2.out.below hb, hO.mono (by simp), ((Below.refl _ w).alloc (Nat.le_refl _) _).trans (hb.mono (by simp))⟩

/-- Whatever the lengths: what is told of a list of the caller's own, divided by a monic one. -/
theorem qdown_any (k B T base n c m mb cb : Nat) (q qb : Option Addr) (ls bs rs : List Nat) (p1 p2 : Pol) (hmb : mb = m + 1) (hn : n ≤ 1000000000) (hm : m ≤ 1000000000) (hcb : mb ≤ cb) (hM : Mon m (ofL bs)) (hrs : IsN rs p2) (h1 : Pol.Fin p1) (h2 : Pol.Bd m p2)
    (he : ofL ls = Pol.add (Pol.mul p1 (ofL bs)) p2) (w : World) (hF : Fd k B T w) (hO : Ow w base (.slice q n c) ls) (hl : ls.length = n) (hls : Byt ls) (hB : Bs w qb mb bs) (hT : Off T mb qb) (hg : ∀ g, (Value.slice q n c).ownBlock = some g → Off g mb qb) (hBb : B < base) (hTb : T < base) :
    Calls Tryz.prog 22 #[.pointer (some ⟨B, 0, none⟩), .slice q n c, .slice qb mb cb] w fun r w' => ∃ ts v1 v2, r = .returned (.tuple #[v1, v2]) ∧ Ow w' w.heap.size v1 ts ∧ Byt ts ∧ ts.length ≤ n ∧ ofL ts = p1 ∧ Ow w' w.heap.size v2 rs ∧ Fd k B T w' ∧ But (fun x => x = T ∨ base ≤ x) w w' := by
  by_cases hmn : m < n
  · rcases hO.shape with ⟨_, h0⟩ | ⟨g, cap, e, hbg, _, hcap, _⟩
    · rw [h0] at hl; simp at hl; omega
    · rw [hl] at e hcap
      cases e
      refine (qdown_calls k B T g n c m mb cb qb ls bs rs p1 p2 hmb hmn hn hcb hM hrs h1 h2 he w hF (hO.mono (Nat.zero_le _)) hl hls hcap hB hT (hg g rfl) (by omega) (by omega)).mono ?_
      rintro r w' ⟨ts, v1, v2, rfl, a1, a2, a3, a4, a5, a6, a7⟩
      exact ⟨ts, v1, v2, rfl, a1, a2, a3, a4, a5, a6, a7.mono (fun x hx => hx.elim .inl (fun e => .inr (by omega)))⟩
  · obtain ⟨q2, c2, e2, hS, hc, -⟩ := hO.tell (n := n) hls hl
    cases e2
    have hun := Pol.div_unique (a := Pol.zero) Pol.Fin.zero h1 hM.dg (by have := (Pol.ofL_bd ls); rw [hl] at this; exact this.mono_le (by omega)) h2 (by rw [Pol.zero_mul, Pol.zero_add]; exact he)
    refine (qdown_short n c m mb cb _ q qb ls rs hmb (by omega) hm hcb (hun.2 ▸ hrs) w hS hc).mono ?_
    rintro r w' ⟨v1, v2, rfl, a1, a2, hb⟩
    exact ⟨[], v1, v2, rfl, a1, Pol.byt_nil, by simp, by rw [Pol.ofL_nil]; exact hun.1, a2, hF.below hb, But.of_below hb⟩

set_option maxRecDepth 100000 in
set_option maxHeartbeats 2000000 in
theorem qdiv_calls (k B T n c m d e : Nat) (q p : Option Addr) (xs ys zs rs : List Nat) (P1 P2 : Pol) (hd : Dg (e + 1) (ofL ys)) (ha : IsN zs P1) (hr : IsN rs P2) (h2 : Pol.Bd e P2) (he : ofL xs = Pol.add (Pol.mul P1 (ofL ys)) P2)
    (hn : n ≤ 1000000000) (hm : m ≤ 1000000000) (hnc : n ≤ c) (hmd : m ≤ d) (w : World) (h : Fd k B T w) (hx : Bs w q n xs) (hy : Bs w p m ys) (hq : Off T n q) (hp : Off T m p) :
    Calls Tryz.prog 8 #[.pointer (some ⟨B, 0, none⟩), .slice q n c, .slice p m d] w fun r w' => ∃ v1 v2, r = .returned (.tuple #[v1, v2, .bool true]) ∧ Ow w' w.heap.size v1 zs ∧ Ow w' w.heap.size v2 rs ∧ Fd k B T w' ∧ But (· = T) w w' := by
  obtain ⟨i, hi⟩ : ∃ i, Gf.inv (ys.getD e 0) = i := ⟨_, rfl⟩
  have hi8 : i < 256 := hi ▸ Gf.inv_lt _ (hy.byte e)
  have hiG : GF.of i = GF.inv (ofL ys e) := by rw [← hi]; exact of_inv_top hy.byt e
  have hl0 : ofL ys e ≠ 0 := hd.top (by omega)
  have K1 := qtop_calls k B T m d e i p ys hd hi w h hy
  obtain ⟨ls, hls, hll⟩ := Pol.isN_norm xs
  rw [hx.len] at hll
  have hbs := Pol.isN_of_dg (hd.smul (GF.of i) (by rw [hiG]; exact GF.inv_ne_zero hl0))
  obtain ⟨bs, hbse⟩ : ∃ bs, Pol.toL (e + 1) (Pol.smul (GF.of i) (ofL ys)) = bs := ⟨_, rfl⟩
  rw [hbse] at hbs
  have hbl : bs.length = e + 1 := by rw [← hbse, Pol.toL_length]
  have hem : e + 1 ≤ m := by have := hd.le (Pol.ofL_bd ys); rwa [hy.len] at this
  have hM : Mon e (ofL bs) := by rw [hbs.eq, hiG]; exact hd.monic
  have hed : ofL ls = Pol.add (Pol.mul (Pol.smul (ofL ys e) P1) (ofL bs)) P2 := by
    rw [hls.eq, hbs.eq, he, hiG, Pol.smul_mul, Pol.mul_smul, Pol.smul_smul, GF.mul_inv _ hl0, Pol.one_smul]
  have hfin : Pol.Fin (Pol.smul (ofL ys e) P1) := (ha.dg.fin).smul _
  have has : IsN zs (Pol.smul (GF.of i) (Pol.smul (ofL ys e) P1)) := by rw [Pol.smul_smul, hiG, GF.inv_mul _ hl0, Pol.one_smul]; exact ha
  obtain ⟨nl, hnl⟩ : ∃ nl, ls.length = nl := ⟨_, rfl⟩
  obtain ⟨mb, hmb⟩ : ∃ mb, mb = e + 1 := ⟨_, rfl⟩
  obtain ⟨p1, hp1⟩ : ∃ p1, Pol.smul (ofL ys e) P1 = p1 := ⟨_, rfl⟩
  rw [hp1] at hed hfin has
  have HL : Hid (Bs w q n xs ∧ Bs w p m ys ∧ Off T n q ∧ Off T m p ∧ IsN ls (ofL xs) ∧ IsN bs (Pol.smul (GF.of i) (ofL ys)) ∧ B < w.heap.size ∧ T < w.heap.size ∧ n ≤ 1000000000 ∧ m ≤ 1000000000 ∧ n ≤ c ∧ m ≤ d ∧ i < 256 ∧ ls.length = nl ∧ bs.length = mb ∧ nl ≤ n) := ⟨hx, hy, hq, hp, hls, hbs, h.blt, h.lt, hn, hm, hnc, hmd, hi8, hnl, by rw [hbl, hmb], by omega⟩
  have K2 : Hid (∀ W base q2 c2 q3 c3, Fd k B T W → Ow W base (.slice q2 nl c2) ls → Bs W q3 mb bs → mb ≤ c3 → Off T mb q3 → (∀ g, (Value.slice q2 nl c2).ownBlock = some g → Off g mb q3) → B < base → T < base →
      Calls Tryz.prog 22 #[.pointer (some ⟨B, 0, none⟩), .slice q2 nl c2, .slice q3 mb c3] W fun r w' => ∃ ts v1 v2, r = .returned (.tuple #[v1, v2]) ∧ Ow w' W.heap.size v1 ts ∧ Byt ts ∧ ts.length ≤ nl ∧ ofL ts = p1 ∧ Ow w' W.heap.size v2 rs ∧ Fd k B T w' ∧ But (fun x => x = T ∨ base ≤ x) W w') :=
    fun W base q2 c2 q3 c3 a1 a2 a3 a4 a5 a6 a7 a8 => qdown_any k B T base nl c2 e mb c3 q2 q3 ls bs rs p1 P2 hmb (by omega) (by omega) a4 hM hr hfin h2 hed W a1 a2 hnl hls.byt a3 a5 a6 a7 a8
  have HA : Hid (IsN zs (Pol.smul (GF.of i) p1)) := has
  clear h hx hy hq hp hd ha hr h2 he hi hi8 hiG hl0 hls hll hbs hbse hbl hem hM hed hfin has hnl hmb hp1 hn hm hnc hmd
  go_enter Tryz.func8, Tryz.ntmps8
  go_wp2_with fail
  refine K1.mono ?_
  rintro r w1 ⟨rfl, hF1, hb1⟩
  clear K1
  go_wp2_with fail
  refine (pnorm_calls q n c xs ls HL.out.2.2.2.2.1 HL.out.2.2.2.2.2.2.2.2.1 HL.out.2.2.2.2.2.2.2.2.2.2.1 w1 (HL.out.1.but hb1 HL.out.2.2.1)).mono ?_
  rintro r w2 ⟨v2, rfl, hO2, hb2⟩
  obtain ⟨q2, c2, rfl, hS2, hC2, hoff2⟩ := hO2.tell HL.out.2.2.2.2.1.byt HL.out.2.2.2.2.2.2.2.2.2.2.2.2.2.1
  have hF2 := hF1.below hb2
  have hB2 : But (· = T) w w2 := hb1.trans (But.of_below hb2)
  have hO2' := hO2.mono hb1.size
  have hlt2 := fun g hg => (hO2.lt g hg).2
  have H2 : Hid (Ow w2 w.heap.size (.slice q2 nl c2) ls ∧ Fd k B T w2 ∧ But (· = T) w w2 ∧ (∀ g, (Value.slice q2 nl c2).ownBlock = some g → g < w2.heap.size)) := ⟨hO2', hF2, hB2, hlt2⟩
  clear hF1 hb1 hO2 hb2 hS2 hC2 hoff2 hF2 hB2 hO2' hlt2
  go_wp2_with fail
  refine (pscale_calls k B T i m d p ys bs HL.out.2.2.2.2.2.2.2.2.2.2.2.2.1 HL.out.2.2.2.2.2.1 HL.out.2.2.2.2.2.2.2.2.2.1 HL.out.2.2.2.2.2.2.2.2.2.2.2.1 w2 H2.out.2.1 (HL.out.2.1.but H2.out.2.2.1 HL.out.2.2.2.1) HL.out.2.2.2.1).mono ?_
  rintro r w3 ⟨v3, rfl, hO3, hF3, hb3⟩
  obtain ⟨q3, c3, rfl, hS3, hC3, hoff3⟩ := hO3.tell HL.out.2.2.2.2.2.1.byt HL.out.2.2.2.2.2.2.2.2.2.2.2.2.2.2.1
  have hT2 : T < w2.heap.size := H2.out.2.1.lt
  have K3 := K2.out w3 w.heap.size q2 c2 q3 c3 hF3 (H2.out.1.but hb3 (by intro x hx e; have := HL.out.2.2.2.2.2.2.2.1; omega)) hS3 hC3 (hoff3 T hT2) (fun g hg => hoff3 g (H2.out.2.2.2 g hg)) HL.out.2.2.2.2.2.2.1 HL.out.2.2.2.2.2.2.2.1
  have H3 : Hid (But (· = T) w w3) := H2.out.2.2.1.trans hb3
  clear hO3 hF3 hb3 hS3 hC3 hoff3 hT2 H2 K2
  go_wp2_with fail
  refine K3.mono ?_
  rintro r w4 ⟨ts, v4, v5, rfl, hO4, hts, hlt, hte, hO5, hF4, hb4⟩
  clear K3
  have hsz : w.heap.size ≤ w3.heap.size := H3.out.size
  have hB4 : But (· = T) w w4 := H3.out.pastq hb4 (fun i h => h.elim .inr .inl)
  obtain ⟨nt, hnt⟩ : ∃ nt, ts.length = nt := ⟨_, rfl⟩
  obtain ⟨q4, c4, rfl, hS4, hC4, hoff4⟩ := hO4.tell hts hnt
  have K4 := pscale_calls k B T i nt c4 q4 ts zs HL.out.2.2.2.2.2.2.2.2.2.2.2.2.1 (hte ▸ HA.out) (by have := HL.out; omega) hC4 w4 hF4 hS4 (hoff4 T (by have := HL.out; omega))
  have H4 : Hid (Ow w4 w.heap.size v5 rs ∧ But (· = T) w w4) := ⟨hO5.mono hsz, hB4⟩
  have hTw : T < w.heap.size := HL.out.2.2.2.2.2.2.2.1
  clear hO4 hts hlt hte hO5 hF4 hb4 hB4 hS4 hC4 hoff4 HL HA H3 hsz
  go_wp2_with fail
  refine K4.mono ?_
  rintro r w5 ⟨v6, rfl, hO6, hF6, hb6⟩
  clear K4
  go_wp2
  go_ret3
  exact ⟨_, _, rfl, hO6.mono H4.out.2.size, H4.out.1.but hb6 (by omega), hF6, H4.out.2.trans hb6⟩
end Go.Proofs
