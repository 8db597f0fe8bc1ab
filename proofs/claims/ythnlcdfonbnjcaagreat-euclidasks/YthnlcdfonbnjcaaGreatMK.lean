/- Texts laid together: QDown, QTop, QDiv, QMod, QGcd, QU. Each says its own conditions. -/
import Derived.Deep.LoopGhost
import Derived.Test.YthnlcdfonbnjcaaGreatMG
import Derived.Test.YthnlcdfonbnjcaaGreatMA
import Derived.Test.YthnlcdfonbnjcaaGreatMF
/- The walk of quot.bringDown. Conditions: lists of at most a thousand million bytes; what is divided by is monic; what is divided was made by the caller and lies in no block of the field's or of the other list. -/
namespace Go.Proofs
open Go.RowKit Go.ChangeShapes Go.WideShapes
open Pol (IsN Dg ofL Byt Mon)

def slen : Value → Nat
  | .slice _ n _ => n
  | _ => 0
theorem Bs.butS {S : Nat → Prop} {W W' : World} {q : Option Addr} {n : Nat} {xs : List Nat} (h : Bs W q n xs) (hb : But S W W') (hs : 0 < n → ∀ a, q = some a → ¬ S a.block) : Bs W' q n xs :=
  ⟨h.len, h.max, fun i hi => by
    obtain ⟨a, e, hl, hc⟩ := h.cell i hi
    exact ⟨a, e, Nat.lt_of_lt_of_le hl hb.size, (hb.cell (p := a.add i) (by rw [block_add]; exact hl) (by rw [block_add]; exact hs (by omega) a e)).trans hc⟩, h.byte⟩
theorem Ow.butq {S : Nat → Prop} {W W' : World} {base g n c : Nat} {xs : List Nat} (h : Ow W base (.slice (some ⟨g, 0, none⟩) n c) xs) (hb : But S W W') (hs : ¬ S g) : Ow W' base (.slice (some ⟨g, 0, none⟩) n c) xs :=
  h.block fun k hk => hb.block k (h.lt k hk).2 (by cases hk; exact hs)
/-- Between the rounds. -/
structure QI (k B T g n c m G : Nat) (qb : Option Addr) (low : List Nat) (P p : Pol) (w : World) (L : Nat) (s ts : List Nat) (W : World) : Prop where
  byt : Byt s
  len : s.length = L
  bt : Byt ts
  lt : ts.length = n - m
  zero : ∀ j, j + m < L → ts.getD j 0 = 0
  eq : Pol.add (Pol.mul (ofL ts) P) (ofL s) = p
  os : Ow W 0 (.slice (some ⟨g, 0, none⟩) L c) s
  ot : Ow W G (.slice (some ⟨G, 0, none⟩) (n - m) (n - m)) ts
  fd : Fd k B T W
  bs : Bs W qb m low
  but : But (fun x => x = T ∨ x = g) w W
/-- Within a round. -/
structure QJ (k B T g n c m G at' L : Nat) (qb qe : Option Addr) (low es s0 ts : List Nat) (w : World) (i : Nat) (s : List Nat) (W : World) : Prop where
  byt : Byt s
  len : s.length = L
  eq : ofL s = Pol.add (ofL s0) (Pol.up at' (Pol.cut i (ofL es)))
  os : Ow W 0 (.slice (some ⟨g, 0, none⟩) L c) s
  ot : Ow W G (.slice (some ⟨G, 0, none⟩) (n - m) (n - m)) ts
  oe : Bs W qe m es
  fd : Fd k B T W
  bs : Bs W qb m low
  but : But (fun x => x = T ∨ x = g) w W

set_option maxRecDepth 100000 in
set_option maxHeartbeats 2000000 in
theorem qdown_calls (k B T g n c m mb cb : Nat) (qb : Option Addr) (ls bs rs : List Nat) (p1 p2 : Pol) (hmb : mb = m + 1) (hmn : m < n) (hn : n ≤ 1000000000) (hcb : mb ≤ cb) (hM : Mon m (ofL bs)) (hrs : IsN rs p2) (h1 : Pol.Fin p1) (h2 : Pol.Bd m p2)
    (he : ofL ls = Pol.add (Pol.mul p1 (ofL bs)) p2) (w : World) (hF : Fd k B T w) (hO : Ow w 0 (.slice (some ⟨g, 0, none⟩) n c) ls) (hl : ls.length = n) (hls : Byt ls) (hnc : n ≤ c) (hB : Bs w qb mb bs) (hT : Off T mb qb) (hg : Off g mb qb) (hgB : ¬ B = g) (hgT : ¬ T = g) :
    Calls Tryz.prog 61 #[.pointer (some ⟨B, 0, none⟩), .slice (some ⟨g, 0, none⟩) n c, .slice qb mb cb] w fun r w' => ∃ ts v1 v2, r = .returned (.tuple #[v1, v2]) ∧ Ow w' w.heap.size v1 ts ∧ Byt ts ∧ ts.length ≤ n ∧ ofL ts = p1 ∧ Ow w' w.heap.size v2 rs ∧ Fd k B T w' ∧ But (fun x => x = T ∨ x = g) w w' := by
  obtain ⟨low, hlow⟩ : ∃ low, bs.take m = low := ⟨_, rfl⟩
  have hlowl : low.length = m := by rw [← hlow, List.length_take, hB.len]; omega
  have hlb : Bs w qb m low := hlow ▸ bs_take hB m (by omega)
  obtain ⟨P, hP⟩ : ∃ P, ofL bs = P := ⟨_, rfl⟩
  have hPe : P = Pol.add (Pol.mono m 1) (ofL low) := by rw [← hP, ← hlow]; exact mon_front (by rw [hB.len, hmb]) hM
  have hPd : Dg (m + 1) P := hP ▸ hM.dg
  rw [hP] at he
  obtain ⟨p, hp⟩ : ∃ p, ofL ls = p := ⟨_, rfl⟩
  have hOff : Off T m qb ∧ Off g m qb := ⟨hT.le (by omega), hg.le (by omega)⟩
  have hTl := hF.lt
  have hBl := hF.blt
  have hgl : g < w.heap.size := (hO.lt g rfl).2
  obtain ⟨G, hG⟩ : ∃ G, w.heap.size = G := ⟨_, rfl⟩
  obtain ⟨t, ht⟩ : ∃ t, n - m = t := ⟨_, rfl⟩
  have hmk := make_bytes t (by omega)
  have HA : Hid (P = Pol.add (Pol.mono m 1) (ofL low) ∧ low.length = m ∧ Off T m qb ∧ Off g m qb ∧ Dg (m + 1) P ∧ IsN rs p2 ∧ Pol.Fin p1 ∧ Pol.Bd m p2 ∧ p = Pol.add (Pol.mul p1 P) p2) := ⟨hPe, hlowl, hOff.1, hOff.2, hPd, hrs, h1, h2, hp ▸ he⟩
  have HC : Hid (Off G m qb ∧ m ≤ cb) := ⟨hlb.off (by omega), by omega⟩
  have HI : Hid (QI k B T g n c m G qb low P p w n ls (List.replicate t 0) (w.alloc (.cells (madeCells #[.int .u8 0] t) 5))) := by
    refine ⟨hls, hl, Pol.byt_rep _, by rw [List.length_replicate, ht], fun j _ => Pol.getD_rep _ _, ?_, hO.alloc _, ?_, hF.alloc _, hlb.alloc _, (But.refl _ w).alloc _⟩
    · rw [Pol.ofL_rep, Pol.zero_mul, Pol.zero_add]; exact hp
    · rw [ht, ← hG]; exact ow_made w (Nat.le_refl _) t (by omega)
  have HG : Hid (w.heap.size = G ∧ T < G ∧ B < G ∧ g < G ∧ ¬ B = g ∧ ¬ T = g ∧ n - m = t) := ⟨hG, hG ▸ hTl, hG ▸ hBl, hG ▸ hgl, hgB, hgT, ht⟩
  have e1 : (mb : Int) - 1 = (m : Int) := by omega
  have e2 : (n : Int) - (m : Int) = (t : Int) := by omega
  have e3 : (0 : Int) < (t : Int) := by omega
  have b1 : (m : Int) ≤ 1000000000 := by omega
  have b2 : (n : Int) ≤ 1000000000 := by omega
  have b3 : (m : Int) ≤ (cb : Int) := by omega
  have b4 : (mb : Int) ≤ 1000000001 := by omega
  clear hM hrs h1 h2 he hF hO hl hls hB hT hg hgB hgT hlow hlowl hlb hP hPe hPd hp hOff hTl hBl hgl ht hcb hmb
  go_enter Tryz.func61, Tryz.ntmps61
  go_wp2
  go_step3
  go_wp2
  go_step3
  go_wp2
  clear hmk e1 e2 e3 b4 b3
  go_loopw [1] (fun v wr => ∃ (L : Nat) (s ts : List Nat), m ≤ L ∧ L ≤ n ∧ v = .slice (some ⟨g, 0, none⟩) L c ∧ QI k B T g n c m G qb low P p w L s ts wr) (fun v _ => slen v)
  case atStart => exact ⟨n, ls, _, by omega, by omega, rfl, HI.out⟩
  case round =>
    obtain ⟨L, s, ts, hL1, hL2, rfl, hq⟩ := hrel
    clear HI
    by_cases hLm : L = m
    · subst hLm
      have HQ : Hid (QI k B T g n c L G qb low P p w L s ts wr) := hq
      have hx : (L : Int) - 1 - (L : Int) = -1 := by omega
      obtain ⟨q2, c2, e2, S2, C2, -⟩ := hq.os.tell (n := L) hq.byt hq.len
      cases e2
      have hun := Pol.div_unique (Pol.Fin.ofL ts) HA.out.2.2.2.2.2.2.1 HA.out.2.2.2.2.1 (by have := Pol.ofL_bd s; rwa [hq.len] at this) HA.out.2.2.2.2.2.2.2.1 (hq.eq.trans HA.out.2.2.2.2.2.2.2.2)
      have K := pnorm_calls _ L c s rs (hun.2 ▸ HA.out.2.2.2.2.2.1) (by omega) (by omega) wr S2
      have HU : Hid (ofL ts = p1) := hun.1
      clear hq S2 hun
      go_wp2_with (go_at_call 39; refine K.mono ?_; rintro e w1 ⟨v, rfl, hO, hb⟩)
      rw [Exit.noGoto_ret]
      go_ret2
      have hsz : w.heap.size ≤ wr.heap.size := HQ.out.but.size
      refine ⟨ts, _, _, rfl, ?_, HQ.out.bt, by rw [HQ.out.lt]; omega, HU.out, hO.mono hsz, HQ.out.fd.below hb, HQ.out.but.trans (But.of_below hb)⟩
      rw [hG, ← HG.out.2.2.2.2.2.2]
      exact HQ.out.ot.below hb
    · obtain ⟨at', hat⟩ : ∃ at', L = at' + m + 1 := ⟨L - m - 1, by omega⟩
      obtain ⟨top, htop⟩ : ∃ top, at' + m = top := ⟨_, rfl⟩
      have x1 : (L : Int) - 1 = (top : Int) := by omega
      have x2 : (top : Int) - (m : Int) = (at' : Int) := by omega
      have x3 : (top : Int) < (L : Int) := by omega
      have x4 : (at' : Int) < (t : Int) := by have := HG.out.2.2.2.2.2.2; omega
      have x5 : (L : Int) ≤ 1000000000 := by omega
      have x6 : (top : Int) ≤ (c : Int) := by omega
      have htl : top < L := by omega
      obtain ⟨hc, hf⟩ := hq.os.at hq.len.symm top htl
      obtain ⟨a, ha⟩ : ∃ a, s.getD top 0 = a := ⟨_, rfl⟩
      have ha8 : a < 256 := ha ▸ hq.byt top
      have HQ : Hid (QI k B T g n c m G qb low P p w L s ts wr) := hq
      have HN : Hid (L = at' + m + 1 ∧ at' + m = top ∧ s.getD top 0 = a) := ⟨hat, htop, ha⟩
      rw [ha] at hc
      clear hq hat htop ha htl
      by_cases ha0 : a = 0
      · subst ha0
        clear hf
        go_wp2
        go_roundw
        case rel =>
          have hL := HN.out.1
          have ht := HN.out.2.1
          have hq := HQ.out
          have hl : s.length = top + 1 := by rw [hq.len]; omega
          refine ⟨top, s.take top, ts, by omega, by omega, rfl, Pol.byt_take hq.byt _, by rw [List.length_take, hl]; omega, hq.bt, hq.lt, fun j hj => hq.zero j (by omega), by rw [bring_zero hl HN.out.2.2]; exact hq.eq, hq.os.front rfl (by omega), hq.ot, hq.fd, hq.bs, hq.but⟩
        case measure => show top < L; have := HN.out; omega
      · have ha1 : ((a : Int) != 0) = true := by simpa using ha0
        obtain ⟨hc2, hf2⟩ := HQ.out.ot.at HQ.out.lt.symm at' (by have := HG.out.2.2.2.2.2.2; omega)
        have g1 : ¬ G = g := by have := HG.out.2.2.2.1; omega
        have g2 : ¬ g = G := fun e => g1 e.symm
        clear hf ha0
        go_wp2_with fail
        have hbG : But (fun x => x = G) wr (wr.setCell ⟨G, at', none⟩ (.int .u8 (a : Nat))) := (But.refl (fun x => x = G) wr).setCell (p := ⟨G, at', none⟩) (.inl rfl) _
        have hF1 := HQ.out.fd.but hbG (by have := HG.out; omega) (by have := HG.out; omega)
        have hB1 := HQ.out.bs.butS hbG HC.out.1
        have ho1 := HQ.out.os.butq hbG g2
        have ht1 := HQ.out.ot.set HQ.out.lt.symm at' a
        have hb1 : But (fun x => x = T ∨ x = g) w (wr.setCell ⟨G, at', none⟩ (.int .u8 (a : Nat))) := HQ.out.but.setCell (p := ⟨G, at', none⟩) (.inr (by show w.heap.size ≤ G; omega)) _
        refine (feach_calls k B T a m cb qb low ha8 (by omega) HC.out.2 _ hF1 hB1 HA.out.2.2.1).mono ?_
        rintro e w1 ⟨v, rfl, hOe, hF2, hb2⟩
        have hes := map_byte a low ha8
        have hel : (low.map (Gf.mul a)).length = m := by rw [List.length_map]; exact HA.out.2.1
        have hee : ofL (low.map (Gf.mul a)) = Pol.smul (GF.of a) (ofL low) := Pol.ofL_map a ha8 HQ.out.bs.byt
        obtain ⟨es, hese⟩ : ∃ es, low.map (Gf.mul a) = es := ⟨_, rfl⟩
        rw [hese] at hes hel hee hOe
        obtain ⟨qe, ce, rfl, hSe, -, hoff⟩ := hOe.tell (n := m) hes hel
        have hsz : wr.heap.size ≤ (wr.setCell ⟨G, at', none⟩ (.int .u8 (a : Nat))).heap.size := hbG.size
        have hwG : w.heap.size ≤ wr.heap.size := HQ.out.but.size
        have HJ : Hid (QJ k B T g n c m G at' L qb qe low es s (ts.set at' a) w 0 s w1) :=
          ⟨HQ.out.byt, HQ.out.len, by rw [up_cut_zero, Pol.add_zero], ho1.butq hb2 (by have := HG.out; omega), ht1.butq hb2 (by have := HG.out; omega), hSe, hF2, hB1.but hb2 HA.out.2.2.1, hb1.trans (hb2.mono (fun _ h => .inl h))⟩
        have HE : Hid (Byt es ∧ es.length = m ∧ ofL es = Pol.smul (GF.of a) (ofL low) ∧ Off g m qe ∧ Off T m qe) := ⟨hes, hel, hee, hoff g (by have := HG.out; omega), hoff T (by have := HG.out; omega)⟩
        clear hbG hF1 hB1 ho1 ht1 hb1 hOe hF2 hb2 hes hel hee hese hSe hoff hsz hwG hc hc2 hf2 ha1
        go_wp2
        go_loopw [57] (fun ii wx => ∃ (i : Nat) (s' : List Nat), i ≤ m ∧ ii = .int .i64 (i : Int) ∧ QJ k B T g n c m G at' L qb qe low es s (ts.set at' a) w i s' wx) (fun ii _ => m - (intOf ii).toNat)
        case atStart => exact ⟨0, s, by omega, rfl, HJ.out⟩
        case round =>
          clear HJ
          obtain ⟨i, s', hi, rfl, hj⟩ := hrel
          by_cases him : i < m
          · have y1 : (i : Int) < (m : Int) := by omega
            obtain ⟨ae, rfl, _, ce'⟩ := hj.oe.cell i him
            obtain ⟨kk, hkk⟩ : ∃ kk, at' + i = kk := ⟨_, rfl⟩
            have y2 : (at' : Int) + (i : Int) = (kk : Int) := by omega
            have y3 : (kk : Int) < (L : Int) := by have := HN.out; omega
            have hkL : kk < L := by omega
            obtain ⟨hc, hf⟩ := hj.os.at hj.len.symm kk hkL
            have hzb := hj.byt kk
            have heb := HE.out.1 i
            have HSt : Hid (ofL (s'.set kk (s'.getD kk 0 ^^^ es.getD i 0)) = Pol.add (ofL s) (Pol.up at' (Pol.cut (i + 1) (ofL es))) ∧ Byt (s'.set kk (s'.getD kk 0 ^^^ es.getD i 0))) := by
              refine ⟨?_, byt_setq hj.byt (Gf.xor_lt8 hzb heb)⟩
              rw [ofL_addq hj.byt (by rw [hj.len]; exact hkL) heb, hj.eq, up_cut_succ, Pol.add_assoc, hkk]; rfl
            obtain ⟨z, hz⟩ : ∃ z, s'.getD kk 0 = z := ⟨_, rfl⟩
            obtain ⟨x, hx⟩ : ∃ x, es.getD i 0 = x := ⟨_, rfl⟩
            rw [hz] at hc hzb HSt
            rw [hx] at ce' heb HSt
            have hxor := u8_xor_nat z x hzb heb
            have HJ : Hid (QJ k B T g n c m G at' L qb (some ae) low es s (ts.set at' a) w i s' wr) := hj
            clear hj hz hx hkk hkL hzb heb
            go_wp2
            go_roundw
            case rel =>
              have hbg : But (fun x => x = g) wr (wr.setCell ⟨g, kk, none⟩ (.int .u8 ((z ^^^ x : Nat) : Int))) := (But.refl (fun x => x = g) wr).setCell (p := ⟨g, kk, none⟩) (.inl rfl) _
              exact ⟨i + 1, s'.set kk (z ^^^ x), by omega, by go_num, HSt.out.2, by rw [List.length_set]; exact HJ.out.len, HSt.out.1, HJ.out.os.set HJ.out.len.symm kk _, HJ.out.ot.butq hbg g1, HJ.out.oe.butS hbg HE.out.2.2.2.1, HJ.out.fd.but hbg HG.out.2.2.2.2.1 HG.out.2.2.2.2.2.1, HJ.out.bs.butS hbg HA.out.2.2.2.1, HJ.out.but.setCell (p := ⟨g, kk, none⟩) (.inl (.inr rfl)) _⟩
            case measure => simp [intOf]; omega
          · obtain rfl : i = m := by omega
            have HJ : Hid (QJ k B T g n c i G at' L qb qe low es s (ts.set at' a) w i s' wr) := hj
            clear hj
            go_wp2
            go_roundw
            case rel =>
              have hL := HN.out.1
              have ht := HN.out.2.1
              have hsl : s.length = at' + i + 1 := by rw [HQ.out.len]; exact hL
              have hat : at' < ts.length := by rw [HQ.out.lt]; have := HG.out.2.2.2.2.2.2; omega
              have he := HJ.out.eq
              rw [Pol.cut_bd (by have := Pol.ofL_bd es; rwa [HE.out.2.1] at this), HE.out.2.2.1] at he
              have hst := bring_step HA.out.1 HA.out.2.1 hsl (by rw [ht]; exact HN.out.2.2) he hat (HQ.out.zero at' (by omega)) HQ.out.eq
              rw [ht] at hst
              refine ⟨top, s'.take top, ts.set at' a, by omega, by omega, rfl, Pol.byt_take HJ.out.byt _, by rw [List.length_take, HJ.out.len]; omega, byt_setq HQ.out.bt ha8, by rw [List.length_set]; exact HQ.out.lt, fun j hj => ?_, hst, HJ.out.os.front rfl (by omega), HJ.out.ot, HJ.out.fd, HJ.out.bs, HJ.out.but⟩
              rw [getD_setq, if_neg (by omega)]
              exact HQ.out.zero j (by omega)
            case measure => show top < L; have := HN.out; omega
end Go.Proofs
/- The walks of quot.topInverse and quot.Monic. Conditions: lists of at most a thousand million bytes, no longer than their capacities; a field that Of has made, or none. -/
namespace Go.Proofs
open Go.RowKit Go.ChangeShapes Go.WideShapes
open Pol (IsN Dg ofL Byt Mon)

theorem cof_nat (xs : List Nat) (e : Nat) : cof xs (e : Int) = xs.getD e 0 := by unfold cof; rw [if_pos (by omega)]; rfl
theorem top_ne {xs : List Nat} {e : Nat} (h : Dg (e + 1) (ofL xs)) : xs.getD e 0 ≠ 0 := fun h0 => h.top (by omega) (by show GF.of (xs.getD (e + 1 - 1) 0) = 0; rw [show e + 1 - 1 = e by omega, h0]; rfl)
theorem of_inv_top {xs : List Nat} (hb : Byt xs) (e : Nat) : GF.of (Gf.inv (xs.getD e 0)) = GF.inv (ofL xs e) := GF.of_inv _ (hb e)

set_option maxRecDepth 100000 in
set_option maxHeartbeats 1000000 in
theorem qtop_calls (k B T n c e a : Nat) (q : Option Addr) (xs : List Nat) (hd : Dg (e + 1) (ofL xs)) (ha : Gf.inv (xs.getD e 0) = a) (w : World) (h : Fd k B T w) (hs : Bs w q n xs) :
    Calls Tryz.prog 34 #[.pointer (some ⟨B, 0, none⟩), .slice q n c] w fun r w' => r = .returned (.tuple #[.int .u8 (a : Nat), .bool true]) ∧ Fd k B T w' ∧ But (· = T) w w' := by
  have K1 : Calls Tryz.prog 15 #[.slice q n c] w fun r w' => r = .returned (.int .i64 (e : Int)) ∧ Below w.heap.size w w' :=
    (pdeg_calls q n c xs (e + 1) hd w hs).mono (by rintro r w' ⟨rfl, hb⟩; exact ⟨by congr 2; omega, hb⟩)
  have hx : xs.getD e 0 < 256 := hs.byte e
  have hx0 := top_ne hd
  obtain ⟨x, hxe⟩ : ∃ x, xs.getD e 0 = x := ⟨_, rfl⟩
  have K2 : Hid (∀ W, Bs W q n xs → Calls Tryz.prog 22 #[.slice q n c, .int .i64 (e : Int)] W fun r w' => r = .returned (.int .u8 (x : Nat)) ∧ w' = W) := fun W hW =>
    (pcoef_calls q n c xs (e : Int) W hW).mono (by rintro r w' ⟨rfl, rfl⟩; exact ⟨by rw [cof_nat, hxe], rfl⟩)
  rw [hxe] at ha hx hx0
  have HS : Hid (Bs w q n xs) := hs
  have HF : Hid (Fd k B T w) := h
  have HX : Hid (x < 256 ∧ (x != 0) = true ∧ Gf.inv x = a) := ⟨hx, by simpa using hx0, ha⟩
  clear hs h hd hxe hx0 ha hx
  go_enter Tryz.func34, Tryz.ntmps34
  go_wp2_with (first
    | (go_at_call 15; refine K1.mono ?_; rintro r w1 ⟨rfl, hb⟩)
    | (go_at_call 22; refine (K2.out w1 (HS.out.below hb)).mono ?_; rintro r w1 ⟨rfl, rfl⟩)
    | (go_at_call 38; refine (finv_e k B T x a true HX.out.1 HX.out.2.2 HX.out.2.1 w1 (HF.out.below hb)).mono ?_; rintro r w2 ⟨rfl, hF2, hb2⟩))
  go_ret2
  exact ⟨rfl, hF2, (But.of_below hb).trans hb2⟩
set_option maxRecDepth 100000 in
set_option maxHeartbeats 1000000 in
theorem qtop_zero (k B T n c : Nat) (q : Option Addr) (xs : List Nat) (hd : Dg 0 (ofL xs)) (w : World) (h : Fd k B T w) (hs : Bs w q n xs) :
    Calls Tryz.prog 34 #[.pointer (some ⟨B, 0, none⟩), .slice q n c] w fun r w' => r = .returned (.tuple #[.int .u8 0, .bool false]) ∧ Fd k B T w' ∧ But (· = T) w w' := by
  have K1 : Calls Tryz.prog 15 #[.slice q n c] w fun r w' => r = .returned (.int .i64 (-1)) ∧ Below w.heap.size w w' := pdeg_calls q n c xs 0 hd w hs
  have K2 : Hid (∀ W, Bs W q n xs → Calls Tryz.prog 22 #[.slice q n c, .int .i64 (-1)] W fun r w' => r = .returned (.int .u8 0) ∧ w' = W) := fun W hW => pcoef_calls q n c xs (-1) W hW
  have HS : Hid (Bs w q n xs) := hs
  have HF : Hid (Fd k B T w) := h
  clear hs h hd
  go_enter Tryz.func34, Tryz.ntmps34
  go_wp2_with (first
    | (go_at_call 15; refine K1.mono ?_; rintro r w1 ⟨rfl, hb⟩)
    | (go_at_call 22; refine (K2.out w1 (HS.out.below hb)).mono ?_; rintro r w1 ⟨rfl, rfl⟩)
    | (go_at_call 38; refine (finv_e k B T 0 0 false (by decide) Gf.inv_zero rfl w1 (HF.out.below hb)).mono ?_; rintro r w2 ⟨rfl, hF2, hb2⟩))
  go_ret2
  exact ⟨rfl, hF2, (But.of_below hb).trans hb2⟩
end Go.Proofs
/- The walks of quot.Div, Mod and Exact. Conditions: lists of at most a thousand million bytes, no longer than their capacities; a field that Of has made, or none. -/
namespace Go.Proofs
open Go.RowKit Go.ChangeShapes Go.WideShapes
open Pol (IsN Dg ofL Byt Mon)

theorem But.pastq {S U : Nat → Prop} {a b c : World} (h : But S a b) (k : But U b c) (hU : ∀ i, U i → a.heap.size ≤ i ∨ S i) : But S a c :=
  ⟨k.os.trans h.os, k.tape.trans h.tape, k.output.trans h.output, Nat.le_trans h.size k.size, fun i hi hs => (k.block i (Nat.lt_of_lt_of_le hi h.size) (fun hu => (hU i hu).elim (fun h' => absurd hi (by omega)) hs)).trans (h.block i hi hs)⟩

set_option maxRecDepth 100000 in
set_option maxHeartbeats 2000000 in
theorem qdown_short (n c m mb cb : Nat) (f : Value) (q qb : Option Addr) (ls rs : List Nat) (hmb : mb = m + 1) (hmn : n ≤ m) (hm : m ≤ 1000000000) (hcb : mb ≤ cb) (hrs : IsN rs (ofL ls)) (w : World) (hl : Bs w q n ls) (hnc : n ≤ c) :
    Calls Tryz.prog 61 #[f, .slice q n c, .slice qb mb cb] w fun r w' => ∃ v1 v2, r = .returned (.tuple #[v1, v2]) ∧ Ow w' w.heap.size v1 [] ∧ Ow w' w.heap.size v2 rs ∧ Below w.heap.size w w' := by
  have K : Hid (∀ W, Bs W q n ls → Calls Tryz.prog 39 #[.slice q n c] W fun e w' => ∃ v, e = .returned v ∧ Ow w' W.heap.size v rs ∧ Below W.heap.size W w') := fun W hW => pnorm_calls q n c ls rs hrs (by omega) hnc W hW
  have HI : Hid (Bs w q n ls) := hl
  have hmk := make_bytes 0 (by omega)
  have HM := ow_made w (Nat.le_refl _) 0 (by omega)
  simp only [Int.ofNat_zero, List.replicate_zero] at hmk HM
  have HM2 : Hid (Ow (w.alloc (.cells (madeCells #[.int .u8 0] 0) 5)) w.heap.size (.slice (some ⟨w.heap.size, 0, none⟩) 0 0) []) := HM
  have e1 : (mb : Int) - 1 = (m : Int) := by omega
  obtain ⟨u, hu⟩ : ∃ u : Int, (n : Int) - (m : Int) = u := ⟨_, rfl⟩
  have u1 : u ≤ 0 := by omega
  have u2 : -1000000000 ≤ u := by omega
  have u3 : (0 < u) = False := eq_false (by omega)
  obtain ⟨z, hz⟩ : ∃ z : Int, (n : Int) - 1 = z := ⟨_, rfl⟩
  have z1 : -1 ≤ z := by omega
  have z2 : z ≤ 1000000000 := by omega
  obtain ⟨y, hy⟩ : ∃ y : Int, z - (m : Int) = y := ⟨_, rfl⟩
  have y1 : (y < 0) = True := eq_true (by omega)
  have b1 : (m : Int) ≤ 1000000000 := by omega
  have b3 : (m : Int) ≤ (cb : Int) := by omega
  have b4 : (mb : Int) ≤ 1000000001 := by omega
  have b5 : (n : Int) ≤ 1000000000 := by omega
  clear hl hrs hmb hmn HM hcb
  go_enter Tryz.func61, Tryz.ntmps61
  go_wp2
  go_step3
  go_wp2
  go_step3
  go_wp2
  clear hmk hu u1 u2 u3 e1 b3 b4
  go_loopw [1] (fun v wr => v = .slice q n c ∧ wr = w.alloc (.cells (madeCells #[.int .u8 0] 0) 5)) (fun _ _ => 0)
  case atStart => exact ⟨rfl, rfl⟩
  case round =>
    obtain ⟨rfl, rfl⟩ := hrel
    go_wp2_with (go_at_call 39; refine (K.out _ (HI.out.alloc _)).mono ?_; rintro e w1 ⟨v, rfl, hO, hb⟩)
    rw [Exit.noGoto_ret]
    go_ret2
    exact ⟨_, _, rfl, HM2.out.below hb, hO.mono (by simp), ((Below.refl _ w).alloc (Nat.le_refl _) _).trans (hb.mono (by simp))⟩

/-- Whatever the lengths: what is told of a list of the caller's own, divided by a monic one. -/
theorem qdown_any (k B T base n c m mb cb : Nat) (q qb : Option Addr) (ls bs rs : List Nat) (p1 p2 : Pol) (hmb : mb = m + 1) (hn : n ≤ 1000000000) (hm : m ≤ 1000000000) (hcb : mb ≤ cb) (hM : Mon m (ofL bs)) (hrs : IsN rs p2) (h1 : Pol.Fin p1) (h2 : Pol.Bd m p2)
    (he : ofL ls = Pol.add (Pol.mul p1 (ofL bs)) p2) (w : World) (hF : Fd k B T w) (hO : Ow w base (.slice q n c) ls) (hl : ls.length = n) (hls : Byt ls) (hB : Bs w qb mb bs) (hT : Off T mb qb) (hg : ∀ g, (Value.slice q n c).ownBlock = some g → Off g mb qb) (hBb : B < base) (hTb : T < base) :
    Calls Tryz.prog 61 #[.pointer (some ⟨B, 0, none⟩), .slice q n c, .slice qb mb cb] w fun r w' => ∃ ts v1 v2, r = .returned (.tuple #[v1, v2]) ∧ Ow w' w.heap.size v1 ts ∧ Byt ts ∧ ts.length ≤ n ∧ ofL ts = p1 ∧ Ow w' w.heap.size v2 rs ∧ Fd k B T w' ∧ But (fun x => x = T ∨ base ≤ x) w w' := by
  by_cases hmn : m < n
  · rcases hO.shape with ⟨_, h0⟩ | ⟨g, cap, e, hbg, _, hcap, _⟩
    · rw [h0] at hl; simp at hl; omega
    · rw [hl] at e hcap
      cases e
      refine (qdown_calls k B T g n c m mb cb qb ls bs rs p1 p2 hmb hmn hn hcb hM hrs h1 h2 he w hF (hO.mono (Nat.zero_le _)) hl hls hcap hB hT (hg g rfl) (by omega) (by omega)).mono ?_
      rintro r w' ⟨ts, v1, v2, rfl, a1, a2, a3, a4, a5, a6, a7⟩
      exact ⟨ts, v1, v2, rfl, a1, a2, a3, a4, a5, a6, a7.mono (fun x hx => hx.elim .inl (fun e => .inr (by omega)))⟩
  · obtain ⟨q2, c2, e2, hS, hc, -⟩ := hO.tell (n := n) hls hl
    cases e2
    have hun := Pol.div_unique (a := Pol.zero) Pol.Fin.zero h1 hM.dg (by have := (Pol.ofL_bd ls); rw [hl] at this; exact this.mono_le (by omega)) h2 (by rw [Pol.zero_mul, Pol.zero_add]; exact he)
    refine (qdown_short n c m mb cb _ q qb ls rs hmb (by omega) hm hcb (hun.2 ▸ hrs) w hS hc).mono ?_
    rintro r w' ⟨v1, v2, rfl, a1, a2, hb⟩
    exact ⟨[], v1, v2, rfl, a1, Pol.byt_nil, by simp, by rw [Pol.ofL_nil]; exact hun.1, a2, hF.below hb, But.of_below hb⟩

set_option maxRecDepth 100000 in
set_option maxHeartbeats 2000000 in
theorem qdiv_calls (k B T n c m d e : Nat) (q p : Option Addr) (xs ys zs rs : List Nat) (P1 P2 : Pol) (hd : Dg (e + 1) (ofL ys)) (ha : IsN zs P1) (hr : IsN rs P2) (h2 : Pol.Bd e P2) (he : ofL xs = Pol.add (Pol.mul P1 (ofL ys)) P2)
    (hn : n ≤ 1000000000) (hm : m ≤ 1000000000) (hnc : n ≤ c) (hmd : m ≤ d) (w : World) (h : Fd k B T w) (hx : Bs w q n xs) (hy : Bs w p m ys) (hq : Off T n q) (hp : Off T m p) :
    Calls Tryz.prog 54 #[.pointer (some ⟨B, 0, none⟩), .slice q n c, .slice p m d] w fun r w' => ∃ v1 v2, r = .returned (.tuple #[v1, v2, .bool true]) ∧ Ow w' w.heap.size v1 zs ∧ Ow w' w.heap.size v2 rs ∧ Fd k B T w' ∧ But (· = T) w w' := by
  obtain ⟨i, hi⟩ : ∃ i, Gf.inv (ys.getD e 0) = i := ⟨_, rfl⟩
  have hi8 : i < 256 := hi ▸ Gf.inv_lt _ (hy.byte e)
  have hiG : GF.of i = GF.inv (ofL ys e) := by rw [← hi]; exact of_inv_top hy.byt e
  have hl0 : ofL ys e ≠ 0 := hd.top (by omega)
  have K1 := qtop_calls k B T m d e i p ys hd hi w h hy
  obtain ⟨ls, hls, hll⟩ := Pol.isN_norm xs
  rw [hx.len] at hll
  have hbs := Pol.isN_of_dg (hd.smul (GF.of i) (by rw [hiG]; exact GF.inv_ne_zero hl0))
  obtain ⟨bs, hbse⟩ : ∃ bs, Pol.toL (e + 1) (Pol.smul (GF.of i) (ofL ys)) = bs := ⟨_, rfl⟩
  rw [hbse] at hbs
  have hbl : bs.length = e + 1 := by rw [← hbse, Pol.toL_length]
  have hem : e + 1 ≤ m := by have := hd.le (Pol.ofL_bd ys); rwa [hy.len] at this
  have hM : Mon e (ofL bs) := by rw [hbs.eq, hiG]; exact hd.monic
  have hed : ofL ls = Pol.add (Pol.mul (Pol.smul (ofL ys e) P1) (ofL bs)) P2 := by
    rw [hls.eq, hbs.eq, he, hiG, Pol.smul_mul, Pol.mul_smul, Pol.smul_smul, GF.mul_inv _ hl0, Pol.one_smul]
  have hfin : Pol.Fin (Pol.smul (ofL ys e) P1) := (ha.dg.fin).smul _
  have has : IsN zs (Pol.smul (GF.of i) (Pol.smul (ofL ys e) P1)) := by rw [Pol.smul_smul, hiG, GF.inv_mul _ hl0, Pol.one_smul]; exact ha
  obtain ⟨nl, hnl⟩ : ∃ nl, ls.length = nl := ⟨_, rfl⟩
  obtain ⟨mb, hmb⟩ : ∃ mb, mb = e + 1 := ⟨_, rfl⟩
  obtain ⟨p1, hp1⟩ : ∃ p1, Pol.smul (ofL ys e) P1 = p1 := ⟨_, rfl⟩
  rw [hp1] at hed hfin has
  have HL : Hid (Bs w q n xs ∧ Bs w p m ys ∧ Off T n q ∧ Off T m p ∧ IsN ls (ofL xs) ∧ IsN bs (Pol.smul (GF.of i) (ofL ys)) ∧ B < w.heap.size ∧ T < w.heap.size ∧ n ≤ 1000000000 ∧ m ≤ 1000000000 ∧ n ≤ c ∧ m ≤ d ∧ i < 256 ∧ ls.length = nl ∧ bs.length = mb ∧ nl ≤ n) := ⟨hx, hy, hq, hp, hls, hbs, h.blt, h.lt, hn, hm, hnc, hmd, hi8, hnl, by rw [hbl, hmb], by omega⟩
  have K2 : Hid (∀ W base q2 c2 q3 c3, Fd k B T W → Ow W base (.slice q2 nl c2) ls → Bs W q3 mb bs → mb ≤ c3 → Off T mb q3 → (∀ g, (Value.slice q2 nl c2).ownBlock = some g → Off g mb q3) → B < base → T < base →
      Calls Tryz.prog 61 #[.pointer (some ⟨B, 0, none⟩), .slice q2 nl c2, .slice q3 mb c3] W fun r w' => ∃ ts v1 v2, r = .returned (.tuple #[v1, v2]) ∧ Ow w' W.heap.size v1 ts ∧ Byt ts ∧ ts.length ≤ nl ∧ ofL ts = p1 ∧ Ow w' W.heap.size v2 rs ∧ Fd k B T w' ∧ But (fun x => x = T ∨ base ≤ x) W w') :=
    fun W base q2 c2 q3 c3 a1 a2 a3 a4 a5 a6 a7 a8 => qdown_any k B T base nl c2 e mb c3 q2 q3 ls bs rs p1 P2 hmb (by omega) (by omega) a4 hM hr hfin h2 hed W a1 a2 hnl hls.byt a3 a5 a6 a7 a8
  have HA : Hid (IsN zs (Pol.smul (GF.of i) p1)) := has
  clear h hx hy hq hp hd ha hr h2 he hi hi8 hiG hl0 hls hll hbs hbse hbl hem hM hed hfin has hnl hmb hp1 hn hm hnc hmd
  go_enter Tryz.func54, Tryz.ntmps54
  go_wp2_with fail
  refine K1.mono ?_
  rintro r w1 ⟨rfl, hF1, hb1⟩
  clear K1
  go_wp2_with fail
  refine (pnorm_calls q n c xs ls HL.out.2.2.2.2.1 HL.out.2.2.2.2.2.2.2.2.1 HL.out.2.2.2.2.2.2.2.2.2.2.1 w1 (HL.out.1.but hb1 HL.out.2.2.1)).mono ?_
  rintro r w2 ⟨v2, rfl, hO2, hb2⟩
  obtain ⟨q2, c2, rfl, hS2, hC2, hoff2⟩ := hO2.tell HL.out.2.2.2.2.1.byt HL.out.2.2.2.2.2.2.2.2.2.2.2.2.2.1
  have hF2 := hF1.below hb2
  have hB2 : But (· = T) w w2 := hb1.trans (But.of_below hb2)
  have hO2' := hO2.mono hb1.size
  have hlt2 := fun g hg => (hO2.lt g hg).2
  have H2 : Hid (Ow w2 w.heap.size (.slice q2 nl c2) ls ∧ Fd k B T w2 ∧ But (· = T) w w2 ∧ (∀ g, (Value.slice q2 nl c2).ownBlock = some g → g < w2.heap.size)) := ⟨hO2', hF2, hB2, hlt2⟩
  clear hF1 hb1 hO2 hb2 hS2 hC2 hoff2 hF2 hB2 hO2' hlt2
  go_wp2_with fail
  refine (pscale_calls k B T i m d p ys bs HL.out.2.2.2.2.2.2.2.2.2.2.2.2.1 HL.out.2.2.2.2.2.1 HL.out.2.2.2.2.2.2.2.2.2.1 HL.out.2.2.2.2.2.2.2.2.2.2.2.1 w2 H2.out.2.1 (HL.out.2.1.but H2.out.2.2.1 HL.out.2.2.2.1) HL.out.2.2.2.1).mono ?_
  rintro r w3 ⟨v3, rfl, hO3, hF3, hb3⟩
  obtain ⟨q3, c3, rfl, hS3, hC3, hoff3⟩ := hO3.tell HL.out.2.2.2.2.2.1.byt HL.out.2.2.2.2.2.2.2.2.2.2.2.2.2.2.1
  have hT2 : T < w2.heap.size := H2.out.2.1.lt
  have K3 := K2.out w3 w.heap.size q2 c2 q3 c3 hF3 (H2.out.1.but hb3 (by intro x hx e; have := HL.out.2.2.2.2.2.2.2.1; omega)) hS3 hC3 (hoff3 T hT2) (fun g hg => hoff3 g (H2.out.2.2.2 g hg)) HL.out.2.2.2.2.2.2.1 HL.out.2.2.2.2.2.2.2.1
  have H3 : Hid (But (· = T) w w3) := H2.out.2.2.1.trans hb3
  clear hO3 hF3 hb3 hS3 hC3 hoff3 hT2 H2 K2
  go_wp2_with fail
  refine K3.mono ?_
  rintro r w4 ⟨ts, v4, v5, rfl, hO4, hts, hlt, hte, hO5, hF4, hb4⟩
  clear K3
  have hsz : w.heap.size ≤ w3.heap.size := H3.out.size
  have hB4 : But (· = T) w w4 := H3.out.pastq hb4 (fun i h => h.elim .inr .inl)
  obtain ⟨nt, hnt⟩ : ∃ nt, ts.length = nt := ⟨_, rfl⟩
  obtain ⟨q4, c4, rfl, hS4, hC4, hoff4⟩ := hO4.tell hts hnt
  have K4 := pscale_calls k B T i nt c4 q4 ts zs HL.out.2.2.2.2.2.2.2.2.2.2.2.2.1 (hte ▸ HA.out) (by have := HL.out; omega) hC4 w4 hF4 hS4 (hoff4 T (by have := HL.out; omega))
  have H4 : Hid (Ow w4 w.heap.size v5 rs ∧ But (· = T) w w4) := ⟨hO5.mono hsz, hB4⟩
  have hTw : T < w.heap.size := HL.out.2.2.2.2.2.2.2.1
  clear hO4 hts hlt hte hO5 hF4 hb4 hB4 hS4 hC4 hoff4 HL HA H3 hsz
  go_wp2_with fail
  refine K4.mono ?_
  rintro r w5 ⟨v6, rfl, hO6, hF6, hb6⟩
  clear K4
  go_wp2
  go_ret3
  exact ⟨_, _, rfl, hO6.mono H4.out.2.size, H4.out.1.but hb6 (by omega), hF6, H4.out.2.trans hb6⟩
end Go.Proofs
/- The walks of quot.Div by nothing or without a field, of Mod and of Exact. Conditions: as Div's. -/
namespace Go.Proofs
open Go.RowKit Go.ChangeShapes Go.WideShapes
open Pol (IsN Dg ofL Byt Mon)

set_option maxRecDepth 100000 in
set_option maxHeartbeats 1000000 in
theorem qdiv_zero (k B T n c m d : Nat) (q p : Option Addr) (ys : List Nat) (hd : Dg 0 (ofL ys)) (w : World) (h : Fd k B T w) (hy : Bs w p m ys) :
    Calls Tryz.prog 54 #[.pointer (some ⟨B, 0, none⟩), .slice q n c, .slice p m d] w fun r w' => r = .returned (.tuple #[.slice none 0 0, .slice none 0 0, .bool false]) ∧ Fd k B T w' ∧ But (· = T) w w' := by
  have K1 := qtop_zero k B T m d p ys hd w h hy
  clear hy hd h
  go_enter Tryz.func54, Tryz.ntmps54
  go_wp2_with (go_at_call 34; refine K1.mono ?_; rintro r w1 ⟨rfl, hF, hb⟩)
  go_ret3
  exact ⟨rfl, hF, hb⟩
end Go.Proofs
/- The walk of quot.Gcd. Conditions: lists of at most a thousand million bytes, no longer than their capacities; a field that Of has made, or none. -/
namespace Go.Proofs
open Go.RowKit Go.ChangeShapes Go.WideShapes
open Pol (IsN Dg ofL Byt Mon)

namespace Pol
theorem IsGcd.back {g p q a r : Pol} (ha : Fin a) (e : p = add (mul a q) r) (h : IsGcd g p q) : IsGcd g q r := ⟨h.right, (dvd_rest ha e h.right).1 h.left, fun c hc h1 h2 => h.all c hc ((dvd_rest ha e h1).2 h2) h1⟩
theorem monic_of_gcd {d e : Nat} {g u : Pol} (hg : Mon e g) (hu : Dg (d + 1) u) (h : IsGcd g u zero) : smul (GF.inv (u d)) u = g :=
  IsGcd.unique hu.monic hg ((IsGcd.zero u).smul (GF.inv_ne_zero (hu.top (by omega)))) h
end Pol

end Go.Proofs
/- What Div, Mod, Exact, Monic and Gcd tell of any lists, in one word each. Conditions: as those of the walks. -/
namespace Go.Proofs
open Go.RowKit Go.ChangeShapes Go.WideShapes
open Pol (IsN Dg ofL Byt Mon)

/-- A division: zs times, rs is left; b: there was something to divide by. -/
def IsDiv (xs ys zs rs : List Nat) (b : Bool) : Prop := (b = false ∧ Dg 0 (ofL ys) ∧ zs = [] ∧ rs = []) ∨ (b = true ∧ ∃ e P1 P2, Dg (e + 1) (ofL ys) ∧ IsN zs P1 ∧ IsN rs P2 ∧ Pol.Bd e P2 ∧ ofL xs = Pol.add (Pol.mul P1 (ofL ys)) P2)
theorem IsDiv.byt {xs ys zs rs : List Nat} {b : Bool} (h : IsDiv xs ys zs rs b) : Byt zs ∧ Byt rs := by
  rcases h with ⟨_, _, rfl, rfl⟩ | ⟨_, e, P1, P2, _, h1, h2, _⟩
  · exact ⟨Pol.byt_nil, Pol.byt_nil⟩
  · exact ⟨h1.byt, h2.byt⟩
theorem isDiv_exists (xs ys : List Nat) : ∃ zs rs b, IsDiv xs ys zs rs b ∧ zs.length ≤ xs.length ∧ rs.length ≤ ys.length := by
  obtain ⟨d, hd, hg⟩ := Pol.dg_list ys
  cases d with
  | zero => exact ⟨[], [], false, .inl ⟨rfl, hg, rfl, rfl⟩, by simp, by simp⟩
  | succ e =>
    obtain ⟨P1, P2, h1, h2, he⟩ := Pol.div_exists hg xs.length (ofL xs) (Pol.ofL_bd xs)
    obtain ⟨zs, hz, bz⟩ := Pol.isN_of_bd h1
    obtain ⟨rs, hr, br⟩ := Pol.isN_of_bd h2
    exact ⟨zs, rs, true, .inr ⟨rfl, e, P1, P2, hg, hz, hr, h2, he⟩, bz, by omega⟩
/-- A division without a rest: zs times; b: there is none. -/
def IsEx (xs ys zs : List Nat) (b : Bool) : Prop := (b = true ∧ ∃ e P1, Dg (e + 1) (ofL ys) ∧ IsN zs P1 ∧ ofL xs = Pol.mul P1 (ofL ys)) ∨ (b = false ∧ zs = [] ∧ Dg 0 (ofL ys)) ∨ (b = false ∧ zs = [] ∧ ∃ e P1 P2 l1 l2, Dg (e + 1) (ofL ys) ∧ IsN l1 P1 ∧ IsN l2 P2 ∧ P2 ≠ Pol.zero ∧ Pol.Bd e P2 ∧ ofL xs = Pol.add (Pol.mul P1 (ofL ys)) P2)
theorem IsEx.byt {xs ys zs : List Nat} {b : Bool} (h : IsEx xs ys zs b) : Byt zs := by
  rcases h with ⟨_, e, P1, _, h1, _⟩ | ⟨_, rfl, _⟩ | ⟨_, rfl, _⟩
  · exact h1.byt
  · exact Pol.byt_nil
  · exact Pol.byt_nil
/-- Made monic. -/
def IsMo (xs zs : List Nat) : Prop := (Dg 0 (ofL xs) ∧ zs = []) ∨ ∃ e, Dg (e + 1) (ofL xs) ∧ IsN zs (Pol.smul (GF.inv (ofL xs e)) (ofL xs))
theorem IsMo.byt {xs zs : List Nat} (h : IsMo xs zs) : Byt zs := by
  rcases h with ⟨_, rfl⟩ | ⟨_, _, h⟩
  · exact Pol.byt_nil
  · exact h.byt
/-- The greatest that divides both. -/
def IsGc (xs ys zs : List Nat) : Prop := (Dg 0 (ofL xs) ∧ Dg 0 (ofL ys) ∧ zs = []) ∨ ∃ e g, IsN zs g ∧ Mon e g ∧ Pol.IsGcd g (ofL xs) (ofL ys) ∧ (ofL xs ≠ Pol.zero ∨ ofL ys ≠ Pol.zero)
theorem IsGc.byt {xs ys zs : List Nat} (h : IsGc xs ys zs) : Byt zs := by
  rcases h with ⟨_, _, rfl⟩ | ⟨_, _, h, _⟩
  · exact Pol.byt_nil
  · exact h.byt
theorem qdiv_u (k B T n c m d : Nat) (q p : Option Addr) (xs ys zs rs : List Nat) (b : Bool) (hD : IsDiv xs ys zs rs b) (hn : n ≤ 1000000000) (hm : m ≤ 1000000000) (hnc : n ≤ c) (hmd : m ≤ d) (w : World) (h : Fd k B T w) (hx : Bs w q n xs) (hy : Bs w p m ys) (hq : Off T n q) (hp : Off T m p) :
    Calls Tryz.prog 54 #[.pointer (some ⟨B, 0, none⟩), .slice q n c, .slice p m d] w fun r w' => ∃ v1 v2, r = .returned (.tuple #[v1, v2, .bool b]) ∧ Ow w' w.heap.size v1 zs ∧ Ow w' w.heap.size v2 rs ∧ Fd k B T w' ∧ But (· = T) w w' := by
  rcases hD with ⟨rfl, hd, rfl, rfl⟩ | ⟨rfl, e, P1, P2, hd, h1, h2, h3, he⟩
  · refine (qdiv_zero k B T n c m d q p ys hd w h hy).mono ?_
    rintro r w' ⟨rfl, hF, hb⟩
    exact ⟨_, _, rfl, ow_nil _ _, ow_nil _ _, hF, hb⟩
  · exact qdiv_calls k B T n c m d e q p xs ys zs rs P1 P2 hd h1 h2 h3 he hn hm hnc hmd w h hx hy hq hp
end Go.Proofs
