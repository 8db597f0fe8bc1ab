/- The walk of quot.bringDown. Conditions: lists of at most a thousand million bytes; what is divided by is monic; what is divided was made by the caller and lies in no block of the field's or of the other list. -/
import Derived.Test.YtphhehppcfddgaaGreatPNorm
import Derived.Test.YtphhehppcfddgaaGreatQMath
import Derived.Test.YtphhehppcfddgaaGreatTold
namespace Go.Proofs
open Go.RowKit Go.ChangeShapes Go.WideShapes
open Pol (IsN Dg ofL Byt Mon)

def slen : Value → Nat
  | .slice _ n _ => n
  | _ => 0
theorem Bs.butS {S : Nat → Prop} {W W' : World} {q : Option Addr} {n : Nat} {xs : List Nat} (h : Bs W q n xs) (hb : But S W W') (hs : 0 < n → ∀ a, q = some a → ¬ S a.block) : Bs W' q n xs :=
  ⟨h.len, h.max, fun i hi => by
    obtain ⟨a, e, hl, hc⟩ := h.cell i hi
    exact ⟨a, e, Nat.lt_of_lt_of_le hl hb.size, (hb.cell (p := a.add i) (by rw [block_add]; exact hl) (by rw [block_add]; exact hs (by omega) a e)).trans hc⟩, h.byte⟩
theorem Ow.butq {S : Nat → Prop} {W W' : World} {base g n c : Nat} {xs : List Nat} (h : Ow W base (.slice (some ⟨g, 0, none⟩) n c) xs) (hb : But S W W') (hs : ¬ S g) : Ow W' base (.slice (some ⟨g, 0, none⟩) n c) xs :=
  h.block fun k hk => hb.block k (h.lt k hk).2 (by cases hk; exact hs)
/-- Between the rounds. -/
structure QI (k B T g n c m G : Nat) (qb : Option Addr) (low : List Nat) (P p : Pol) (w : World) (L : Nat) (s ts : List Nat) (W : World) : Prop where
  byt : Byt s
  len : s.length = L
  bt : Byt ts
  lt : ts.length = n - m
  zero : ∀ j, j + m < L → ts.getD j 0 = 0
  eq : Pol.add (Pol.mul (ofL ts) P) (ofL s) = p
  os : Ow W 0 (.slice (some ⟨g, 0, none⟩) L c) s
  ot : Ow W G (.slice (some ⟨G, 0, none⟩) (n - m) (n - m)) ts
  fd : Fd k B T W
  bs : Bs W qb m low
  but : But (fun x => x = T ∨ x = g) w W
/-- Within a round. -/
structure QJ (k B T g n c m G at' L : Nat) (qb qe : Option Addr) (low es s0 ts : List Nat) (w : World) (i : Nat) (s : List Nat) (W : World) : Prop where
  byt : Byt s
  len : s.length = L
  eq : ofL s = Pol.add (ofL s0) (Pol.up at' (Pol.cut i (ofL es)))
  os : Ow W 0 (.slice (some ⟨g, 0, none⟩) L c) s
  ot : Ow W G (.slice (some ⟨G, 0, none⟩) (n - m) (n - m)) ts
  oe : Bs W qe m es
  fd : Fd k B T W
  bs : Bs W qb m low
  but : But (fun x => x = T ∨ x = g) w W

set_option maxRecDepth 100000 in
set_option maxHeartbeats 2000000 in
theorem qdown_calls (k B T g n c m mb cb : Nat) (qb : Option Addr) (ls bs rs : List Nat) (p1 p2 : Pol) (hmb : mb = m + 1) (hmn : m < n) (hn : n ≤ 1000000000) (hcb : mb ≤ cb) (hM : Mon m (ofL bs)) (hrs : IsN rs p2) (h1 : Pol.Fin p1) (h2 : Pol.Bd m p2)
    (he : ofL ls = Pol.add (Pol.mul p1 (ofL bs)) p2) (w : World) (hF : Fd k B T w) (hO : Ow w 0 (.slice (some ⟨g, 0, none⟩) n c) ls) (hl : ls.length = n) (hls : Byt ls) (hnc : n ≤ c) (hB : Bs w qb mb bs) (hT : Off T mb qb) (hg : Off g mb qb) (hgB : ¬ B = g) (hgT : ¬ T = g) :
    Calls Tryz.prog 22 #[.pointer (some ⟨B, 0, none⟩), .slice (some ⟨g, 0, none⟩) n c, .slice qb mb cb] w fun r w' => ∃ ts v1 v2, r = .returned (.tuple #[v1, v2]) ∧ Ow w' w.heap.size v1 ts ∧ Byt ts ∧ ts.length ≤ n ∧ ofL ts = p1 ∧ Ow w' w.heap.size v2 rs ∧ Fd k B T w' ∧ But (fun x => x = T ∨ x = g) w w' := by
  obtain ⟨low, hlow⟩ : ∃ low, bs.take m = low := ⟨_, rfl⟩
  have hlowl : low.length = m := by rw [← hlow, List.length_take, hB.len]; omega
  have hlb : Bs w qb m low := hlow ▸ bs_take hB m (by omega)
  obtain ⟨P, hP⟩ : ∃ P, ofL bs = P := ⟨_, rfl⟩
  have hPe : P = Pol.add (Pol.mono m 1) (ofL low) := by rw [← hP, ← hlow]; exact mon_front (by rw [hB.len, hmb]) hM
  have hPd : Dg (m + 1) P := hP ▸ hM.dg
  rw [hP] at he
  obtain ⟨p, hp⟩ : ∃ p, ofL ls = p := ⟨_, rfl⟩
  have hOff : Off T m qb ∧ Off g m qb := ⟨hT.le (by omega), hg.le (by omega)⟩
  have hTl := hF.lt
  have hBl := hF.blt
  have hgl : g < w.heap.size := (hO.lt g rfl).2
  obtain ⟨G, hG⟩ : ∃ G, w.heap.size = G := ⟨_, rfl⟩
  obtain ⟨t, ht⟩ : ∃ t, n - m = t := ⟨_, rfl⟩
  have hmk := make_bytes t (by omega)
  have HA : Hid (P = Pol.add (Pol.mono m 1) (ofL low) ∧ low.length = m ∧ Off T m qb ∧ Off g m qb ∧ Dg (m + 1) P ∧ IsN rs p2 ∧ Pol.Fin p1 ∧ Pol.Bd m p2 ∧ p = Pol.add (Pol.mul p1 P) p2) := ⟨hPe, hlowl, hOff.1, hOff.2, hPd, hrs, h1, h2, hp ▸ he⟩
  have HC : Hid (Off G m qb ∧ m ≤ cb) := ⟨hlb.off (by omega), by omega⟩
  have HI : Hid (QI k B T g n c m G qb low P p w n ls (List.replicate t 0) (w.alloc (.cells (madeCells #[.int .u8 0] t) 5))) := by
    refine ⟨hls, hl, Pol.byt_rep _, by rw [List.length_replicate, ht], fun j _ => Pol.getD_rep _ _, ?_, hO.alloc _, ?_, hF.alloc _, hlb.alloc _, (But.refl _ w).alloc _⟩
    · rw [Pol.ofL_rep, Pol.zero_mul, Pol.zero_add]; exact hp
    · rw [ht, ← hG]; exact ow_made w (Nat.le_refl _) t (by omega)
  have HG : Hid (w.heap.size = G ∧ T < G ∧ B < G ∧ g < G ∧ ¬ B = g ∧ ¬ T = g ∧ n - m = t) := ⟨hG, hG ▸ hTl, hG ▸ hBl, hG ▸ hgl, hgB, hgT, ht⟩
  have e1 : (mb : Int) - 1 = (m : Int) := by omega
  have e2 : (n : Int) - (m : Int) = (t : Int) := by omega
  have e3 : (0 : Int) < (t : Int) := by omega
  have b1 : (m : Int) ≤ 1000000000 := by omega
  have b2 : (n : Int) ≤ 1000000000 := by omega
  have b3 : (m : Int) ≤ (cb : Int) := by omega
  have b4 : (mb : Int) ≤ 1000000001 := by omega
  clear hM hrs h1 h2 he hF hO hl hls hB hT hg hgB hgT hlow hlowl hlb hP hPe hPd hp hOff hTl hBl hgl ht hcb hmb
  go_enter Tryz.func22, Tryz.ntmps22
  go_wp2
  go_step3
  go_wp2
  go_step3
  go_wp2
  clear hmk e1 e2 e3 b4 b3
  go_loopw [1] (fun v wr => ∃ (L : Nat) (s ts : List Nat), m ≤ L ∧ L ≤ n ∧ v = .slice (some ⟨g, 0, none⟩) L c ∧ QI k B T g n c m G qb low P p w L s ts wr) (fun v _ => slen v)
  case atStart => exact ⟨n, ls, _, by omega, by omega, rfl, HI.out⟩
  case round =>
    obtain ⟨L, s, ts, hL1, hL2, rfl, hq⟩ := hrel
    clear HI
    by_cases hLm : L = m
    · subst hLm
      have HQ : Hid (QI k B T g n c L G qb low P p w L s ts wr) := hq
      have hx : (L : Int) - 1 - (L : Int) = -1 := by omega
      obtain ⟨q2, c2, e2, S2, C2, -⟩ := hq.os.tell (n := L) hq.byt hq.len
      cases e2
      have hun := Pol.div_unique (Pol.Fin.ofL ts) HA.out.2.2.2.2.2.2.1 HA.out.2.2.2.2.1 (by have := Pol.ofL_bd s; rwa [hq.len] at this) HA.out.2.2.2.2.2.2.2.1 (hq.eq.trans HA.out.2.2.2.2.2.2.2.2)
      have K := pnorm_calls _ L c s rs (hun.2 ▸ HA.out.2.2.2.2.2.1) (by omega) (by omega) wr S2
      have HU : Hid (ofL ts = p1) := hun.1
      clear hq S2 hun
      go_wp2_with (go_at_call 23; refine K.mono ?_; rintro e w1 ⟨v, rfl, hO, hb⟩)
      rw [Exit.noGoto_ret]
      go_ret2
      have hsz : w.heap.size ≤ wr.heap.size := HQ.out.but.size
      refine ⟨ts, _, _, rfl, ?_, HQ.out.bt, by rw [HQ.out.lt]; omega, HU.out, hO.mono hsz, HQ.out.fd.below hb, HQ.out.but.trans (But.of_below hb)⟩
      rw [hG, ← HG.out.2.2.2.2.2.2]
      exact HQ.out.ot.below hb
    · obtain ⟨at', hat⟩ : ∃ at', L = at' + m + 1 := ⟨L - m - 1, by omega⟩
      obtain ⟨top, htop⟩ : ∃ top, at' + m = top := ⟨_, rfl⟩
      have x1 : (L : Int) - 1 = (top : Int) := by omega
      have x2 : (top : Int) - (m : Int) = (at' : Int) := by omega
      have x3 : (top : Int) < (L : Int) := by omega
      have x4 : (at' : Int) < (t : Int) := by have := HG.out.2.2.2.2.2.2; omega
      have x5 : (L : Int) ≤ 1000000000 := by omega
      have x6 : (top : Int) ≤ (c : Int) := by omega
      have htl : top < L := by omega
      obtain ⟨hc, hf⟩ := hq.os.at hq.len.symm top htl
      obtain ⟨a, ha⟩ : ∃ a, s.getD top 0 = a := ⟨_, rfl⟩
      have ha8 : a < 256 := ha ▸ hq.byt top
      have HQ : Hid (QI k B T g n c m G qb low P p w L s ts wr) := hq
      have HN : Hid (L = at' + m + 1 ∧ at' + m = top ∧ s.getD top 0 = a) := ⟨hat, htop, ha⟩
      rw [ha] at hc
      clear hq hat htop ha htl
      by_cases ha0 : a = 0
      · subst ha0
        clear hf
        go_wp2
        go_roundw
        case rel =>
          have hL := HN.out.1
          have ht := HN.out.2.1
          have hq := HQ.out
          have hl : s.length = top + 1 := by rw [hq.len]; omega
          refine ⟨top, s.take top, ts, by omega, by omega, rfl, Pol.byt_take hq.byt _, by rw [List.length_take, hl]; omega, hq.bt, hq.lt, fun j hj => hq.zero j (by omega), by rw [bring_zero hl HN.out.2.2]; exact hq.eq, hq.os.front rfl (by omega), hq.ot, hq.fd, hq.bs, hq.but⟩
        case measure => show top < L; have := HN.out; omega
      · have ha1 : ((a : Int) != 0) = true := by simpa using ha0
        obtain ⟨hc2, hf2⟩ := HQ.out.ot.at HQ.out.lt.symm at' (by have := HG.out.2.2.2.2.2.2; omega)
        have g1 : ¬ G = g := by have := HG.out.2.2.2.1; omega
        have g2 : ¬ g = G := fun e => g1 e.symm
        clear hf ha0
        go_wp2_with fail
        have hbG : But (fun x => x = G) wr (wr.setCell ⟨G, at', none⟩ (.int .u8 (a : Nat))) := (But.refl (fun x => x = G) wr).setCell (p := ⟨G, at', none⟩) (.inl rfl) _
        have hF1 := HQ.out.fd.but hbG (by have := HG.out; omega) (by have := HG.out; omega)
        have hB1 := HQ.out.bs.butS hbG HC.out.1
        have ho1 := HQ.out.os.butq hbG g2
        have ht1 := HQ.out.ot.set HQ.out.lt.symm at' a
        have hb1 : But (fun x => x = T ∨ x = g) w (wr.setCell ⟨G, at', none⟩ (.int .u8 (a : Nat))) := HQ.out.but.setCell (p := ⟨G, at', none⟩) (.inr (by show w.heap.size ≤ G; omega)) _
        refine (feach_calls k B T a m cb qb low ha8 (by omega) HC.out.2 _ hF1 hB1 HA.out.2.2.1).mono ?_
        rintro e w1 ⟨v, rfl, hOe, hF2, hb2⟩
        have hes := map_byte a low ha8
        have hel : (low.map (Gf.mul a)).length = m := by rw [List.length_map]; exact HA.out.2.1
        have hee : ofL (low.map (Gf.mul a)) = Pol.smul (GF.of a) (ofL low) := Pol.ofL_map a ha8 HQ.out.bs.byt
        obtain ⟨es, hese⟩ : ∃ es, low.map (Gf.mul a) = es := ⟨_, rfl⟩
        rw [hese] at hes hel hee hOe
        obtain ⟨qe, ce, rfl, hSe, -, hoff⟩ := hOe.tell (n := m) hes hel
        have hsz : wr.heap.size ≤ (wr.setCell ⟨G, at', none⟩ (.int .u8 (a : Nat))).heap.size := hbG.size
        have hwG : w.heap.size ≤ wr.heap.size := HQ.out.but.size
        have HJ : Hid (QJ k B T g n c m G at' L qb qe low es s (ts.set at' a) w 0 s w1) :=
          ⟨HQ.out.byt, HQ.out.len, by rw [up_cut_zero, Pol.add_zero], ho1.butq hb2 (by have := HG.out; omega), ht1.butq hb2 (by have := HG.out; omega), hSe, hF2, hB1.but hb2 HA.out.2.2.1, hb1.trans (hb2.mono (fun _ h => .inl h))⟩
        have HE : Hid (Byt es ∧ es.length = m ∧ ofL es = Pol.smul (GF.of a) (ofL low) ∧ Off g m qe ∧ Off T m qe) := ⟨hes, hel, hee, hoff g (by have := HG.out; omega), hoff T (by have := HG.out; omega)⟩
        clear hbG hF1 hB1 ho1 ht1 hb1 hOe hF2 hb2 hes hel hee hese hSe hoff hsz hwG hc hc2 hf2 ha1
        go_wp2
        go_loopw [57] (fun ii wx => ∃ (i : Nat) (s' : List Nat), i ≤ m ∧ ii = .int .i64 (i : Int) ∧ QJ k B T g n c m G at' L qb qe low es s (ts.set at' a) w i s' wx) (fun ii _ => m - (intOf ii).toNat)
        case atStart => exact ⟨0, s, by omega, rfl, HJ.out⟩
        case round =>
          clear HJ
          obtain ⟨i, s', hi, rfl, hj⟩ := hrel
          by_cases him : i < m
          · have y1 : (i : Int) < (m : Int) := by omega
            obtain ⟨ae, rfl, _, ce'⟩ := hj.oe.cell i him
            obtain ⟨kk, hkk⟩ : ∃ kk, at' + i = kk := ⟨_, rfl⟩
            have y2 : (at' : Int) + (i : Int) = (kk : Int) := by omega
            have y3 : (kk : Int) < (L : Int) := by have := HN.out; omega
            have hkL : kk < L := by omega
            obtain ⟨hc, hf⟩ := hj.os.at hj.len.symm kk hkL
            have hzb := hj.byt kk
            have heb := HE.out.1 i
            have HSt : Hid (ofL (s'.set kk (s'.getD kk 0 ^^^ es.getD i 0)) = Pol.add (ofL s) (Pol.up at' (Pol.cut (i + 1) (ofL es))) ∧ Byt (s'.set kk (s'.getD kk 0 ^^^ es.getD i 0))) := by
              refine ⟨?_, byt_setq hj.byt (Gf.xor_lt8 hzb heb)⟩
              rw [ofL_addq hj.byt (by rw [hj.len]; exact hkL) heb, hj.eq, up_cut_succ, Pol.add_assoc, hkk]; rfl
            obtain ⟨z, hz⟩ : ∃ z, s'.getD kk 0 = z := ⟨_, rfl⟩
            obtain ⟨x, hx⟩ : ∃ x, es.getD i 0 = x := ⟨_, rfl⟩
            rw [hz] at hc hzb HSt
            rw [hx] at ce' heb HSt
            have hxor := u8_xor_nat z x hzb heb
            have HJ : Hid (QJ k B T g n c m G at' L qb (some ae) low es s (ts.set at' a) w i s' wr) := hj
            clear hj hz hx hkk hkL hzb heb
            go_wp2
            go_roundw
            case rel =>
              have hbg : But (fun x => x = g) wr (wr.setCell ⟨g, kk, none⟩ (.int .u8 ((z ^^^ x : Nat) : Int))) := (But.refl (fun x => x = g) wr).setCell (p := ⟨g, kk, none⟩) (.inl rfl) _
              exact ⟨i + 1, s'.set kk (z ^^^ x), by omega, by go_num, HSt.out.2, by rw [List.length_set]; exact HJ.out.len, HSt.out.1, HJ.out.os.set HJ.out.len.symm kk _, HJ.out.ot.butq hbg g1, HJ.out.oe.butS hbg HE.out.2.2.2.1, HJ.out.fd.but hbg HG.out.2.2.2.2.1 HG.out.2.2.2.2.2.1, HJ.out.bs.butS hbg HA.out.2.2.2.1, HJ.out.but.setCell (p := ⟨g, kk, none⟩) (.inl (.inr rfl)) _⟩
            case measure => simp [intOf]; omega
          · obtain rfl : i = m := by omega
            have HJ : Hid (QJ k B T g n c i G at' L qb qe low es s (ts.set at' a) w i s' wr) := hj
            clear hj
            go_wp2
            go_roundw
            case rel =>
              have hL := HN.out.1
              have ht := HN.out.2.1
              have hsl : s.length = at' + i + 1 := by rw [HQ.out.len]; exact hL
              have hat : at' < ts.length := by rw [HQ.out.lt]; have := HG.out.2.2.2.2.2.2; omega
              have he := HJ.out.eq
              rw [Pol.cut_bd (by have := Pol.ofL_bd es; rwa [HE.out.2.1] at this), HE.out.2.2.1] at he
              have hst := bring_step HA.out.1 HA.out.2.1 hsl (by rw [ht]; exact HN.out.2.2) he hat (HQ.out.zero at' (by omega)) HQ.out.eq
              rw [ht] at hst
              refine ⟨top, s'.take top, ts.set at' a, by omega, by omega, rfl, Pol.byt_take HJ.out.byt _, by rw [List.length_take, HJ.out.len]; omega, byt_setq HQ.out.bt ha8, by rw [List.length_set]; exact HQ.out.lt, fun j hj => ?_, hst, HJ.out.os.front rfl (by omega), HJ.out.ot, HJ.out.fd, HJ.out.bs, HJ.out.but⟩
              rw [getD_setq, if_neg (by omega)]
              exact HQ.out.zero j (by omega)
            case measure => show top < L; have := HN.out; omega
end Go.Proofs
