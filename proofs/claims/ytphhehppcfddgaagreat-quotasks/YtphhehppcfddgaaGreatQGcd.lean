/- The walk of quot.Gcd. Conditions: lists of at most a thousand million bytes, no longer than their capacities; a field that Of has made, or none. -/
import Derived.Test.YtphhehppcfddgaaGreatQMod
import Derived.Deep.LoopGhost
namespace Go.Proofs
open Go.RowKit Go.ChangeShapes Go.WideShapes
open Pol (IsN Dg ofL Byt Mon)

namespace Pol
theorem gcd_exists : ∀ (n : Nat) (p q : Pol), Bd n q → Fin p → (p ≠ zero ∨ q ≠ zero) → ∃ e g, Mon e g ∧ IsGcd g p q
  | n, p, q, hq, hp, h0 => by
    obtain ⟨d, hdn, hd⟩ := dg_of_bd n q hq
    cases d with
    | zero =>
      have e0 := hd.eq_zero
      subst e0
      obtain ⟨d, hd'⟩ := hp.dg
      cases d with
      | zero => exact absurd hd'.eq_zero (h0.elim id (fun h => absurd rfl h))
      | succ d => exact ⟨d, _, hd'.monic, (IsGcd.zero p).smul (GF.inv_ne_zero (hd'.top (by omega)))⟩
    | succ d =>
      obtain ⟨l, hl⟩ := hp
      obtain ⟨a, r, ha, hr, e⟩ := div_exists hd l p hl
      obtain ⟨e', g, h1, h2⟩ := gcd_exists d q r hr hd.fin (.inl hd.ne_zero)
      exact ⟨e', g, h1, h2.step ⟨l, ha⟩ e⟩
  termination_by n => n
theorem IsGcd.back {g p q a r : Pol} (ha : Fin a) (e : p = add (mul a q) r) (h : IsGcd g p q) : IsGcd g q r := ⟨h.right, (dvd_rest ha e h.right).1 h.left, fun c hc h1 h2 => h.all c hc ((dvd_rest ha e h1).2 h2) h1⟩
theorem monic_of_gcd {d e : Nat} {g u : Pol} (hg : Mon e g) (hu : Dg (d + 1) u) (h : IsGcd g u zero) : smul (GF.inv (u d)) u = g :=
  IsGcd.unique hu.monic hg ((IsGcd.zero u).smul (GF.inv_ne_zero (hu.top (by omega)))) h
end Pol

set_option maxRecDepth 100000 in
set_option maxHeartbeats 1000000 in
/-- A step of Euclid's. -/
theorem qstep_calls (k B T n c m d e b0 b1 b2 l : Nat) (q p : Option Addr) (xs ys zs rs : List Nat) (P1 P2 : Pol) (hd : Dg (e + 1) (ofL ys)) (ha : IsN zs P1) (hr : IsN rs P2) (h2 : Pol.Bd e P2) (he : ofL xs = Pol.add (Pol.mul P1 (ofL ys)) P2)
    (hn : n ≤ 1000000000) (hm : m ≤ 1000000000) (hnc : n ≤ c) (hmd : m ≤ d) (w : World) (h : Fd k B T w) (hx : Bs w q n xs) (hy : Bs w p m ys) (hq : Off T n q) (hp : Off T m p)
    (c0 : w.cell? ⟨b0, 0, none⟩ = some (.pointer (some ⟨B, 0, none⟩))) (c1 : w.cell? ⟨b1, 0, none⟩ = some (.slice q n c)) (c2 : w.cell? ⟨b2, 0, none⟩ = some (.slice p m d)) (f1 : w.frozen? ⟨b1, 0, none⟩ = false) (f2 : w.frozen? ⟨b2, 0, none⟩ = false) (n1 : ¬ b1 = T) (n2 : ¬ b2 = T) (n3 : ¬ b1 = b2) (hrl : rs.length = l) :
    Calls Tryz.prog 32 #[.pointer (some ⟨b0, 0, none⟩), .pointer (some ⟨b1, 0, none⟩), .pointer (some ⟨b2, 0, none⟩)] w fun r w' => ∃ q3 d3 W, r = .returned (.bool true) ∧ w' = (W.setCell ⟨b1, 0, none⟩ (.slice p m d)).setCell ⟨b2, 0, none⟩ (.slice q3 l d3) ∧ Ow W w.heap.size (.slice q3 l d3) rs ∧ Fd k B T W ∧ But (· = T) w W := by
  have K1 := qmod_calls k B T n c m d e q p xs ys zs rs P1 P2 hd ha hr h2 he hn hm hnc hmd w h hx hy hq hp
  have l1 := World.block_lt_of_cell? _ _ c1
  have l2 := World.block_lt_of_cell? _ _ c2
  have HN : Hid (¬ b1 = T ∧ ¬ b2 = T ∧ b1 < w.heap.size ∧ b2 < w.heap.size ∧ w.cell? ⟨b1, 0, none⟩ = some (.slice q n c) ∧ w.cell? ⟨b2, 0, none⟩ = some (.slice p m d) ∧ w.frozen? ⟨b1, 0, none⟩ = false ∧ w.frozen? ⟨b2, 0, none⟩ = false ∧ Byt rs ∧ rs.length = l) := ⟨n1, n2, l1, l2, c1, c2, f1, f2, hr.byt, hrl⟩
  have n4 : ¬ b2 = b1 := fun e => n3 e.symm
  clear hd ha hr h2 he hn hm hnc hmd h hx hy hq hp n1 n2 l1 l2 f1 f2 hrl
  go_enter Tryz.func32, Tryz.ntmps32
  go_wp2_with fail
  refine K1.mono ?_
  rintro r w1 ⟨v, rfl, hO, hF, hb⟩
  obtain ⟨q3, d3, rfl, -⟩ := hO.tell (n := l) HN.out.2.2.2.2.2.2.2.2.1 HN.out.2.2.2.2.2.2.2.2.2
  clear K1 c0 c1 c2
  have c1 := (hb.cell (p := ⟨b1, 0, none⟩) HN.out.2.2.1 HN.out.1).trans HN.out.2.2.2.2.1
  have c2 := (hb.cell (p := ⟨b2, 0, none⟩) HN.out.2.2.2.1 HN.out.2.1).trans HN.out.2.2.2.2.2.1
  have f1 := (hb.frozen (p := ⟨b1, 0, none⟩) HN.out.2.2.1 HN.out.1).trans HN.out.2.2.2.2.2.2.1
  have f2 := (hb.frozen (p := ⟨b2, 0, none⟩) HN.out.2.2.2.1 HN.out.2.1).trans HN.out.2.2.2.2.2.2.2.1
  have HW : Hid (Ow w1 w.heap.size (.slice q3 l d3) rs ∧ Fd k B T w1 ∧ But (· = T) w w1) := ⟨hO, hF, hb⟩
  clear hO hF hb
  go_wp2
  go_ret
  exact ⟨q3, d3, w1, rfl, rfl, HW.out⟩
set_option maxRecDepth 100000 in
set_option maxHeartbeats 1000000 in
theorem qstep_zero (k B T n c m d b0 b1 b2 : Nat) (q p : Option Addr) (ys : List Nat) (hd : Dg 0 (ofL ys)) (w : World) (h : Fd k B T w) (hy : Bs w p m ys)
    (c0 : w.cell? ⟨b0, 0, none⟩ = some (.pointer (some ⟨B, 0, none⟩))) (c1 : w.cell? ⟨b1, 0, none⟩ = some (.slice q n c)) (c2 : w.cell? ⟨b2, 0, none⟩ = some (.slice p m d)) :
    Calls Tryz.prog 32 #[.pointer (some ⟨b0, 0, none⟩), .pointer (some ⟨b1, 0, none⟩), .pointer (some ⟨b2, 0, none⟩)] w fun r w' => r = .returned (.bool false) ∧ Fd k B T w' ∧ But (· = T) w w' := by
  have K1 := qmod_zero k B T n c m d q p ys hd w h hy
  clear hd h hy
  go_enter Tryz.func32, Tryz.ntmps32
  go_wp2_with (go_at_call 11; refine K1.mono ?_; rintro r w1 ⟨rfl, hF, hb⟩)
  go_ret
  exact ⟨rfl, hF, hb⟩
set_option maxRecDepth 100000 in
set_option maxHeartbeats 1000000 in
theorem qstep_nil (n c m d b0 b1 b2 : Nat) (q p : Option Addr) (ys : List Nat) (w : World) (hy : Bs w p m ys)
    (c0 : w.cell? ⟨b0, 0, none⟩ = some (.pointer none)) (c1 : w.cell? ⟨b1, 0, none⟩ = some (.slice q n c)) (c2 : w.cell? ⟨b2, 0, none⟩ = some (.slice p m d)) :
    Calls Tryz.prog 32 #[.pointer (some ⟨b0, 0, none⟩), .pointer (some ⟨b1, 0, none⟩), .pointer (some ⟨b2, 0, none⟩)] w fun r w' => r = .returned (.bool false) ∧ Below w.heap.size w w' := by
  have K1 := qmod_nil n c m d q p ys w hy
  clear hy
  go_enter Tryz.func32, Tryz.ntmps32
  go_wp2_with (go_at_call 11; refine K1.mono ?_; rintro r w1 ⟨rfl, hb⟩)
  go_ret
  exact ⟨rfl, hb⟩

/-- Between two steps: i more are to come, at most. -/
structure GI (k B T R : Nat) (g : Pol) (w : World) (i : Nat) (q : Option Addr) (n c : Nat) (p : Option Addr) (m d : Nat) (us vs : List Nat) (W : World) : Prop where
  c0 : W.cell? ⟨R, 0, none⟩ = some (.pointer (some ⟨B, 0, none⟩))
  c1 : W.cell? ⟨R + 1, 0, none⟩ = some (.slice q n c)
  c2 : W.cell? ⟨R + 1 + 1, 0, none⟩ = some (.slice p m d)
  f1 : W.frozen? ⟨R + 1, 0, none⟩ = false
  f2 : W.frozen? ⟨R + 1 + 1, 0, none⟩ = false
  fd : Fd k B T W
  bu : Bs W q n us
  bv : Bs W p m vs
  hn : n ≤ 1000000000
  hm : m ≤ 1000000000
  hnc : n ≤ c
  hmd : m ≤ d
  oq : Off T n q ∧ Off (R + 1) n q ∧ Off (R + 1 + 1) n q
  op : Off T m p ∧ Off (R + 1) m p ∧ Off (R + 1 + 1) m p
  gcd : Pol.IsGcd g (ofL us) (ofL vs)
  ne : ofL us ≠ Pol.zero ∨ ofL vs ≠ Pol.zero
  dg : Dg i (ofL vs)
  but : But (· = T) w W
theorem cell_other {W : World} {a b : Addr} (v : Value) (h : ¬ b.block = a.block) : (W.setCell a v).cell? b = W.cell? b := World.cell?_of_block (w := W) (Below.heap_setCell _ _ _ _ h)
theorem frozen_other {W : World} {a b : Addr} (v : Value) (h : ¬ b.block = a.block) : (W.setCell a v).frozen? b = W.frozen? b := World.frozen?_of_block (w := W) (Below.heap_setCell _ _ _ _ h)

set_option maxRecDepth 100000 in
set_option maxHeartbeats 2000000 in
theorem qgcd_calls (k B T n c m d : Nat) (q p : Option Addr) (xs ys zs : List Nat) (g : Pol) (e : Nat) (hz : IsN zs g) (hM : Mon e g) (hG : Pol.IsGcd g (ofL xs) (ofL ys)) (h0 : ofL xs ≠ Pol.zero ∨ ofL ys ≠ Pol.zero)
    (hn : n ≤ 1000000000) (hm : m ≤ 1000000000) (hnc : n ≤ c) (hmd : m ≤ d) (w : World) (h : Fd k B T w) (hx : Bs w q n xs) (hy : Bs w p m ys) (hq : Off T n q) (hp : Off T m p) :
    Calls Tryz.prog 16 #[.pointer (some ⟨B, 0, none⟩), .slice q n c, .slice p m d] w fun r w' => ∃ v, r = .returned v ∧ Ow w' w.heap.size v zs ∧ Fd k B T w' ∧ But (· = T) w w' := by
  obtain ⟨R, hR⟩ : ∃ R, w.heap.size = R := ⟨_, rfl⟩
  have hTR : T < R := hR ▸ h.lt
  obtain ⟨j, _, hj⟩ := Pol.dg_list ys
  obtain ⟨W0, hW0⟩ : ∃ W0, ((w.alloc (.cells #[.pointer (some ⟨B, 0, none⟩)] 27)).alloc (.cells #[.slice q n c] 22)).alloc (.cells #[.slice p m d] 22) = W0 := ⟨_, rfl⟩
  have HI : Hid (GI k B T R g w j q n c p m d xs ys W0) := by
    have hb : But (· = T) w W0 := by rw [← hW0]; exact (((But.refl _ w).alloc _).alloc _).alloc _
    have hbl : Below w.heap.size w W0 := by rw [← hW0]; exact (((Below.refl _ w).alloc (Nat.le_refl _) _).alloc (by simp) _).alloc (by simp; omega) _
    refine ⟨?_, ?_, ?_, ?_, ?_, h.below hbl, hx.below hbl, hy.below hbl, hn, hm, hnc, hmd, ⟨hq, hx.off (by omega), hx.off (by omega)⟩, ⟨hp, hy.off (by omega), hy.off (by omega)⟩, hG, h0, hj, hb⟩
    all_goals rw [← hW0, ← hR]; simp [go_sem]
  have HM : Hid (IsN zs g ∧ Mon e g ∧ T < R ∧ w.heap.size = R ∧ B < R) := ⟨hz, hM, hTR, hR, hR ▸ h.blt⟩
  clear hz hM hG h0 hn hm hnc hmd h hx hy hq hp hTR hj
  go_enter Tryz.func16, Tryz.ntmps16
  go_wp2
  go_loopg [9] j (fun i _ wr => ∃ q n c p m d us vs, GI k B T R g w i q n c p m d us vs wr)
  case atStart => exact ⟨_, _, _, _, _, _, _, _, HI.out⟩
  case round =>
    clear HI hW0
    obtain ⟨q', n', c', p', m', d', us, vs, hi⟩ := hrel
    have hRl : R + 1 + 1 < wr.heap.size := World.block_lt_of_cell? _ _ hi.c2
    have hTR : T < R := HM.out.2.2.1
    cases gk with
    | zero =>
      have K := qstep_zero k B T n' c' m' d' R (R + 1) (R + 1 + 1) q' p' vs hi.dg wr hi.fd hi.bv hi.c0 hi.c1 hi.c2
      have HI : Hid (GI k B T R g w 0 q' n' c' p' m' d' us vs wr ∧ R + 1 + 1 < wr.heap.size ∧ T < R) := ⟨hi, hRl, hTR⟩
      clear hi hRl hTR
      go_wp2_with fail
      refine K.mono ?_
      rintro r w1 ⟨rfl, hF, hb⟩
      clear K
      have hi := HI.out.1
      have c0 := (hb.cell (p := ⟨R, 0, none⟩) (by have := HI.out; show R < _; omega) (by have := HI.out; show ¬ R = T; omega)).trans hi.c0
      have c1 := (hb.cell (p := ⟨R + 1, 0, none⟩) (by have := HI.out; show R + 1 < _; omega) (by have := HI.out; show ¬ R + 1 = T; omega)).trans hi.c1
      have hv0 : ofL vs = Pol.zero := hi.dg.eq_zero
      obtain ⟨du, hdu⟩ := (Pol.Fin.ofL us).dg
      cases du with
      | zero => exact absurd hdu.eq_zero (hi.ne.elim id (fun h => absurd hv0 h))
      | succ du =>
        have hg := hi.gcd
        rw [hv0] at hg
        have hmo := Pol.monic_of_gcd HM.out.2.1 hdu hg
        have K := qmonic_calls k B T n' c' du q' us zs hdu (hmo ▸ HM.out.1) hi.hn hi.hnc w1 hF (hi.bu.but hb hi.oq.1) hi.oq.1
        have HB : Hid (But (· = T) w w1) := hi.but.trans hb
        clear hdu hmo hg hv0 hi hF hb
        go_wp2_with fail
        refine K.mono ?_
        rintro r w2 ⟨v, rfl, hO, hF2, hb2⟩
        go_wp2
        go_ret
        exact ⟨_, rfl, hO.mono HB.out.size, hF2, HB.out.trans hb2⟩
    | succ i =>
      obtain ⟨a, r, ha, hr, he⟩ := Pol.div_exists hi.dg n' (ofL us) (by have := Pol.ofL_bd us; rwa [hi.bu.len] at this)
      obtain ⟨as', has, _⟩ := Pol.isN_of_bd ha
      obtain ⟨rs, hrs, hrl⟩ := Pol.isN_of_bd hr
      obtain ⟨l, hl⟩ : ∃ l, rs.length = l := ⟨_, rfl⟩
      rw [hl] at hrl
      have hvm : i + 1 ≤ m' := by have := hi.dg.le (Pol.ofL_bd vs); rwa [hi.bv.len] at this
      have K := qstep_calls k B T n' c' m' d' i R (R + 1) (R + 1 + 1) l q' p' us vs as' rs a r hi.dg has hrs hr he hi.hn hi.hm hi.hnc hi.hmd wr hi.fd hi.bu hi.bv hi.oq.1 hi.op.1 hi.c0 hi.c1 hi.c2 hi.f1 hi.f2 (by omega) (by omega) (by omega) hl
      have HI : Hid (GI k B T R g w (i + 1) q' n' c' p' m' d' us vs wr ∧ R + 1 + 1 < wr.heap.size ∧ T < R ∧ Pol.Bd n' a ∧ IsN rs r ∧ ofL us = Pol.add (Pol.mul a (ofL vs)) r ∧ rs.length = l ∧ l ≤ i ∧ i + 1 ≤ m') := ⟨hi, hRl, hTR, ha, hrs, he, hl, hrl, hvm⟩
      clear hi hRl hTR ha hr he has hrs hrl hl hvm
      go_wp2_with fail
      refine K.mono ?_
      rintro e w1 ⟨q3, d3, W, rfl, hw1, hO, hF, hb⟩
      clear K
      have HN : Hid (GI k B T R g w l p' m' d' q3 l d3 vs rs w1) := by
        obtain ⟨hi, hRl, hTR, ha, hrs, he, hl, hli, hvm⟩ := HI.out
        have hRW : R + 1 + 1 < W.heap.size := Nat.lt_of_lt_of_le hRl hb.size
        have hS : But (fun x => x = R + 1 ∨ x = R + 1 + 1) W w1 := by
          rw [hw1]
          exact ((But.refl (fun x => x = R + 1 ∨ x = R + 1 + 1) W).setCell (p := ⟨R + 1, 0, none⟩) (.inl (.inl rfl)) _).setCell (p := ⟨R + 1 + 1, 0, none⟩) (.inl (.inr rfl)) _
        have k1 : W.cell? ⟨R + 1, 0, none⟩ = some (.slice q' n' c') := (hb.cell (p := ⟨R + 1, 0, none⟩) (by show R + 1 < _; omega) (by show ¬ R + 1 = T; omega)).trans hi.c1
        have k2 : W.cell? ⟨R + 1 + 1, 0, none⟩ = some (.slice p' m' d') := (hb.cell (p := ⟨R + 1 + 1, 0, none⟩) (by show R + 1 + 1 < _; omega) (by show ¬ R + 1 + 1 = T; omega)).trans hi.c2
        have g1 : W.frozen? ⟨R + 1, 0, none⟩ = false := (hb.frozen (p := ⟨R + 1, 0, none⟩) (by show R + 1 < _; omega) (by show ¬ R + 1 = T; omega)).trans hi.f1
        have g2 : W.frozen? ⟨R + 1 + 1, 0, none⟩ = false := (hb.frozen (p := ⟨R + 1 + 1, 0, none⟩) (by show R + 1 + 1 < _; omega) (by show ¬ R + 1 + 1 = T; omega)).trans hi.f2
        obtain ⟨q4, c4, e4, hS4, hC4, hoff4⟩ := hO.tell hrs.byt hl
        cases e4
        refine ⟨?_, ?_, ?_, ?_, ?_, hF.but hS (by have := HM.out.2.2.2.2; omega) (by omega), (hi.bv.but hb hi.op.1).butS hS (fun h0 a e => ?_), hS4.butS hS (fun h0 a e => ?_), hi.hm, by have := hi.hm; omega, hi.hmd, hC4, hi.op, ⟨hoff4 _ (by omega), hoff4 _ (by omega), hoff4 _ (by omega)⟩, ?_, .inl hi.dg.ne_zero, hl ▸ hrs.eq ▸ hrs.dg, hi.but.trans hb |>.pastq hS (fun x hx => .inl (by have := HM.out.2.2.2.1; omega))⟩
        · exact ((hS.cell (p := ⟨R, 0, none⟩) (by show R < _; omega) (by show ¬ (R = R + 1 ∨ R = R + 1 + 1); omega)).trans (hb.cell (p := ⟨R, 0, none⟩) (by show R < _; omega) (by show ¬ R = T; omega))).trans hi.c0
        · rw [hw1, cell_other _ (by show ¬ R + 1 = R + 1 + 1; omega)]; exact World.cell?_setCell_same _ _ _ k1
        · rw [hw1]; exact World.cell?_setCell_same _ _ _ (by rw [cell_other _ (by show ¬ R + 1 + 1 = R + 1; omega)]; exact k2)
        · rw [hw1, frozen_other _ (by show ¬ R + 1 = R + 1 + 1; omega)]; simp [go_sem, g1]
        · rw [hw1]; simp [go_sem, g2]
        · rintro (h | h)
          · exact hi.op.2.1 h0 a e h
          · exact hi.op.2.2 h0 a e h
        · rintro (h | h)
          · exact hoff4 (R + 1) (by omega) h0 a e h
          · exact hoff4 (R + 1 + 1) (by omega) h0 a e h
        · rw [hrs.eq]
          exact hi.gcd.back ⟨_, ha⟩ he
      have HL : Hid (l ≤ i) := HI.out.2.2.2.2.2.2.2.1
      clear hw1 hO hF hb HI
      go_wp2
      go_roundg l
      case measure => have := HL.out; omega
      case rel => exact ⟨_, _, _, _, _, _, _, _, HN.out⟩
set_option maxRecDepth 100000 in
set_option maxHeartbeats 2000000 in
/-- Both are nothing. -/
theorem qgcd_zero (k B T n c m d : Nat) (q p : Option Addr) (xs ys : List Nat) (h1 : Dg 0 (ofL xs)) (h2 : Dg 0 (ofL ys)) (w : World) (h : Fd k B T w) (hx : Bs w q n xs) (hy : Bs w p m ys) (hq : Off T n q) :
    Calls Tryz.prog 16 #[.pointer (some ⟨B, 0, none⟩), .slice q n c, .slice p m d] w fun r w' => r = .returned (.slice none 0 0) ∧ Fd k B T w' ∧ But (· = T) w w' := by
  obtain ⟨R, hR⟩ : ∃ R, w.heap.size = R := ⟨_, rfl⟩
  have hTR : T < R := hR ▸ h.lt
  obtain ⟨W0, hW0⟩ : ∃ W0, ((w.alloc (.cells #[.pointer (some ⟨B, 0, none⟩)] 27)).alloc (.cells #[.slice q n c] 22)).alloc (.cells #[.slice p m d] 22) = W0 := ⟨_, rfl⟩
  have hb : But (· = T) w W0 := by rw [← hW0]; exact (((But.refl _ w).alloc _).alloc _).alloc _
  have hbl : Below w.heap.size w W0 := by rw [← hW0]; exact (((Below.refl _ w).alloc (Nat.le_refl _) _).alloc (by simp) _).alloc (by simp; omega) _
  have c0 : W0.cell? ⟨R, 0, none⟩ = some (.pointer (some ⟨B, 0, none⟩)) := by rw [← hW0, ← hR]; simp [go_sem]
  have c1 : W0.cell? ⟨R + 1, 0, none⟩ = some (.slice q n c) := by rw [← hW0, ← hR]; simp [go_sem]
  have c2 : W0.cell? ⟨R + 1 + 1, 0, none⟩ = some (.slice p m d) := by rw [← hW0, ← hR]; simp [go_sem]
  have K := qstep_zero k B T n c m d R (R + 1) (R + 1 + 1) q p ys h2 W0 (h.below hbl) (hy.below hbl) c0 c1 c2
  have HI : Hid (But (· = T) w W0 ∧ W0.cell? ⟨R, 0, none⟩ = some (.pointer (some ⟨B, 0, none⟩)) ∧ W0.cell? ⟨R + 1, 0, none⟩ = some (.slice q n c) ∧ Bs W0 q n xs ∧ Off T n q ∧ Dg 0 (ofL xs) ∧ T < R) := ⟨hb, c0, c1, hx.below hbl, hq, h1, hTR⟩
  clear h1 h2 h hx hy hq hTR hb hbl c0 c1 c2
  go_enter Tryz.func16, Tryz.ntmps16
  go_wp2
  clear hW0
  go_loopw [9] (fun _ wr => wr = W0) (fun _ _ => 0)
  case atStart => rfl
  case round =>
    subst hrel
    go_wp2_with fail
    refine K.mono ?_
    rintro r w1 ⟨rfl, hF, hb⟩
    clear K
    have c0 := (hb.cell (p := ⟨R, 0, none⟩) (World.block_lt_of_cell? _ _ HI.out.2.1) (by have := HI.out.2.2.2.2.2.2; show ¬ R = T; omega)).trans HI.out.2.1
    have c1 := (hb.cell (p := ⟨R + 1, 0, none⟩) (World.block_lt_of_cell? _ _ HI.out.2.2.1) (by have := HI.out.2.2.2.2.2.2; show ¬ R + 1 = T; omega)).trans HI.out.2.2.1
    have K := qmonic_zero k B T n c q xs HI.out.2.2.2.2.2.1 w1 hF (HI.out.2.2.2.1.but hb HI.out.2.2.2.2.1)
    have HB : Hid (But (· = T) w w1) := HI.out.1.trans hb
    clear hF hb HI
    go_wp2_with fail
    refine K.mono ?_
    rintro r w2 ⟨rfl, hF2, hb2⟩
    go_wp2
    go_ret
    exact ⟨rfl, hF2, HB.out.trans hb2⟩
set_option maxRecDepth 100000 in
set_option maxHeartbeats 2000000 in
/-- Without a field. -/
theorem qgcd_nil (n c m d : Nat) (q p : Option Addr) (xs ys : List Nat) (w : World) (hx : Bs w q n xs) (hy : Bs w p m ys) :
    Calls Tryz.prog 16 #[.pointer none, .slice q n c, .slice p m d] w fun r w' => r = .returned (.slice none 0 0) ∧ Below w.heap.size w w' := by
  obtain ⟨R, hR⟩ : ∃ R, w.heap.size = R := ⟨_, rfl⟩
  obtain ⟨W0, hW0⟩ : ∃ W0, ((w.alloc (.cells #[.pointer none] 27)).alloc (.cells #[.slice q n c] 22)).alloc (.cells #[.slice p m d] 22) = W0 := ⟨_, rfl⟩
  have hbl : Below w.heap.size w W0 := by rw [← hW0]; exact (((Below.refl _ w).alloc (Nat.le_refl _) _).alloc (by simp) _).alloc (by simp; omega) _
  have c0 : W0.cell? ⟨R, 0, none⟩ = some (.pointer none) := by rw [← hW0, ← hR]; simp [go_sem]
  have c1 : W0.cell? ⟨R + 1, 0, none⟩ = some (.slice q n c) := by rw [← hW0, ← hR]; simp [go_sem]
  have c2 : W0.cell? ⟨R + 1 + 1, 0, none⟩ = some (.slice p m d) := by rw [← hW0, ← hR]; simp [go_sem]
  have K := qstep_nil n c m d R (R + 1) (R + 1 + 1) q p ys W0 (hy.below hbl) c0 c1 c2
  have HI : Hid (Below w.heap.size w W0 ∧ W0.cell? ⟨R, 0, none⟩ = some (.pointer none) ∧ W0.cell? ⟨R + 1, 0, none⟩ = some (.slice q n c) ∧ Bs W0 q n xs) := ⟨hbl, c0, c1, hx.below hbl⟩
  clear hx hy hbl c0 c1 c2
  go_enter Tryz.func16, Tryz.ntmps16
  go_wp2
  clear hW0
  go_loopw [9] (fun _ wr => wr = W0) (fun _ _ => 0)
  case atStart => rfl
  case round =>
    subst hrel
    go_wp2_with fail
    refine K.mono ?_
    rintro r w1 ⟨rfl, hb⟩
    clear K
    have c0 := (hb.cell (p := ⟨R, 0, none⟩) (World.block_lt_of_cell? _ _ HI.out.2.1)).trans HI.out.2.1
    have c1 := (hb.cell (p := ⟨R + 1, 0, none⟩) (World.block_lt_of_cell? _ _ HI.out.2.2.1)).trans HI.out.2.2.1
    have K := qmonic_nil n c q xs w1 (HI.out.2.2.2.below hb)
    have HB : Hid (Below w.heap.size w w1) := HI.out.1.trans (hb.mono HI.out.1.size)
    clear hb HI
    go_wp2_with fail
    refine K.mono ?_
    rintro r w2 ⟨rfl, hb2⟩
    go_wp2
    go_ret
    exact ⟨rfl, HB.out.trans (hb2.mono HB.out.size)⟩
end Go.Proofs
