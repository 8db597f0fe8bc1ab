/- The walks of massey.Massey and massey.Length: the shortest register of a list. Conditions: a field that Of has made; a list of at most a million bytes, apart from its table. -/
import Derived.Test.YthnlcdfonbnjcaaGreatQC
import Derived.Test.YthnlcdfonbnjcaaGreatMG
namespace Go.Proofs
open Go.RowKit Go.ChangeShapes Go.WideShapes
open Pol (IsN Dg ofL Byt)

/-- Three cells in a box that may be written. -/
structure Lb (W : World) (B : Nat) (v0 v1 v2 : Value) : Prop where
  mb : Mb W B v0 v1 v2
  f0 : W.frozen? ⟨B, 0, none⟩ = false
  f1 : W.frozen? ⟨B, 1, none⟩ = false
  f2 : W.frozen? ⟨B, 2, none⟩ = false
theorem Lb.but {S : Nat → Prop} {W W' : World} {B : Nat} {v0 v1 v2 : Value} (h : Lb W B v0 v1 v2) (hb : But S W W') (hs : ¬ S B) : Lb W' B v0 v1 v2 :=
  ⟨h.mb.but hb hs, (hb.frozen (p := ⟨B, 0, none⟩) h.mb.blt hs).trans h.f0, (hb.frozen (p := ⟨B, 1, none⟩) h.mb.blt hs).trans h.f1, (hb.frozen (p := ⟨B, 2, none⟩) h.mb.blt hs).trans h.f2⟩
theorem Lb.below {W W' : World} {B : Nat} {v0 v1 v2 : Value} (h : Lb W B v0 v1 v2) (hb : Below W.heap.size W W') : Lb W' B v0 v1 v2 := h.but (But.of_below (S := fun _ => False) hb) id
theorem lb_new (w : World) (v0 v1 v2 : Value) : Lb (w.alloc (.cells #[v0, v1, v2] 76)) w.heap.size v0 v1 v2 := ⟨mb_chg w _ _ _, by simp [go_sem], by simp [go_sem], by simp [go_sem]⟩
theorem Lb.set {W : World} {B : Nat} {v0 v1 v2 : Value} (h : Lb W B v0 v1 v2) (u0 u1 u2 : Value) : Lb (((W.setCell ⟨B, 0, none⟩ u0).setCell ⟨B, 1, none⟩ u1).setCell ⟨B, 2, none⟩ u2) B u0 u1 u2 := by
  have h0 := h.mb.c0
  have h1 := h.mb.c1
  have h2 := h.mb.c2
  have g0 := h.f0
  have g1 := h.f1
  have g2 := h.f2
  exact ⟨⟨by simp [go_sem, h0], by simp [go_sem, h1], by simp [go_sem, h2]⟩, by simp [go_sem, g0], by simp [go_sem, g1], by simp [go_sem, g2]⟩
theorem but_lb (W : World) (B : Nat) (v0 v1 v2 : Value) : But (· = B) W (((W.setCell ⟨B, 0, none⟩ v0).setCell ⟨B, 1, none⟩ v1).setCell ⟨B, 2, none⟩ v2) :=
  (((But.refl (· = B) W).setCell (p := ⟨B, 0, none⟩) (.inl rfl) v0).setCell (p := ⟨B, 1, none⟩) (.inl rfl) v1).setCell (p := ⟨B, 2, none⟩) (.inl rfl) v2

/-- Massey's state in memory. -/
structure MasI (k B T R : Nat) (xs : List Nat) (i L : Nat) (ql : Option Addr) (nl cl : Nat) (w W : World) (ls : List Nat) (C D : Pol) (M m : Nat) (qd : Option Addr) (nd cd : Nat) (ds : List Nat) (y : Nat) : Prop where
  st : Ms.St (ofL xs) i C L D M m (GF.of y)
  y8 : y < 256
  il : IsN ls C
  id : ofL ds = D
  ow : Ow W R (.slice ql nl cl) ls
  tl : Tl W T ql nl cl ls
  ol : Off (R + 1) nl ql
  td : Tl W T qd nd cd ds
  od : Off (R + 1) nd qd
  ld : nd ≤ M + 1
  lb : Lb W (R + 1) (.slice qd nd cd) (.int .i64 ((i : Int) - (m : Int))) (.int .u8 (y : Nat))
  fd : Fd k B T W
  but : But (· = T) w W
theorem MasI.nl {k B T R i L nl cl M m nd cd y : Nat} {xs ls ds : List Nat} {ql qd : Option Addr} {w W : World} {C D : Pol} (h : MasI k B T R xs i L ql nl cl w W ls C D M m qd nd cd ds y) : nl ≤ L + 1 := by
  have h1 := h.il.dg.le h.st.reg.bd
  have h2 := h.tl.bs.len
  omega

set_option maxRecDepth 100000 in
set_option maxHeartbeats 4000000 in
theorem massey_calls (k B T : Nat) (q : Option Addr) (n c L : Nat) (xs : List Nat) (hn : n ≤ 1000000) (hL : Ms.Least (ofL xs) n L) (w : World) (h : Fd k B T w) (hs : Tl w T q n c xs) :
    Calls Tryz.prog 18 #[.pointer (some ⟨B, 0, none⟩), .slice q n c] w fun e w' => ∃ v, e = .returned (.tuple #[v, .int .i64 (L : Nat)]) ∧ ∃ ls, Ms.IsMas xs ls L ∧ Ow w' w.heap.size v ls ∧ Fd k B T w' ∧ But (· = T) w w' := by
  obtain ⟨R, hR⟩ : ∃ R, w.heap.size = R := ⟨_, rfl⟩
  obtain ⟨W0, hW0⟩ : ∃ W0, (w.alloc (.cells #[.int .u8 1] 5)).alloc (.cells #[.slice (some ⟨R, 0, none⟩) 1 1, .int .i64 (-1), .int .u8 1] 76) = W0 := ⟨_, rfl⟩
  have hb0 : Below R w W0 := by rw [← hW0, ← hR]; exact ((Below.refl _ w).alloc (Nat.le_refl _) _).alloc (by simp) _
  have hTR : T < R := by rw [← hR]; exact h.lt
  have H0 : Hid (MasI k B T R xs 0 0 (some ⟨R, 0, none⟩) 1 1 w W0 [1] Pol.one Pol.one 0 1 (some ⟨R, 0, none⟩) 1 1 [1] 1) := by
    have b1 : Bs (w.alloc (.cells #[.int .u8 1] 5)) (some ⟨R, 0, none⟩) 1 [1] := by rw [← hR]; exact bs_lits w _ [1] _ 1 rfl rfl rfl rfl (by simp)
    have ba : Below (w.alloc (.cells #[.int .u8 1] 5)).heap.size (w.alloc (.cells #[.int .u8 1] 5)) W0 := by rw [← hW0]; exact (Below.refl _ _).alloc (Nat.le_refl _) _
    have e1 : IsN [1] Pol.one := ⟨fun _ => by decide, byt_lit rfl, by
      funext i
      unfold Pol.ofL Pol.one
      match i with
      | 0 => rfl
      | i + 1 => rfl⟩
    have t1 : Tl W0 T (some ⟨R, 0, none⟩) 1 1 [1] := ⟨b1.below ba, Nat.le_refl _, fun _ a e => by cases e; exact fun hh => by have : R = T := hh; omega⟩
    have o1 : Off (R + 1) 1 (some ⟨R, 0, none⟩) := fun _ a e => by cases e; exact fun hh => by have : R = R + 1 := hh; omega
    refine ⟨Ms.st_start _, by decide, e1, e1.eq, ?_, t1, o1, t1, o1, Nat.le_refl _, ?_, h.below (hR ▸ hb0), But.of_below (hR ▸ hb0)⟩
    · have e := (ow_one w (Nat.le_refl _) 1).below ba
      rw [hR] at e
      exact e
    · have e := lb_new (w.alloc (.cells #[.int .u8 1] 5)) (.slice (some ⟨R, 0, none⟩) 1 1) (.int .i64 (-1)) (.int .u8 1)
      rw [hW0] at e
      simpa [hR] using e
  have HS : Hid (Tl w T q n c xs ∧ Ms.Least (ofL xs) n L ∧ T < R ∧ w.heap.size = R ∧ xs.length = n) := ⟨hs, hL, hTR, hR, hs.bs.len⟩
  have HB0 : Hid (B < R) := by have := h.blt; show B < R; omega
  have HW0 : Hid ((w.alloc (.cells #[.int .u8 1] 5)).alloc (.cells #[.slice (some ⟨R, 0, none⟩) 1 1, .int .i64 (-1), .int .u8 1] 76) = W0) := hW0
  clear hb0 hTR hL h hs
  go_enter Tryz.func18, Tryz.ntmps18
  go_wp2
  clear HW0 hW0
  go_loopw [6, 7, 19] (fun l len idx wr => ∃ (i L' : Nat) (ql : Option Addr) (nl cl : Nat), i ≤ n ∧ l = .slice ql nl cl ∧ len = .int .i64 (L' : Int) ∧ idx = .int .i64 (i : Int) ∧ Hid (∃ ls C D M m qd nd cd ds y, MasI k B T R xs i L' ql nl cl w wr ls C D M m qd nd cd ds y)) (fun _ _ idx _ => n - (intOf idx).toNat)
  case atStart => exact ⟨0, 0, _, 1, 1, Nat.zero_le _, rfl, rfl, rfl, (⟨_, _, _, _, _, _, _, _, _, _, H0.out⟩ : ∃ ls C D M m qd nd cd ds y, MasI k B T R xs 0 0 (some ⟨R, 0, none⟩) 1 1 w W0 ls C D M m qd nd cd ds y)⟩
  case round =>
    obtain ⟨i, L', ql, nl, cl, hi, rfl, rfl, rfl, HI0⟩ := hrel
    obtain ⟨ls, C, D, M, m, qd, nd, cd, ds, y, HI1⟩ := HI0.out
    have HI : Hid (MasI k B T R xs i L' ql nl cl w wr ls C D M m qd nd cd ds y) := HI1
    clear HI0 HI1
    by_cases hlt : i < n
    · have hii : (i : Int) < (n : Int) := by omega
      obtain ⟨r, hr⟩ : ∃ r, (Pol.mul (ofL ls) (ofL xs) i).val = r := ⟨_, rfl⟩
      have hr8 : r < 256 := by rw [← hr]; exact GF.lt _
      have hrC : GF.of r = Pol.mul C (ofL xs) i := by rw [← hr, GF.of_self, HI.out.il.eq]
      have hle := HI.out.st.reg.le
      have KM := missed_calls k B T ql q nl cl n c i r ls xs hr (by have := HI.out.nl; omega) hlt hn wr HI.out.fd HI.out.tl (HS.out.1.but HI.out.but)
      have HR : Hid (GF.of r = Pol.mul C (ofL xs) i ∧ r < 256 ∧ L' ≤ i ∧ i < n) := ⟨hrC, hr8, hle, hlt⟩
      clear hr hrC hr8
      go_wp2_with fail
      refine KM.mono ?_
      rintro e w1 ⟨rfl, hF1, hb1⟩
      clear KM
      obtain ⟨N, hN⟩ : ∃ N, w1.heap.size = N := ⟨_, rfl⟩
      obtain ⟨W2, hW2⟩ : ∃ W2, w1.alloc (.cells #[.slice ql nl cl, .int .i64 (i : Int), .int .u8 (r : Nat)] 76) = W2 := ⟨_, rfl⟩
      have h12 : Below w1.heap.size w1 W2 := hW2 ▸ (Below.refl _ w1).alloc (Nat.le_refl _) _
      have hl2 : Lb W2 N (.slice ql nl cl) (.int .i64 (i : Int)) (.int .u8 (r : Nat)) := by rw [← hW2, ← hN]; exact lb_new w1 _ _ _
      have H2 : Hid (Fd k B T W2 ∧ But (· = T) wr W2 ∧ Lb W2 N (.slice ql nl cl) (.int .i64 (i : Int)) (.int .u8 (r : Nat)) ∧ R + 1 < N ∧ T < R ∧ N < W2.heap.size) := by
        have h1 := HI.out.lb.mb.blt
        have h2 := hb1.size
        exact ⟨hF1.below h12, hb1.trans (But.of_below h12), hl2, by omega, HS.out.2.2.1, hl2.mb.blt⟩
      -- what is there in a world that comes behind
      have HX : Hid (∀ W, But (· = T) W2 W → Lb W N (.slice ql nl cl) (.int .i64 (i : Int)) (.int .u8 (r : Nat)) ∧ Lb W (R + 1) (.slice qd nd cd) (.int .i64 ((i : Int) - (m : Int))) (.int .u8 (y : Nat))) := fun W hW => by
        have h3 := H2.out
        exact ⟨h3.2.2.1.but hW (by omega), (HI.out.lb.but h3.2.1 (by omega)).but hW (by omega)⟩
      have hlb := HX.out W2 (But.refl _ _)
      have hm1 := hlb.1.mb
      have hm2 := hlb.2.mb
      clear hF1 hb1 h12 hl2 hlb
      have a0 := (hm1).c0
      have a1 := (hm1).c1
      have a2 := (hm1).c2
      have d0 := (hm2).c0
      have d1 := (hm2).c1
      have d2 := (hm2).c2
      clear hm1 hm2
      rcases Nat.eq_zero_or_pos r with hr0 | hr0
      · have hrb : ((r : Int) == 0) = true := by rw [hr0]; rfl
        have HZ : Hid (∃ ls C D M m qd nd cd ds y, MasI k B T R xs (i + 1) L' ql nl cl w W2 ls C D M m qd nd cd ds y) := by
          have g := HI.out
          obtain ⟨f2, b2, -, -, -, -⟩ := H2.out
          refine ⟨ls, C, D, M, m + 1, qd, nd, cd, ds, y, g.st.keep (by rw [← HR.out.1, hr0]; rfl), g.y8, g.il, g.id, ?_, g.tl.but b2, g.ol, g.td.but b2, g.od, g.ld, ?_, f2, g.but.trans b2⟩
          · exact g.ow.block fun k hk => b2.block k (g.ow.lt k hk).2 (by have := (g.ow.lt k hk).1; have := HS.out.2.2.1; omega)
          · have := g.lb.but b2 (by have := HS.out.2.2.1; omega)
            rw [show ((i + 1 : Nat) : Int) - ((m + 1 : Nat) : Int) = (i : Int) - (m : Int) by omega]
            exact this
        clear HX H2 hr0
        go_wp2
        go_roundw
        case rel => exact ⟨i + 1, L', _, _, _, by omega, rfl, rfl, by go_num, HZ⟩
        case measure => simp [intOf]; omega
      · have hrne : ¬ r = 0 := by omega
        obtain ⟨e1, e2, e3, e4⟩ := HI.out.st.sum
        have hy0 : y ≠ 0 := fun e => e3 (by rw [e]; rfl)
        obtain ⟨zs, hz, -⟩ := Pol.isN_of_bd (Ms.ch_bd (m := m) (K := L' + M + m) HI.out.st.reg.bd e4 (Pol.mul C (ofL xs) i * GF.inv (GF.of y)) (by omega) (by omega))
        have hz2 : IsN zs (Ms.ch (ofL ls) (ofL ds) m (GF.of r * GF.inv (GF.of y))) := by rw [HR.out.1, HI.out.il.eq, HI.out.id]; exact hz
        have KC := mended_calls k B T ql qd nl cl nd cd m (i : Int) ((i : Int) - (m : Int)) r y ls ds zs (by omega) (by omega) (by have := HI.out.nl; omega) (by have := HI.out.ld; omega) HR.out.2.1 HI.out.y8 hy0 hz2 W2 H2.out.1 (HI.out.tl.but H2.out.2.1) (HI.out.td.but H2.out.2.1)
        have HE : Hid (IsN zs (Ms.ch C D m (Pol.mul C (ofL xs) i * GF.inv (GF.of y))) ∧ zs.length ≤ n + 1) := ⟨hz, by
          have h1 := hz.dg.le (Ms.ch_bd (m := m) (K := i + 1) HI.out.st.reg.bd e4 _ (by have := HR.out.2.2.1; omega) (by omega))
          have := HR.out.2.2.2
          omega⟩
        clear hz hz2 hy0 e1 e2 e3 e4
        go_wp2_with fail
        refine KC.mono ?_
        rintro e w3 ⟨v, rfl, hO3, hF3, hb3⟩
        clear KC
        obtain ⟨n3, hn3⟩ : ∃ n3, zs.length = n3 := ⟨_, rfl⟩
        obtain ⟨q3, c3, rfl, S3, C3, Q3⟩ := hO3.tell HE.out.1.byt hn3
        have hlb := HX.out w3 hb3
        have hm1 := hlb.1.mb
        have hm2 := hlb.2.mb
        have hf0 := hlb.2.f0
        have hf1 := hlb.2.f1
        have hf2 := hlb.2.f2
        clear a0 a1 a2
        clear d0 d1 d2
        obtain ⟨z, hz⟩ : ∃ z, i + 1 - L' = z := ⟨_, rfl⟩
        have hzi : (i : Int) + 1 - (L' : Int) = (z : Int) := by have := HR.out.2.2.1; omega
        have hwi := wrap_nat (i + 1) (by omega)
        have hwz := wrap_nat z (by omega)
        have H3 : Hid (Fd k B T w3 ∧ But (· = T) wr w3 ∧ Ow w3 R (.slice q3 n3 c3) zs ∧ Tl w3 T q3 n3 c3 zs ∧ Off (R + 1) n3 q3 ∧ Tl w3 T ql nl cl ls ∧ Tl w3 T qd nd cd ds ∧ (∀ k, (Value.slice q3 n3 c3).ownBlock = some k → R + 1 < k)) := by
          obtain ⟨f2, b2, l2, x1, x2, x3⟩ := H2.out
          have hlt := fun k hk => (hO3.lt k hk).1
          refine ⟨hF3, b2.trans hb3, hO3.mono (by omega), ⟨S3, C3, Q3 _ (by omega)⟩, Q3 _ (by omega), (HI.out.tl.but b2).but hb3, (HI.out.td.but b2).but hb3, fun k hk => ?_⟩
          have := hlt k hk
          omega
        have hbx := hb3
        clear hO3 hF3 hb3 S3 C3 Q3 hlb
        have a0 := (hm1).c0
        have a1 := (hm1).c1
        have a2 := (hm1).c2
        have d0 := (hm2).c0
        have d1 := (hm2).c1
        have d2 := (hm2).c2
        clear hm1 hm2
        by_cases h2 : 2 * L' ≤ i
        · have hgt : (L' : Int) < (z : Int) := by omega
          obtain ⟨W4, hW4⟩ : ∃ W4, (((w3.setCell ⟨R + 1, 0, none⟩ (.slice ql nl cl)).setCell ⟨R + 1, 1, none⟩ (.int .i64 (i : Int))).setCell ⟨R + 1, 2, none⟩ (.int .u8 (r : Nat))).drew = W4 := ⟨_, rfl⟩
          have HZ : Hid (∃ ls C D M m qd nd cd ds y, MasI k B T R xs (i + 1) z q3 n3 c3 w W4 ls C D M m qd nd cd ds y) := by
            have g := HI.out
            have hsz := HS.out.2.2.1
            have hwR := HS.out.2.2.2.1
            have hbl : But (· = R + 1) w3 W4 := hW4 ▸ (but_lb w3 (R + 1) _ _ _).drew
            have hl4 : Lb W4 (R + 1) (.slice ql nl cl) (.int .i64 (i : Int)) (.int .u8 (r : Nat)) := hW4 ▸ ((HX.out w3 hbx).2.set _ _ _).below (Below.refl _ _).drew
            obtain ⟨f3, b3, o3, t3, x1, x2, x3, x4⟩ := H3.out
            have hd : Pol.mul C (ofL xs) i ≠ 0 := fun e => hrne (by
              have e2 := HR.out.1
              rw [e] at e2
              have e3 := GF.of_val r HR.out.2.1
              rw [e2] at e3
              exact e3.symm)
            have hs := g.st.longer hd h2
            rw [← HR.out.1, hz] at hs
            have he := HE.out.1
            rw [← HR.out.1] at he
            have hBT := g.fd
            refine ⟨zs, _, C, L', 1, ql, nl, cl, ls, r, hs, HR.out.2.1, he, g.il.eq, ?_, ⟨t3.bs.but hbl x1, t3.le, t3.off⟩, x1, ⟨x2.bs.but hbl g.ol, x2.le, x2.off⟩, g.ol, g.nl, ?_, f3.but hbl ?_ (by omega), (g.but.trans b3).past hbl (fun k hk => by omega)⟩
            · exact o3.block fun k hk => hbl.block k (o3.lt k hk).2 (by have := x4 k hk; omega)
            · rw [show ((i + 1 : Nat) : Int) - ((1 : Nat) : Int) = (i : Int) by omega]
              exact hl4
            · have := HS.out.2.2.2.2
              have := (H0.out.fd).blt
              have := HB0.out
              omega
          clear HX H2 H3 HE
          go_wp2
          go_region
          clear hW4
          go_wp2
          go_roundw
          case rel => exact ⟨i + 1, z, _, _, _, by omega, rfl, rfl, by go_num, HZ⟩
          case measure => simp [intOf]; omega
        · have hgt : ¬ (L' : Int) < (z : Int) := by omega
          have HZ : Hid (∃ ls C D M m qd nd cd ds y, MasI k B T R xs (i + 1) L' q3 n3 c3 w w3 ls C D M m qd nd cd ds y) := by
            have g := HI.out
            obtain ⟨f3, b3, o3, t3, x1, x2, x3, x4⟩ := H3.out
            have hs := g.st.same (by omega)
            refine ⟨zs, _, D, M, m + 1, qd, nd, cd, ds, y, hs, g.y8, HE.out.1, g.id, o3, t3, x1, x3, g.od, g.ld, ?_, f3, g.but.trans b3⟩
            have := g.lb.but b3 (by have := HS.out.2.2.1; omega)
            rw [show ((i + 1 : Nat) : Int) - ((m + 1 : Nat) : Int) = (i : Int) - (m : Int) by omega]
            exact this
          clear HX H2 H3 HE hf0 hf1 hf2
          go_wp2
          go_roundw
          case rel => exact ⟨i + 1, L', _, _, _, by omega, rfl, rfl, by go_num, HZ⟩
          case measure => simp [intOf]; omega
    · obtain rfl : n = i := by omega
      have HZ : Hid (L' = L ∧ Ms.IsMas xs ls L ∧ Ow wr R (.slice ql nl cl) ls ∧ Fd k B T wr ∧ But (· = T) w wr) := by
        have g := HI.out
        have e := g.st.is.unique HS.out.2.1
        subst e
        have e2 := HS.out.2.2.2.2
        refine ⟨rfl, ⟨?_, ?_, by rw [g.il.eq]; exact g.il⟩, g.ow, g.fd, g.but⟩
        · rw [e2, g.il.eq]; exact g.st.reg
        · rw [e2]; exact g.st.is
      obtain ⟨rfl, -⟩ := HZ.out
      go_wp2
      go_ret2
      exact ⟨_, rfl, ls, HZ.out.2.1, HS.out.2.2.2.1.symm ▸ HZ.out.2.2.1, HZ.out.2.2.2⟩
end Go.Proofs
