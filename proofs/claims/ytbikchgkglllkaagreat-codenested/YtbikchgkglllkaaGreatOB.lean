/- As CdX: parity, and what a word comes to by it. Conditions: a code; a field that Of has made. -/
import Derived.Test.YtbikchgkglllkaaGreatOA
import Derived.Test.YtbikchgkglllkaaGreatNX
import Derived.Test.YtbikchgkglllkaaGreatNJ
import Derived.Test.YtbikchgkglllkaaGreatNZ
namespace Go.Proofs
open Go.RowKit Go.ChangeShapes Go.WideShapes
open Pol (IsN Dg ofL Byt vl frL)
section
variable (k Bf T P N K B S : Nat) (w0 : World)
theorem kpar (M : Nat) (h : Cod N K B) (hS : N - K = S) (hM : S * N = M) (W : World) (hW : Tc k Bf T P N K B w0 W) :
    Calls Tryz.prog 23 #[.pointer (some ⟨Bf, 0, none⟩), .agg #[.int .i64 (N : Nat), .int .i64 (K : Nat), .int .i64 (B : Nat)]] W fun e w' => ∃ q c, e = .returned (.agg #[.int .i64 (S : Nat), .int .i64 (N : Nat), .slice q M c]) ∧ Tl w' T q M c (Cd.par N S B) ∧ Tc k Bf T P N K B w0 w' ∧ But (· = T) W w' :=
  (cpar_calls k Bf T N K B S h hS W hW.tw.fd).mono fun e w' ⟨v, he, hO, hF, hb⟩ => by
    obtain ⟨q, c, rfl, t⟩ := hO.tl hW.lt (Cd.par_byt N S B) (by rw [Cd.par_length, hM])
    exact ⟨q, c, he, t, hW.next hF hb, hb⟩
theorem ktimes (R C n c cv : Nat) (q qv : Option Addr) (xs vs : List Nat) (hn : n = R * C) (hR : R ≤ 300) (hC : C ≤ 300) (W : World) (hW : Tc k Bf T P N K B w0 W) (hs : Tl W T q n c xs) (hv : Tl W T qv C cv vs) :
    Calls Tryz.prog 22 #[.pointer (some ⟨Bf, 0, none⟩), .agg #[.int .i64 (R : Nat), .int .i64 (C : Nat), .slice q n c], .slice qv C cv] W fun e w' => ∃ q c, e = .returned (.tuple #[.slice q R c, .bool true]) ∧ Tl w' T q R c (Mx.timesL R C xs vs) ∧ Tc k Bf T P N K B w0 w' ∧ But (· = T) W w' :=
  (mtimes_calls k Bf T R C n c cv q qv xs vs hn hs.le hv.le hR hC W hW.tw.fd hs.bs hv.bs hs.off hv.off).mono fun e w' ⟨v, he, hO, hF, hb⟩ => by
    obtain ⟨q, c, rfl, t⟩ := hO.tl hW.lt (Mx.timesL_byt _ _ _ _) (Mx.timesL_length _ _ _ _)
    exact ⟨q, c, he, t, hW.next hF hb, hb⟩
theorem kroots (h : Cod N K B) (hS : N - K = S) (W : World) (hW : Tc k Bf T P N K B w0 W) :
    Calls Tryz.prog 28 #[.pointer (some ⟨Bf, 0, none⟩), .agg #[.int .i64 (N : Nat), .int .i64 (K : Nat), .int .i64 (B : Nat)]] W fun e w' => ∃ q c, e = .returned (.slice q S c) ∧ Tl w' T q S c (Cd.rts B S) ∧ Tc k Bf T P N K B w0 w' ∧ But (· = T) W w' :=
  (croots_calls k Bf T N K B S h hS W hW.tw.fd).mono fun e w' ⟨v, he, hO, hF, hb⟩ => by
    obtain ⟨q, c, rfl, t⟩ := hO.tl hW.lt (Cd.rts_byt B S) (Cd.rts_length B S)
    exact ⟨q, c, he, t, hW.next hF hb, hb⟩
theorem kpoint (n r : Nat) (hn : n ≤ 1000000) (hr : Cd.pt n = r) (W : World) (hW : Tc k Bf T P N K B w0 W) :
    Calls Tryz.prog 29 #[.pointer (some ⟨Bf, 0, none⟩), .int .i64 (n : Nat)] W fun e w' => e = .returned (.int .u8 (r : Nat)) ∧ Tc k Bf T P N K B w0 w' ∧ But (· = T) W w' :=
  (cpoint_e k Bf T (n : Int) r (by omega) (by omega) ((pt_nat n).trans hr) W hW.tw.fd).mono fun _ _ ⟨he, hF, hb⟩ => ⟨he, hW.next hF hb, hb⟩
theorem kmulb (a b r : Nat) (ha : a < 256) (hb : b < 256) (hr : Gf.mul a b = r) (W : World) (hW : Tc k Bf T P N K B w0 W) :
    Calls Tryz.prog 30 #[.pointer (some ⟨Bf, 0, none⟩), .int .u8 (a : Nat), .int .u8 (b : Nat)] W fun e w' => e = .returned (.int .u8 (r : Nat)) ∧ Tc k Bf T P N K B w0 w' ∧ But (· = T) W w' :=
  (fmul_e k Bf T a b r ha hb hr W hW.tw.fd).mono fun _ _ ⟨he, hF, hb⟩ => ⟨he, hW.next hF hb, hb⟩
theorem kat (q : Option Addr) (n c x r : Nat) (xs : List Nat) (hx : x < 256) (hr : vl xs x = r) (W : World) (hW : Tc k Bf T P N K B w0 W) (hs : Tl W T q n c xs) :
    Calls Tryz.prog 31 #[.pointer (some ⟨Bf, 0, none⟩), .slice q n c, .int .u8 (x : Nat)] W fun e w' => e = .returned (.int .u8 (r : Nat)) ∧ Tc k Bf T P N K B w0 w' ∧ But (· = T) W w' :=
  (vat_e k Bf T n c x r q xs hx hr W hW.tw.fd hs.bs hs.off).mono fun _ _ ⟨he, hF, hb⟩ => ⟨he, hW.next hF hb, hb⟩
theorem kscale (a n c m : Nat) (q : Option Addr) (xs zs : List Nat) (ha : a < 256) (hz : IsN zs (Pol.smul (GF.of a) (ofL xs))) (hm : zs.length = m) (hn : n ≤ 1000000000) (W : World) (hW : Tc k Bf T P N K B w0 W) (hs : Tl W T q n c xs) :
    Calls Tryz.prog 26 #[.pointer (some ⟨Bf, 0, none⟩), .int .u8 (a : Nat), .slice q n c] W fun e w' => ∃ q c, e = .returned (.slice q m c) ∧ Tl w' T q m c zs ∧ Tc k Bf T P N K B w0 w' ∧ But (· = T) W w' :=
  (pscale_calls k Bf T a n c q xs zs ha hz hn hs.le W hW.tw.fd hs.bs hs.off).mono fun e w' ⟨v, he, hO, hF, hb⟩ => by
    obtain ⟨q, c, rfl, t⟩ := hO.tl hW.lt hz.byt hm
    exact ⟨q, c, he, t, hW.next hF hb, hb⟩
theorem kadd (q p : Option Addr) (n c m d l : Nat) (xs ys zs : List Nat) (hz : IsN zs (Pol.add (ofL xs) (ofL ys))) (hl : zs.length = l) (hn : n ≤ 1000000000) (hm : m ≤ 1000000000) (W : World) (hW : Tc k Bf T P N K B w0 W) (hx : Tl W T q n c xs) (hy : Tl W T p m d ys) :
    Calls Tryz.prog 25 #[.slice q n c, .slice p m d] W fun e w' => ∃ q c, e = .returned (.slice q l c) ∧ Tl w' T q l c zs ∧ Tc k Bf T P N K B w0 w' ∧ But (· = T) W w' :=
  (padd_calls q p n c m d xs ys zs hz hn hm W hx.bs hy.bs).mono fun e w' ⟨v, he, hO, hb⟩ => by
    obtain ⟨q, c, rfl, t⟩ := hO.tl hW.lt hz.byt hl
    exact ⟨q, c, he, t, hW.below hb, But.of_below hb⟩
end
/-- A word, and another one times a byte, laid together. -/
structure WL (N S B a : Nat) (vs us sc ad : List Nat) (ms ma : Nat) : Prop where
  sI : IsN sc (Pol.smul (GF.of a) (ofL us))
  sl : sc.length = ms
  aI : IsN ad (Pol.add (ofL vs) (ofL sc))
  al : ad.length = ma
  sN : ms ≤ N
  aN : ma ≤ N
  isW : Cd.IsW N S B (Cd.wd N ad)
theorem wl_exists {N S B a : Nat} {vs us : List Nat} (hv : Cd.IsW N S B vs) (hu : Cd.IsW N S B us) : ∃ sc ad ms ma, WL N S B a vs us sc ad ms ma := by
  have b1 : Pol.Bd N (ofL vs) := by have := Pol.ofL_bd vs; rwa [hv.1] at this
  have b2 : Pol.Bd N (ofL us) := by have := Pol.ofL_bd us; rwa [hu.1] at this
  obtain ⟨sc, hs, hsl⟩ := Pol.isN_of_bd (b2.smul (GF.of a))
  have b3 : Pol.Bd N (ofL sc) := (Pol.ofL_bd sc).mono_le hsl
  obtain ⟨ad, ha, hal⟩ := Pol.isN_of_bd (b1.add b3)
  refine ⟨sc, ad, _, _, hs, rfl, ha, rfl, hsl, hal, hv.add hu (GF.of a) (Cd.wd_length N ad) fun i _ => ?_⟩
  rw [Cd.ofL_wd ((Pol.ofL_bd ad).mono_le hal), ha.eq]
  show ofL vs i + ofL sc i = _
  rw [hs.eq]; rfl
end Go.Proofs
