/- As CdX: parity, and what a word comes to by it. Conditions: a code; a field that Of has made. -/
import Derived.Test.YtddhefhabhgdfaaGreatOA
import Derived.Test.YtddhefhabhgdfaaGreatNX
import Derived.Test.YtddhefhabhgdfaaGreatNJ
import Derived.Test.YtddhefhabhgdfaaGreatNZ
namespace Go.Proofs
open Go.RowKit Go.ChangeShapes Go.WideShapes
open Pol (IsN Dg ofL Byt vl frL)
section
variable (k Bf T P N K B S : Nat) (w0 : World)
theorem kpoint (n r : Nat) (hn : n ≤ 1000000) (hr : Cd.pt n = r) (W : World) (hW : Tc k Bf T P N K B w0 W) :
    Calls Tryz.prog 22 #[.pointer (some ⟨Bf, 0, none⟩), .int .i64 (n : Nat)] W fun e w' => e = .returned (.int .u8 (r : Nat)) ∧ Tc k Bf T P N K B w0 w' ∧ But (· = T) W w' :=
  (cpoint_e k Bf T (n : Int) r (by omega) (by omega) ((pt_nat n).trans hr) W hW.tw.fd).mono fun _ _ ⟨he, hF, hb⟩ => ⟨he, hW.next hF hb, hb⟩
theorem kmulb (a b r : Nat) (ha : a < 256) (hb : b < 256) (hr : Gf.mul a b = r) (W : World) (hW : Tc k Bf T P N K B w0 W) :
    Calls Tryz.prog 27 #[.pointer (some ⟨Bf, 0, none⟩), .int .u8 (a : Nat), .int .u8 (b : Nat)] W fun e w' => e = .returned (.int .u8 (r : Nat)) ∧ Tc k Bf T P N K B w0 w' ∧ But (· = T) W w' :=
  (fmul_e k Bf T a b r ha hb hr W hW.tw.fd).mono fun _ _ ⟨he, hF, hb⟩ => ⟨he, hW.next hF hb, hb⟩
theorem kat (q : Option Addr) (n c x r : Nat) (xs : List Nat) (hx : x < 256) (hr : vl xs x = r) (W : World) (hW : Tc k Bf T P N K B w0 W) (hs : Tl W T q n c xs) :
    Calls Tryz.prog 23 #[.pointer (some ⟨Bf, 0, none⟩), .slice q n c, .int .u8 (x : Nat)] W fun e w' => e = .returned (.int .u8 (r : Nat)) ∧ Tc k Bf T P N K B w0 w' ∧ But (· = T) W w' :=
  (vat_e k Bf T n c x r q xs hx hr W hW.tw.fd hs.bs hs.off).mono fun _ _ ⟨he, hF, hb⟩ => ⟨he, hW.next hF hb, hb⟩
theorem kadd (q p : Option Addr) (n c m d l : Nat) (xs ys zs : List Nat) (hz : IsN zs (Pol.add (ofL xs) (ofL ys))) (hl : zs.length = l) (hn : n ≤ 1000000000) (hm : m ≤ 1000000000) (W : World) (hW : Tc k Bf T P N K B w0 W) (hx : Tl W T q n c xs) (hy : Tl W T p m d ys) :
    Calls Tryz.prog 16 #[.slice q n c, .slice p m d] W fun e w' => ∃ q c, e = .returned (.slice q l c) ∧ Tl w' T q l c zs ∧ Tc k Bf T P N K B w0 w' ∧ But (· = T) W w' :=
  (padd_calls q p n c m d xs ys zs hz hn hm W hx.bs hy.bs).mono fun e w' ⟨v, he, hO, hb⟩ => by
    obtain ⟨q, c, rfl, t⟩ := hO.tl hW.lt hz.byt hl
    exact ⟨q, c, he, t, hW.below hb, But.of_below hb⟩
end
end Go.Proofs
