/- The walks of massey.Massey and massey.Length: the shortest register of a list. Conditions: a field that Of has made; a list of at most a million bytes, apart from its table. -/
import Derived.Test.YthnlcdfonbnjcaaGreatQC
import Derived.Test.YthnlcdfonbnjcaaGreatMG
namespace Go.Proofs
open Go.RowKit Go.ChangeShapes Go.WideShapes
open Pol (IsN Dg ofL Byt)

/-- Three cells in a box that may be written. -/
structure Lb (W : World) (B : Nat) (v0 v1 v2 : Value) : Prop where
  mb : Mb W B v0 v1 v2
  f0 : W.frozen? ⟨B, 0, none⟩ = false
  f1 : W.frozen? ⟨B, 1, none⟩ = false
  f2 : W.frozen? ⟨B, 2, none⟩ = false
theorem Lb.but {S : Nat → Prop} {W W' : World} {B : Nat} {v0 v1 v2 : Value} (h : Lb W B v0 v1 v2) (hb : But S W W') (hs : ¬ S B) : Lb W' B v0 v1 v2 :=
  ⟨h.mb.but hb hs, (hb.frozen (p := ⟨B, 0, none⟩) h.mb.blt hs).trans h.f0, (hb.frozen (p := ⟨B, 1, none⟩) h.mb.blt hs).trans h.f1, (hb.frozen (p := ⟨B, 2, none⟩) h.mb.blt hs).trans h.f2⟩
theorem Lb.below {W W' : World} {B : Nat} {v0 v1 v2 : Value} (h : Lb W B v0 v1 v2) (hb : Below W.heap.size W W') : Lb W' B v0 v1 v2 := h.but (But.of_below (S := fun _ => False) hb) id
theorem Lb.set {W : World} {B : Nat} {v0 v1 v2 : Value} (h : Lb W B v0 v1 v2) (u0 u1 u2 : Value) : Lb (((W.setCell ⟨B, 0, none⟩ u0).setCell ⟨B, 1, none⟩ u1).setCell ⟨B, 2, none⟩ u2) B u0 u1 u2 := by
  have h0 := h.mb.c0
  have h1 := h.mb.c1
  have h2 := h.mb.c2
  have g0 := h.f0
  have g1 := h.f1
  have g2 := h.f2
  exact ⟨⟨by simp [go_sem, h0], by simp [go_sem, h1], by simp [go_sem, h2]⟩, by simp [go_sem, g0], by simp [go_sem, g1], by simp [go_sem, g2]⟩
/-- Massey's state in memory. -/
structure MasI (k B T R : Nat) (xs : List Nat) (i L : Nat) (ql : Option Addr) (nl cl : Nat) (w W : World) (ls : List Nat) (C D : Pol) (M m : Nat) (qd : Option Addr) (nd cd : Nat) (ds : List Nat) (y : Nat) : Prop where
  st : Ms.St (ofL xs) i C L D M m (GF.of y)
  y8 : y < 256
  il : IsN ls C
  id : ofL ds = D
  ow : Ow W R (.slice ql nl cl) ls
  tl : Tl W T ql nl cl ls
  ol : Off (R + 1) nl ql
  td : Tl W T qd nd cd ds
  od : Off (R + 1) nd qd
  ld : nd ≤ M + 1
  lb : Lb W (R + 1) (.slice qd nd cd) (.int .i64 ((i : Int) - (m : Int))) (.int .u8 (y : Nat))
  fd : Fd k B T W
  but : But (· = T) w W
theorem MasI.nl {k B T R i L nl cl M m nd cd y : Nat} {xs ls ds : List Nat} {ql qd : Option Addr} {w W : World} {C D : Pol} (h : MasI k B T R xs i L ql nl cl w W ls C D M m qd nd cd ds y) : nl ≤ L + 1 := by
  have h1 := h.il.dg.le h.st.reg.bd
  have h2 := h.tl.bs.len
  omega

end Go.Proofs
