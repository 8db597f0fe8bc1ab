/- The walks of quot.topInverse and quot.Monic. Conditions: lists of at most a thousand million bytes, no longer than their capacities; a field that Of has made, or none. -/
import Derived.Test.YtphhehppcfddgaaGreatPNorm
import Derived.Test.YtphhehppcfddgaaGreatPolyD
import Derived.Test.YtphhehppcfddgaaGreatFdNil
namespace Go.Proofs
open Go.RowKit Go.ChangeShapes Go.WideShapes
open Pol (IsN Dg ofL Byt Mon)

theorem cof_nat (xs : List Nat) (e : Nat) : cof xs (e : Int) = xs.getD e 0 := by unfold cof; rw [if_pos (by omega)]; rfl
theorem top_ne {xs : List Nat} {e : Nat} (h : Dg (e + 1) (ofL xs)) : xs.getD e 0 ≠ 0 := fun h0 => h.top (by omega) (by show GF.of (xs.getD (e + 1 - 1) 0) = 0; rw [show e + 1 - 1 = e by omega, h0]; rfl)
theorem of_inv_top {xs : List Nat} (hb : Byt xs) (e : Nat) : GF.of (Gf.inv (xs.getD e 0)) = GF.inv (ofL xs e) := GF.of_inv _ (hb e)

set_option maxRecDepth 100000 in
set_option maxHeartbeats 1000000 in
theorem qtop_calls (k B T n c e a : Nat) (q : Option Addr) (xs : List Nat) (hd : Dg (e + 1) (ofL xs)) (ha : Gf.inv (xs.getD e 0) = a) (w : World) (h : Fd k B T w) (hs : Bs w q n xs) :
    Calls Tryz.prog 21 #[.pointer (some ⟨B, 0, none⟩), .slice q n c] w fun r w' => r = .returned (.tuple #[.int .u8 (a : Nat), .bool true]) ∧ Fd k B T w' ∧ But (· = T) w w' := by
  have K1 : Calls Tryz.prog 38 #[.slice q n c] w fun r w' => r = .returned (.int .i64 (e : Int)) ∧ Below w.heap.size w w' :=
    (pdeg_calls q n c xs (e + 1) hd w hs).mono (by rintro r w' ⟨rfl, hb⟩; exact ⟨by congr 2; omega, hb⟩)
  have hx : xs.getD e 0 < 256 := hs.byte e
  have hx0 := top_ne hd
  obtain ⟨x, hxe⟩ : ∃ x, xs.getD e 0 = x := ⟨_, rfl⟩
  have K2 : Hid (∀ W, Bs W q n xs → Calls Tryz.prog 37 #[.slice q n c, .int .i64 (e : Int)] W fun r w' => r = .returned (.int .u8 (x : Nat)) ∧ w' = W) := fun W hW =>
    (pcoef_calls q n c xs (e : Int) W hW).mono (by rintro r w' ⟨rfl, rfl⟩; exact ⟨by rw [cof_nat, hxe], rfl⟩)
  rw [hxe] at ha hx hx0
  have HS : Hid (Bs w q n xs) := hs
  have HF : Hid (Fd k B T w) := h
  have HX : Hid (x < 256 ∧ (x != 0) = true ∧ Gf.inv x = a) := ⟨hx, by simpa using hx0, ha⟩
  clear hs h hd hxe hx0 ha hx
  go_enter Tryz.func21, Tryz.ntmps21
  go_wp2_with (first
    | (go_at_call 38; refine K1.mono ?_; rintro r w1 ⟨rfl, hb⟩)
    | (go_at_call 37; refine (K2.out w1 (HS.out.below hb)).mono ?_; rintro r w1 ⟨rfl, rfl⟩)
    | (go_at_call 36; refine (finv_e k B T x a true HX.out.1 HX.out.2.2 HX.out.2.1 w1 (HF.out.below hb)).mono ?_; rintro r w2 ⟨rfl, hF2, hb2⟩))
  go_ret2
  exact ⟨rfl, hF2, (But.of_below hb).trans hb2⟩
set_option maxRecDepth 100000 in
set_option maxHeartbeats 1000000 in
theorem qtop_zero (k B T n c : Nat) (q : Option Addr) (xs : List Nat) (hd : Dg 0 (ofL xs)) (w : World) (h : Fd k B T w) (hs : Bs w q n xs) :
    Calls Tryz.prog 21 #[.pointer (some ⟨B, 0, none⟩), .slice q n c] w fun r w' => r = .returned (.tuple #[.int .u8 0, .bool false]) ∧ Fd k B T w' ∧ But (· = T) w w' := by
  have K1 : Calls Tryz.prog 38 #[.slice q n c] w fun r w' => r = .returned (.int .i64 (-1)) ∧ Below w.heap.size w w' := pdeg_calls q n c xs 0 hd w hs
  have K2 : Hid (∀ W, Bs W q n xs → Calls Tryz.prog 37 #[.slice q n c, .int .i64 (-1)] W fun r w' => r = .returned (.int .u8 0) ∧ w' = W) := fun W hW => pcoef_calls q n c xs (-1) W hW
  have HS : Hid (Bs w q n xs) := hs
  have HF : Hid (Fd k B T w) := h
  clear hs h hd
  go_enter Tryz.func21, Tryz.ntmps21
  go_wp2_with (first
    | (go_at_call 38; refine K1.mono ?_; rintro r w1 ⟨rfl, hb⟩)
    | (go_at_call 37; refine (K2.out w1 (HS.out.below hb)).mono ?_; rintro r w1 ⟨rfl, rfl⟩)
    | (go_at_call 36; refine (finv_e k B T 0 0 false (by decide) Gf.inv_zero rfl w1 (HF.out.below hb)).mono ?_; rintro r w2 ⟨rfl, hF2, hb2⟩))
  go_ret2
  exact ⟨rfl, hF2, (But.of_below hb).trans hb2⟩
set_option maxRecDepth 100000 in
set_option maxHeartbeats 1000000 in
/-- Without a field. -/
theorem qtop_nil (n c : Nat) (q : Option Addr) (xs : List Nat) (w : World) (hs : Bs w q n xs) :
    Calls Tryz.prog 21 #[.pointer none, .slice q n c] w fun r w' => r = .returned (.tuple #[.int .u8 0, .bool false]) ∧ Below w.heap.size w w' := by
  obtain ⟨d, _, hd⟩ := Pol.dg_list xs
  have K1 := pdeg_calls q n c xs d hd w hs
  obtain ⟨i, hi⟩ : ∃ i : Int, (d : Int) - 1 = i := ⟨_, rfl⟩
  rw [hi] at K1
  obtain ⟨x, hx⟩ : ∃ x, cof xs i = x := ⟨_, rfl⟩
  have K2 : Hid (∀ W, Bs W q n xs → Calls Tryz.prog 37 #[.slice q n c, .int .i64 i] W fun r w' => r = .returned (.int .u8 (x : Nat)) ∧ w' = W) := fun W hW => hx ▸ pcoef_calls q n c xs i W hW
  have HS : Hid (Bs w q n xs) := hs
  clear hs hd hi hx
  go_enter Tryz.func21, Tryz.ntmps21
  go_wp2_with (first
    | (go_at_call 38; refine K1.mono ?_; rintro r w1 ⟨rfl, hb⟩)
    | (go_at_call 37; refine (K2.out w1 (HS.out.below hb)).mono ?_; rintro r w1 ⟨rfl, rfl⟩)
    | (go_at_call 36; refine (finv_nil x w1).mono ?_; rintro r w1 ⟨rfl, rfl⟩))
  go_ret2
  exact ⟨rfl, hb⟩

set_option maxRecDepth 100000 in
set_option maxHeartbeats 1000000 in
theorem qmonic_calls (k B T n c e : Nat) (q : Option Addr) (xs zs : List Nat) (hd : Dg (e + 1) (ofL xs)) (hz : IsN zs (Pol.smul (GF.inv (ofL xs e)) (ofL xs))) (hn : n ≤ 1000000000) (hnc : n ≤ c) (w : World) (h : Fd k B T w) (hs : Bs w q n xs) (hq : Off T n q) :
    Calls Tryz.prog 14 #[.pointer (some ⟨B, 0, none⟩), .slice q n c] w fun r w' => ∃ v, r = .returned v ∧ Ow w' w.heap.size v zs ∧ Fd k B T w' ∧ But (· = T) w w' := by
  obtain ⟨a, ha⟩ : ∃ a, Gf.inv (xs.getD e 0) = a := ⟨_, rfl⟩
  have K1 := qtop_calls k B T n c e a q xs hd ha w h hs
  rw [← of_inv_top hs.byt e, ha] at hz
  have ha8 : a < 256 := ha ▸ Gf.inv_lt _ (hs.byte e)
  have HS : Hid (Bs w q n xs ∧ Off T n q) := ⟨hs, hq⟩
  have K2 : Hid (∀ W, Fd k B T W → Bs W q n xs → Calls Tryz.prog 24 #[.pointer (some ⟨B, 0, none⟩), .int .u8 a, .slice q n c] W fun e w' => ∃ v, e = .returned v ∧ Ow w' W.heap.size v zs ∧ Fd k B T w' ∧ But (· = T) W w') := fun W hF hW => pscale_calls k B T a n c q xs zs ha8 hz hn hnc W hF hW hq
  clear hs hd h hz ha ha8 hq
  go_enter Tryz.func14, Tryz.ntmps14
  go_wp2_with (first
    | (go_at_call 21; refine K1.mono ?_; rintro r w1 ⟨rfl, hF, hb⟩)
    | (go_at_call 24; refine (K2.out w1 hF (HS.out.1.but hb HS.out.2)).mono ?_; rintro r w2 ⟨v, rfl, hO, hF2, hb2⟩))
  go_ret
  exact ⟨_, rfl, hO.mono hb.size, hF2, hb.trans hb2⟩
set_option maxRecDepth 100000 in
set_option maxHeartbeats 1000000 in
theorem qmonic_zero (k B T n c : Nat) (q : Option Addr) (xs : List Nat) (hd : Dg 0 (ofL xs)) (w : World) (h : Fd k B T w) (hs : Bs w q n xs) :
    Calls Tryz.prog 14 #[.pointer (some ⟨B, 0, none⟩), .slice q n c] w fun r w' => r = .returned (.slice none 0 0) ∧ Fd k B T w' ∧ But (· = T) w w' := by
  have K1 := qtop_zero k B T n c q xs hd w h hs
  clear hs hd h
  go_enter Tryz.func14, Tryz.ntmps14
  go_wp2_with (go_at_call 21; refine K1.mono ?_; rintro r w1 ⟨rfl, hF, hb⟩)
  go_ret
  exact ⟨rfl, hF, hb⟩
set_option maxRecDepth 100000 in
set_option maxHeartbeats 1000000 in
theorem qmonic_nil (n c : Nat) (q : Option Addr) (xs : List Nat) (w : World) (hs : Bs w q n xs) :
    Calls Tryz.prog 14 #[.pointer none, .slice q n c] w fun r w' => r = .returned (.slice none 0 0) ∧ Below w.heap.size w w' := by
  have K1 := qtop_nil n c q xs w hs
  clear hs
  go_enter Tryz.func14, Tryz.ntmps14
  go_wp2_with (go_at_call 21; refine K1.mono ?_; rintro r w1 ⟨rfl, hb⟩)
  go_ret
  exact ⟨rfl, hb⟩
end Go.Proofs
