/- What the laws of registers ask, each call a step from world to world. Conditions: a field that Of has made; lists apart from its table. -/
import Derived.Test.YtfbbphddakjhhaaGreatQD
import Derived.Test.YtfbbphddakjhhaaGreatQE
import Derived.Test.YtfbbphddakjhhaaGreatQH
import Derived.Test.YtfbbphddakjhhaaGreatNU
import Derived.Test.YtfbbphddakjhhaaGreatMO
namespace Go.Proofs
open Go.RowKit Go.ChangeShapes Go.WideShapes
open Pol (IsN Dg ofL Byt)

theorem tl_lt (W : World) (T : Nat) (L : List Nat) (A : Array Value) (h n : Nat) (hT : T < W.heap.size) (hA : A = ⟨ob L⟩) (hh : h = W.heap.size) (hn : n = L.length) (hx : L.all (· < 256) = true) (hl : L.length ≤ 1000) : Tl (W.alloc (.cells A 5)) T (some ⟨h, 0, none⟩) n n L :=
  ⟨bs_lits W A L h n hA hh hn hx hl, Nat.le_refl _, by rw [hh]; exact off_new hT⟩
theorem Tw.size {k B T : Nat} {w W : World} (h : Tw k B T w W) : w.heap.size ≤ W.heap.size := h.but.size
theorem Tw.lt {k B T : Nat} {w W : World} (h : Tw k B T w W) : T < W.heap.size := h.fd.lt
theorem Tw.alloc {k B T : Nat} {w W : World} (h : Tw k B T w W) (o : Obj) : Tw k B T w (W.alloc o) := h.below ((Below.refl _ W).alloc (Nat.le_refl _) o)
theorem Tl.alloc {W : World} {T n c : Nat} {q : Option Addr} {xs : List Nat} (h : Tl W T q n c xs) (o : Obj) : Tl (W.alloc o) T q n c xs := h.below ((Below.refl _ W).alloc (Nat.le_refl _) o)
section
variable (k B T : Nat) (w0 : World)
theorem kmassey (q : Option Addr) (n c L : Nat) (xs : List Nat) (hn : n ≤ 1000000) (hL : Ms.Least (ofL xs) n L) (W : World) (hW : Tw k B T w0 W) (hs : Tl W T q n c xs) :
    Calls Tryz.prog 10 #[.pointer (some ⟨B, 0, none⟩), .slice q n c] W fun e w' => ∃ q2 n2 c2, e = .returned (.tuple #[.slice q2 n2 c2, .int .i64 (L : Nat)]) ∧ (∃ ls, ls.length = n2 ∧ Ms.IsMas xs ls L ∧ Tl w' T q2 n2 c2 ls) ∧ Tw k B T w0 w' ∧ But (· = T) W w' :=
  (massey_calls k B T q n c L xs hn hL W hW.fd hs).mono fun e w' ⟨v, he, ls, h1, hO, hF, hb⟩ => by
    obtain ⟨q2, c2, rfl, t⟩ := hO.tl hW.lt h1.nrm.byt rfl
    exact ⟨q2, _, c2, he, ⟨ls, rfl, h1, t⟩, hW.next hF hb, hb⟩
theorem kmlen (q : Option Addr) (n c L : Nat) (xs : List Nat) (hn : n ≤ 1000000) (hL : Ms.Least (ofL xs) n L) (W : World) (hW : Tw k B T w0 W) (hs : Tl W T q n c xs) :
    Calls Tryz.prog 14 #[.pointer (some ⟨B, 0, none⟩), .slice q n c] W fun e w' => e = .returned (.int .i64 (L : Nat)) ∧ Tw k B T w0 w' ∧ But (· = T) W w' :=
  (mlength_calls k B T q n c L xs hn hL W hW.fd hs).mono fun _ _ ⟨he, hF, hb⟩ => ⟨he, hW.next hF hb, hb⟩
theorem kmakes (q p : Option Addr) (n c m d : Nat) (cs xs : List Nat) (z : Int) (b : Bool) (hb : b = true ↔ Ms.MkZ cs xs z) (hn : n ≤ 1000000) (hm : m ≤ 1000000) (W : World) (hW : Tw k B T w0 W) (h1 : Tl W T q n c cs) (h2 : Tl W T p m d xs) :
    Calls Tryz.prog 13 #[.pointer (some ⟨B, 0, none⟩), .slice q n c, .int .i64 z, .slice p m d] W fun e w' => e = .returned (.bool b) ∧ Tw k B T w0 w' ∧ But (· = T) W w' :=
  (mmakes_calls k B T q p n c m d cs xs z b hb hn hm W hW.fd h1 h2).mono fun _ _ ⟨he, hF, hb⟩ => ⟨he, hW.next hF hb, hb⟩
theorem knext (q p : Option Addr) (n c m d : Nat) (cs xs : List Nat) (z : Int) (b : Bool) (r : Nat) (hb : b = true ↔ Ms.MkZ cs xs z) (hr : r = if b = true then Ms.nxv cs xs else 0) (hn : n ≤ 1000000) (hm : m < 1000000) (W : World) (hW : Tw k B T w0 W) (h1 : Tl W T q n c cs) (h2 : Tl W T p m d xs) :
    Calls Tryz.prog 11 #[.pointer (some ⟨B, 0, none⟩), .slice q n c, .int .i64 z, .slice p m d] W fun e w' => e = .returned (.tuple #[.int .u8 (r : Nat), .bool b]) ∧ Tw k B T w0 w' ∧ But (· = T) W w' :=
  (mnext_calls k B T q p n c m d cs xs z b r hb hr hn hm W hW.fd h1 h2).mono fun _ _ ⟨he, hF, hb⟩ => ⟨he, hW.next hF hb, hb⟩
theorem ksame14 (q p : Option Addr) (n m c d : Nat) (xs ys : List Nat) (b : Bool) (hb : b = true ↔ xs = ys) (W : World) (hW : Tw k B T w0 W) (h1 : Tl W T q n c xs) (h2 : Tl W T p m d ys) :
    Calls Tryz.prog 12 #[.slice q n c, .slice p m d] W fun e w' => e = .returned (.bool b) ∧ Tw k B T w0 w' ∧ But (· = T) W w' :=
  (same_any q p n m c d xs ys b hb W h1.bs h2.bs).mono fun _ _ ⟨e, hb⟩ => ⟨e, hW.below hb, But.of_below hb⟩
end

set_option maxRecDepth 100000 in
set_option maxHeartbeats 4000000 in
theorem known14_calls (w : World) : Calls Tryz.prog 5 #[] w fun e w' => e = .returned (.bool true) ∧ Below w.heap.size w w' := by
  have K0 := fof_calls 2 (by decide) (by decide) w
  go_enter Tryz.func5, Tryz.ntmps5
  go_wp2_with fail
  refine K0.mono ?_
  rintro e w1 ⟨B, T, rfl, hF, hb, hlB, hlT⟩
  clear K0
  have HT : Hid (w.heap.size ≤ T) := hlT
  have hT1 : Tw 2 B T w w1 := ⟨hF, But.of_below hb⟩
  clear hF hb hlB hlT
  have l1 := tl_lt w1 T [1, 2, 4, 8] #[.int .u8 1, .int .u8 2, .int .u8 4, .int .u8 8] _ 4 hT1.lt rfl rfl rfl (by decide) (by decide)
  have K := kmassey 2 B T w _ 4 4 1 [1, 2, 4, 8] (by decide) Ms.least_1248 _ (hT1.alloc _) l1
  clear hT1 l1
  go_wp2_with fail
  refine K.mono ?_
  rintro e w2 ⟨q2, n2, c2, rfl, ⟨ls, hl2, hls, l2⟩, hT2, -⟩
  clear K
  obtain rfl := hls.alone Ms.isMas_1248 (by decide)
  obtain rfl : n2 = 2 := hl2.symm
  clear hls hl2
  obtain ⟨A, hA⟩ : ∃ A, w2.heap.size = A := ⟨_, rfl⟩
  obtain ⟨w3, hw3⟩ : ∃ w3, w2.alloc (.cells #[.int .u8 1, .int .u8 2] 5) = w3 := ⟨_, rfl⟩
  have l3 := tl_lt w2 T [1, 2] #[.int .u8 1, .int .u8 2] _ 2 hT2.lt rfl rfl rfl (by decide) (by decide)
  have hT3 := hT2.alloc (.cells #[.int .u8 1, .int .u8 2] 5)
  replace l2 := l2.alloc (.cells #[.int .u8 1, .int .u8 2] 5)
  have hsA : w3.heap.size = A + 1 := by rw [← hw3, ← hA]; simp
  rw [hw3] at l2 l3 hT3
  rw [hA] at l3
  have l4 := tl_lt w3 T [1, 2, 4, 8] #[.int .u8 1, .int .u8 2, .int .u8 4, .int .u8 8] (A + 1) 4 hT3.lt rfl hsA.symm rfl (by decide) (by decide)
  have K := knext 2 B T w (some ⟨A, 0, none⟩) (some ⟨A + 1, 0, none⟩) 2 2 4 4 [1, 2] [1, 2, 4, 8] 1 true 16 ⟨fun _ => Ms.isMas_1248.mkZ, fun _ => rfl⟩ (by rw [if_pos rfl, Ms.nxv_1248]) (by decide) (by decide) _ (hT3.alloc _) (l3.alloc _) l4
  have HL2 := l2.alloc (.cells #[.int .u8 1, .int .u8 2, .int .u8 4, .int .u8 8] 5)
  clear hT2 hT3 l2 l3 l4
  go_wp2_with fail
  refine K.mono ?_
  rintro e w5 ⟨rfl, hT5, hb5⟩
  clear K hw3 hA hsA
  have l5 := HL2.but hb5
  clear HL2 hb5
  have l6 := tl_lt w5 T [1, 2] #[.int .u8 1, .int .u8 2] _ 2 hT5.lt rfl rfl rfl (by decide) (by decide)
  have K := ksame14 2 B T w q2 _ 2 2 c2 2 [1, 2] [1, 2] true ⟨fun _ => rfl, fun _ => rfl⟩ _ (hT5.alloc _) (l5.alloc _) l6
  have HL5 := l5.alloc (.cells #[.int .u8 1, .int .u8 2] 5)
  clear hT5 l5 l6
  go_wp2_with fail
  refine K.mono ?_
  rintro e w6 ⟨rfl, hT6, hb6⟩
  clear K
  have l6 := HL5.but hb6
  clear HL5 hb6
  have l7 := tl_lt w6 T [1, 2, 4, 8] #[.int .u8 1, .int .u8 2, .int .u8 4, .int .u8 8] _ 4 hT6.lt rfl rfl rfl (by decide) (by decide)
  have K := kmakes 2 B T w q2 _ 2 c2 4 4 [1, 2] [1, 2, 4, 8] 1 true ⟨fun _ => Ms.isMas_1248.mkZ, fun _ => rfl⟩ (by decide) (by decide) _ (hT6.alloc _) (l6.alloc _) l7
  clear hT6 l6 l7
  go_wp2_with fail
  refine K.mono ?_
  rintro e w7 ⟨rfl, hT7, -⟩
  clear K
  have l8 := tl_lt w7 T [0, 0, 1] #[.int .u8 0, .int .u8 0, .int .u8 1] _ 3 hT7.lt rfl rfl rfl (by decide) (by decide)
  have K := kmlen 2 B T w _ 3 3 3 [0, 0, 1] (by decide) Ms.least_001 _ (hT7.alloc _) l8
  clear hT7 l8
  go_wp2_with fail
  refine K.mono ?_
  rintro e w8 ⟨rfl, hT8, -⟩
  clear K
  have HZ : Hid (Below w.heap.size w w8) := hT8.but.below (Nat.le_refl _) (by rintro k rfl; exact HT.out)
  clear hT8
  go_wp2
  go_ret
  exact ⟨rfl, HZ.out⟩
end Go.Proofs
