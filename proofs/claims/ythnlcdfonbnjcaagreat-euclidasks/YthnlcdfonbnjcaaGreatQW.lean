/- What the laws of Euclid's steps ask, each call a step from world to world; known of layer 15. Conditions: a field that Of has made; lists apart from its table. -/
import Derived.Test.YthnlcdfonbnjcaaGreatQV
import Derived.Test.YthnlcdfonbnjcaaGreatQT
import Derived.Test.YthnlcdfonbnjcaaGreatNU
import Derived.Test.YthnlcdfonbnjcaaGreatQI
import Derived.Test.YthnlcdfonbnjcaaGreatMK
import Derived.Test.YthnlcdfonbnjcaaGreatMG
import Derived.Test.YthnlcdfonbnjcaaGreatQK
namespace Go.Proofs
open Go.RowKit Go.ChangeShapes Go.WideShapes
open Pol (IsN Dg ofL Byt)
open Eu (IsRun IsKey)

section
variable (k B T : Nat) (w0 : World)
theorem xrun (n c m d h N a1 a2 : Nat) (q p : Option Addr) (z : Int) (xs ys ss vs : List Nat) (hz : (if z < 0 then 0 else z) = (h : Int)) (hR : IsRun xs ys h ss vs N) (l1 : ss.length = a1) (l2 : vs.length = a2) (hn : n ≤ 1000) (hm : m ≤ 1000) (W : World) (hW : Tw k B T w0 W) (ta : Tl W T q n c xs) (tb : Tl W T p m d ys) :
    Calls Tryz.prog 14 #[.pointer (some ⟨B, 0, none⟩), .slice q n c, .slice p m d, .int .i64 z] W fun e w' => ∃ q2 c2 q4 c4, e = .returned (.tuple #[.slice q2 a1 c2, .slice q4 a2 c4]) ∧ Tl w' T q2 a1 c2 ss ∧ Tl w' T q4 a2 c4 vs ∧ Tw k B T w0 w' ∧ But (· = T) W w' :=
  (erun_calls B T k h N n c m d a1 a2 q p z hz xs ys ss vs hR l1 l2 hn hm W hW.fd ta tb).mono fun _ _ ⟨q2, c2, q4, c4, he, t1, t2, hF, hb⟩ => ⟨q2, c2, q4, c4, he, t1, t2, hW.next hF hb, hb⟩
theorem xstep (n c m d h N : Nat) (q p : Option Addr) (z : Int) (xs ys ss vs : List Nat) (hz : (if z < 0 then 0 else z) = (h : Int)) (hR : IsRun xs ys h ss vs N) (hn : n ≤ 1000) (hm : m ≤ 1000) (W : World) (hW : Tw k B T w0 W) (ta : Tl W T q n c xs) (tb : Tl W T p m d ys) :
    Calls Tryz.prog 12 #[.pointer (some ⟨B, 0, none⟩), .slice q n c, .slice p m d, .int .i64 z] W fun e w' => e = .returned (.int .i64 (N : Nat)) ∧ Tw k B T w0 w' ∧ But (· = T) W w' :=
  (estp_calls B T k h N n c m d q p z hz xs ys ss vs hR hn hm W hW.fd ta tb).mono fun _ _ ⟨he, hF, hb⟩ => ⟨he, hW.next hF hb, hb⟩
theorem xkey (n c a1 a2 : Nat) (q : Option Addr) (xs ls es : List Nat) (z : Int) (b : Bool) (hK : IsKey xs z ls es b) (l1 : ls.length = a1) (l2 : es.length = a2) (hn : n ≤ 500) (W : World) (hW : Tw k B T w0 W) (ta : Tl W T q n c xs) :
    Calls Tryz.prog 19 #[.pointer (some ⟨B, 0, none⟩), .slice q n c, .int .i64 z] W fun e w' => ∃ q1 c1 q2 c2, e = .returned (.tuple #[.slice q1 a1 c1, .slice q2 a2 c2, .bool b]) ∧ Tl w' T q1 a1 c1 ls ∧ Tl w' T q2 a2 c2 es ∧ Tw k B T w0 w' ∧ But (· = T) W w' :=
  (ekey_calls B T k n c a1 a2 q xs ls es z b hK l1 l2 hn W hW.fd ta).mono fun _ _ ⟨q2, c2, q4, c4, he, t1, t2, hF, hb⟩ => ⟨q2, c2, q4, c4, he, t1, t2, hW.next hF hb, hb⟩
theorem xsame (q p : Option Addr) (n m c d : Nat) (xs ys : List Nat) (b : Bool) (hb : b = true ↔ xs = ys) (W : World) (hW : Tw k B T w0 W) (h1 : Tl W T q n c xs) (h2 : Tl W T p m d ys) :
    Calls Tryz.prog 23 #[.slice q n c, .slice p m d] W fun e w' => e = .returned (.bool b) ∧ Tw k B T w0 w' ∧ But (· = T) W w' := ksame14 k B T w0 q p n m c d xs ys b hb W hW h1 h2
theorem xr15run (q p : Option Addr) (n c m d h N a1 a2 : Nat) (xs ys ss vs : List Nat) (z : Int) (hz : (if z < 0 then 0 else z) = (h : Int)) (hR : IsRun xs ys h ss vs N) (l1 : ss.length = a1) (l2 : vs.length = a2) (hn : n ≤ 1000) (hm : m ≤ 1000) (W : World) (hW : Tw k B T w0 W) (hx : Tl W T q n c xs) (hy : Tl W T p m d ys) :
    Calls Tryz.prog 25 #[.slice q n c, .slice p m d, .int .i64 z] W fun e w' => ∃ q2 c2 q4 c4, e = .returned (.tuple #[.slice q2 a1 c2, .slice q4 a2 c4, .int .i64 (N : Nat)]) ∧ Tl w' T q2 a1 c2 ss ∧ Tl w' T q4 a2 c4 vs ∧ Tw k B T w0 w' ∧ But (· = T) W w' :=
  (r15run_calls q p n c m d h N xs ys ss vs z hz hR hn hm hx.le hy.le W hx.bs hy.bs).mono fun e w' ⟨v1, v2, he, hO1, hO2, hb⟩ => by
    obtain ⟨q2, c2, rfl, t1⟩ := hO1.tl hW.lt hR.s.byt l1
    obtain ⟨q4, c4, rfl, t2⟩ := hO2.tl hW.lt hR.v.byt l2
    exact ⟨q2, c2, q4, c4, he, t1, t2, hW.below hb, But.of_below hb⟩
theorem xr15key (q : Option Addr) (n c a1 a2 : Nat) (xs ls es : List Nat) (z : Int) (b : Bool) (hK : IsKey xs z ls es b) (l1 : ls.length = a1) (l2 : es.length = a2) (hn : n ≤ 500) (W : World) (hW : Tw k B T w0 W) (hx : Tl W T q n c xs) :
    Calls Tryz.prog 26 #[.slice q n c, .int .i64 z] W fun e w' => ∃ q2 c2 q4 c4, e = .returned (.tuple #[.slice q2 a1 c2, .slice q4 a2 c4, .bool b]) ∧ Tl w' T q2 a1 c2 ls ∧ Tl w' T q4 a2 c4 es ∧ Tw k B T w0 w' ∧ But (· = T) W w' :=
  (r15key_calls q n c xs ls es z b hK hn hx.le W hx.bs).mono fun e w' ⟨v1, v2, he, hO1, hO2, hb⟩ => by
    obtain ⟨q2, c2, rfl, t1⟩ := hO1.tl hW.lt hK.byt.1 l1
    obtain ⟨q4, c4, rfl, t2⟩ := hO2.tl hW.lt hK.byt.2 l2
    exact ⟨q2, c2, q4, c4, he, t1, t2, hW.below hb, But.of_below hb⟩
end

set_option maxRecDepth 100000 in
set_option maxHeartbeats 4000000 in
theorem known15_calls (w : World) : Calls Tryz.prog 6 #[] w fun e w' => e = .returned (.bool true) ∧ Below w.heap.size w w' := by
  have K0 := fof_calls 2 (by decide) (by decide) w
  obtain ⟨ls, es, b1, hk1⟩ := Eu.isKey_exists [1, 2, 4, 8] 0
  obtain ⟨rfl, rfl, rfl⟩ := Eu.isKey_1248 hk1
  obtain ⟨l2, e2, b2, hk2⟩ := Eu.isKey_exists [1] 2
  obtain rfl := Eu.isKey_12 hk2
  obtain ⟨a3, ha3⟩ : ∃ a, l2.length = a := ⟨_, rfl⟩
  obtain ⟨a4, ha4⟩ : ∃ a, e2.length = a := ⟨_, rfl⟩
  have HK : Hid (IsKey [1, 2, 4, 8] 0 [1, 2] [1] true ∧ IsKey [1] 2 l2 e2 false ∧ l2.length = a3 ∧ e2.length = a4) := ⟨hk1, hk2, ha3, ha4⟩
  clear hk1 hk2 ha3 ha4
  go_enter Tryz.func6, Tryz.ntmps6
  go_wp2_with fail
  refine K0.mono ?_
  rintro e w1 ⟨B, T, rfl, hF, hb, hlB, hlT⟩
  clear K0
  have HT : Hid (w.heap.size ≤ T) := hlT
  have hT1 : Tw 2 B T w w1 := ⟨hF, But.of_below hb⟩
  clear hF hb hlB hlT
  have l1 := tl_lt w1 T [1, 2, 4, 8] #[.int .u8 1, .int .u8 2, .int .u8 4, .int .u8 8] _ 4 hT1.lt rfl rfl rfl (by decide) (by decide)
  have K := xkey 2 B T w 4 4 2 1 _ [1, 2, 4, 8] [1, 2] [1] 0 true HK.out.1 rfl rfl (by decide) _ (hT1.alloc _) l1
  clear hT1 l1
  go_wp2_with fail
  refine K.mono ?_
  rintro e w2 ⟨q2, c2, q3, c3, rfl, t2, t3, hT2, -⟩
  clear K
  have l3 := tl_lt w2 T [1] #[.int .u8 1] _ 1 hT2.lt rfl rfl rfl (by decide) (by decide)
  have K := xkey 2 B T w 1 1 a3 a4 _ [1] l2 e2 2 false HK.out.2.1 HK.out.2.2.1 HK.out.2.2.2 (by decide) _ (hT2.alloc _) l3
  have H2 := t2.alloc (.cells #[.int .u8 1] 5)
  have H3 := t3.alloc (.cells #[.int .u8 1] 5)
  clear hT2 l3 t2 t3
  go_wp2_with fail
  refine K.mono ?_
  rintro e w4 ⟨q4, c4, q5, c5, rfl, -, -, hT4, hb4⟩
  clear K
  have t2 := H2.but hb4
  have t3 := H3.but hb4
  clear H2 H3 hb4
  have l5 := tl_lt w4 T [1, 2] #[.int .u8 1, .int .u8 2] _ 2 hT4.lt rfl rfl rfl (by decide) (by decide)
  have K := xsame 2 B T w q2 _ 2 2 c2 2 [1, 2] [1, 2] true ⟨fun _ => rfl, fun _ => rfl⟩ _ (hT4.alloc _) (t2.alloc _) l5
  have H3 := t3.alloc (.cells #[.int .u8 1, .int .u8 2] 5)
  clear hT4 t2 t3 l5
  go_wp2_with fail
  refine K.mono ?_
  rintro e w6 ⟨rfl, hT6, hb6⟩
  clear K
  have t3 := H3.but hb6
  clear H3 hb6
  have l7 := tl_lt w6 T [1] #[.int .u8 1] _ 1 hT6.lt rfl rfl rfl (by decide) (by decide)
  have K := xsame 2 B T w q3 _ 1 1 c3 1 [1] [1] true ⟨fun _ => rfl, fun _ => rfl⟩ _ (hT6.alloc _) (t3.alloc _) l7
  clear hT6 t3 l7
  go_wp2_with fail
  refine K.mono ?_
  rintro e w8 ⟨rfl, hT8, -⟩
  clear K
  have HZ : Hid (Below w.heap.size w w8) := hT8.but.below (Nat.le_refl _) (by rintro k rfl; exact HT.out)
  clear hT8
  go_wp2
  go_ret
  exact ⟨rfl, HZ.out⟩
end Go.Proofs
