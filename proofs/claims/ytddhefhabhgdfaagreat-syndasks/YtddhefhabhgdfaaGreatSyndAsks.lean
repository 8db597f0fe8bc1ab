/- SyndAsks holds for every input: all calls of any codes, words, places and lists, and of choices, are what the chapter says. No conditions. -/
import Derived.Test.YtddhefhabhgdfaaGreatRows
import Derived.Test.YtddhefhabhgdfaaGreatMB
import Derived.Test.YtddhefhabhgdfaaGreatNP
import Derived.Test.YtddhefhabhgdfaaGreatOT
import Derived.Test.YtddhefhabhgdfaaGreatOU
namespace Go.Proofs.YtddhefhabhgdfaaGreat.syndAsks
open Go.ChangeShapes Go.WideShapes Go.ChangeAt Go.RowKit
open Pol (IsN Dg ofL Byt)

/-- A world in which both codes' boxes stand. -/
structure TB (P Q : Nat) (N K B X Y Z : Int) (w W : World) : Prop where
  be : Below w.heap.size w W
  c : Cb W P N K B
  d : Cb W Q X Y Z
theorem TB.below {P Q : Nat} {N K B X Y Z : Int} {w W W' : World} (h : TB P Q N K B X Y Z w W) (hb : Below W.heap.size W W') : TB P Q N K B X Y Z w W' := ⟨h.be.trans (hb.mono h.be.size), h.c.below hb, h.d.below hb⟩

set_option maxRecDepth 100000 in
set_option maxHeartbeats 8000000 in
theorem walk (j : Nat) (N K B : Int) (q1 : Option Addr) (l1 c1 : Nat) (xs : List Nat) (q2 : Option Addr) (l2 c2 : Nat) (zs : List Int) (q3 : Option Addr) (l3 c3 : Nat) (ss : List Nat) (q4 : Option Addr) (l4 c4 : Nat) (ls : List Nat) (n k b : Nat) (q5 : Option Addr) (l5 c5 : Nat) (ds : List Nat) (w : World) (_hj : j < 256) (_hN : -9223372036854775808 ≤ N ∧ N < 9223372036854775808) (_hK : -9223372036854775808 ≤ K ∧ K < 9223372036854775808) (_hB : -9223372036854775808 ≤ B ∧ B < 9223372036854775808) (s1 : Bs w q1 l1 xs) (d1 : l1 ≤ c1 ∧ c1 ≤ 140737488351232) (s2 : Ns .i64 w q2 l2 zs) (d2 : l2 ≤ c2 ∧ c2 ≤ 140737488351232) (s3 : Bs w q3 l3 ss) (d3 : l3 ≤ c3 ∧ c3 ≤ 140737488351232) (s4 : Bs w q4 l4 ls) (d4 : l4 ≤ c4 ∧ c4 ≤ 140737488351232) (hn : n < 256) (hk : k < 256) (hb : b < 256) (s5 : Bs w q5 l5 ds) (_d5 : l5 ≤ c5 ∧ c5 ≤ 140737488351232) :
    Calls Tryz.prog 3 #[.int .u8 j, .agg #[.int .i64 N, .int .i64 K, .int .i64 B], .slice q1 l1 c1, .slice q2 l2 c2, .slice q3 l3 c3, .slice q4 l4 c4, .int .u8 n, .int .u8 k, .int .u8 b, .slice q5 l5 c5] w fun e w' => e = .returned (.bool true) ∧ Below w.heap.size w w' := by
  have hnot : ∀ (x : Bool) (w : World), (Op.unary .not (.bool x)).run Tryz.prog w = .ok (.bool (!x)) w := fun _ _ => rfl
  obtain ⟨P, hP⟩ : ∃ P, w.heap.size = P := ⟨_, rfl⟩
  obtain ⟨W0, hW0⟩ : ∃ W0, w.alloc (.cells #[.int .i64 N, .int .i64 K, .int .i64 B] 23) = W0 := ⟨_, rfl⟩
  have hb0 : Below w.heap.size w W0 := hW0 ▸ (Below.refl _ w).alloc (Nat.le_refl _) _
  have hC0 : Cb W0 P N K B := by rw [← hW0, ← hP]; exact cb_new w _ _ _
  have K1 := known12_calls W0
  have HK1 : Hid (∀ W, Calls Tryz.prog 9 #[] W fun e w' => e = .returned (.bool true) ∧ Below W.heap.size W w') := known12_calls
  obtain ⟨sl, hsl⟩ : ∃ sl : Nat, l3 + l4 = sl := ⟨_, rfl⟩
  have hw34 : wrap64 ((l3 : Int) + (l4 : Int)) = (sl : Int) := by unfold wrap64; omega
  have H0 : Hid (Below w.heap.size w W0 ∧ Cb W0 P N K B ∧ (Bs w q1 l1 xs ∧ l1 ≤ c1) ∧ (Ns .i64 w q2 l2 zs ∧ l2 ≤ c2) ∧ (Bs w q3 l3 ss ∧ l3 ≤ c3) ∧ (Bs w q4 l4 ls ∧ l4 ≤ c4) ∧ Bs w q5 l5 ds) := ⟨hb0, hC0, ⟨s1, d1.1⟩, ⟨s2, d2.1⟩, ⟨s3, d3.1⟩, ⟨s4, d4.1⟩, s5⟩
  have HSl : Hid (l3 + l4 = sl) := hsl
  have hC := hC0
  clear hb0 hC0 s1 s2 s3 s4 s5 d1 d2 d3 d4 _d5 _hj _hN _hK _hB hsl
  go_enter Tryz.func3, Tryz.ntmps3
  by_cases g1 : 300 < l1
  · have g1i : (300 : Int) < (l1 : Int) := by omega
    clear hn hk hb hC
    go_wp2_with fail
    refine K1.mono ?_
    rintro e w1 ⟨rfl, hb⟩
    go_wp2
    go_ret
    exact ⟨rfl, H0.out.1.trans (hb.mono H0.out.1.size)⟩
  have g1i : ((300 : Int) < (l1 : Int)) = False := eq_false (by omega)
  have g1n : (300 < l1) = False := eq_false g1
  by_cases g2 : 40 < l2
  · have g2i : (40 : Int) < (l2 : Int) := by omega
    clear hn hk hb hC g1
    go_wp2_with fail
    refine K1.mono ?_
    rintro e w1 ⟨rfl, hb⟩
    go_wp2
    go_ret
    exact ⟨rfl, H0.out.1.trans (hb.mono H0.out.1.size)⟩
  have g2i : ((40 : Int) < (l2 : Int)) = False := eq_false (by omega)
  have g2n : (40 < l2) = False := eq_false g2
  by_cases g3 : 120 < sl
  · have g3i : (120 : Int) < (sl : Int) := by omega
    clear hn hk hb hC g1 g2
    go_wp2_with fail
    refine K1.mono ?_
    rintro e w1 ⟨rfl, hb⟩
    go_wp2
    go_ret
    exact ⟨rfl, H0.out.1.trans (hb.mono H0.out.1.size)⟩
  have g3i : ((120 : Int) < (sl : Int)) = False := eq_false (by omega)
  have g3n : (120 < sl) = False := eq_false g3
  have HL : Hid (l1 ≤ 300 ∧ l2 ≤ 40 ∧ l3 + l4 ≤ 120) := by have := HSl.out; show l1 ≤ 300 ∧ l2 ≤ 40 ∧ l3 + l4 ≤ 120; omega
  by_cases hbad : 60 < N ∧ N < 256
  · have h1 : (60 < N) = True := eq_true hbad.1
    have h2 : (N < 256) = True := eq_true hbad.2
    clear hn hk hb hbad g1 g2 g3
    have u0 := (hC).c0
    have u1 := (hC).c1
    have u2 := (hC).c2
    clear hC
    go_wp2_with fail
    refine K1.mono ?_
    rintro e w1 ⟨rfl, hb⟩
    go_wp2
    go_ret
    exact ⟨rfl, H0.out.1.trans (hb.mono H0.out.1.size)⟩
  have hN2 : (60 < N) = False ∨ ((60 < N) = True ∧ (N < 256) = False) := by
    by_cases h : 60 < N
    · exact .inr ⟨eq_true h, eq_false fun h' => hbad ⟨h, h'⟩⟩
    · exact .inl (eq_false h)
  clear hbad g1 g2 g3
  have hK0 : ∀ W, Calls Tryz.prog 10 _ W _ := fun W => lcode_calls n k b hn hk hb W
  have hle := ckN_le n k
  obtain ⟨X, hX⟩ : ∃ X, ckN n k = X := ⟨_, rfl⟩
  obtain ⟨Y, hY⟩ : ∃ Y, ckK n k = Y := ⟨_, rfl⟩
  obtain ⟨Z, hZ⟩ : ∃ Z, ckB b = Z := ⟨_, rfl⟩
  rw [hX, hY, hZ] at hK0
  obtain ⟨es, hes⟩ : ∃ es, erL X 9 ds = es := ⟨_, rfl⟩
  obtain ⟨m, hm⟩ : ∃ m, es.length = m := ⟨_, rfl⟩
  have hok : ErOk X 9 es := hes ▸ erL_ok (by omega) ds
  have HZ : Hid (X ≤ 69 ∧ 0 < X ∧ erL X 9 ds = es ∧ es.length = m ∧ m ≤ 9 ∧ ErOk X 9 es) := ⟨by omega, by omega, hes, hm, by have := hok.len; omega, hok⟩
  have K0 : Hid (∀ W, Calls Tryz.prog 10 #[.int .u8 n, .int .u8 k, .int .u8 b] W fun e w' => e = .returned (.agg #[.int .i64 (X : Nat), .int .i64 (Y : Nat), .int .i64 (Z : Nat)]) ∧ Below W.heap.size W w') := hK0
  clear hX hY hZ hK0 hle hn hk hb hes hm hok
  rcases hN2 with h1 | ⟨h1, h2⟩
  all_goals
    have u0 := (hC).c0
    have u1 := (hC).c1
    have u2 := (hC).c2
    clear hC
    go_wp2_with fail
    refine K1.mono ?_
    rintro e w1 ⟨rfl, hb⟩
    clear K1 hW0 hP
    clear u0 u1 u2
    have H1 : Hid (Below w.heap.size w w1 ∧ Cb w1 P N K B) := ⟨H0.out.1.trans (hb.mono H0.out.1.size), H0.out.2.1.below hb⟩
    clear hb
    go_wp2_with fail
    refine (K0.out w1).mono ?_
    rintro e w2 ⟨rfl, hb⟩
    clear K0
    obtain ⟨Q, hQ⟩ : ∃ Q, w2.heap.size = Q := ⟨_, rfl⟩
    obtain ⟨W3, hW3⟩ : ∃ W3, w2.alloc (.cells #[.int .i64 (X : Nat), .int .i64 (Y : Nat), .int .i64 (Z : Nat)] 23) = W3 := ⟨_, rfl⟩
    have hb23 : Below w2.heap.size w2 W3 := hW3 ▸ (Below.refl _ w2).alloc (Nat.le_refl _) _
    have hT3 : TB P Q N K B (X : Nat) (Y : Nat) (Z : Nat) w W3 := by
      have h1 := cb_new w2 (X : Int) (Y : Int) (Z : Int)
      rw [hW3, hQ] at h1
      have h2 := H1.out.1.trans (hb.mono H1.out.1.size)
      exact ⟨h2.trans (hb23.mono h2.size), (H1.out.2.below hb).below hb23, h1⟩
    have HXs : Hid (∀ W, TB P Q N K B (X : Nat) (Y : Nat) (Z : Nat) w W → Bs W q1 l1 xs ∧ Ns .i64 W q2 l2 zs ∧ Bs W q3 l3 ss ∧ Bs W q4 l4 ls ∧ Bs W q5 l5 ds) := fun W hW => ⟨H0.out.2.2.1.1.below hW.be, H0.out.2.2.2.1.1.below hW.be, H0.out.2.2.2.2.1.1.below hW.be, H0.out.2.2.2.2.2.1.1.below hW.be, H0.out.2.2.2.2.2.2.below hW.be⟩
    have KA : Hid (∀ W, TB P Q N K B (X : Nat) (Y : Nat) (Z : Nat) w W → Calls Tryz.prog 11 #[.int .u8 j, .agg #[.int .i64 N, .int .i64 K, .int .i64 B], .slice q1 l1 c1, .slice q2 l2 c2, .slice q3 l3 c3, .slice q4 l4 c4] W fun e w' => e = .returned (.bool true) ∧ TB P Q N K B (X : Nat) (Y : Nat) (Z : Nat) w w') := fun W hW => (asks12_calls j N K B q1 q2 q3 q4 l1 c1 l2 c2 l3 c3 l4 c4 xs ss ls zs (by have := HL.out; omega) (by have := HL.out; omega) (by have := HL.out; omega) (by have := HL.out; omega) W (HXs.out W hW).1 (HXs.out W hW).2.1 (HXs.out W hW).2.2.1 (HXs.out W hW).2.2.2.1 H0.out.2.2.1.2 H0.out.2.2.2.1.2 H0.out.2.2.2.2.1.2 H0.out.2.2.2.2.2.1.2).mono fun _ _ ⟨e, hb⟩ => ⟨e, hW.below hb⟩
    have KB : Hid (∀ q6 c6 q7 c7 W, TB P Q N K B (X : Nat) (Y : Nat) (Z : Nat) w W → Hid (Bs W q6 X (Cd.wd X xs) ∧ X ≤ c6) → Hid (Ns .i64 W q7 m (zi es) ∧ m ≤ c7) → Calls Tryz.prog 11 #[.int .u8 j, .agg #[.int .i64 (X : Nat), .int .i64 (Y : Nat), .int .i64 (Z : Nat)], .slice q6 X c6, .slice q7 m c7, .slice q3 l3 c3, .slice q4 l4 c4] W fun e w' => e = .returned (.bool true) ∧ TB P Q N K B (X : Nat) (Y : Nat) (Z : Nat) w w') := fun q6 c6 q7 c7 W hW g6 g7 => (asks12_calls j X Y Z q6 q7 q3 q4 X c6 m c7 l3 c3 l4 c4 (Cd.wd X xs) ss ls (zi es) (by have := HZ.out.1; omega) (by have := HZ.out.2.2.2.2.1; omega) (by have := HL.out; omega) (by have := HL.out; omega) W g6.out.1 g7.out.1 (HXs.out W hW).2.2.1 (HXs.out W hW).2.2.2.1 g6.out.2 g7.out.2 H0.out.2.2.2.2.1.2 H0.out.2.2.2.2.2.1.2).mono fun _ _ ⟨e, hb⟩ => ⟨e, hW.below hb⟩
    have KC : Hid (∀ W, TB P Q N K B (X : Nat) (Y : Nat) (Z : Nat) w W → Calls Tryz.prog 11 #[.int .u8 j, .agg #[.int .i64 (X : Nat), .int .i64 (Y : Nat), .int .i64 (Z : Nat)], .slice q1 l1 c1, .slice q2 l2 c2, .slice q3 l3 c3, .slice q4 l4 c4] W fun e w' => e = .returned (.bool true) ∧ TB P Q N K B (X : Nat) (Y : Nat) (Z : Nat) w w') := fun W hW => (asks12_calls j X Y Z q1 q2 q3 q4 l1 c1 l2 c2 l3 c3 l4 c4 xs ss ls zs (by have := HL.out; omega) (by have := HL.out; omega) (by have := HL.out; omega) (by have := HL.out; omega) W (HXs.out W hW).1 (HXs.out W hW).2.1 (HXs.out W hW).2.2.1 (HXs.out W hW).2.2.2.1 H0.out.2.2.1.2 H0.out.2.2.2.1.2 H0.out.2.2.2.2.1.2 H0.out.2.2.2.2.2.1.2).mono fun _ _ ⟨e, hb⟩ => ⟨e, hW.below hb⟩
    have KW : Hid (∀ W, TB P Q N K B (X : Nat) (Y : Nat) (Z : Nat) w W → Calls Tryz.prog 12 #[.agg #[.int .i64 (X : Nat), .int .i64 (Y : Nat), .int .i64 (Z : Nat)], .slice q1 l1 c1] W fun e w' => ∃ q6 c6, e = .returned (.slice q6 X c6) ∧ Hid (Bs w' q6 X (Cd.wd X xs) ∧ X ≤ c6) ∧ TB P Q N K B (X : Nat) (Y : Nat) (Z : Nat) w w') := fun W hW => (lword_calls X l1 c1 (Y : Int) (Z : Int) q1 xs (by have := HZ.out.1; omega) W (HXs.out W hW).1).mono fun e w' ⟨v, he, hO, hb⟩ => by
      obtain ⟨q6, c6, rfl, S6, C6, -⟩ := hO.tell (n := X) (Cd.wd_byt (HXs.out W hW).1.byte X) (Cd.wd_length X xs)
      exact ⟨q6, c6, he, ⟨S6, C6⟩, hW.below hb⟩
    have KE : Hid (∀ q6 c6 W, TB P Q N K B (X : Nat) (Y : Nat) (Z : Nat) w W → Hid (Bs W q6 X (Cd.wd X xs) ∧ X ≤ c6) → Calls Tryz.prog 13 #[.agg #[.int .i64 (X : Nat), .int .i64 (Y : Nat), .int .i64 (Z : Nat)], .slice q5 l5 c5, .int .i64 9] W fun e w' => ∃ q7 c7, e = .returned (.slice q7 m c7) ∧ Hid (Ns .i64 w' q7 m (zi es) ∧ m ≤ c7) ∧ Hid (Bs w' q6 X (Cd.wd X xs) ∧ X ≤ c6) ∧ TB P Q N K B (X : Nat) (Y : Nat) (Z : Nat) w w') := fun q6 c6 W hW g6 => (erased_calls X (Y : Int) (Z : Int) l5 c5 9 q5 ds HZ.out.2.1 (by have := HZ.out.1; omega) (by omega) W (HXs.out W hW).2.2.2.2).mono fun e w' ⟨v, he, hO, hb⟩ => by
      rw [HZ.out.2.2.1] at hO
      obtain ⟨q7, c7, rfl, S7, C7, -⟩ := hO.tell_z (n := m) (zi_wf fun i hi => by have := HZ.out.2.2.2.2.2.lt i hi; have := HZ.out.1; omega) (by rw [zi_length]; exact HZ.out.2.2.2.1)
      exact ⟨q7, c7, he, ⟨S7, C7⟩, ⟨g6.out.1.below hb, g6.out.2⟩, hW.below hb⟩
    have hT0 := hT3.below (Below.refl _ W3).drew
    have hC := hT3.c
    have hD := hT3.d
    clear hb hb23 hT3 h1
    have u0 := (hC).c0
    have u1 := (hC).c1
    have u2 := (hC).c2
    have v0 := (hD).c0
    have v1 := (hD).c1
    have v2 := (hD).c2
    clear hC hD
    go_wp2
    go_region_held3 (fun w' => w'.cell? ⟨P, 0, none⟩ = some (.int .i64 N) ∧ w'.cell? ⟨P, 1, none⟩ = some (.int .i64 K) ∧ w'.cell? ⟨P, 2, none⟩ = some (.int .i64 B) ∧ w'.cell? ⟨Q, 0, none⟩ = some (.int .i64 (X : Nat)) ∧ w'.cell? ⟨Q, 1, none⟩ = some (.int .i64 (Y : Nat)) ∧ w'.cell? ⟨Q, 2, none⟩ = some (.int .i64 (Z : Nat)))
      (first | (with_reducible exact ⟨hT5.c.c0, hT5.c.c1, hT5.c.c2, hT5.d.c0, hT5.d.c1, hT5.d.c2⟩) | (with_reducible exact ⟨hT4.c.c0, hT4.c.c1, hT4.c.c2, hT4.d.c0, hT4.d.c1, hT4.d.c2⟩) | (with_reducible exact ⟨hT3.c.c0, hT3.c.c1, hT3.c.c2, hT3.d.c0, hT3.d.c1, hT3.d.c2⟩) | (with_reducible exact ⟨hT2.c.c0, hT2.c.c1, hT2.c.c2, hT2.d.c0, hT2.d.c1, hT2.d.c2⟩) | (with_reducible exact ⟨hT1.c.c0, hT1.c.c1, hT1.c.c2, hT1.d.c0, hT1.d.c1, hT1.d.c2⟩) | (with_reducible exact ⟨hT0.c.c0, hT0.c.c1, hT0.c.c2, hT0.d.c0, hT0.d.c1, hT0.d.c2⟩))
      (first
        | (go_at_call 11; with_reducible refine (KA.out _ hT0).mono ?_; rintro e x1 ⟨rfl, hT1⟩)
        | (go_at_call 12; with_reducible refine (KW.out _ hT1).mono ?_; rintro e x2 ⟨q6, c6, rfl, g6, hT2⟩)
        | (go_at_call 13; with_reducible refine (KE.out _ _ _ hT2 g6).mono ?_; rintro e x3 ⟨q7, c7, rfl, g7, g6', hT3⟩)
        | (go_at_call 11; with_reducible refine (KB.out _ _ _ _ _ hT3 g6' g7).mono ?_; rintro e x4 ⟨rfl, hT4⟩)
        | (go_at_call 11; with_reducible refine (KC.out _ hT4).mono ?_; rintro e x5 ⟨rfl, hT5⟩))
    go_wp2
    go_ret
    exact ⟨rfl, hT5.be⟩
theorem own : ownKnob Tryz.prog.godebug = none := by kernel_rfl
theorem laidOut : laidOutB Tryz.prog = true := by kernel_rfl
set_option maxRecDepth 100000 in
theorem lifted (os : Os) (started : os.Started) (H : Type) (enc : TypeId × Value → H) :
    ReturnsInHanded {} Tryz.checked os 3 .any (Rows.syndAsksSpec.pre6 enc Tryz.prog Tryz.f3 Rows.syndAsksRow.domain false) (Rows.syndAsksSpec.post enc Tryz.prog Tryz.f3 false true false false) := by
  refine returnsInHanded_of_change_sized (C := Tryz.checked) own started (by kernel_rfl) Tryz.func3
    (ChangeSpec.witness6 (enc := enc) (C := Tryz.checked) false ⟨#[], #[.int .u8 0, .agg #[.int .i64 0, .int .i64 0, .int .i64 0], .slice none 0 0, .slice none 0 0, .slice none 0 0, .slice none 0 0, .int .u8 0, .int .u8 0, .int .u8 0, .slice none 0 0], []⟩ 8 (by kernel_rfl) (by kernel_rfl) (by kernel_rfl) (by kernel_rfl)) ?_
  intro W base args ds gs before hval0 hW _ hz _
  have hval : ∀ (j : Nat) t v, Tryz.f3.params[j]? = some t → args[j]? = some v → Value.okWide Tryz.prog W .any base t v := hval0
  have hW' := hW
  obtain ⟨p, q, hA0, hV, rfl, _, _⟩ := hW
  have hA : DataW.TrodAll enc Tryz.prog W 0 (fun _ => true) true Tryz.f3.params.toList args.toList ds p := hA0
  rw [Tryz.params3] at hA hval
  obtain ⟨v0, vs0, d0, ds0, p0, q0, hargs, rfl, rfl, h0, r0⟩ := trodAll_cons hA
  obtain ⟨v1, vs1, d1, ds1, p1, q1, rfl, rfl, rfl, h1, r1⟩ := trodAll_cons r0
  obtain ⟨v2, vs2, d2, ds2, p2, q2, rfl, rfl, rfl, h2, r2⟩ := trodAll_cons r1
  obtain ⟨v3, vs3, d3, ds3, p3, q3, rfl, rfl, rfl, h3, r3⟩ := trodAll_cons r2
  obtain ⟨v4, vs4, d4, ds4, p4, q4, rfl, rfl, rfl, h4, r4⟩ := trodAll_cons r3
  obtain ⟨v5, vs5, d5, ds5, p5, q5, rfl, rfl, rfl, h5, r5⟩ := trodAll_cons r4
  obtain ⟨v6, vs6, d6, ds6, p6, q6, rfl, rfl, rfl, h6, r6⟩ := trodAll_cons r5
  obtain ⟨v7, vs7, d7, ds7, p7, q7, rfl, rfl, rfl, h7, r7⟩ := trodAll_cons r6
  obtain ⟨v8, vs8, d8, ds8, p8, q8, rfl, rfl, rfl, h8, r8⟩ := trodAll_cons r7
  obtain ⟨v9, vs9, d9, ds9, p9, q9, rfl, rfl, rfl, h9, r9⟩ := trodAll_cons r8
  obtain ⟨rfl, rfl, rfl⟩ := trodAll_nil r9
  obtain rfl : args = #[v0, v1, v2, v3, v4, v5, v6, v7, v8, v9] := by cases args; simp_all
  obtain ⟨rfl, rfl⟩ := trodVars_none hV
  obtain ⟨a0, rfl, rfl, rfl, w0⟩ := open_int Tryz.underlying5 (hval 0 5 v0 rfl rfl) h0
  obtain ⟨n0, b0, rfl⟩ := nat_of_u8 w0
  have k1 := h1
  obtain ⟨N1, K1, B1, rfl, bN1, bK1, bB1⟩ := open_code Tryz.underlying23 ⟨rfl, rfl⟩ ⟨rfl, rfl⟩ ⟨rfl, rfl⟩ Tryz.underlying3 (by kernel_rfl) (by kernel_rfl) (hval 1 23 v1 rfl rfl) h1
  have k2 := h2
  obtain ⟨q2, n2, c2, xs2, rfl, w2, m2⟩ := open_bytes_sz Tryz.underlying24 Tryz.underlying5 (by kernel_rfl) (hval 2 24 v2 rfl rfl) h2
  have y2 : n2 ≤ c2 ∧ c2 ≤ 140737488351232 := ⟨m2.1, m2.2 _ fun el sp hd => by have := sized_slice (j := 2) (t := 24) (e := 5) (elems := el) (spare := sp) hz (by kernel_rfl) (by first | (rw [← hd]; done) | (rw [← hd]; rfl)) Tryz.underlying24; have hbe : Tryz.checked.prog.bytesOf 5 = 1 := (by kernel_rfl); have hre : reachBytes = 140737488351232 := rfl; rw [hbe, hre] at this; omega⟩
  have k3 := h3
  obtain ⟨q3, n3, c3, zs3, rfl, w3, m3⟩ := open_nums_sz Tryz.underlying25 Tryz.underlying3 (by kernel_rfl) (hval 3 25 v3 rfl rfl) h3
  have y3 : n3 ≤ c3 ∧ c3 ≤ 140737488351232 := ⟨m3.1, m3.2 _ fun el sp hd => by have := sized_slice (j := 3) (t := 25) (e := 3) (elems := el) (spare := sp) hz (by kernel_rfl) (by first | (rw [← hd]; done) | (rw [← hd]; rfl)) Tryz.underlying25; have hbe : Tryz.checked.prog.bytesOf 3 = 8 := (by kernel_rfl); have hre : reachBytes = 140737488351232 := rfl; rw [hbe, hre] at this; omega⟩
  have k4 := h4
  obtain ⟨q4, n4, c4, xs4, rfl, w4, m4⟩ := open_bytes_sz Tryz.underlying24 Tryz.underlying5 (by kernel_rfl) (hval 4 24 v4 rfl rfl) h4
  have y4 : n4 ≤ c4 ∧ c4 ≤ 140737488351232 := ⟨m4.1, m4.2 _ fun el sp hd => by have := sized_slice (j := 4) (t := 24) (e := 5) (elems := el) (spare := sp) hz (by kernel_rfl) (by first | (rw [← hd]; done) | (rw [← hd]; rfl)) Tryz.underlying24; have hbe : Tryz.checked.prog.bytesOf 5 = 1 := (by kernel_rfl); have hre : reachBytes = 140737488351232 := rfl; rw [hbe, hre] at this; omega⟩
  have k5 := h5
  obtain ⟨q5, n5, c5, xs5, rfl, w5, m5⟩ := open_bytes_sz Tryz.underlying24 Tryz.underlying5 (by kernel_rfl) (hval 5 24 v5 rfl rfl) h5
  have y5 : n5 ≤ c5 ∧ c5 ≤ 140737488351232 := ⟨m5.1, m5.2 _ fun el sp hd => by have := sized_slice (j := 5) (t := 24) (e := 5) (elems := el) (spare := sp) hz (by kernel_rfl) (by first | (rw [← hd]; done) | (rw [← hd]; rfl)) Tryz.underlying24; have hbe : Tryz.checked.prog.bytesOf 5 = 1 := (by kernel_rfl); have hre : reachBytes = 140737488351232 := rfl; rw [hbe, hre] at this; omega⟩
  obtain ⟨a6, rfl, rfl, rfl, w6⟩ := open_int Tryz.underlying5 (hval 6 5 v6 rfl rfl) h6
  obtain ⟨n6, b6, rfl⟩ := nat_of_u8 w6
  obtain ⟨a7, rfl, rfl, rfl, w7⟩ := open_int Tryz.underlying5 (hval 7 5 v7 rfl rfl) h7
  obtain ⟨n7, b7, rfl⟩ := nat_of_u8 w7
  obtain ⟨a8, rfl, rfl, rfl, w8⟩ := open_int Tryz.underlying5 (hval 8 5 v8 rfl rfl) h8
  obtain ⟨n8, b8, rfl⟩ := nat_of_u8 w8
  have k9 := h9
  obtain ⟨q9, n9, c9, xs9, rfl, w9, m9⟩ := open_bytes_sz Tryz.underlying24 Tryz.underlying5 (by kernel_rfl) (hval 9 24 v9 rfl rfl) h9
  have y9 : n9 ≤ c9 ∧ c9 ≤ 140737488351232 := ⟨m9.1, m9.2 _ fun el sp hd => by have := sized_slice (j := 9) (t := 24) (e := 5) (elems := el) (spare := sp) hz (by kernel_rfl) (by first | (rw [← hd]; done) | (rw [← hd]; rfl)) Tryz.underlying24; have hbe : Tryz.checked.prog.bytesOf 5 = 1 := (by kernel_rfl); have hre : reachBytes = 140737488351232 := rfl; rw [hbe, hre] at this; omega⟩
  clear hA0 hval0
  simp only [List.append_nil] at hW'
  refine (walk (w := W) n0 N1 K1 B1 q2 n2 c2 xs2 q3 n3 c3 zs3 q4 n4 c4 xs4 q5 n5 c5 xs5 n6 n7 n8 q9 n9 c9 xs9 b0 bN1 bK1 bB1 w2 y2 w3 y3 w4 y4 w5 y5 b6 b7 b8 w9 y9).mono fun e W' ⟨he, bel⟩ => ?_
  subst he
  exact ⟨_, rfl, _, _, _, [], _, [], hW', trodAll_mk1 (shut_bool Tryz.underlying4 _), (trodAll_cons_mk (shut_int Tryz.underlying5 w0) (trodAll_cons_mk (shut_same laidOut (by kernel_rfl) (of_decide_eq_true (by kernel_rfl)) k1 bel) (trodAll_cons_mk (shut_same laidOut (by kernel_rfl) (of_decide_eq_true (by kernel_rfl)) k2 bel) (trodAll_cons_mk (shut_same laidOut (by kernel_rfl) (of_decide_eq_true (by kernel_rfl)) k3 bel) (trodAll_cons_mk (shut_same laidOut (by kernel_rfl) (of_decide_eq_true (by kernel_rfl)) k4 bel) (trodAll_cons_mk (shut_same laidOut (by kernel_rfl) (of_decide_eq_true (by kernel_rfl)) k5 bel) (trodAll_cons_mk (shut_int Tryz.underlying5 w6) (trodAll_cons_mk (shut_int Tryz.underlying5 w7) (trodAll_cons_mk (shut_int Tryz.underlying5 w8) (trodAll_cons_mk (shut_same laidOut (by kernel_rfl) (of_decide_eq_true (by kernel_rfl)) k9 bel) trodAll_mk0)))))))))), rfl, bel.frame _, fun h => by cases h⟩
theorem over : Rows.syndAsksRow.holds Tryz.pinned (OpenSpec.ofChange Rows.syndAsksSpec) :=
  OpenClaim.holds_of_wide 3 Tryz.f3 rfl rfl rfl rfl rfl rfl rfl ⟨rfl, rfl, rfl, rfl, rfl⟩ rfl rfl rfl rfl rfl (by kernel_rfl) Tryz.func3 (by kernel_rfl)
    (of_decide_eq_true (by kernel_rfl)) (by unfold Func.isWrapper; first | (rw [if_pos (by decide +kernel)]; kernel_rfl) | (rw [if_neg (by decide +kernel)]; exact ⟨rfl, rfl⟩))
    (fun os started H enc _ => lifted os started H enc)
theorem proved : Rows.SyndAsksSaid := over
#print axioms proved
end Go.Proofs.YtddhefhabhgdfaaGreat.syndAsks
