/- EncodeAsks holds for every input: all calls of any codes and texts, and of choices, are what the chapter says. No conditions. -/
import Derived.Test.YtagkpjbadmodbaaGreatRows
import Derived.Test.YtagkpjbadmodbaaGreatMB
import Derived.Test.YtagkpjbadmodbaaGreatNP
import Derived.Test.YtagkpjbadmodbaaGreatOI
namespace Go.Proofs.YtagkpjbadmodbaaGreat.encodeAsks
open Go.ChangeShapes Go.WideShapes Go.ChangeAt Go.RowKit
open Pol (IsN Dg ofL Byt)

/-- A world in which both codes' boxes stand. -/
structure TB (P Q : Nat) (N K B X Y Z : Int) (w W : World) : Prop where
  be : Below w.heap.size w W
  c : Cb W P N K B
  d : Cb W Q X Y Z
theorem TB.below {P Q : Nat} {N K B X Y Z : Int} {w W W' : World} (h : TB P Q N K B X Y Z w W) (hb : Below W.heap.size W W') : TB P Q N K B X Y Z w W' := ⟨h.be.trans (hb.mono h.be.size), h.c.below hb, h.d.below hb⟩

set_option maxRecDepth 100000 in
set_option maxHeartbeats 8000000 in
theorem walk (j : Nat) (N K B : Int) (q : Option Addr) (l c : Nat) (xs : List Nat) (n k b : Nat) (w : World) (_hj : j < 256) (_hN : -9223372036854775808 ≤ N ∧ N < 9223372036854775808) (_hK : -9223372036854775808 ≤ K ∧ K < 9223372036854775808) (_hB : -9223372036854775808 ≤ B ∧ B < 9223372036854775808) (hs : Bs w q l xs) (hc : l ≤ c ∧ c ≤ 140737488351232) (hn : n < 256) (hk : k < 256) (hb : b < 256) :
    Calls Tryz.prog 3 #[.int .u8 j, .agg #[.int .i64 N, .int .i64 K, .int .i64 B], .slice q l c, .int .u8 n, .int .u8 k, .int .u8 b] w fun e w' => e = .returned (.bool true) ∧ Below w.heap.size w w' := by
  have hnot : ∀ (x : Bool) (w : World), (Op.unary .not (.bool x)).run Tryz.prog w = .ok (.bool (!x)) w := fun _ _ => rfl
  obtain ⟨P, hP⟩ : ∃ P, w.heap.size = P := ⟨_, rfl⟩
  obtain ⟨W0, hW0⟩ : ∃ W0, w.alloc (.cells #[.int .i64 N, .int .i64 K, .int .i64 B] 23) = W0 := ⟨_, rfl⟩
  have hb0 : Below w.heap.size w W0 := hW0 ▸ (Below.refl _ w).alloc (Nat.le_refl _) _
  have hC0 : Cb W0 P N K B := by rw [← hW0, ← hP]; exact cb_new w _ _ _
  have K1 := known11_calls W0
  have H0 : Hid (Below w.heap.size w W0 ∧ Cb W0 P N K B ∧ Bs w q l xs ∧ l ≤ c) := ⟨hb0, hC0, hs, hc.1⟩
  have hC := hC0
  clear hb0 hC0 hs hc _hj _hN _hK _hB
  go_enter Tryz.func3, Tryz.ntmps3
  by_cases hl : 300 < l
  · have hl1 : (300 : Int) < (l : Int) := by omega
    clear hn hk hb hC
    go_wp2_with fail
    refine K1.mono ?_
    rintro e w1 ⟨rfl, hb⟩
    go_wp2
    go_ret
    exact ⟨rfl, H0.out.1.trans (hb.mono H0.out.1.size)⟩
  have hl1 : ((300 : Int) < (l : Int)) = False := eq_false (by omega)
  have hl2 : (300 < l) = False := eq_false hl
  have HL : Hid (l ≤ 300) := by show l ≤ 300; omega
  by_cases hbad : 100 < N ∧ N < 256
  · have h1 : (100 < N) = True := eq_true hbad.1
    have h2 : (N < 256) = True := eq_true hbad.2
    clear hn hk hb hbad
    have u0 := (hC).c0
    have u1 := (hC).c1
    have u2 := (hC).c2
    clear hC
    go_wp2_with fail
    refine K1.mono ?_
    rintro e w1 ⟨rfl, hb⟩
    go_wp2
    go_ret
    exact ⟨rfl, H0.out.1.trans (hb.mono H0.out.1.size)⟩
  have hN2 : (100 < N) = False ∨ ((100 < N) = True ∧ (N < 256) = False) := by
    by_cases h : 100 < N
    · exact .inr ⟨eq_true h, eq_false fun h' => hbad ⟨h, h'⟩⟩
    · exact .inl (eq_false h)
  clear hbad
  have hK0 : ∀ W, Calls Tryz.prog 9 _ W _ := fun W => lcode_calls n k b hn hk hb W
  have hle := ckN_le n k
  have hcod := ck_cod n k b
  obtain ⟨X, hX⟩ : ∃ X, ckN n k = X := ⟨_, rfl⟩
  obtain ⟨Y, hY⟩ : ∃ Y, ckK n k = Y := ⟨_, rfl⟩
  obtain ⟨Z, hZ⟩ : ∃ Z, ckB b = Z := ⟨_, rfl⟩
  rw [hX, hY, hZ] at hK0 hcod
  have HZ : Hid (X ≤ 69 ∧ Y < X) := ⟨by omega, hcod.n⟩
  have K0 : Hid (∀ W, Calls Tryz.prog 9 #[.int .u8 n, .int .u8 k, .int .u8 b] W fun e w' => e = .returned (.agg #[.int .i64 (X : Nat), .int .i64 (Y : Nat), .int .i64 (Z : Nat)]) ∧ Below W.heap.size W w') := hK0
  clear hX hY hZ hK0 hle hl hn hk hb hcod
  rcases hN2 with h1 | ⟨h1, h2⟩
  all_goals
    have u0 := (hC).c0
    have u1 := (hC).c1
    have u2 := (hC).c2
    clear hC
    go_wp2_with fail
    refine K1.mono ?_
    rintro e w1 ⟨rfl, hb⟩
    clear K1 hW0 hP
    clear u0 u1 u2
    have H1 : Hid (Below w.heap.size w w1 ∧ Cb w1 P N K B) := ⟨H0.out.1.trans (hb.mono H0.out.1.size), H0.out.2.1.below hb⟩
    clear hb
    go_wp2_with fail
    refine (K0.out w1).mono ?_
    rintro e w2 ⟨rfl, hb⟩
    clear K0
    obtain ⟨Q, hQ⟩ : ∃ Q, w2.heap.size = Q := ⟨_, rfl⟩
    obtain ⟨W3, hW3⟩ : ∃ W3, w2.alloc (.cells #[.int .i64 (X : Nat), .int .i64 (Y : Nat), .int .i64 (Z : Nat)] 23) = W3 := ⟨_, rfl⟩
    have hb23 : Below w2.heap.size w2 W3 := hW3 ▸ (Below.refl _ w2).alloc (Nat.le_refl _) _
    have hT3 : TB P Q N K B (X : Nat) (Y : Nat) (Z : Nat) w W3 := by
      have h1 := cb_new w2 (X : Int) (Y : Int) (Z : Int)
      rw [hW3, hQ] at h1
      have h2 := H1.out.1.trans (hb.mono H1.out.1.size)
      exact ⟨h2.trans (hb23.mono h2.size), (H1.out.2.below hb).below hb23, h1⟩
    have HXs : Hid (∀ W, TB P Q N K B (X : Nat) (Y : Nat) (Z : Nat) w W → Bs W q l xs) := fun W hW => H0.out.2.2.1.below hW.be
    have KA : Hid (∀ W, TB P Q N K B (X : Nat) (Y : Nat) (Z : Nat) w W → Calls Tryz.prog 10 #[.int .u8 j, .agg #[.int .i64 N, .int .i64 K, .int .i64 B], .slice q l c] W fun e w' => e = .returned (.bool true) ∧ TB P Q N K B (X : Nat) (Y : Nat) (Z : Nat) w w') := fun W hW => (asks11_calls j N K B q l c xs W (HXs.out W hW) H0.out.2.2.2).mono fun _ _ ⟨e, hb⟩ => ⟨e, hW.below hb⟩
    have KB : Hid (∀ W, TB P Q N K B (X : Nat) (Y : Nat) (Z : Nat) w W → Calls Tryz.prog 10 #[.int .u8 j, .agg #[.int .i64 (X : Nat), .int .i64 (Y : Nat), .int .i64 (Z : Nat)], .slice q l c] W fun e w' => e = .returned (.bool true) ∧ TB P Q N K B (X : Nat) (Y : Nat) (Z : Nat) w w') := fun W hW => (asks11_calls j X Y Z q l c xs W (HXs.out W hW) H0.out.2.2.2).mono fun _ _ ⟨e, hb⟩ => ⟨e, hW.below hb⟩
    have KM : Hid (∀ W, TB P Q N K B (X : Nat) (Y : Nat) (Z : Nat) w W → Calls Tryz.prog 11 #[.agg #[.int .i64 (X : Nat), .int .i64 (Y : Nat), .int .i64 (Z : Nat)], .slice q l c] W fun e w' => ∃ q2 c2, e = .returned (.slice q2 Y c2) ∧ Hid (Bs w' q2 Y (Cd.wd Y xs) ∧ Y ≤ c2) ∧ TB P Q N K B (X : Nat) (Y : Nat) (Z : Nat) w w') := fun W hW => (lmsg_calls Y l c (X : Int) (Z : Int) q xs (by have := HZ.out; omega) W (HXs.out W hW)).mono fun e w' ⟨v, he, hO, hb⟩ => by
      obtain ⟨q2, c2, rfl, S2, C2, -⟩ := hO.tell (n := Y) (Cd.wd_byt (HXs.out W hW).byte Y) (Cd.wd_length Y xs)
      exact ⟨q2, c2, he, ⟨S2, C2⟩, hW.below hb⟩
    have KW : Hid (∀ W, TB P Q N K B (X : Nat) (Y : Nat) (Z : Nat) w W → Calls Tryz.prog 12 #[.agg #[.int .i64 (X : Nat), .int .i64 (Y : Nat), .int .i64 (Z : Nat)], .slice q l c] W fun e w' => ∃ q2 c2, e = .returned (.slice q2 X c2) ∧ Hid (Bs w' q2 X (Cd.wd X xs) ∧ X ≤ c2) ∧ TB P Q N K B (X : Nat) (Y : Nat) (Z : Nat) w w') := fun W hW => (lword_calls X l c (Y : Int) (Z : Int) q xs (by have := HZ.out; omega) W (HXs.out W hW)).mono fun e w' ⟨v, he, hO, hb⟩ => by
      obtain ⟨q2, c2, rfl, S2, C2, -⟩ := hO.tell (n := X) (Cd.wd_byt (HXs.out W hW).byte X) (Cd.wd_length X xs)
      exact ⟨q2, c2, he, ⟨S2, C2⟩, hW.below hb⟩
    have KC : Hid (∀ q2 c2 m ys W, Hid (Bs W q2 m ys ∧ m ≤ c2) → TB P Q N K B (X : Nat) (Y : Nat) (Z : Nat) w W → Calls Tryz.prog 10 #[.int .u8 j, .agg #[.int .i64 (X : Nat), .int .i64 (Y : Nat), .int .i64 (Z : Nat)], .slice q2 m c2] W fun e w' => e = .returned (.bool true) ∧ TB P Q N K B (X : Nat) (Y : Nat) (Z : Nat) w w') := fun q2 c2 m ys W h hW => (asks11_calls j X Y Z q2 m c2 ys W h.out.1 h.out.2).mono fun _ _ ⟨e, hb⟩ => ⟨e, hW.below hb⟩
    have KD : Hid (∀ q2 c2 m ys W, Hid (Bs W q2 m ys ∧ m ≤ c2) → TB P Q N K B (X : Nat) (Y : Nat) (Z : Nat) w W → Calls Tryz.prog 10 #[.int .u8 j, .agg #[.int .i64 N, .int .i64 K, .int .i64 B], .slice q2 m c2] W fun e w' => e = .returned (.bool true) ∧ TB P Q N K B (X : Nat) (Y : Nat) (Z : Nat) w w') := fun q2 c2 m ys W h hW => (asks11_calls j N K B q2 m c2 ys W h.out.1 h.out.2).mono fun _ _ ⟨e, hb⟩ => ⟨e, hW.below hb⟩
    have hT0 := hT3.below (Below.refl _ W3).drew
    have hC := hT3.c
    have hD := hT3.d
    clear hb hb23 hT3 h1
    have u0 := (hC).c0
    have u1 := (hC).c1
    have u2 := (hC).c2
    have v0 := (hD).c0
    have v1 := (hD).c1
    have v2 := (hD).c2
    clear hC hD
    go_wp2
    go_region_held3 (fun w' => w'.cell? ⟨P, 0, none⟩ = some (.int .i64 N) ∧ w'.cell? ⟨P, 1, none⟩ = some (.int .i64 K) ∧ w'.cell? ⟨P, 2, none⟩ = some (.int .i64 B) ∧ w'.cell? ⟨Q, 0, none⟩ = some (.int .i64 (X : Nat)) ∧ w'.cell? ⟨Q, 1, none⟩ = some (.int .i64 (Y : Nat)) ∧ w'.cell? ⟨Q, 2, none⟩ = some (.int .i64 (Z : Nat)))
      (first | (with_reducible exact ⟨hT8.c.c0, hT8.c.c1, hT8.c.c2, hT8.d.c0, hT8.d.c1, hT8.d.c2⟩) | (with_reducible exact ⟨hT7.c.c0, hT7.c.c1, hT7.c.c2, hT7.d.c0, hT7.d.c1, hT7.d.c2⟩) | (with_reducible exact ⟨hT6.c.c0, hT6.c.c1, hT6.c.c2, hT6.d.c0, hT6.d.c1, hT6.d.c2⟩) | (with_reducible exact ⟨hT5.c.c0, hT5.c.c1, hT5.c.c2, hT5.d.c0, hT5.d.c1, hT5.d.c2⟩) | (with_reducible exact ⟨hT4.c.c0, hT4.c.c1, hT4.c.c2, hT4.d.c0, hT4.d.c1, hT4.d.c2⟩) | (with_reducible exact ⟨hT3.c.c0, hT3.c.c1, hT3.c.c2, hT3.d.c0, hT3.d.c1, hT3.d.c2⟩) | (with_reducible exact ⟨hT2.c.c0, hT2.c.c1, hT2.c.c2, hT2.d.c0, hT2.d.c1, hT2.d.c2⟩) | (with_reducible exact ⟨hT1.c.c0, hT1.c.c1, hT1.c.c2, hT1.d.c0, hT1.d.c1, hT1.d.c2⟩) | (with_reducible exact ⟨hT0.c.c0, hT0.c.c1, hT0.c.c2, hT0.d.c0, hT0.d.c1, hT0.d.c2⟩))
      (first
        | (go_at_call 10; with_reducible refine (KA.out _ hT0).mono ?_; rintro e x1 ⟨rfl, hT1⟩)
        | (go_at_call 10; with_reducible refine (KB.out _ hT1).mono ?_; rintro e x2 ⟨rfl, hT2⟩)
        | (go_at_call 11; with_reducible refine (KM.out _ hT2).mono ?_; rintro e x3 ⟨q3, c3, rfl, h3, hT3⟩)
        | (go_at_call 10; with_reducible refine (KC.out _ _ _ _ _ h3 hT3).mono ?_; rintro e x4 ⟨rfl, hT4⟩)
        | (go_at_call 12; with_reducible refine (KW.out _ hT4).mono ?_; rintro e x5 ⟨q5, c5, rfl, h5, hT5⟩)
        | (go_at_call 10; with_reducible refine (KC.out _ _ _ _ _ h5 hT5).mono ?_; rintro e x6 ⟨rfl, hT6⟩)
        | (go_at_call 11; with_reducible refine (KM.out _ hT6).mono ?_; rintro e x7 ⟨q7, c7, rfl, h7, hT7⟩)
        | (go_at_call 10; with_reducible refine (KD.out _ _ _ _ _ h7 hT7).mono ?_; rintro e x8 ⟨rfl, hT8⟩))
    go_wp2
    go_ret
    exact ⟨rfl, hT8.be⟩
theorem own : ownKnob Tryz.prog.godebug = none := by kernel_rfl
theorem laidOut : laidOutB Tryz.prog = true := by kernel_rfl
set_option maxRecDepth 100000 in
theorem lifted (os : Os) (started : os.Started) (H : Type) (enc : TypeId × Value → H) :
    ReturnsInHanded {} Tryz.checked os 3 .any (Rows.encodeAsksSpec.pre6 enc Tryz.prog Tryz.f3 Rows.encodeAsksRow.domain false) (Rows.encodeAsksSpec.post enc Tryz.prog Tryz.f3 false true false false) := by
  refine returnsInHanded_of_change_sized (C := Tryz.checked) own started (by kernel_rfl) Tryz.func3
    (ChangeSpec.witness6 (enc := enc) (C := Tryz.checked) false ⟨#[], #[.int .u8 0, .agg #[.int .i64 0, .int .i64 0, .int .i64 0], .slice none 0 0, .int .u8 0, .int .u8 0, .int .u8 0], []⟩ 8 (by kernel_rfl) (by kernel_rfl) (by kernel_rfl) (by kernel_rfl)) ?_
  intro W base args ds gs before hval0 hW _ hz _
  have hval : ∀ (j : Nat) t v, Tryz.f3.params[j]? = some t → args[j]? = some v → Value.okWide Tryz.prog W .any base t v := hval0
  have hW' := hW
  obtain ⟨p, q, hA0, hV, rfl, _, _⟩ := hW
  have hA : DataW.TrodAll enc Tryz.prog W 0 (fun _ => true) true Tryz.f3.params.toList args.toList ds p := hA0
  rw [Tryz.params3] at hA hval
  obtain ⟨v0, vs0, d0, ds0, p0, q0, hargs, rfl, rfl, h0, r0⟩ := trodAll_cons hA
  obtain ⟨v1, vs1, d1, ds1, p1, q1, rfl, rfl, rfl, h1, r1⟩ := trodAll_cons r0
  obtain ⟨v2, vs2, d2, ds2, p2, q2, rfl, rfl, rfl, h2, r2⟩ := trodAll_cons r1
  obtain ⟨v3, vs3, d3, ds3, p3, q3, rfl, rfl, rfl, h3, r3⟩ := trodAll_cons r2
  obtain ⟨v4, vs4, d4, ds4, p4, q4, rfl, rfl, rfl, h4, r4⟩ := trodAll_cons r3
  obtain ⟨v5, vs5, d5, ds5, p5, q5, rfl, rfl, rfl, h5, r5⟩ := trodAll_cons r4
  obtain ⟨rfl, rfl, rfl⟩ := trodAll_nil r5
  obtain rfl : args = #[v0, v1, v2, v3, v4, v5] := by cases args; simp_all
  obtain ⟨rfl, rfl⟩ := trodVars_none hV
  obtain ⟨a0, rfl, rfl, rfl, w0⟩ := open_int Tryz.underlying5 (hval 0 5 v0 rfl rfl) h0
  obtain ⟨n0, b0, rfl⟩ := nat_of_u8 w0
  have k1 := h1
  obtain ⟨N1, K1, B1, rfl, bN1, bK1, bB1⟩ := open_code Tryz.underlying23 ⟨rfl, rfl⟩ ⟨rfl, rfl⟩ ⟨rfl, rfl⟩ Tryz.underlying3 (by kernel_rfl) (by kernel_rfl) (hval 1 23 v1 rfl rfl) h1
  have k2 := h2
  obtain ⟨q2, n2, c2, xs2, rfl, w2, m2⟩ := open_bytes_sz Tryz.underlying24 Tryz.underlying5 (by kernel_rfl) (hval 2 24 v2 rfl rfl) h2
  have y2 : n2 ≤ c2 ∧ c2 ≤ 140737488351232 := ⟨m2.1, m2.2 _ fun el sp hd => by have := sized_slice (j := 2) (t := 24) (e := 5) (elems := el) (spare := sp) hz (by kernel_rfl) (by first | (rw [← hd]; done) | (rw [← hd]; rfl)) Tryz.underlying24; have hbe : Tryz.checked.prog.bytesOf 5 = 1 := (by kernel_rfl); have hre : reachBytes = 140737488351232 := rfl; rw [hbe, hre] at this; omega⟩
  obtain ⟨a3, rfl, rfl, rfl, w3⟩ := open_int Tryz.underlying5 (hval 3 5 v3 rfl rfl) h3
  obtain ⟨n3, b3, rfl⟩ := nat_of_u8 w3
  obtain ⟨a4, rfl, rfl, rfl, w4⟩ := open_int Tryz.underlying5 (hval 4 5 v4 rfl rfl) h4
  obtain ⟨n4, b4, rfl⟩ := nat_of_u8 w4
  obtain ⟨a5, rfl, rfl, rfl, w5⟩ := open_int Tryz.underlying5 (hval 5 5 v5 rfl rfl) h5
  obtain ⟨n5, b5, rfl⟩ := nat_of_u8 w5
  clear hA0 hval0
  simp only [List.append_nil] at hW'
  refine (walk (w := W) n0 N1 K1 B1 q2 n2 c2 xs2 n3 n4 n5 b0 bN1 bK1 bB1 w2 y2 b3 b4 b5).mono fun e W' ⟨he, bel⟩ => ?_
  subst he
  exact ⟨_, rfl, _, _, _, [], _, [], hW', trodAll_mk1 (shut_bool Tryz.underlying4 _), (trodAll_cons_mk (shut_int Tryz.underlying5 w0) (trodAll_cons_mk (shut_same laidOut (by kernel_rfl) (of_decide_eq_true (by kernel_rfl)) k1 bel) (trodAll_cons_mk (shut_same laidOut (by kernel_rfl) (of_decide_eq_true (by kernel_rfl)) k2 bel) (trodAll_cons_mk (shut_int Tryz.underlying5 w3) (trodAll_cons_mk (shut_int Tryz.underlying5 w4) (trodAll_cons_mk (shut_int Tryz.underlying5 w5) trodAll_mk0)))))), rfl, bel.frame _, fun h => by cases h⟩
theorem over : Rows.encodeAsksRow.holds Tryz.pinned (OpenSpec.ofChange Rows.encodeAsksSpec) :=
  OpenClaim.holds_of_wide 3 Tryz.f3 rfl rfl rfl rfl rfl rfl rfl ⟨rfl, rfl, rfl, rfl, rfl⟩ rfl rfl rfl rfl rfl (by kernel_rfl) Tryz.func3 (by kernel_rfl)
    (of_decide_eq_true (by kernel_rfl)) (by unfold Func.isWrapper; first | (rw [if_pos (by decide +kernel)]; kernel_rfl) | (rw [if_neg (by decide +kernel)]; exact ⟨rfl, rfl⟩))
    (fun os started H enc _ => lifted os started H enc)
theorem proved : Rows.EncodeAsksSaid := over
#print axioms proved
end Go.Proofs.YtagkpjbadmodbaaGreat.encodeAsks
