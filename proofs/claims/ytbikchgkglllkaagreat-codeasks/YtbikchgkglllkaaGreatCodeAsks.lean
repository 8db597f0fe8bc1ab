/- CodeAsks holds for every input: all calls of any codes, numbers and words, and of choices, are what the chapter says. No conditions. -/
import Derived.Test.YtbikchgkglllkaaGreatRows
import Derived.Test.YtbikchgkglllkaaGreatMB
import Derived.Test.YtbikchgkglllkaaGreatNP
import Derived.Test.YtbikchgkglllkaaGreatOC
namespace Go.Proofs.YtbikchgkglllkaaGreat.codeAsks
open Go.ChangeShapes Go.WideShapes Go.ChangeAt Go.RowKit
open Pol (IsN Dg ofL Byt)

/-- A world in which both codes' boxes stand. -/
structure TB (P Q : Nat) (N K B X Y Z : Int) (w W : World) : Prop where
  be : Below w.heap.size w W
  c : Cb W P N K B
  d : Cb W Q X Y Z
theorem TB.below {P Q : Nat} {N K B X Y Z : Int} {w W W' : World} (h : TB P Q N K B X Y Z w W) (hb : Below W.heap.size W W') : TB P Q N K B X Y Z w W' := ⟨h.be.trans (hb.mono h.be.size), h.c.below hb, h.d.below hb⟩

set_option maxRecDepth 100000 in
set_option maxHeartbeats 8000000 in
theorem walk (j : Nat) (N K B : Int) (i : Int) (q : Option Addr) (l c : Nat) (xs : List Nat) (n k b : Nat) (w : World) (_hj : j < 256) (_hN : -9223372036854775808 ≤ N ∧ N < 9223372036854775808) (_hK : -9223372036854775808 ≤ K ∧ K < 9223372036854775808) (_hB : -9223372036854775808 ≤ B ∧ B < 9223372036854775808) (hi1 : -9223372036854775808 ≤ i) (hi2 : i < 9223372036854775808) (hs : Bs w q l xs) (hc : l ≤ c ∧ c ≤ 140737488351232) (hn : n < 256) (hk : k < 256) (hb : b < 256) :
    Calls Tryz.prog 3 #[.int .u8 j, .agg #[.int .i64 N, .int .i64 K, .int .i64 B], .int .i64 i, .slice q l c, .int .u8 n, .int .u8 k, .int .u8 b] w fun e w' => e = .returned (.bool true) ∧ Below w.heap.size w w' := by
  have hnot : ∀ (x : Bool) (w : World), (Op.unary .not (.bool x)).run Tryz.prog w = .ok (.bool (!x)) w := fun _ _ => rfl
  obtain ⟨P, hP⟩ : ∃ P, w.heap.size = P := ⟨_, rfl⟩
  obtain ⟨W0, hW0⟩ : ∃ W0, w.alloc (.cells #[.int .i64 N, .int .i64 K, .int .i64 B] 23) = W0 := ⟨_, rfl⟩
  have hb0 : Below w.heap.size w W0 := hW0 ▸ (Below.refl _ w).alloc (Nat.le_refl _) _
  have hC0 : Cb W0 P N K B := by rw [← hW0, ← hP]; exact cb_new w _ _ _
  have K1 := known10_calls W0
  have H0 : Hid (Below w.heap.size w W0 ∧ Cb W0 P N K B ∧ Bs w q l xs ∧ l ≤ c ∧ -9223372036854775808 ≤ i ∧ i < 9223372036854775808) := ⟨hb0, hC0, hs, hc.1, hi1, hi2⟩
  clear hb0 hC0 hs hc hi1 hi2 _hj _hN _hK _hB
  go_enter Tryz.func3, Tryz.ntmps3
  by_cases hl : 300 < l
  · have hl1 : (300 : Int) < (l : Int) := by omega
    clear hn hk hb
    go_wp2_with fail
    refine K1.mono ?_
    rintro e w1 ⟨rfl, hb⟩
    go_wp2
    go_ret
    exact ⟨rfl, H0.out.1.trans (hb.mono H0.out.1.size)⟩
  have hl1 : ((300 : Int) < (l : Int)) = False := eq_false (by omega)
  have hl2 : (300 < l) = False := eq_false hl
  have HL : Hid (l ≤ 300) := by show l ≤ 300; omega
  have hK0 : ∀ W, Calls Tryz.prog 11 _ W _ := fun W => lcode_calls n k b hn hk hb W
  have hle := ckN_le n k
  obtain ⟨X, hX⟩ : ∃ X, ckN n k = X := ⟨_, rfl⟩
  obtain ⟨Y, hY⟩ : ∃ Y, ckK n k = Y := ⟨_, rfl⟩
  obtain ⟨Z, hZ⟩ : ∃ Z, ckB b = Z := ⟨_, rfl⟩
  obtain ⟨z, hz⟩ : ∃ z : Int, (b : Int) - 9 = z := ⟨_, rfl⟩
  have hwb := wrap_nat b (by omega)
  have hwz : IntKind.i64.wrap z = z := by rw [IntKind.wrap_i64]; omega
  have HZ : Hid (-9223372036854775808 ≤ z ∧ z < 9223372036854775808 ∧ X ≤ 69) := ⟨by omega, by omega, by omega⟩
  rw [hX, hY, hZ] at hK0
  have K0 : Hid (∀ W, Calls Tryz.prog 11 #[.int .u8 n, .int .u8 k, .int .u8 b] W fun e w' => e = .returned (.agg #[.int .i64 (X : Nat), .int .i64 (Y : Nat), .int .i64 (Z : Nat)]) ∧ Below W.heap.size W w') := hK0
  clear hX hY hZ hK0 hle hl hn hk hb
  go_wp2_with fail
  refine K1.mono ?_
  rintro e w1 ⟨rfl, hb⟩
  clear K1 hW0 hP
  have H1 : Hid (Below w.heap.size w w1 ∧ Cb w1 P N K B) := ⟨H0.out.1.trans (hb.mono H0.out.1.size), H0.out.2.1.below hb⟩
  clear hb
  go_wp2_with fail
  refine (K0.out w1).mono ?_
  rintro e w2 ⟨rfl, hb⟩
  clear K0
  obtain ⟨Q, hQ⟩ : ∃ Q, w2.heap.size = Q := ⟨_, rfl⟩
  obtain ⟨W3, hW3⟩ : ∃ W3, w2.alloc (.cells #[.int .i64 (X : Nat), .int .i64 (Y : Nat), .int .i64 (Z : Nat)] 23) = W3 := ⟨_, rfl⟩
  have hb23 : Below w2.heap.size w2 W3 := hW3 ▸ (Below.refl _ w2).alloc (Nat.le_refl _) _
  have hT3 : TB P Q N K B (X : Nat) (Y : Nat) (Z : Nat) w W3 := by
    have h1 := cb_new w2 (X : Int) (Y : Int) (Z : Int)
    rw [hW3, hQ] at h1
    have h2 := H1.out.1.trans (hb.mono H1.out.1.size)
    exact ⟨h2.trans (hb23.mono h2.size), (H1.out.2.below hb).below hb23, h1⟩
  have HT3 : Hid (TB P Q N K B (X : Nat) (Y : Nat) (Z : Nat) w W3) := hT3
  have HXs : Hid (∀ W, TB P Q N K B (X : Nat) (Y : Nat) (Z : Nat) w W → Bs W q l xs) := fun W hW => H0.out.2.2.1.below hW.be
  have KA : Hid (∀ W, TB P Q N K B (X : Nat) (Y : Nat) (Z : Nat) w W → Calls Tryz.prog 13 #[.int .u8 j, .agg #[.int .i64 N, .int .i64 K, .int .i64 B], .int .i64 i, .slice q l c] W fun e w' => e = .returned (.bool true) ∧ TB P Q N K B (X : Nat) (Y : Nat) (Z : Nat) w w') := fun W hW => (lasks_any j N K B i q l c xs H0.out.2.2.2.2.1 H0.out.2.2.2.2.2 (by have := HL.out; omega) W (HXs.out W hW) H0.out.2.2.2.1).mono fun _ _ ⟨e, hb⟩ => ⟨e, hW.below hb⟩
  have KB : Hid (∀ W, TB P Q N K B (X : Nat) (Y : Nat) (Z : Nat) w W → Calls Tryz.prog 14 #[.agg #[.int .i64 (X : Nat), .int .i64 (Y : Nat), .int .i64 (Z : Nat)], .slice q l c] W fun e w' => ∃ q2 c2, e = .returned (.slice q2 X c2) ∧ Hid (Bs w' q2 X (Cd.wd X xs) ∧ X ≤ c2) ∧ TB P Q N K B (X : Nat) (Y : Nat) (Z : Nat) w w') := fun W hW => (lword_calls X l c (Y : Int) (Z : Int) q xs (by have := HZ.out; omega) W (HXs.out W hW)).mono fun e w' ⟨v, he, hO, hb⟩ => by
    obtain ⟨q2, c2, rfl, S2, C2, -⟩ := hO.tell (n := X) (Cd.wd_byt (HXs.out W hW).byte X) (Cd.wd_length X xs)
    exact ⟨q2, c2, he, ⟨S2, C2⟩, hW.below hb⟩
  have KC : Hid (∀ q2 c2 W, Hid (Bs W q2 X (Cd.wd X xs) ∧ X ≤ c2) → TB P Q N K B (X : Nat) (Y : Nat) (Z : Nat) w W → Calls Tryz.prog 13 #[.int .u8 j, .agg #[.int .i64 (X : Nat), .int .i64 (Y : Nat), .int .i64 (Z : Nat)], .int .i64 z, .slice q2 X c2] W fun e w' => e = .returned (.bool true) ∧ TB P Q N K B (X : Nat) (Y : Nat) (Z : Nat) w w') := fun q2 c2 W h hW => (lasks_any j X Y Z z q2 X c2 _ HZ.out.1 HZ.out.2.1 (by have := HZ.out; omega) W h.out.1 h.out.2).mono fun _ _ ⟨e, hb⟩ => ⟨e, hW.below hb⟩
  have KD : Hid (∀ W, TB P Q N K B (X : Nat) (Y : Nat) (Z : Nat) w W → Calls Tryz.prog 13 #[.int .u8 j, .agg #[.int .i64 (X : Nat), .int .i64 (Y : Nat), .int .i64 (Z : Nat)], .int .i64 i, .slice q l c] W fun e w' => e = .returned (.bool true) ∧ TB P Q N K B (X : Nat) (Y : Nat) (Z : Nat) w w') := fun W hW => (lasks_any j X Y Z i q l c xs H0.out.2.2.2.2.1 H0.out.2.2.2.2.2 (by have := HL.out; omega) W (HXs.out W hW) H0.out.2.2.2.1).mono fun _ _ ⟨e, hb⟩ => ⟨e, hW.below hb⟩
  have KE : Hid (∀ W, TB P Q N K B (X : Nat) (Y : Nat) (Z : Nat) w W → Calls Tryz.prog 15 #[.agg #[.int .i64 N, .int .i64 K, .int .i64 B]] W fun e w' => e = .returned (.int .u16 (cdE N K B)) ∧ TB P Q N K B (X : Nat) (Y : Nat) (Z : Nat) w w') := fun W hW => (cright_calls N K B W).mono fun _ _ ⟨e, hb⟩ => ⟨e, hW.below hb⟩
  have KF : Hid (∀ W, TB P Q N K B (X : Nat) (Y : Nat) (Z : Nat) w W → Calls Tryz.prog 12 #[.agg #[.int .i64 N, .int .i64 K, .int .i64 B]] W fun e w' => e = .returned (.int .i64 (cdE N K B)) ∧ TB P Q N K B (X : Nat) (Y : Nat) (Z : Nat) w w') := fun W hW => (r10right_calls N K B W).mono fun _ _ ⟨e, hb⟩ => ⟨e, hW.below hb⟩
  have hC := hT3.c
  have hb1 : ∀ z : Int, z = z := fun _ => rfl
  clear hb hb23 hb1
  obtain ⟨r, hr⟩ : ∃ r, cdE N K B = r := ⟨_, rfl⟩
  have hr2 : (cdB N K B = true ∧ r = 0) ∨ (cdB N K B = false ∧ r = 10) := by
    cases h : cdB N K B with
    | true => exact .inl ⟨rfl, by rw [← hr, cdE_yes h]⟩
    | false => exact .inr ⟨rfl, by rw [← hr, cdE_no h]⟩
  rw [hr] at KE KF
  clear hr
  by_cases hN30 : N ≤ 30
  · clear hT3
    have c0 := (hC).c0
    have c1 := (hC).c1
    have c2 := (hC).c2
    have hl9 := HT3.out.c
    clear hC
    go_wp2
    clear c0 c1 c2
    clear hl9 hN30
    have hT0 := HT3.out.below (Below.refl _ W3).drew
    have hC := HT3.out.c
    have hD := HT3.out.d
    have c0 := (hC).c0
    have c1 := (hC).c1
    have c2 := (hC).c2
    have d0 := (hD).c0
    have d1 := (hD).c1
    have d2 := (hD).c2
    clear hC hD
    rcases hr2 with ⟨-, rfl⟩ | ⟨-, rfl⟩
    all_goals
      go_region_held3 (fun w' => w'.cell? ⟨P, 0, none⟩ = some (.int .i64 N) ∧ w'.cell? ⟨P, 1, none⟩ = some (.int .i64 K) ∧ w'.cell? ⟨P, 2, none⟩ = some (.int .i64 B) ∧ w'.cell? ⟨Q, 0, none⟩ = some (.int .i64 (X : Nat)) ∧ w'.cell? ⟨Q, 1, none⟩ = some (.int .i64 (Y : Nat)) ∧ w'.cell? ⟨Q, 2, none⟩ = some (.int .i64 (Z : Nat)))
        (first | (with_reducible exact ⟨hT6.c.c0, hT6.c.c1, hT6.c.c2, hT6.d.c0, hT6.d.c1, hT6.d.c2⟩) | (with_reducible exact ⟨hT5.c.c0, hT5.c.c1, hT5.c.c2, hT5.d.c0, hT5.d.c1, hT5.d.c2⟩) | (with_reducible exact ⟨hT4.c.c0, hT4.c.c1, hT4.c.c2, hT4.d.c0, hT4.d.c1, hT4.d.c2⟩) | (with_reducible exact ⟨hT3.c.c0, hT3.c.c1, hT3.c.c2, hT3.d.c0, hT3.d.c1, hT3.d.c2⟩) | (with_reducible exact ⟨hT2.c.c0, hT2.c.c1, hT2.c.c2, hT2.d.c0, hT2.d.c1, hT2.d.c2⟩) | (with_reducible exact ⟨hT1.c.c0, hT1.c.c1, hT1.c.c2, hT1.d.c0, hT1.d.c1, hT1.d.c2⟩) | (with_reducible exact ⟨hT0.c.c0, hT0.c.c1, hT0.c.c2, hT0.d.c0, hT0.d.c1, hT0.d.c2⟩))
        (first
          | (go_at_call 13; with_reducible refine (KA.out _ hT0).mono ?_; rintro e x1 ⟨rfl, hT1⟩)
          | (go_at_call 14; with_reducible refine (KB.out _ hT1).mono ?_; rintro e x2 ⟨q2, c2, rfl, h2, hT2⟩)
          | (go_at_call 13; with_reducible refine (KC.out _ _ _ h2 hT2).mono ?_; rintro e x3 ⟨rfl, hT3⟩)
          | (go_at_call 13; with_reducible refine (KD.out _ hT3).mono ?_; rintro e x4 ⟨rfl, hT4⟩)
          | (go_at_call 15; with_reducible refine (KE.out _ hT4).mono ?_; rintro e x5 ⟨rfl, hT5⟩)
          | (go_at_call 12; with_reducible refine (KF.out _ hT5).mono ?_; rintro e x6 ⟨rfl, hT6⟩))
      go_wp2
      go_ret
      exact ⟨rfl, hT6.be⟩
  · have hN30' : (N ≤ 30) = False := eq_false hN30
    have KF1 := KF.out W3 hT3
    clear hT3
    have c0 := (hC).c0
    have c1 := (hC).c1
    have c2 := (hC).c2
    clear hC
    rcases hr2 with ⟨-, rfl⟩ | ⟨-, rfl⟩
    · go_wp2_with fail
      refine KF1.mono ?_
      rintro e w4 ⟨rfl, hT4⟩
      clear c0 c1 c2
      clear KF1
      have hT0 := hT4.below (Below.refl _ w4).drew
      have hC := hT4.c
      have hD := hT4.d
      have c0 := (hC).c0
      have c1 := (hC).c1
      have c2 := (hC).c2
      have d0 := (hD).c0
      have d1 := (hD).c1
      have d2 := (hD).c2
      clear hC hD hT4
      go_wp2
      have hw00 : IntKind.i64.wrap 0 = 0 := by decide
      refine wp_region_held_drew (S := fun w' => w'.cell? ⟨P, 0, none⟩ = some (.int .i64 N) ∧ w'.cell? ⟨P, 1, none⟩ = some (.int .i64 K) ∧ w'.cell? ⟨P, 2, none⟩ = some (.int .i64 B) ∧ w'.cell? ⟨Q, 0, none⟩ = some (.int .i64 (X : Nat)) ∧ w'.cell? ⟨Q, 1, none⟩ = some (.int .i64 (Y : Nat)) ∧ w'.cell? ⟨Q, 2, none⟩ = some (.int .i64 (Z : Nat))) (by kernel_rfl) (⟨hT0.c.c0, hT0.c.c1, hT0.c.c2, hT0.d.c0, hT0.d.c1, hT0.d.c2⟩) (fun hHeld => ?_)
      refine wpAnyH_take (i := 0) (oi := { dst := some 37, op := Op.move (Operand.tmp 16), type := 4, pos := "law.go:47", after := #[], guard := none }) (v := .bool false) rfl (by kernel_rfl) (by kernel_rfl) (by kernel_rfl) (fun _ _ _ h => h) (Or.inl ⟨by rfl, ?_⟩) hHeld ?_
      · (intro w hSw; (try dsimp only at hSw); go_simp)
      simp only [Act.put, List.setIfInBounds_toArray, List.set_cons_zero, List.set_cons_succ]
      refine wpAnyH_take (i := 1) (oi := { dst := some 38, op := Op.unOp UnOp.not 4 (Operand.tmp 37), type := 4, pos := "law.go:47", after := #[{ on := 0, ground := Ground.data }], guard := none }) (v := .bool true) rfl (by kernel_rfl) (by kernel_rfl) (by kernel_rfl) (fun _ _ _ h => h) (Or.inl ⟨by rfl, ?_⟩) hHeld ?_
      · (intro w hSw; (try dsimp only at hSw); go_simp)
      simp only [Act.put, List.setIfInBounds_toArray, List.set_cons_zero, List.set_cons_succ]
      refine wpAnyH_take (i := 2) (oi := { dst := some 39, op := Op.move (Operand.tmp 38), type := 4, pos := "law.go:47", after := #[{ on := 1, ground := Ground.data }], guard := none }) (v := .bool true) rfl (by kernel_rfl) (by kernel_rfl) (by kernel_rfl) (fun _ _ _ h => h) (Or.inl ⟨by rfl, ?_⟩) hHeld ?_
      · (intro w hSw; (try dsimp only at hSw); go_simp)
      simp only [Act.put, List.setIfInBounds_toArray, List.set_cons_zero, List.set_cons_succ]
      refine wpAnyH_take (i := 3) (oi := { dst := some 40, op := Op.move (Operand.tmp 0), type := 5, pos := "law.go:47", after := #[{ on := 2, ground := Ground.guard }], guard := some (2, false) }) (v := undef) rfl (by kernel_rfl) (by kernel_rfl) (by kernel_rfl) (fun _ _ _ h => h) (Or.inr ⟨by rfl, rfl⟩) hHeld ?_
      simp only [Act.put, List.setIfInBounds_toArray, List.set_cons_zero, List.set_cons_succ]
      refine wpAnyH_take (i := 4) (oi := { dst := some 41, op := Op.load 23 (Operand.tmp 8), type := 23, pos := "law.go:47", after := #[{ on := 2, ground := Ground.guard }], guard := some (2, false) }) (v := undef) rfl (by kernel_rfl) (by kernel_rfl) (by kernel_rfl) (fun _ _ _ h => h) (Or.inr ⟨by rfl, rfl⟩) hHeld ?_
      simp only [Act.put, List.setIfInBounds_toArray, List.set_cons_zero, List.set_cons_succ]
      refine wpAnyH_take (i := 5) (oi := { dst := some 42, op := Op.move (Operand.tmp 2), type := 3, pos := "law.go:47", after := #[{ on := 2, ground := Ground.guard }], guard := some (2, false) }) (v := undef) rfl (by kernel_rfl) (by kernel_rfl) (by kernel_rfl) (fun _ _ _ h => h) (Or.inr ⟨by rfl, rfl⟩) hHeld ?_
      simp only [Act.put, List.setIfInBounds_toArray, List.set_cons_zero, List.set_cons_succ]
      refine wpAnyH_take (i := 6) (oi := { dst := some 43, op := Op.move (Operand.tmp 3), type := 24, pos := "law.go:47", after := #[{ on := 2, ground := Ground.guard }], guard := some (2, false) }) (v := undef) rfl (by kernel_rfl) (by kernel_rfl) (by kernel_rfl) (fun _ _ _ h => h) (Or.inr ⟨by rfl, rfl⟩) hHeld ?_
      simp only [Act.put, List.setIfInBounds_toArray, List.set_cons_zero, List.set_cons_succ]
      refine wpAnyH_ready (rs := [7]) (by kernel_rfl) (by simp) ?_
      refine AllReadyH.cons (o := { dst := some 44, op := Op.call { callee := Callee.value (Operand.func 13), args := #[Operand.tmp 40, Operand.tmp 41, Operand.tmp 42, Operand.tmp 43], argTypes := #[5, 23, 3, 24] }, type := 4, pos := "law.go:47", after := #[{ on := 3, ground := Ground.data }, { on := 4, ground := Ground.data }, { on := 5, ground := Ground.data }, { on := 6, ground := Ground.data }, { on := 2, ground := Ground.chain }, { on := 2, ground := Ground.guard }], guard := some (2, false) }) rfl (fun K hK => ?_) AllReadyH.nil
      rw [if_neg]
      case hnc => (intro h; exact Bool.noConfusion (show false = true from h))
      refine hK.out _ _ (⟨hT0.c.c0, hT0.c.c1, hT0.c.c2, hT0.d.c0, hT0.d.c1, hT0.d.c2⟩) (fun hHeld => ?_)
      clear hK K
      simp only [Act.put, List.setIfInBounds_toArray, List.set_cons_zero, List.set_cons_succ]
      refine wpAnyH_take (i := 8) (oi := { dst := some 45, op := Op.pick (Operand.tmp 39) (Operand.const (Value.bool true)) (Operand.tmp 44), type := 4, pos := "law.go:47", after := #[{ on := 2, ground := Ground.data }, { on := 7, ground := Ground.data }], guard := none }) (v := .bool true) rfl (by kernel_rfl) (by kernel_rfl) (by kernel_rfl) (fun _ _ _ h => h) (Or.inl ⟨by rfl, ?_⟩) hHeld ?_
      · (intro w hSw; (try dsimp only at hSw); go_simp)
      simp only [Act.put, List.setIfInBounds_toArray, List.set_cons_zero, List.set_cons_succ]
      refine wpAnyH_take (i := 9) (oi := { dst := some 46, op := Op.move (Operand.tmp 45), type := 4, pos := "law.go:47", after := #[{ on := 8, ground := Ground.data }, { on := 7, ground := Ground.chain }], guard := none }) (v := .bool true) rfl (by kernel_rfl) (by kernel_rfl) (by kernel_rfl) (fun _ _ _ h => h) (Or.inl ⟨by rfl, ?_⟩) hHeld ?_
      · (intro w hSw; (try dsimp only at hSw); go_simp)
      simp only [Act.put, List.setIfInBounds_toArray, List.set_cons_zero, List.set_cons_succ]
      refine wpAnyH_take (i := 10) (oi := { dst := some 47, op := Op.move (Operand.tmp 0), type := 5, pos := "law.go:47", after := #[{ on := 9, ground := Ground.guard }], guard := some (9, true) }) (v := .int .u8 (j : Nat)) rfl (by kernel_rfl) (by kernel_rfl) (by kernel_rfl) (fun _ _ _ h => h) (Or.inl ⟨by rfl, ?_⟩) hHeld ?_
      · (intro w hSw; (try dsimp only at hSw); go_simp)
      simp only [Act.put, List.setIfInBounds_toArray, List.set_cons_zero, List.set_cons_succ]
      refine wpAnyH_take (i := 11) (oi := { dst := some 48, op := Op.load 23 (Operand.tmp 15), type := 23, pos := "law.go:47", after := #[{ on := 9, ground := Ground.guard }], guard := some (9, true) }) (v := .agg #[.int .i64 (X : Nat), .int .i64 (Y : Nat), .int .i64 (Z : Nat)]) rfl (by kernel_rfl) (by kernel_rfl) (by kernel_rfl) (fun _ _ _ h => h) (Or.inl ⟨by rfl, ?_⟩) hHeld ?_
      · (intro w hSw; (try dsimp only at hSw); go_simp)
      simp only [Act.put, List.setIfInBounds_toArray, List.set_cons_zero, List.set_cons_succ]
      refine wpAnyH_take (i := 12) (oi := { dst := some 49, op := Op.move (Operand.tmp 6), type := 5, pos := "law.go:47", after := #[{ on := 9, ground := Ground.guard }], guard := some (9, true) }) (v := .int .u8 (b : Nat)) rfl (by kernel_rfl) (by kernel_rfl) (by kernel_rfl) (fun _ _ _ h => h) (Or.inl ⟨by rfl, ?_⟩) hHeld ?_
      · (intro w hSw; (try dsimp only at hSw); go_simp)
      simp only [Act.put, List.setIfInBounds_toArray, List.set_cons_zero, List.set_cons_succ]
      refine wpAnyH_take (i := 13) (oi := { dst := some 50, op := Op.convert 5 3 (Operand.tmp 49), type := 3, pos := "law.go:47", after := #[{ on := 12, ground := Ground.data }, { on := 9, ground := Ground.guard }], guard := some (9, true) }) (v := .int .i64 (b : Nat)) rfl (by kernel_rfl) (by kernel_rfl) (by kernel_rfl) (fun _ _ _ h => h) (Or.inl ⟨by rfl, ?_⟩) hHeld ?_
      · (intro w hSw; (try dsimp only at hSw); go_simp)
      simp only [Act.put, List.setIfInBounds_toArray, List.set_cons_zero, List.set_cons_succ]
      refine wpAnyH_take (i := 14) (oi := { dst := some 51, op := Op.binOp BinOp.sub 3 (Operand.tmp 50) (Operand.const (Value.int IntKind.i64 9)) 3, type := 3, pos := "law.go:47", after := #[{ on := 13, ground := Ground.data }, { on := 9, ground := Ground.guard }], guard := some (9, true) }) (v := .int .i64 z) rfl (by kernel_rfl) (by kernel_rfl) (by kernel_rfl) (fun _ _ _ h => h) (Or.inl ⟨by rfl, ?_⟩) hHeld ?_
      · (intro w hSw; (try dsimp only at hSw); go_simp)
      simp only [Act.put, List.setIfInBounds_toArray, List.set_cons_zero, List.set_cons_succ]
      refine wpAnyH_take (i := 15) (oi := { dst := some 52, op := Op.load 23 (Operand.tmp 15), type := 23, pos := "law.go:47", after := #[{ on := 9, ground := Ground.guard }], guard := some (9, true) }) (v := .agg #[.int .i64 (X : Nat), .int .i64 (Y : Nat), .int .i64 (Z : Nat)]) rfl (by kernel_rfl) (by kernel_rfl) (by kernel_rfl) (fun _ _ _ h => h) (Or.inl ⟨by rfl, ?_⟩) hHeld ?_
      · (intro w hSw; (try dsimp only at hSw); go_simp)
      simp only [Act.put, List.setIfInBounds_toArray, List.set_cons_zero, List.set_cons_succ]
      refine wpAnyH_take (i := 16) (oi := { dst := some 53, op := Op.move (Operand.tmp 3), type := 24, pos := "law.go:47", after := #[{ on := 9, ground := Ground.guard }], guard := some (9, true) }) (v := .slice q l c) rfl (by kernel_rfl) (by kernel_rfl) (by kernel_rfl) (fun _ _ _ h => h) (Or.inl ⟨by rfl, ?_⟩) hHeld ?_
      · (intro w hSw; (try dsimp only at hSw); go_simp)
      simp only [Act.put, List.setIfInBounds_toArray, List.set_cons_zero, List.set_cons_succ]
      refine wpAnyH_ready (rs := [17]) (by kernel_rfl) (by simp) ?_
      refine AllReadyH.cons (o := { dst := some 54, op := Op.call { callee := Callee.value (Operand.func 14), args := #[Operand.tmp 52, Operand.tmp 53], argTypes := #[23, 24] }, type := 24, pos := "law.go:47", after := #[{ on := 15, ground := Ground.data }, { on := 16, ground := Ground.data }, { on := 9, ground := Ground.chain }, { on := 9, ground := Ground.guard }], guard := some (9, true) }) rfl (fun K hK => ?_) AllReadyH.nil
      go_simp
      refine (KB.out _ hT0).mono ?_; rintro e x2 ⟨q2, c2, rfl, h2, hT2⟩
      refine hK.out _ _ (⟨hT2.c.c0, hT2.c.c1, hT2.c.c2, hT2.d.c0, hT2.d.c1, hT2.d.c2⟩) (fun hHeld => ?_)
      clear hK K
      (try dsimp only [Act.put])
      refine wpAnyH_ready (rs := [18]) (by kernel_rfl) (by simp) ?_
      refine AllReadyH.cons (o := { dst := some 55, op := Op.call { callee := Callee.value (Operand.func 13), args := #[Operand.tmp 47, Operand.tmp 48, Operand.tmp 51, Operand.tmp 54], argTypes := #[5, 23, 3, 24] }, type := 4, pos := "law.go:47", after := #[{ on := 10, ground := Ground.data }, { on := 11, ground := Ground.data }, { on := 14, ground := Ground.data }, { on := 17, ground := Ground.data }, { on := 17, ground := Ground.chain }, { on := 9, ground := Ground.guard }], guard := some (9, true) }) rfl (fun K hK => ?_) AllReadyH.nil
      go_simp
      refine (KC.out _ _ _ h2 hT2).mono ?_; rintro e x3 ⟨rfl, hT3⟩
      refine hK.out _ _ (⟨hT3.c.c0, hT3.c.c1, hT3.c.c2, hT3.d.c0, hT3.d.c1, hT3.d.c2⟩) (fun hHeld => ?_)
      clear hK K
      (try dsimp only [Act.put])
      refine wpAnyH_take (i := 19) (oi := { dst := some 56, op := Op.pick (Operand.tmp 46) (Operand.tmp 55) (Operand.const (Value.bool false)), type := 4, pos := "law.go:47", after := #[{ on := 9, ground := Ground.data }, { on := 18, ground := Ground.data }], guard := none }) (v := .bool true) rfl (by kernel_rfl) (by kernel_rfl) (by kernel_rfl) (fun _ _ _ h => h) (Or.inl ⟨by rfl, ?_⟩) hHeld ?_
      · (intro w hSw; (try dsimp only at hSw); go_simp)
      simp only [Act.put, List.setIfInBounds_toArray, List.set_cons_zero, List.set_cons_succ]
      refine wpAnyH_take (i := 20) (oi := { dst := some 57, op := Op.move (Operand.tmp 56), type := 4, pos := "law.go:47", after := #[{ on := 19, ground := Ground.data }, { on := 18, ground := Ground.chain }], guard := none }) (v := .bool true) rfl (by kernel_rfl) (by kernel_rfl) (by kernel_rfl) (fun _ _ _ h => h) (Or.inl ⟨by rfl, ?_⟩) hHeld ?_
      · (intro w hSw; (try dsimp only at hSw); go_simp)
      simp only [Act.put, List.setIfInBounds_toArray, List.set_cons_zero, List.set_cons_succ]
      refine wpAnyH_take (i := 21) (oi := { dst := some 58, op := Op.move (Operand.tmp 0), type := 5, pos := "law.go:47", after := #[{ on := 20, ground := Ground.guard }], guard := some (20, true) }) (v := .int .u8 (j : Nat)) rfl (by kernel_rfl) (by kernel_rfl) (by kernel_rfl) (fun _ _ _ h => h) (Or.inl ⟨by rfl, ?_⟩) hHeld ?_
      · (intro w hSw; (try dsimp only at hSw); go_simp)
      simp only [Act.put, List.setIfInBounds_toArray, List.set_cons_zero, List.set_cons_succ]
      refine wpAnyH_take (i := 22) (oi := { dst := some 59, op := Op.load 23 (Operand.tmp 15), type := 23, pos := "law.go:47", after := #[{ on := 20, ground := Ground.guard }], guard := some (20, true) }) (v := .agg #[.int .i64 (X : Nat), .int .i64 (Y : Nat), .int .i64 (Z : Nat)]) rfl (by kernel_rfl) (by kernel_rfl) (by kernel_rfl) (fun _ _ _ h => h) (Or.inl ⟨by rfl, ?_⟩) hHeld ?_
      · (intro w hSw; (try dsimp only at hSw); go_simp)
      simp only [Act.put, List.setIfInBounds_toArray, List.set_cons_zero, List.set_cons_succ]
      refine wpAnyH_take (i := 23) (oi := { dst := some 60, op := Op.move (Operand.tmp 2), type := 3, pos := "law.go:47", after := #[{ on := 20, ground := Ground.guard }], guard := some (20, true) }) (v := .int .i64 i) rfl (by kernel_rfl) (by kernel_rfl) (by kernel_rfl) (fun _ _ _ h => h) (Or.inl ⟨by rfl, ?_⟩) hHeld ?_
      · (intro w hSw; (try dsimp only at hSw); go_simp)
      simp only [Act.put, List.setIfInBounds_toArray, List.set_cons_zero, List.set_cons_succ]
      refine wpAnyH_take (i := 24) (oi := { dst := some 61, op := Op.move (Operand.tmp 3), type := 24, pos := "law.go:47", after := #[{ on := 20, ground := Ground.guard }], guard := some (20, true) }) (v := .slice q l c) rfl (by kernel_rfl) (by kernel_rfl) (by kernel_rfl) (fun _ _ _ h => h) (Or.inl ⟨by rfl, ?_⟩) hHeld ?_
      · (intro w hSw; (try dsimp only at hSw); go_simp)
      simp only [Act.put, List.setIfInBounds_toArray, List.set_cons_zero, List.set_cons_succ]
      refine wpAnyH_ready (rs := [25]) (by kernel_rfl) (by simp) ?_
      refine AllReadyH.cons (o := { dst := some 62, op := Op.call { callee := Callee.value (Operand.func 13), args := #[Operand.tmp 58, Operand.tmp 59, Operand.tmp 60, Operand.tmp 61], argTypes := #[5, 23, 3, 24] }, type := 4, pos := "law.go:47", after := #[{ on := 21, ground := Ground.data }, { on := 22, ground := Ground.data }, { on := 23, ground := Ground.data }, { on := 24, ground := Ground.data }, { on := 20, ground := Ground.chain }, { on := 20, ground := Ground.guard }], guard := some (20, true) }) rfl (fun K hK => ?_) AllReadyH.nil
      go_simp
      refine (KD.out _ hT3).mono ?_; rintro e x4 ⟨rfl, hT4⟩
      refine hK.out _ _ (⟨hT4.c.c0, hT4.c.c1, hT4.c.c2, hT4.d.c0, hT4.d.c1, hT4.d.c2⟩) (fun hHeld => ?_)
      clear hK K
      (try dsimp only [Act.put])
      refine wpAnyH_take (i := 26) (oi := { dst := some 63, op := Op.pick (Operand.tmp 57) (Operand.tmp 62) (Operand.const (Value.bool false)), type := 4, pos := "law.go:47", after := #[{ on := 20, ground := Ground.data }, { on := 25, ground := Ground.data }], guard := none }) (v := .bool true) rfl (by kernel_rfl) (by kernel_rfl) (by kernel_rfl) (fun _ _ _ h => h) (Or.inl ⟨by rfl, ?_⟩) hHeld ?_
      · (intro w hSw; (try dsimp only at hSw); go_simp)
      simp only [Act.put, List.setIfInBounds_toArray, List.set_cons_zero, List.set_cons_succ]
      refine wpAnyH_take (i := 27) (oi := { dst := some 64, op := Op.move (Operand.tmp 63), type := 4, pos := "law.go:47", after := #[{ on := 26, ground := Ground.data }, { on := 25, ground := Ground.chain }], guard := none }) (v := .bool true) rfl (by kernel_rfl) (by kernel_rfl) (by kernel_rfl) (fun _ _ _ h => h) (Or.inl ⟨by rfl, ?_⟩) hHeld ?_
      · (intro w hSw; (try dsimp only at hSw); go_simp)
      simp only [Act.put, List.setIfInBounds_toArray, List.set_cons_zero, List.set_cons_succ]
      refine wpAnyH_take (i := 28) (oi := { dst := some 65, op := Op.load 23 (Operand.tmp 8), type := 23, pos := "law.go:47", after := #[{ on := 27, ground := Ground.guard }], guard := some (27, true) }) (v := .agg #[.int .i64 N, .int .i64 K, .int .i64 B]) rfl (by kernel_rfl) (by kernel_rfl) (by kernel_rfl) (fun _ _ _ h => h) (Or.inl ⟨by rfl, ?_⟩) hHeld ?_
      · (intro w hSw; (try dsimp only at hSw); go_simp)
      simp only [Act.put, List.setIfInBounds_toArray, List.set_cons_zero, List.set_cons_succ]
      refine wpAnyH_take (i := 31) (oi := { dst := some 68, op := Op.load 23 (Operand.tmp 8), type := 23, pos := "law.go:47", after := #[{ on := 27, ground := Ground.guard }], guard := some (27, true) }) (v := .agg #[.int .i64 N, .int .i64 K, .int .i64 B]) rfl (by kernel_rfl) (by kernel_rfl) (by kernel_rfl) (fun _ _ _ h => h) (Or.inl ⟨by rfl, ?_⟩) hHeld ?_
      · (intro w hSw; (try dsimp only at hSw); go_simp)
      simp only [Act.put, List.setIfInBounds_toArray, List.set_cons_zero, List.set_cons_succ]
      refine wpAnyH_ready (rs := [29]) (by kernel_rfl) (by simp) ?_
      refine AllReadyH.cons (o := { dst := some 66, op := Op.call { callee := Callee.value (Operand.func 15), args := #[Operand.tmp 65], argTypes := #[23] }, type := 31, pos := "law.go:47", after := #[{ on := 28, ground := Ground.data }, { on := 27, ground := Ground.chain }, { on := 27, ground := Ground.guard }], guard := some (27, true) }) rfl (fun K hK => ?_) AllReadyH.nil
      go_simp
      refine (KE.out _ hT4).mono ?_; rintro e x5 ⟨rfl, hT5⟩
      refine hK.out _ _ (⟨hT5.c.c0, hT5.c.c1, hT5.c.c2, hT5.d.c0, hT5.d.c1, hT5.d.c2⟩) (fun hHeld => ?_)
      clear hK K
      (try dsimp only [Act.put])
      refine wpAnyH_take (i := 30) (oi := { dst := some 67, op := Op.convert 31 3 (Operand.tmp 66), type := 3, pos := "law.go:47", after := #[{ on := 29, ground := Ground.data }, { on := 27, ground := Ground.guard }], guard := some (27, true) }) (v := .int .i64 0) rfl (by kernel_rfl) (by kernel_rfl) (by kernel_rfl) (fun _ _ _ h => h) (Or.inl ⟨by rfl, ?_⟩) hHeld ?_
      · (intro w hSw; (try dsimp only at hSw); go_simp)
      simp only [Act.put, List.setIfInBounds_toArray, List.set_cons_zero, List.set_cons_succ]
      refine wpAnyH_ready (rs := [32]) (by kernel_rfl) (by simp) ?_
      refine AllReadyH.cons (o := { dst := some 69, op := Op.call { callee := Callee.value (Operand.func 12), args := #[Operand.tmp 68], argTypes := #[23] }, type := 3, pos := "law.go:47", after := #[{ on := 31, ground := Ground.data }, { on := 29, ground := Ground.chain }, { on := 27, ground := Ground.guard }], guard := some (27, true) }) rfl (fun K hK => ?_) AllReadyH.nil
      go_simp
      refine (KF.out _ hT5).mono ?_; rintro e x6 ⟨rfl, hT6⟩
      refine hK.out _ _ (⟨hT6.c.c0, hT6.c.c1, hT6.c.c2, hT6.d.c0, hT6.d.c1, hT6.d.c2⟩) (fun hHeld => ?_)
      clear hK K
      (try dsimp only [Act.put])
      refine wpAnyH_take (i := 33) (oi := { dst := some 70, op := Op.binOp BinOp.eql 3 (Operand.tmp 67) (Operand.tmp 69) 3, type := 4, pos := "law.go:47", after := #[{ on := 30, ground := Ground.data }, { on := 32, ground := Ground.data }, { on := 27, ground := Ground.guard }], guard := some (27, true) }) (v := .bool true) rfl (by kernel_rfl) (by kernel_rfl) (by kernel_rfl) (fun _ _ _ h => h) (Or.inl ⟨by rfl, ?_⟩) hHeld ?_
      · (intro w hSw; (try dsimp only at hSw); go_simp)
      simp only [Act.put, List.setIfInBounds_toArray, List.set_cons_zero, List.set_cons_succ]
      refine wpAnyH_take (i := 34) (oi := { dst := some 71, op := Op.pick (Operand.tmp 64) (Operand.tmp 70) (Operand.const (Value.bool false)), type := 4, pos := "law.go:47", after := #[{ on := 27, ground := Ground.data }, { on := 33, ground := Ground.data }], guard := none }) (v := .bool true) rfl (by kernel_rfl) (by kernel_rfl) (by kernel_rfl) (fun _ _ _ h => h) (Or.inl ⟨by rfl, ?_⟩) hHeld ?_
      · (intro w hSw; (try dsimp only at hSw); go_simp)
      simp only [Act.put, List.setIfInBounds_toArray, List.set_cons_zero, List.set_cons_succ]
      refine wpAnyH_take (i := 35) (oi := { dst := some 14, op := Op.assign (Operand.tmp 71), type := 4, pos := "law.go:47", after := #[{ on := 34, ground := Ground.data }, { on := 32, ground := Ground.chain }, { on := 0, ground := Ground.phase }, { on := 1, ground := Ground.phase }, { on := 2, ground := Ground.phase }, { on := 3, ground := Ground.phase }, { on := 4, ground := Ground.phase }, { on := 5, ground := Ground.phase }, { on := 6, ground := Ground.phase }, { on := 7, ground := Ground.phase }, { on := 8, ground := Ground.phase }, { on := 9, ground := Ground.phase }, { on := 10, ground := Ground.phase }, { on := 11, ground := Ground.phase }, { on := 12, ground := Ground.phase }, { on := 13, ground := Ground.phase }, { on := 14, ground := Ground.phase }, { on := 15, ground := Ground.phase }, { on := 16, ground := Ground.phase }, { on := 17, ground := Ground.phase }, { on := 18, ground := Ground.phase }, { on := 19, ground := Ground.phase }, { on := 20, ground := Ground.phase }, { on := 21, ground := Ground.phase }, { on := 22, ground := Ground.phase }, { on := 23, ground := Ground.phase }, { on := 24, ground := Ground.phase }, { on := 25, ground := Ground.phase }, { on := 26, ground := Ground.phase }, { on := 27, ground := Ground.phase }, { on := 28, ground := Ground.phase }, { on := 29, ground := Ground.phase }, { on := 30, ground := Ground.phase }, { on := 31, ground := Ground.phase }, { on := 32, ground := Ground.phase }, { on := 33, ground := Ground.phase }, { on := 34, ground := Ground.phase }], guard := none }) (v := .bool true) rfl (by kernel_rfl) (by kernel_rfl) (by kernel_rfl) (fun _ _ _ h => h) (Or.inl ⟨by rfl, ?_⟩) hHeld ?_
      · (intro w hSw; (try dsimp only at hSw); go_simp)
      simp only [Act.put, List.setIfInBounds_toArray, List.set_cons_zero, List.set_cons_succ]
      refine wpAnyH_done (by kernel_rfl) ?_ _
      go_wp2
      go_ret
      exact ⟨rfl, hT6.be⟩
    · go_wp2_with fail
      refine KF1.mono ?_
      rintro e w4 ⟨rfl, hT4⟩
      clear c0 c1 c2
      clear KF1
      have hT0 := hT4.below (Below.refl _ w4).drew
      have hC := hT4.c
      have hD := hT4.d
      have c0 := (hC).c0
      have c1 := (hC).c1
      have c2 := (hC).c2
      have d0 := (hD).c0
      have d1 := (hD).c1
      have d2 := (hD).c2
      clear hC hD hT4
      go_wp2
      go_region_held3 (fun w' => w'.cell? ⟨P, 0, none⟩ = some (.int .i64 N) ∧ w'.cell? ⟨P, 1, none⟩ = some (.int .i64 K) ∧ w'.cell? ⟨P, 2, none⟩ = some (.int .i64 B) ∧ w'.cell? ⟨Q, 0, none⟩ = some (.int .i64 (X : Nat)) ∧ w'.cell? ⟨Q, 1, none⟩ = some (.int .i64 (Y : Nat)) ∧ w'.cell? ⟨Q, 2, none⟩ = some (.int .i64 (Z : Nat)))
        (first | (with_reducible exact ⟨hT6.c.c0, hT6.c.c1, hT6.c.c2, hT6.d.c0, hT6.d.c1, hT6.d.c2⟩) | (with_reducible exact ⟨hT5.c.c0, hT5.c.c1, hT5.c.c2, hT5.d.c0, hT5.d.c1, hT5.d.c2⟩) | (with_reducible exact ⟨hT4.c.c0, hT4.c.c1, hT4.c.c2, hT4.d.c0, hT4.d.c1, hT4.d.c2⟩) | (with_reducible exact ⟨hT3.c.c0, hT3.c.c1, hT3.c.c2, hT3.d.c0, hT3.d.c1, hT3.d.c2⟩) | (with_reducible exact ⟨hT2.c.c0, hT2.c.c1, hT2.c.c2, hT2.d.c0, hT2.d.c1, hT2.d.c2⟩) | (with_reducible exact ⟨hT1.c.c0, hT1.c.c1, hT1.c.c2, hT1.d.c0, hT1.d.c1, hT1.d.c2⟩) | (with_reducible exact ⟨hT0.c.c0, hT0.c.c1, hT0.c.c2, hT0.d.c0, hT0.d.c1, hT0.d.c2⟩))
        (first
          | (go_at_call 13; with_reducible refine (KA.out _ hT0).mono ?_; rintro e x1 ⟨rfl, hT1⟩)
          | (go_at_call 14; with_reducible refine (KB.out _ hT1).mono ?_; rintro e x2 ⟨q2, c2, rfl, h2, hT2⟩)
          | (go_at_call 13; with_reducible refine (KC.out _ _ _ h2 hT2).mono ?_; rintro e x3 ⟨rfl, hT3⟩)
          | (go_at_call 13; with_reducible refine (KD.out _ hT3).mono ?_; rintro e x4 ⟨rfl, hT4⟩)
          | (go_at_call 15; with_reducible refine (KE.out _ hT4).mono ?_; rintro e x5 ⟨rfl, hT5⟩)
          | (go_at_call 12; with_reducible refine (KF.out _ hT5).mono ?_; rintro e x6 ⟨rfl, hT6⟩))
      go_wp2
      go_ret
      exact ⟨rfl, hT6.be⟩
theorem own : ownKnob Tryz.prog.godebug = none := by kernel_rfl
theorem laidOut : laidOutB Tryz.prog = true := by kernel_rfl
set_option maxRecDepth 100000 in
theorem lifted (os : Os) (started : os.Started) (H : Type) (enc : TypeId × Value → H) :
    ReturnsInHanded {} Tryz.checked os 3 .any (Rows.codeAsksSpec.pre6 enc Tryz.prog Tryz.f3 Rows.codeAsksRow.domain false) (Rows.codeAsksSpec.post enc Tryz.prog Tryz.f3 false true false false) := by
  refine returnsInHanded_of_change_sized (C := Tryz.checked) own started (by kernel_rfl) Tryz.func3
    (ChangeSpec.witness6 (enc := enc) (C := Tryz.checked) false ⟨#[], #[.int .u8 0, .agg #[.int .i64 0, .int .i64 0, .int .i64 0], .int .i64 0, .slice none 0 0, .int .u8 0, .int .u8 0, .int .u8 0], []⟩ 8 (by kernel_rfl) (by kernel_rfl) (by kernel_rfl) (by kernel_rfl)) ?_
  intro W base args ds gs before hval0 hW _ hz _
  have hval : ∀ (j : Nat) t v, Tryz.f3.params[j]? = some t → args[j]? = some v → Value.okWide Tryz.prog W .any base t v := hval0
  have hW' := hW
  obtain ⟨p, q, hA0, hV, rfl, _, _⟩ := hW
  have hA : DataW.TrodAll enc Tryz.prog W 0 (fun _ => true) true Tryz.f3.params.toList args.toList ds p := hA0
  rw [Tryz.params3] at hA hval
  obtain ⟨v0, vs0, d0, ds0, p0, q0, hargs, rfl, rfl, h0, r0⟩ := trodAll_cons hA
  obtain ⟨v1, vs1, d1, ds1, p1, q1, rfl, rfl, rfl, h1, r1⟩ := trodAll_cons r0
  obtain ⟨v2, vs2, d2, ds2, p2, q2, rfl, rfl, rfl, h2, r2⟩ := trodAll_cons r1
  obtain ⟨v3, vs3, d3, ds3, p3, q3, rfl, rfl, rfl, h3, r3⟩ := trodAll_cons r2
  obtain ⟨v4, vs4, d4, ds4, p4, q4, rfl, rfl, rfl, h4, r4⟩ := trodAll_cons r3
  obtain ⟨v5, vs5, d5, ds5, p5, q5, rfl, rfl, rfl, h5, r5⟩ := trodAll_cons r4
  obtain ⟨v6, vs6, d6, ds6, p6, q6, rfl, rfl, rfl, h6, r6⟩ := trodAll_cons r5
  obtain ⟨rfl, rfl, rfl⟩ := trodAll_nil r6
  obtain rfl : args = #[v0, v1, v2, v3, v4, v5, v6] := by cases args; simp_all
  obtain ⟨rfl, rfl⟩ := trodVars_none hV
  obtain ⟨a0, rfl, rfl, rfl, w0⟩ := open_int Tryz.underlying5 (hval 0 5 v0 rfl rfl) h0
  obtain ⟨n0, b0, rfl⟩ := nat_of_u8 w0
  have k1 := h1
  obtain ⟨N1, K1, B1, rfl, bN1, bK1, bB1⟩ := open_code Tryz.underlying23 ⟨rfl, rfl⟩ ⟨rfl, rfl⟩ ⟨rfl, rfl⟩ Tryz.underlying3 (by kernel_rfl) (by kernel_rfl) (hval 1 23 v1 rfl rfl) h1
  obtain ⟨a2, rfl, rfl, rfl, w2⟩ := open_int Tryz.underlying3 (hval 2 3 v2 rfl rfl) h2
  obtain ⟨b2, c2⟩ := int_of_i64 w2
  have k3 := h3
  obtain ⟨q3, n3, c3, xs3, rfl, w3, m3⟩ := open_bytes_sz Tryz.underlying24 Tryz.underlying5 (by kernel_rfl) (hval 3 24 v3 rfl rfl) h3
  have y3 : n3 ≤ c3 ∧ c3 ≤ 140737488351232 := ⟨m3.1, m3.2 _ fun el sp hd => by have := sized_slice (j := 3) (t := 24) (e := 5) (elems := el) (spare := sp) hz (by kernel_rfl) (by first | (rw [← hd]; done) | (rw [← hd]; rfl)) Tryz.underlying24; have hbe : Tryz.checked.prog.bytesOf 5 = 1 := (by kernel_rfl); have hre : reachBytes = 140737488351232 := rfl; rw [hbe, hre] at this; omega⟩
  obtain ⟨a4, rfl, rfl, rfl, w4⟩ := open_int Tryz.underlying5 (hval 4 5 v4 rfl rfl) h4
  obtain ⟨n4, b4, rfl⟩ := nat_of_u8 w4
  obtain ⟨a5, rfl, rfl, rfl, w5⟩ := open_int Tryz.underlying5 (hval 5 5 v5 rfl rfl) h5
  obtain ⟨n5, b5, rfl⟩ := nat_of_u8 w5
  obtain ⟨a6, rfl, rfl, rfl, w6⟩ := open_int Tryz.underlying5 (hval 6 5 v6 rfl rfl) h6
  obtain ⟨n6, b6, rfl⟩ := nat_of_u8 w6
  clear hA0 hval0
  simp only [List.append_nil] at hW'
  refine (walk (w := W) n0 N1 K1 B1 a2 q3 n3 c3 xs3 n4 n5 n6 b0 bN1 bK1 bB1 b2 c2 w3 y3 b4 b5 b6).mono fun e W' ⟨he, bel⟩ => ?_
  subst he
  exact ⟨_, rfl, _, _, _, [], _, [], hW', trodAll_mk1 (shut_bool Tryz.underlying4 _), (trodAll_cons_mk (shut_int Tryz.underlying5 w0) (trodAll_cons_mk (shut_same laidOut (by kernel_rfl) (of_decide_eq_true (by kernel_rfl)) k1 bel) (trodAll_cons_mk (shut_int Tryz.underlying3 w2) (trodAll_cons_mk (shut_same laidOut (by kernel_rfl) (of_decide_eq_true (by kernel_rfl)) k3 bel) (trodAll_cons_mk (shut_int Tryz.underlying5 w4) (trodAll_cons_mk (shut_int Tryz.underlying5 w5) (trodAll_cons_mk (shut_int Tryz.underlying5 w6) trodAll_mk0))))))), rfl, bel.frame _, fun h => by cases h⟩
theorem over : Rows.codeAsksRow.holds Tryz.pinned (OpenSpec.ofChange Rows.codeAsksSpec) :=
  OpenClaim.holds_of_wide 3 Tryz.f3 rfl rfl rfl rfl rfl rfl rfl ⟨rfl, rfl, rfl, rfl, rfl⟩ rfl rfl rfl rfl rfl (by kernel_rfl) Tryz.func3 (by kernel_rfl)
    (of_decide_eq_true (by kernel_rfl)) (by unfold Func.isWrapper; first | (rw [if_pos (by decide +kernel)]; kernel_rfl) | (rw [if_neg (by decide +kernel)]; exact ⟨rfl, rfl⟩))
    (fun os started H enc _ => lifted os started H enc)
theorem proved : Rows.CodeAsksSaid := over
#print axioms proved
end Go.Proofs.YtbikchgkglllkaaGreat.codeAsks
