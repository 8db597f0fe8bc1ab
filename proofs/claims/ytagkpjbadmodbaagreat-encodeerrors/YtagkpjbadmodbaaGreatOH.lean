/- Texts laid together: Known11, EnX. Each says its own conditions. -/
import Derived.Test.YtagkpjbadmodbaaGreatOF
import Derived.Test.YtagkpjbadmodbaaGreatOA
/- The walks of the example of chapter 11 (known) and of the laws' Msg. No conditions. -/
namespace Go.Proofs
open Go.RowKit Go.ChangeShapes Go.WideShapes
open Pol (IsN Dg ofL Byt)
theorem en_yes : IsEn 4 2 0 [1, 0] [2, 3, 1, 0] 0 := .inr (.inr ⟨rfl, 4, 2, 0, 2, rfl, rfl, rfl, ⟨by decide, by decide, by decide, by decide⟩, rfl, rfl, ⟨of_decide_eq_true is_0, byt_lit rfl, rfl⟩⟩)
theorem en_12 : IsEn 4 2 0 [1] [] 12 := .inr (.inl ⟨by decide, by decide, rfl, rfl⟩)

set_option maxRecDepth 100000 in
set_option maxHeartbeats 2000000 in
theorem known11_calls (w : World) : Calls Tryz.prog 8 #[] w fun e w' => e = .returned (.bool true) ∧ Below w.heap.size w w' := by
  have HB : Below w.heap.size w w := Below.refl _ _
  go_enter Tryz.func8, Tryz.ntmps8
  go_wp2_with fail
  refine (fof_calls 2 (by decide) (by decide) _).mono ?_
  rintro e w1 ⟨B_f, T_f, rfl, HF_f, hb, hlB, hlT⟩
  have HL_f : w.heap.size ≤ T_f := Nat.le_trans HB.size hlT
  replace HB := HB.trans (hb.mono HB.size)
  clear hb hlB hlT
  obtain ⟨P_y, hP_y⟩ : ∃ P, w1.heap.size = P := ⟨_, rfl⟩
  obtain ⟨w2, hw2⟩ : ∃ W, w1.alloc (.cells #[.int .u8 1, .int .u8 0] 5) = W := ⟨_, rfl⟩
  have hb : Below w1.heap.size w1 w2 := hw2 ▸ (Below.refl _ w1).alloc (Nat.le_refl _) _
  have Q_y_f : Off T_f 2 (some ⟨P_y, 0, none⟩) := off_at (by have := HF_f.lt; omega)
  have S_y : Bs w2 (some ⟨P_y, 0, none⟩) 2 [1, 0] := by rw [← hw2, ← hP_y]; exact bs_lits w1 _ [1, 0] _ 2 rfl (by first | rfl | simp) rfl rfl (by simp)
  replace HB := HB.trans (hb.mono HB.size)
  replace HF_f := HF_f.below hb
  clear hb
  go_wp2_with fail
  refine (een_u 2 B_f T_f 4 2 0 _ 2 2 [1, 0] [2, 3, 1, 0] 0 en_yes (by decide) _ HF_f S_y Q_y_f).mono ?_
  rintro e w3 ⟨v, rfl, hO, hF, hb⟩
  obtain ⟨q_g, c_g, rfl, S_g, C_g, hQ⟩ := hO.tell (n := 4) (byt_lit rfl) rfl
  clear hO
  have Q_g_f := hQ _ HF_f.lt
  clear hQ
  replace HB := HB.trans (hb.below HB.size (by rintro k rfl; exact HL_f))
  replace S_y := S_y.but hb Q_y_f
  clear HF_f hb
  have HF_f := hF
  clear hF
  clear hP_y hw2
  clear S_y HF_f
  go_wp2_with fail
  refine (fof_calls 2 (by decide) (by decide) _).mono ?_
  rintro e w4 ⟨B_h, T_h, rfl, HF_h, hb, hlB, hlT⟩
  have HL_h : w.heap.size ≤ T_h := Nat.le_trans HB.size hlT
  have Q_g_h := S_g.off hlT
  replace HB := HB.trans (hb.mono HB.size)
  replace S_g := S_g.below hb
  clear hb hlB hlT
  obtain ⟨P_z, hP_z⟩ : ∃ P, w4.heap.size = P := ⟨_, rfl⟩
  obtain ⟨w5, hw5⟩ : ∃ W, w4.alloc (.cells #[.int .u8 1] 5) = W := ⟨_, rfl⟩
  have hb : Below w4.heap.size w4 w5 := hw5 ▸ (Below.refl _ w4).alloc (Nat.le_refl _) _
  have Q_z_h : Off T_h 1 (some ⟨P_z, 0, none⟩) := off_at (by have := HF_h.lt; omega)
  have S_z : Bs w5 (some ⟨P_z, 0, none⟩) 1 [1] := by rw [← hw5, ← hP_z]; exact bs_lits w4 _ [1] _ 1 rfl (by first | rfl | simp) rfl rfl (by simp)
  replace HB := HB.trans (hb.mono HB.size)
  replace HF_h := HF_h.below hb
  replace S_g := S_g.below hb
  clear hb
  go_wp2_with fail
  refine (een_u 2 B_h T_h 4 2 0 _ 1 1 [1] [] 12 en_12 (by decide) _ HF_h S_z Q_z_h).mono ?_
  rintro e w6 ⟨v, rfl, hO, hF, hb⟩
  obtain ⟨q_e, c_e, rfl, S_e, C_e, hQ⟩ := hO.tell (n := 0) Pol.byt_nil rfl
  clear hO
  have Q_e_h := hQ _ HF_h.lt
  clear hQ
  replace HB := HB.trans (hb.below HB.size (by rintro k rfl; exact HL_h))
  replace S_g := S_g.but hb Q_g_h
  replace S_z := S_z.but hb Q_z_h
  clear HF_h hb
  have HF_h := hF
  clear hF
  clear hP_z hw5
  clear S_z HF_h
  obtain ⟨P_x, hP_x⟩ : ∃ P, w6.heap.size = P := ⟨_, rfl⟩
  obtain ⟨w7, hw7⟩ : ∃ W, w6.alloc (.cells #[.int .u8 2, .int .u8 3, .int .u8 1, .int .u8 0] 5) = W := ⟨_, rfl⟩
  have hb : Below w6.heap.size w6 w7 := hw7 ▸ (Below.refl _ w6).alloc (Nat.le_refl _) _
  have S_x : Bs w7 (some ⟨P_x, 0, none⟩) 4 [2, 3, 1, 0] := by rw [← hw7, ← hP_x]; exact bs_lits w6 _ [2, 3, 1, 0] _ 4 rfl (by first | rfl | simp) rfl rfl (by simp)
  replace HB := HB.trans (hb.mono HB.size)
  replace S_g := S_g.below hb
  replace S_e := S_e.below hb
  clear hb
  go_wp2_with fail
  refine (same_calls q_g _ 4 c_g 4 [2, 3, 1, 0] _ S_g S_x).mono ?_
  rintro e w8 ⟨rfl, hb⟩
  replace HB := HB.trans (hb.mono HB.size)
  replace S_g := S_g.below hb
  replace S_e := S_e.below hb
  replace S_x := S_x.below hb
  clear hb
  clear hP_x hw7
  go_wp2
  go_ret
  exact ⟨rfl, HB⟩

set_option maxRecDepth 100000 in
set_option maxHeartbeats 1000000 in
theorem lmsg_calls (K n c : Nat) (N B : Int) (q : Option Addr) (xs : List Nat) (hK : K ≤ 1000) (w : World) (hs : Bs w q n xs) :
    Calls Tryz.prog 11 #[.agg #[.int .i64 N, .int .i64 (K : Nat), .int .i64 B], .slice q n c] w fun e w' => ∃ v, e = .returned v ∧ Ow w' w.heap.size v (Cd.wd K xs) ∧ Below w.heap.size w w' := by
  obtain ⟨P1, hP1⟩ : ∃ P1, w.alloc (.cells #[.int .i64 N, .int .i64 (K : Nat), .int .i64 B] 23) = P1 := ⟨_, rfl⟩
  have hb1 : Below w.heap.size w P1 := hP1 ▸ (Below.refl _ w).alloc (Nat.le_refl _) _
  have hC : Cb P1 w.heap.size N (K : Nat) B := by rw [← hP1]; exact cb_new w _ _ _
  obtain ⟨G, hG⟩ : ∃ G, P1.heap.size = G := ⟨_, rfl⟩
  obtain ⟨P2, hP2⟩ : ∃ P2, P1.alloc (.cells (madeCells #[.int .u8 0] K) 5) = P2 := ⟨_, rfl⟩
  have hb2 : Below P1.heap.size P1 P2 := hP2 ▸ (Below.refl _ P1).alloc (Nat.le_refl _) _
  have hO2 : Ow P2 w.heap.size (.slice (some ⟨G, 0, none⟩) K K) (List.replicate K 0) := by rw [← hP2, ← hG]; exact ow_made P1 hb1.size K (by omega)
  have hmk := make_bytes K (by omega)
  obtain ⟨m, W3, hcp, hO3, hb3⟩ := run_copy_word P2 3 w.heap.size G K n c q xs hO2 (hs.below (hb1.trans (hb2.mono hb1.size)))
  have HZ : Hid (Ow W3 w.heap.size (.slice (some ⟨G, 0, none⟩) K K) (Cd.wd K xs) ∧ Below w.heap.size w W3) := ⟨hO3, (hb1.trans (hb2.mono hb1.size)).trans (hb3.below (Nat.le_trans hb1.size hb2.size) (fun k hk => by have := hb1.size; omega))⟩
  clear hO2 hO3 hb1 hb2 hb3 hs
  have c0 := (hC).c0
  have c1 := (hC).c1
  have c2 := (hC).c2
  clear hC
  go_enter Tryz.func11, Tryz.ntmps11
  go_wp2
  go_ret
  exact ⟨_, rfl, HZ.out⟩
end Go.Proofs
/- What the laws of encode ask, each call a step from world to world. Conditions: a field that Of has made; lists apart from its table. -/
namespace Go.Proofs
open Go.RowKit Go.ChangeShapes Go.WideShapes
open Pol (IsN Dg ofL Byt)
section
variable (k Bf T P : Nat) (N K B X Y Z : Int) (w0 : World)
theorem kenc (q : Option Addr) (n c l r : Nat) (xs ws : List Nat) (hE : IsEn X Y Z xs ws r) (hl : ws.length = l) (W : World) (hW : Tc k Bf T P N K B w0 W) (hs : Tl W T q n c xs) :
    Calls Tryz.prog 14 #[.pointer (some ⟨Bf, 0, none⟩), .agg #[.int .i64 X, .int .i64 Y, .int .i64 Z], .slice q n c] W fun e w' => ∃ q c, e = .returned (.tuple #[.slice q l c, .int .u16 (r : Nat)]) ∧ Tl w' T q l c ws ∧ Tc k Bf T P N K B w0 w' ∧ But (· = T) W w' :=
  (een_u k Bf T X Y Z q n c xs ws r hE hs.le W hW.tw.fd hs.bs hs.off).mono fun e w' ⟨v, he, hO, hF, hb⟩ => by
    obtain ⟨q, c, rfl, t⟩ := hO.tl hW.lt hE.byt hl
    exact ⟨q, c, he, t, hW.next hF hb, hb⟩
theorem kmsg (q : Option Addr) (n c l r : Nat) (xs ws : List Nat) (hE : IsMe X Y Z xs ws r) (hl : ws.length = l) (W : World) (hW : Tc k Bf T P N K B w0 W) (hs : Tl W T q n c xs) :
    Calls Tryz.prog 15 #[.agg #[.int .i64 X, .int .i64 Y, .int .i64 Z], .slice q n c] W fun e w' => ∃ q c, e = .returned (.tuple #[.slice q l c, .int .u16 (r : Nat)]) ∧ Tl w' T q l c ws ∧ Tc k Bf T P N K B w0 w' ∧ But (· = T) W w' :=
  (eme_u X Y Z q n c xs ws r hE hs.le W hs.bs).mono fun e w' ⟨v, he, hO, hb⟩ => by
    obtain ⟨q, c, rfl, t⟩ := hO.tl hW.lt (hE.byt hs.bs.byte) hl
    exact ⟨q, c, he, t, hW.below hb, But.of_below hb⟩
theorem klmsg (q : Option Addr) (n c M : Nat) (xs : List Nat) (hM : M ≤ 1000) (W : World) (hW : Tc k Bf T P N K B w0 W) (hs : Tl W T q n c xs) :
    Calls Tryz.prog 11 #[.agg #[.int .i64 X, .int .i64 (M : Nat), .int .i64 Z], .slice q n c] W fun e w' => ∃ q c, e = .returned (.slice q M c) ∧ Tl w' T q M c (Cd.wd M xs) ∧ Tc k Bf T P N K B w0 w' ∧ But (· = T) W w' :=
  (lmsg_calls M n c X Z q xs hM W hs.bs).mono fun e w' ⟨v, he, hO, hb⟩ => by
    obtain ⟨q, c, rfl, t⟩ := hO.tl hW.lt (Cd.wd_byt hs.bs.byte M) (Cd.wd_length M xs)
    exact ⟨q, c, he, t, hW.below hb, But.of_below hb⟩
theorem ksame (q p : Option Addr) (n c d : Nat) (xs : List Nat) (W : World) (hW : Tc k Bf T P N K B w0 W) (h1 : Tl W T q n c xs) (h2 : Tl W T p n d xs) :
    Calls Tryz.prog 17 #[.slice q n c, .slice p n d] W fun e w' => e = .returned (.bool true) ∧ Tc k Bf T P N K B w0 w' ∧ But (· = T) W w' :=
  (same_calls q p n c d xs W h1.bs h2.bs).mono fun _ _ ⟨e, hb⟩ => ⟨e, hW.below hb, But.of_below hb⟩
theorem kknown11 (W : World) (hW : Tc k Bf T P N K B w0 W) :
    Calls Tryz.prog 8 #[] W fun e w' => e = .returned (.bool true) ∧ Tc k Bf T P N K B w0 w' ∧ But (· = T) W w' :=
  (known11_calls W).mono fun _ _ ⟨e, hb⟩ => ⟨e, hW.below hb, But.of_below hb⟩
end
end Go.Proofs
