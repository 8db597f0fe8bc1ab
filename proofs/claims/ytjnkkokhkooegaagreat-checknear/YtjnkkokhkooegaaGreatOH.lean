/- Texts laid together: Known11, EnX. Each says its own conditions. -/
import Derived.Test.YtjnkkokhkooegaaGreatOF
import Derived.Test.YtjnkkokhkooegaaGreatOA
/- The walks of the example of chapter 11 (known) and of the laws' Msg. No conditions. -/
namespace Go.Proofs
open Go.RowKit Go.ChangeShapes Go.WideShapes
open Pol (IsN Dg ofL Byt)
set_option maxRecDepth 100000 in
set_option maxHeartbeats 1000000 in
theorem lmsg_calls (K n c : Nat) (N B : Int) (q : Option Addr) (xs : List Nat) (hK : K ≤ 1000) (w : World) (hs : Bs w q n xs) :
    Calls Tryz.prog 11 #[.agg #[.int .i64 N, .int .i64 (K : Nat), .int .i64 B], .slice q n c] w fun e w' => ∃ v, e = .returned v ∧ Ow w' w.heap.size v (Cd.wd K xs) ∧ Below w.heap.size w w' := by
  obtain ⟨P1, hP1⟩ : ∃ P1, w.alloc (.cells #[.int .i64 N, .int .i64 (K : Nat), .int .i64 B] 26) = P1 := ⟨_, rfl⟩
  have hb1 : Below w.heap.size w P1 := hP1 ▸ (Below.refl _ w).alloc (Nat.le_refl _) _
  have hC : Cb P1 w.heap.size N (K : Nat) B := by rw [← hP1]; exact cb_new w _ _ _
  obtain ⟨G, hG⟩ : ∃ G, P1.heap.size = G := ⟨_, rfl⟩
  obtain ⟨P2, hP2⟩ : ∃ P2, P1.alloc (.cells (madeCells #[.int .u8 0] K) 5) = P2 := ⟨_, rfl⟩
  have hb2 : Below P1.heap.size P1 P2 := hP2 ▸ (Below.refl _ P1).alloc (Nat.le_refl _) _
  have hO2 : Ow P2 w.heap.size (.slice (some ⟨G, 0, none⟩) K K) (List.replicate K 0) := by rw [← hP2, ← hG]; exact ow_made P1 hb1.size K (by omega)
  have hmk := make_bytes K (by omega)
  obtain ⟨m, W3, hcp, hO3, hb3⟩ := run_copy_word P2 3 w.heap.size G K n c q xs hO2 (hs.below (hb1.trans (hb2.mono hb1.size)))
  have HZ : Hid (Ow W3 w.heap.size (.slice (some ⟨G, 0, none⟩) K K) (Cd.wd K xs) ∧ Below w.heap.size w W3) := ⟨hO3, (hb1.trans (hb2.mono hb1.size)).trans (hb3.below (Nat.le_trans hb1.size hb2.size) (fun k hk => by have := hb1.size; omega))⟩
  clear hO2 hO3 hb1 hb2 hb3 hs
  have c0 := (hC).c0
  have c1 := (hC).c1
  have c2 := (hC).c2
  clear hC
  go_enter Tryz.func11, Tryz.ntmps11
  go_wp2
  go_ret
  exact ⟨_, rfl, HZ.out⟩
end Go.Proofs
/- What the laws of encode ask, each call a step from world to world. Conditions: a field that Of has made; lists apart from its table. -/
namespace Go.Proofs
open Go.RowKit Go.ChangeShapes Go.WideShapes
open Pol (IsN Dg ofL Byt)
section
variable (k Bf T P : Nat) (N K B X Y Z : Int) (w0 : World)
theorem klmsg (q : Option Addr) (n c M : Nat) (xs : List Nat) (hM : M ≤ 1000) (W : World) (hW : Tc k Bf T P N K B w0 W) (hs : Tl W T q n c xs) :
    Calls Tryz.prog 11 #[.agg #[.int .i64 X, .int .i64 (M : Nat), .int .i64 Z], .slice q n c] W fun e w' => ∃ q c, e = .returned (.slice q M c) ∧ Tl w' T q M c (Cd.wd M xs) ∧ Tc k Bf T P N K B w0 w' ∧ But (· = T) W w' :=
  (lmsg_calls M n c X Z q xs hM W hs.bs).mono fun e w' ⟨v, he, hO, hb⟩ => by
    obtain ⟨q, c, rfl, t⟩ := hO.tl hW.lt (Cd.wd_byt hs.bs.byte M) (Cd.wd_length M xs)
    exact ⟨q, c, he, t, hW.below hb, But.of_below hb⟩
theorem ksame (q p : Option Addr) (n c d : Nat) (xs : List Nat) (W : World) (hW : Tc k Bf T P N K B w0 W) (h1 : Tl W T q n c xs) (h2 : Tl W T p n d xs) :
    Calls Tryz.prog 17 #[.slice q n c, .slice p n d] W fun e w' => e = .returned (.bool true) ∧ Tc k Bf T P N K B w0 w' ∧ But (· = T) W w' :=
  (same_calls q p n c d xs W h1.bs h2.bs).mono fun _ _ ⟨e, hb⟩ => ⟨e, hW.below hb, But.of_below hb⟩
end
end Go.Proofs
