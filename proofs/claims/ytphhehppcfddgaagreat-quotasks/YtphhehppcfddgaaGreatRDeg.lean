/- The walk of the document's Deg (erratumref05). Condition: a list of at most a thousand million bytes. -/
import Derived.Test.YtphhehppcfddgaaGreatPDeg
namespace Go.Proofs
open Go.RowKit Go.ChangeShapes Go.WideShapes
open Pol (IsN Dg ofL Byt)

set_option maxRecDepth 100000 in
set_option maxHeartbeats 1000000 in
theorem rdeg_calls (q : Option Addr) (n c : Nat) (xs : List Nat) (d : Nat) (hd : Dg d (ofL xs)) (hn : n ≤ 1000000000) (w : World) (hs : Bs w q n xs) :
    Calls Tryz.prog 25 #[.slice q n c] w fun e w' => e = .returned (.int .i64 ((d : Int) - 1)) ∧ w' = w := by
  have HS : Hid (Bs w q n xs) := hs
  have HD : Hid (Dg d (ofL xs)) := hd
  have h0 : Hid (Pol.Bd n (ofL xs)) := by have := Pol.ofL_bd xs; rwa [hs.len] at this
  clear hs hd
  go_enter Tryz.func25, Tryz.ntmps25
  go_wp2
  go_loopw [3] (fun i wr => ∃ j : Nat, j ≤ n ∧ i = .int .i64 ((j : Int) - 1) ∧ Pol.Bd j (ofL xs) ∧ wr = w) (fun i _ => (intOf i + 1).toNat)
  case atStart => exact ⟨n, Nat.le_refl _, rfl, h0.out, rfl⟩
  case round =>
    obtain ⟨j, hj, rfl, hbd, rfl⟩ := hrel
    cases j with
    | zero =>
      have e0 : d = 0 := HD.out.unique ⟨hbd, fun e => absurd rfl e⟩
      subst e0
      have e1 : ((0 : Nat) : Int) - 1 = -1 := by omega
      rw [e1]
      clear HS HD h0 hbd
      go_wp2
      go_ret
      exact ⟨rfl, rfl⟩
    | succ k =>
      have e1 : ((k + 1 : Nat) : Int) - 1 = (k : Int) := by omega
      rw [e1]
      have hlt : k < n := by omega
      have hki : (k : Int) < (n : Int) := by omega
      obtain ⟨a, rfl, la, ca⟩ := HS.out.cell k hlt
      have hbx := HS.out.byte k
      have HZ : Hid (xs.getD k 0 = 0 → Pol.Bd k (ofL xs)) := fun e i hi => by
        by_cases h : i = k
        · subst h; show GF.of _ = 0; rw [e]; rfl
        · exact hbd i (by omega)
      have HE : Hid (xs.getD k 0 ≠ 0 → d = k + 1) := fun e => HD.out.unique ⟨hbd, fun _ e' => e ((GF.of_eq_zero _ hbx).1 e')⟩
      obtain ⟨x, hx⟩ : ∃ x, xs.getD k 0 = x := ⟨_, rfl⟩
      rw [hx] at ca HZ HE
      clear hx la hbd hbx
      by_cases h : x = 0
      · subst h
        have HB : Hid (Pol.Bd k (ofL xs)) := HZ.out rfl
        clear HZ HE
        go_wp2
        go_roundw
        case rel => exact ⟨k, by omega, rfl, HB.out, by trivial⟩
        case measure => simp [intOf]
      · have hne : ((x : Int) != 0) = true := by simp; omega
        have e2 := HE.out h
        subst e2
        clear HZ HE HS HD h0
        go_wp2
        go_ret
        exact ⟨congrArg (fun z => Ending.returned (.int .i64 z)) e1.symm, rfl⟩
end Go.Proofs
