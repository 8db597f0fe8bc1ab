/- Texts laid together: Cln, EnG. Each says its own conditions. -/
import Derived.Test.YtddhefhabhgdfaaGreatMG
import Derived.Test.YtddhefhabhgdfaaGreatOE
/- The walk of slices.Clone of bytes. Conditions: a list that is no great one. -/
namespace Go.Proofs
open Go.RowKit Go.ChangeShapes Go.WideShapes
attribute [local go_sem ↓ high] builtin_ap
attribute [local go_sem] ap_sem

end Go.Proofs
/- The walk of encode.Message. Conditions: any code; any list. -/
namespace Go.Proofs
open Go.RowKit Go.ChangeShapes Go.WideShapes
open Pol (IsN Dg ofL Byt)


/-! ## Of any code and any list, in one word -/
/-- What Encode tells: the word, the error. -/
def IsEn (N K B : Int) (xs ws : List Nat) (r : Nat) : Prop := (cdB N K B = false ∧ ws = [] ∧ r = 10) ∨ (cdB N K B = true ∧ ¬ (xs.length : Int) = K ∧ ws = [] ∧ r = 12) ∨ (r = 0 ∧ ∃ n k b s : Nat, N = (n : Int) ∧ K = (k : Int) ∧ B = (b : Int) ∧ Cod n k b ∧ n - k = s ∧ xs.length = k ∧ Cd.IsEnc n s b xs ws)
/-- What Message tells. -/
def IsMe (N K B : Int) (xs ms : List Nat) (r : Nat) : Prop := (cdB N K B = false ∧ ms = [] ∧ r = 10) ∨ (cdB N K B = true ∧ ¬ (xs.length : Int) = N ∧ ms = [] ∧ r = 12) ∨ (r = 0 ∧ ∃ n k b s : Nat, N = (n : Int) ∧ K = (k : Int) ∧ B = (b : Int) ∧ Cod n k b ∧ n - k = s ∧ xs.length = n ∧ xs.drop s = ms)
theorem byt_drop {xs : List Nat} (h : Byt xs) (s : Nat) : Byt (xs.drop s) := fun i => by rw [Cd.drop_getD]; exact h _
theorem IsEn.byt {N K B : Int} {xs ws : List Nat} {r : Nat} (h : IsEn N K B xs ws r) : Byt ws := by
  rcases h with ⟨_, rfl, _⟩ | ⟨_, _, rfl, _⟩ | ⟨_, _, _, _, _, _, _, _, _, _, _, h⟩
  · exact Pol.byt_nil
  · exact Pol.byt_nil
  · exact h.byt
theorem IsMe.byt {N K B : Int} {xs ms : List Nat} {r : Nat} (h : IsMe N K B xs ms r) (bx : Byt xs) : Byt ms := by
  rcases h with ⟨_, rfl, _⟩ | ⟨_, _, rfl, _⟩ | ⟨_, _, _, _, _, _, _, _, _, _, _, rfl⟩
  · exact Pol.byt_nil
  · exact Pol.byt_nil
  · exact byt_drop bx _
theorem IsEn.len {N K B : Int} {xs ws : List Nat} {r : Nat} (h : IsEn N K B xs ws r) : ws.length ≤ 255 := by
  rcases h with ⟨_, rfl, _⟩ | ⟨_, _, rfl, _⟩ | ⟨_, _, _, _, _, _, _, _, hc, _, _, h⟩
  · simp
  · simp
  · rw [h.word.1]; exact hc.m
theorem IsMe.len {N K B : Int} {xs ms : List Nat} {r : Nat} (h : IsMe N K B xs ms r) : ms.length ≤ 255 := by
  rcases h with ⟨_, rfl, _⟩ | ⟨_, _, rfl, _⟩ | ⟨_, _, _, _, _, _, _, _, hc, _, hl, rfl⟩
  · simp
  · simp
  · rw [List.length_drop, hl]; have := hc.m; omega
theorem IsEn.num {N K B : Int} {xs ws : List Nat} {r : Nat} (h : IsEn N K B xs ws r) : r ≤ 12 := by
  rcases h with ⟨_, _, rfl⟩ | ⟨_, _, _, rfl⟩ | ⟨rfl, _⟩ <;> omega
theorem IsMe.num {N K B : Int} {xs ws : List Nat} {r : Nat} (h : IsMe N K B xs ws r) : r ≤ 12 := by
  rcases h with ⟨_, _, rfl⟩ | ⟨_, _, _, rfl⟩ | ⟨rfl, _⟩ <;> omega
end Go.Proofs
