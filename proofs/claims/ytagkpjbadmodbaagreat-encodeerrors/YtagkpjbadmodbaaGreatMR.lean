/- Texts laid together: RefSame, RefAny. Each says its own conditions. -/
import Derived.Test.YtagkpjbadmodbaaGreatProg
import Derived.Deep.LoopGhost
import Derived.BigQuiet
import Derived.Test.YtagkpjbadmodbaaGreatMB
/- The walk of the document's comparison of two lists (erratumref01.Same): where both hold the same bytes. Condition: both are read. -/
namespace Go.Proofs
open Go.RowKit Go.ChangeShapes Go.WideShapes

set_option maxRecDepth 100000 in
set_option maxHeartbeats 1000000 in
theorem same_calls (q p : Option Addr) (n c d : Nat) (xs : List Nat) (w : World) (h1 : Bs w q n xs) (h2 : Bs w p n xs) :
    Calls Tryz.prog 17 #[.slice q n c, .slice p n d] w fun e w' => e = .returned (.bool true) ∧ Below w.heap.size w w' := by
  have hmax := h1.max
  have HS : Hid (Bs w q n xs ∧ Bs w p n xs) := ⟨h1, h2⟩
  clear h1 h2
  go_enter Tryz.func17, Tryz.ntmps17
  go_wp2
  go_loopw [5] (fun i wr => ∃ k : Nat, k ≤ n ∧ i = .int .i64 (k : Int) ∧ Below w.heap.size w wr) (fun i _ => n - (intOf i).toNat)
  case atStart => exact ⟨0, by omega, rfl, Below.refl _ _⟩
  case round =>
    obtain ⟨k, hk, rfl, hB⟩ := hrel
    by_cases hlt : k < n
    · have hi : (k : Int) < (n : Int) := by omega
      have hi0 : (0 : Int) ≤ (k : Int) := by omega
      obtain ⟨a, rfl, la, ca⟩ := HS.out.1.cell k hlt
      obtain ⟨b, rfl, lb, cb⟩ := HS.out.2.cell k hlt
      replace ca := (hB.cell (p := a.add k) (by rw [block_add]; exact la)).trans ca
      replace cb := (hB.cell (p := b.add k) (by rw [block_add]; exact lb)).trans cb
      obtain ⟨x, hx⟩ : ∃ x, xs.getD k 0 = x := ⟨_, rfl⟩
      rw [hx] at ca cb
      have HB : Hid (Below w.heap.size w wr) := hB
      clear hx la lb hB
      go_wp2
      go_quiet (fail)
      go_wp2
      go_roundw
      case rel => exact ⟨k + 1, by omega, by go_num, ⟨HB.out.os, HB.out.tape, HB.out.output, HB.out.size, HB.out.block⟩⟩
      case measure => simp [intOf]; omega
    · have e8 : k = n := by omega
      subst e8
      have HB : Hid (Below w.heap.size w wr) := hB
      clear hB
      go_wp2
      go_ret
      exact ⟨rfl, HB.out⟩
end Go.Proofs
/- The walk of the document's comparison of two lists (erratumref01.Same), whatever they hold. Condition: both are read. -/
namespace Go.Proofs
open Go.RowKit Go.ChangeShapes Go.WideShapes

set_option maxRecDepth 100000 in
set_option maxHeartbeats 1000000 in
theorem same_any (q p : Option Addr) (n m c d : Nat) (xs ys : List Nat) (b : Bool) (hb : b = true ↔ xs = ys) (w : World) (h1 : Bs w q n xs) (h2 : Bs w p m ys) :
    Calls Tryz.prog 17 #[.slice q n c, .slice p m d] w fun e w' => e = .returned (.bool b) ∧ Below w.heap.size w w' := by
  have hmax := h1.max
  have hl1 := h1.len
  have hl2 := h2.len
  by_cases hnm : n = m
  · subst hnm
    have HS : Hid (Bs w q n xs ∧ Bs w p n ys) := ⟨h1, h2⟩
    have HE : Hid ((∀ i, i < n → xs.getD i 0 = ys.getD i 0) → b = true) := fun h => hb.2 (by
      apply List.ext_getElem?
      intro i
      by_cases hi : i < n
      · have := h i hi
        simp only [List.getD, List.getElem?_eq_getElem (show i < xs.length by omega), List.getElem?_eq_getElem (show i < ys.length by omega), Option.getD_some] at this
        rw [List.getElem?_eq_getElem (show i < xs.length by omega), List.getElem?_eq_getElem (show i < ys.length by omega), this]
      · rw [List.getElem?_eq_none (by omega), List.getElem?_eq_none (by omega)])
    have HN : Hid (∀ i, xs.getD i 0 ≠ ys.getD i 0 → b = false) := fun i h => by
      cases hbb : b with
      | false => rfl
      | true => rw [hb.1 hbb] at h; exact absurd rfl h
    clear h1 h2 hl1 hl2 hb
    go_enter Tryz.func17, Tryz.ntmps17
    go_wp2
    go_loopw [5] (fun i wr => ∃ k : Nat, k ≤ n ∧ i = .int .i64 (k : Int) ∧ (∀ i, i < k → xs.getD i 0 = ys.getD i 0) ∧ Below w.heap.size w wr) (fun i _ => n - (intOf i).toNat)
    case atStart => exact ⟨0, by omega, rfl, fun i hi => absurd hi (Nat.not_lt_zero i), Below.refl _ _⟩
    case round =>
      obtain ⟨k, hk, rfl, hsame, hB⟩ := hrel
      by_cases hlt : k < n
      · have hi : (k : Int) < (n : Int) := by omega
        have hi0 : (0 : Int) ≤ (k : Int) := by omega
        obtain ⟨a, rfl, la, ca⟩ := HS.out.1.cell k hlt
        obtain ⟨b', rfl, lb, cb⟩ := HS.out.2.cell k hlt
        replace ca := (hB.cell (p := a.add k) (by rw [block_add]; exact la)).trans ca
        replace cb := (hB.cell (p := b'.add k) (by rw [block_add]; exact lb)).trans cb
        have HK : Hid (∀ i, i < k → xs.getD i 0 = ys.getD i 0) := hsame
        have HNk := HN.out k
        have HX : Hid (xs.getD k 0 = ys.getD k 0 → ∀ i, i < k + 1 → xs.getD i 0 = ys.getD i 0) := fun e i hi' => by
          by_cases h' : i = k
          · subst h'; exact e
          · exact HK.out i (by omega)
        obtain ⟨x, hx⟩ : ∃ x, xs.getD k 0 = x := ⟨_, rfl⟩
        obtain ⟨y, hy⟩ : ∃ y, ys.getD k 0 = y := ⟨_, rfl⟩
        rw [hx] at ca HNk HX
        rw [hy] at cb HNk HX
        have HB : Hid (Below w.heap.size w wr) := hB
        clear hx hy la lb hB hsame HK
        by_cases hxy : x = y
        · subst hxy
          have HX' : Hid (∀ i, i < k + 1 → xs.getD i 0 = ys.getD i 0) := HX.out rfl
          clear HX HNk
          go_wp2
          go_quiet (fail)
          go_wp2
          go_roundw
          case rel => exact ⟨k + 1, by omega, by go_num, HX'.out, ⟨HB.out.os, HB.out.tape, HB.out.output, HB.out.size, HB.out.block⟩⟩
          case measure => simp [intOf]; omega
        · have hbf := HNk hxy
          subst hbf
          have hne : ((x : Int) != (y : Int)) = true := by simp; omega
          clear HX HNk hxy HE HN
          go_wp2
          go_quiet (fail)
          go_wp2
          go_ret
          exact ⟨rfl, ⟨HB.out.os, HB.out.tape, HB.out.output, HB.out.size, HB.out.block⟩⟩
      · have e8 : k = n := by omega
        subst e8
        have hbt := HE.out hsame
        subst hbt
        have HB : Hid (Below w.heap.size w wr) := hB
        clear hB hsame HE HN
        go_wp2
        go_ret
        exact ⟨rfl, HB.out⟩
  · have hbf : b = false := by
      cases hbb : b with
      | false => rfl
      | true => have := congrArg List.length (hb.1 hbb); omega
    subst hbf
    have hne : ((n : Int) != (m : Int)) = true := by simp; omega
    clear h1 h2 hl1 hl2 hb hnm hmax
    go_enter Tryz.func17, Tryz.ntmps17
    go_wp2
    go_ret
    exact ⟨rfl, Below.refl _ _⟩
end Go.Proofs
