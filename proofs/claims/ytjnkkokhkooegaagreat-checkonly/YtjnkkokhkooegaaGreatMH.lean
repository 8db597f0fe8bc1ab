/- Texts laid together: PTerms, PDeg, BEq, PNorm, PolyX, Lits, RDeg. Each says its own conditions. -/
import Derived.Laws.BytesArg
import Derived.Laws.Strings
import Derived.Test.YtjnkkokhkooegaaGreatMC
import Derived.Test.YtjnkkokhkooegaaGreatMO
import Derived.Test.YtjnkkokhkooegaaGreatMA
import Derived.Test.YtjnkkokhkooegaaGreatMG
/- The walk of poly.terms and of its iterator: the powers of x whose coefficient is not 0, each with it, from the greatest on. Conditions: a list of bytes, its capacity no less than its length. -/
namespace Go.Proofs
open Go.RowKit Go.Shelf
attribute [local go_sem] Oper.semAt_some

/-- A place of a list. -/
abbrev Tm (n : Nat) := { i : Nat // i < n }
abbrev tmv (xs : List Nat) (n : Nat) (x : Tm n) : Array Value := #[.int .i64 ((x.1 : Nat) : Int), .int .u8 ((xs.getD x.1 0 : Nat) : Int)]
/-- A round keeps what the captured box holds, and the list itself. -/
def KeepsP (B : Nat) (q : Option Addr) (n : Nat) (W W' : World) : Prop := KeepsCell B W W' ∧ ∀ a, q = some a → ∀ i, i < n → ∀ v, W.cell? (a.add i) = some v → W'.cell? (a.add i) = some v
theorem keepsP_t {B n : Nat} {q : Option Addr} {X Y Z : World} (h : KeepsP B q n X Y) (k : KeepsP B q n Y Z) : KeepsP B q n X Z := ⟨keepsCell_t h.1 k.1, fun a e i hi v hv => k.2 a e i hi v (h.2 a e i hi v hv)⟩
theorem keepsP_b {B n : Nat} {q : Option Addr} (W : World) (l : Nat) (o o' : Obj) (hl : W.heap[l]? = some o) (ho : o.isCells = false) : KeepsP B q n W (W.putObj l o') :=
  ⟨keepsCell_b W l o o' hl ho, fun _ _ _ _ _ h => cell_kept h (grownBy_putObj' W l o') (fun r e => by cases e; exact ⟨o, hl, ho⟩)⟩
theorem KeepsP.refl (B : Nat) (q : Option Addr) (n : Nat) (W : World) : KeepsP B q n W W := ⟨KeepsCell.refl _ _, fun _ _ _ _ _ h => h⟩
theorem KeepsP.drew {B n : Nat} {q : Option Addr} {W W' : World} (h : KeepsP B q n W W') : KeepsP B q n W W'.drew := ⟨h.1.drew, fun a e i hi v hv => by simpa using h.2 a e i hi v hv⟩
theorem Bs.keeps {B n : Nat} {q : Option Addr} {xs : List Nat} {W W' : World} (h : Bs W q n xs) (k : KeepsP B q n W W') (hs : W.heap.size ≤ W'.heap.size) : Bs W' q n xs :=
  ⟨h.len, h.max, fun i hi => by obtain ⟨a, e, hl, hc⟩ := h.cell i hi; exact ⟨a, e, Nat.lt_of_lt_of_le hl hs, k.2 a e i hi _ hc⟩, h.byte⟩

end Go.Proofs
/- The walks of poly.Deg and poly.normal. Conditions: a list of bytes, its capacity no less than its length; d less 1 is its degree. -/
namespace Go.Proofs
open Go.RowKit Go.Shelf
attribute [local go_sem] Oper.semAt_some

end Go.Proofs
/- The walk of bytes.Equal. Conditions: lists of bytes. -/
namespace Go.Proofs
open Go.RowKit Go.ChangeShapes Go.WideShapes
open Pol (ofL Byt)
end Go.Proofs
/- The walks of poly.Norm, Coef, Cut, Same and Scale. Conditions: lists of at most a thousand million bytes, no longer than their capacities. -/
namespace Go.Proofs
open Go.RowKit Go.ChangeShapes Go.WideShapes
attribute [local go_sem ↓ high] builtin_ap
attribute [local go_sem] ap_sem
open Pol (IsN Dg ofL Byt)

theorem Bs.byt {W : World} {q : Option Addr} {n : Nat} {xs : List Nat} (h : Bs W q n xs) : Byt xs := h.byte
/-- A coefficient. -/
def cof (xs : List Nat) (i : Int) : Nat := if 0 ≤ i then xs.getD i.toNat 0 else 0
end Go.Proofs
/- Normal lists of sums, products and multiples; lists of literals. -/
namespace Go.Proofs
open Go.RowKit
namespace Pol
theorem isN_add (xs ys : List Nat) : ∃ zs, IsN zs (add (ofL xs) (ofL ys)) ∧ zs.length ≤ xs.length + ys.length := isN_of_bd (((ofL_bd xs).mono_le (by omega)).add ((ofL_bd ys).mono_le (by omega)))
theorem isN_norm (xs : List Nat) : ∃ zs, IsN zs (ofL xs) ∧ zs.length ≤ xs.length := isN_of_bd (ofL_bd xs)
theorem isN_smul (a : GF) (xs : List Nat) : ∃ zs, IsN zs (smul a (ofL xs)) ∧ zs.length ≤ xs.length := isN_of_bd ((ofL_bd xs).smul a)
end Pol
/-- A list of literals. -/
theorem bs_lit (W : World) (xs : List Nat) (hx : Pol.Byt xs) (hl : xs.length ≤ 1000) : Bs (W.alloc (.cells ⟨ob xs⟩ 5)) (some ⟨W.heap.size, 0, none⟩) xs.length xs :=
  ⟨rfl, by omega, fun i hi => ⟨_, rfl, by simp, by
    have e1 : (⟨W.heap.size, 0, none⟩ : Addr).add i = ⟨W.heap.size, i, none⟩ := by unfold Addr.add; split <;> simp_all
    rw [e1, World.cell?_alloc_at _ _ _ _ rfl]
    show (⟨ob xs⟩ : Array Value)[i]? = _
    rw [List.getElem?_toArray]
    exact ob_at xs i hi⟩, hx⟩
/-- The same, its cells and its block as a walk spells them. -/
theorem bs_lits (W : World) (A : Array Value) (xs : List Nat) (h n : Nat) (hA : A = ⟨ob xs⟩) (hh : h = W.heap.size) (hn : n = xs.length) (hx : xs.all (· < 256) = true) (hl : xs.length ≤ 1000) : Bs (W.alloc (.cells A 5)) (some ⟨h, 0, none⟩) n xs := by
  subst hA hh hn
  exact bs_lit W xs (fun i => by
    simp only [List.getD]
    cases hx' : xs[i]? with
    | none => decide
    | some x => simpa using List.all_eq_true.1 hx x (List.mem_of_getElem? hx')) hl
theorem off_new {W : World} {T n : Nat} (hT : T < W.heap.size) : Off T n (some ⟨W.heap.size, 0, none⟩) := fun _ a e => by cases e; show ¬ W.heap.size = T; omega
end Go.Proofs
/- Polynomials of literals. Nothing of the program. -/
namespace Go.Proofs
open Go.RowKit
open Pol (IsN Dg ofL Byt)
end Go.Proofs
/- The walk of the document's Deg (erratumref05). Condition: a list of at most a thousand million bytes. -/
namespace Go.Proofs
open Go.RowKit Go.ChangeShapes Go.WideShapes
open Pol (IsN Dg ofL Byt)

set_option maxRecDepth 100000 in
set_option maxHeartbeats 1000000 in
theorem rdeg_calls (q : Option Addr) (n c : Nat) (xs : List Nat) (d : Nat) (hd : Dg d (ofL xs)) (hn : n ≤ 1000000000) (w : World) (hs : Bs w q n xs) :
    Calls Tryz.prog 64 #[.slice q n c] w fun e w' => e = .returned (.int .i64 ((d : Int) - 1)) ∧ w' = w := by
  have HS : Hid (Bs w q n xs) := hs
  have HD : Hid (Dg d (ofL xs)) := hd
  have h0 : Hid (Pol.Bd n (ofL xs)) := by have := Pol.ofL_bd xs; rwa [hs.len] at this
  clear hs hd
  go_enter Tryz.func64, Tryz.ntmps64
  go_wp2
  go_loopw [3] (fun i wr => ∃ j : Nat, j ≤ n ∧ i = .int .i64 ((j : Int) - 1) ∧ Pol.Bd j (ofL xs) ∧ wr = w) (fun i _ => (intOf i + 1).toNat)
  case atStart => exact ⟨n, Nat.le_refl _, rfl, h0.out, rfl⟩
  case round =>
    obtain ⟨j, hj, rfl, hbd, rfl⟩ := hrel
    cases j with
    | zero =>
      have e0 : d = 0 := HD.out.unique ⟨hbd, fun e => absurd rfl e⟩
      subst e0
      have e1 : ((0 : Nat) : Int) - 1 = -1 := by omega
      rw [e1]
      clear HS HD h0 hbd
      go_wp2
      go_ret
      exact ⟨rfl, rfl⟩
    | succ k =>
      have e1 : ((k + 1 : Nat) : Int) - 1 = (k : Int) := by omega
      rw [e1]
      have hlt : k < n := by omega
      have hki : (k : Int) < (n : Int) := by omega
      obtain ⟨a, rfl, la, ca⟩ := HS.out.cell k hlt
      have hbx := HS.out.byte k
      have HZ : Hid (xs.getD k 0 = 0 → Pol.Bd k (ofL xs)) := fun e i hi => by
        by_cases h : i = k
        · subst h; show GF.of _ = 0; rw [e]; rfl
        · exact hbd i (by omega)
      have HE : Hid (xs.getD k 0 ≠ 0 → d = k + 1) := fun e => HD.out.unique ⟨hbd, fun _ e' => e ((GF.of_eq_zero _ hbx).1 e')⟩
      obtain ⟨x, hx⟩ : ∃ x, xs.getD k 0 = x := ⟨_, rfl⟩
      rw [hx] at ca HZ HE
      clear hx la hbd hbx
      by_cases h : x = 0
      · subst h
        have HB : Hid (Pol.Bd k (ofL xs)) := HZ.out rfl
        clear HZ HE
        go_wp2
        go_roundw
        case rel => exact ⟨k, by omega, rfl, HB.out, by trivial⟩
        case measure => simp [intOf]
      · have hne : ((x : Int) != 0) = true := by simp; omega
        have e2 := HE.out h
        subst e2
        clear HZ HE HS HD h0
        go_wp2
        go_ret
        exact ⟨congrArg (fun z => Ending.returned (.int .i64 z)) e1.symm, rfl⟩
end Go.Proofs
