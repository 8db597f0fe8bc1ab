/- Texts laid together: Nums, Slices, Caps. Each says its own conditions. -/
import Derived.WalkKit
import Derived.ProofKit
import Derived.OpenShut
import Derived.Carry
import Derived.ChangeSlices
import Derived.SizedLaws
/- From a reading of an integer to its bounds. Nothing of the program. -/
namespace Go.Proofs
open Go.RowKit
theorem nat_of_u8 {a : Int} (h : (Lit.int .u8 a).wf = true) : ∃ n : Nat, n < 256 ∧ a = n := by
  have := bounds_u8 h
  exact ⟨a.toNat, by omega, by omega⟩
theorem int_of_i64 {a : Int} (h : (Lit.int .i64 a).wf = true) : -9223372036854775808 ≤ a ∧ a < 9223372036854775808 := by
  have := bounds_i64 h
  omega
end Go.Proofs
/- Slices of numbers that are only read: what they hold, and how an argument is opened and handed back. Nothing of the program. -/
namespace Go.Proofs
open Go.RowKit Go.ChangeShapes Go.WideShapes

/-- The slice at q, n long, holds the numbers zs of kind k. -/
structure Ns (k : IntKind) (W : World) (q : Option Addr) (n : Nat) (zs : List Int) : Prop where
  len : zs.length = n
  max : n ≤ 9223372036854775807
  cell : ∀ i, i < n → ∃ a, q = some a ∧ a.block < W.heap.size ∧ W.cell? (a.add i) = some (.int k (zs.getD i 0))
  wf : ∀ z ∈ zs, (Lit.int k z).wf = true
/-- The slice at q, n long, holds the bytes xs. -/
structure Bs (W : World) (q : Option Addr) (n : Nat) (xs : List Nat) : Prop where
  len : xs.length = n
  max : n ≤ 9223372036854775807
  cell : ∀ i, i < n → ∃ a, q = some a ∧ a.block < W.heap.size ∧ W.cell? (a.add i) = some (.int .u8 (xs.getD i 0 : Nat))
  byte : ∀ i, xs.getD i 0 < 256
theorem Bs.below {W W' : World} {q : Option Addr} {n : Nat} {xs : List Nat} (h : Bs W q n xs) (hb : Below W.heap.size W W') : Bs W' q n xs :=
  ⟨h.len, h.max, fun i hi => by
    obtain ⟨a, e, hl, hc⟩ := h.cell i hi
    exact ⟨a, e, Nat.lt_of_lt_of_le hl hb.size, (hb.cell (p := a.add i) (by rw [block_add]; exact hl)).trans hc⟩, h.byte⟩
theorem Ns.below {k : IntKind} {W W' : World} {q : Option Addr} {n : Nat} {zs : List Int} (h : Ns k W q n zs) (hb : Below W.heap.size W W') : Ns k W' q n zs :=
  ⟨h.len, h.max, fun i hi => by
    obtain ⟨a, e, hl, hc⟩ := h.cell i hi
    exact ⟨a, e, Nat.lt_of_lt_of_le hl hb.size, (hb.cell (p := a.add i) (by rw [block_add]; exact hl)).trans hc⟩, h.wf⟩
theorem Bs.drew {W : World} {q : Option Addr} {n : Nat} {xs : List Nat} (h : Bs W q n xs) : Bs W.drew q n xs := ⟨h.len, h.max, fun i hi => by obtain ⟨a, e, hl, hc⟩ := h.cell i hi; exact ⟨a, e, hl, hc⟩, h.byte⟩
theorem Bs.alloc {W : World} {q : Option Addr} {n : Nat} {xs : List Nat} (h : Bs W q n xs) (o : Obj) : Bs (W.alloc o) q n xs := h.below ((Below.refl _ _).alloc (Nat.le_refl _) o)
theorem Ns.drew {k : IntKind} {W : World} {q : Option Addr} {n : Nat} {zs : List Int} (h : Ns k W q n zs) : Ns k W.drew q n zs := ⟨h.len, h.max, fun i hi => by obtain ⟨a, e, hl, hc⟩ := h.cell i hi; exact ⟨a, e, hl, hc⟩, h.wf⟩

section
variable {H : Type} {enc : TypeId × Value → H} {P : Program} {W : World} {r : Reach} {b0 : Nat}
/-- An argument below which nothing has turned reads as it did. -/
theorem shut_same {t : TypeId} {v : Value} {d : DataW H} {ps : List MemPlace} {W' : World} (hl : laidOutB P = true) (hr : P.readableRec t = true) (hrow : t < P.types.size)
    (h : DataW.Trod enc P W 0 (fun _ => true) true t v d ps) (hb : Below W.heap.size W W') : DataW.Trod enc P W' 0 (fun b => decide (b < W.heap.size)) true t v d ps := by
  refine Below.trod hl hr hrow h hb ?_
  obtain ⟨fuel, hf⟩ := h
  exact DataW.trod_lt _ _ _ _ hf
end
end Go.Proofs
/- Slices of numbers that come in, with their capacities, which the form's own reach bounds. Nothing of the program. -/
namespace Go.Proofs
open Go.RowKit Go.ChangeShapes Go.WideShapes
section
variable {H : Type} {enc : TypeId × Value → H} {P : Program} {W : World} {r : Reach} {b0 : Nat}
theorem open_nums_sz {t e : TypeId} {k : IntKind} {v : Value} {d : DataW H} {ps : List MemPlace} (ht : P.underlying t = some (.slice e)) (he : P.underlying e = some (.int k)) (hc : P.cellsOf e = 1)
    (hval : Value.okWide P W r b0 t v) (hd : DataW.Trod enc P W 0 (fun _ => true) true t v d ps) : ∃ q n c zs, v = .slice q n c ∧ Ns k W q n zs ∧ n ≤ c ∧ ∀ B : Nat, (∀ el sp, d = .slice el sp → el.length + sp.length ≤ B) → c ≤ B := by
  obtain ⟨a0, len, cap, rfl⟩ := okWide_slice ht hval
  obtain ⟨fuel, hf⟩ := hd
  rcases open_ints ht he hc hf with ⟨hcs, _⟩ | ⟨a, len', cap', zs, hcs, _, hl, hm, hz, hx, hcell, hwz⟩
  · simp [Value.cells] at hcs
    obtain ⟨rfl, rfl, rfl⟩ := hcs
    exact ⟨none, 0, 0, [], rfl, ⟨rfl, by omega, fun i hi => absurd hi (Nat.not_lt_zero i), fun z hz => by simp at hz⟩, Nat.le_refl _, fun B _ => Nat.zero_le B⟩
  · simp [Value.cells] at hcs
    obtain ⟨rfl, rfl, rfl⟩ := hcs
    simp only [if_true] at hz
    refine ⟨some a, len, cap, zs.take len, rfl, ⟨?_, ?_, ?_, ?_⟩, hl, fun B hB => ?_⟩
    · rw [List.length_take]; omega
    · unfold maxLen at hm; omega
    · intro i hi
      have h := hcell i (by omega)
      refine ⟨a, rfl, ?_, ?_⟩
      · have := World.block_lt_of_cell? _ _ h
        rwa [block_add] at this
      · rw [h]
        simp [List.getD, hi]
    · exact fun z hz => hwz z (List.mem_of_mem_take hz)
    · have := hB _ _ (congrArg Prod.fst hx)
      simp [lits] at this
      omega
theorem open_bytes_sz {t e : TypeId} {v : Value} {d : DataW H} {ps : List MemPlace} (ht : P.underlying t = some (.slice e)) (he : P.underlying e = some (.int .u8)) (hc : P.cellsOf e = 1)
    (hval : Value.okWide P W r b0 t v) (hd : DataW.Trod enc P W 0 (fun _ => true) true t v d ps) : ∃ q n c xs, v = .slice q n c ∧ Bs W q n xs ∧ n ≤ c ∧ ∀ B : Nat, (∀ el sp, d = .slice el sp → el.length + sp.length ≤ B) → c ≤ B := by
  obtain ⟨q, n, c, zs, rfl, h, hcap⟩ := open_nums_sz ht he hc hval hd
  have bd : ∀ z ∈ zs, 0 ≤ z ∧ z < 256 := fun z hz => by have := bounds_u8 (h.wf z hz); omega
  have gd : ∀ i, (zs.map Int.toNat).getD i 0 = (zs.getD i 0).toNat := by
    intro i
    simp only [List.getD, List.getElem?_map]
    cases zs[i]? <;> rfl
  have gb : ∀ i, 0 ≤ zs.getD i 0 ∧ zs.getD i 0 < 256 := by
    intro i
    simp only [List.getD]
    cases hz : zs[i]? with
    | none => simp
    | some z => simpa using bd z (List.mem_of_getElem? hz)
  refine ⟨q, n, c, zs.map Int.toNat, rfl, ⟨by simpa using h.len, h.max, ?_, ?_⟩, hcap⟩
  · intro i hi
    obtain ⟨a, e, hl, hce⟩ := h.cell i hi
    refine ⟨a, e, hl, ?_⟩
    rw [hce, gd, Int.toNat_of_nonneg (gb i).1]
  · intro i
    rw [gd]
    have := gb i
    omega
end
end Go.Proofs
