/- Texts laid together: SorM, LocM, SelM. Each says its own conditions. -/
import Derived.WalkKit
import Derived.Test.YtjnkkokhkooegaaGreatNU
/- Lists of integers: each once, in order; rising, each once. Nothing of the program. -/
namespace Go.Proofs

/-- Each once, in the order in which they come. -/
def onceL (zs : List Int) : List Int := zs.foldl (fun acc z => if z ∈ acc then acc else acc ++ [z]) []
theorem onceL_snoc (zs : List Int) (z : Int) : onceL (zs ++ [z]) = if z ∈ onceL zs then onceL zs else onceL zs ++ [z] := by
  unfold onceL; rw [List.foldl_append]; rfl
theorem snoc_ind {α : Type} {p : List α → Prop} (h0 : p []) (h1 : ∀ l a, p l → p (l ++ [a])) : ∀ l, p l := by
  intro l
  have : p l.reverse.reverse := by
    generalize l.reverse = m
    induction m with
    | nil => exact h0
    | cons a m ih => rw [List.reverse_cons]; exact h1 _ _ ih
  rwa [List.reverse_reverse] at this
theorem mem_onceL (zs : List Int) : ∀ z, z ∈ onceL zs ↔ z ∈ zs := by
  induction zs using snoc_ind with
  | h0 => intro z; exact Iff.rfl
  | h1 l a ih =>
    intro z
    rw [onceL_snoc]
    split
    · rename_i h
      rw [ih z, List.mem_append, List.mem_singleton]
      constructor
      · exact .inl
      · rintro (h1 | rfl)
        · exact h1
        · exact (ih z).1 h
    · rw [List.mem_append, List.mem_append, ih z]
theorem onceL_yes {zs : List Int} {z : Int} (h : z ∈ zs) : onceL (zs ++ [z]) = onceL zs := by rw [onceL_snoc, if_pos ((mem_onceL zs z).2 h)]
theorem onceL_no {zs : List Int} {z : Int} (h : z ∉ zs) : onceL (zs ++ [z]) = onceL zs ++ [z] := by rw [onceL_snoc, if_neg (fun k => h ((mem_onceL zs z).1 k))]
theorem onceL_nodup (zs : List Int) : (onceL zs).Nodup := by
  induction zs using snoc_ind with
  | h0 => exact List.Pairwise.nil
  | h1 l a ih =>
    rw [onceL_snoc]
    split
    · exact ih
    · rename_i h
      exact List.pairwise_append.2 ⟨ih, List.pairwise_singleton _ _, fun x hx y hy => by rw [List.mem_singleton] at hy; rintro rfl; exact h (hy ▸ hx)⟩
theorem onceL_length_le (zs : List Int) : (onceL zs).length ≤ zs.length := by
  induction zs using snoc_ind with
  | h0 => exact Nat.le_refl _
  | h1 l a ih =>
    rw [onceL_snoc]
    split
    · rw [List.length_append]; omega
    · rw [List.length_append, List.length_append]; simp; exact ih
theorem onceL_eq {zs : List Int} (h : zs.Nodup) : onceL zs = zs := by
  induction zs using snoc_ind with
  | h0 => rfl
  | h1 l a ih =>
    have h' := List.pairwise_append.1 h
    rw [onceL_no (fun hm => (h'.2.2 a hm a (by simp)) rfl), ih h'.1]
theorem onceL_lt {zs : List Int} : (onceL zs).length < zs.length ↔ ¬ zs.Nodup := by
  constructor
  · intro h hn
    rw [onceL_eq hn] at h; omega
  · intro h
    refine Classical.byContradiction fun hl => h ?_
    have h1 : (onceL zs).length = zs.length := by have := onceL_length_le zs; omega
    induction zs using snoc_ind with
    | h0 => exact List.Pairwise.nil
    | h1 l a ih =>
      have h2 := onceL_length_le l
      by_cases ha : a ∈ l
      · rw [onceL_yes ha, List.length_append] at h1; simp at h1; omega
      · rw [onceL_no ha, List.length_append, List.length_append] at h1
        have h3 : l.Nodup := Classical.byContradiction fun hn => hn (ih hn (by omega) (by omega))
        exact List.pairwise_append.2 ⟨h3, List.pairwise_singleton _ _, fun x hx y hy => by rw [List.mem_singleton] at hy; rintro rfl; exact ha (hy ▸ hx)⟩
/-- Rising, each once. -/
structure IsSor (zs L : List Int) : Prop where
  up : L.Pairwise (· < ·)
  mem : ∀ z, z ∈ L ↔ z ∈ zs
theorem IsSor.nodup {zs L : List Int} (h : IsSor zs L) : L.Nodup := h.up.imp fun h e => by omega
theorem IsSor.unique {zs L M : List Int} (h : IsSor zs L) (h' : IsSor zs M) : L = M := by
  have hp : L.Perm M := (List.perm_ext_iff_of_nodup h.nodup h'.nodup).2 fun a => (h.mem a).trans (h'.mem a).symm
  exact hp.eq_of_pairwise (le := (· < ·)) (fun a b _ _ h1 h2 => by omega) h.up h'.up
def sorL (zs : List Int) : List Int := (onceL zs).mergeSort fun x y => decide (x ≤ y)
theorem sorL_perm (zs : List Int) : (sorL zs).Perm (onceL zs) := List.mergeSort_perm _ _
theorem sorL_isSor (zs : List Int) : IsSor zs (sorL zs) := by
  have hp := sorL_perm zs
  refine ⟨?_, fun z => (hp.mem_iff).trans (mem_onceL zs z)⟩
  have h1 : (sorL zs).Pairwise (fun a b => decide (a ≤ b) = true) := List.pairwise_mergeSort (le := fun x y : Int => decide (x ≤ y)) (fun a b c h1 h2 => by simp at *; omega) (fun a b => by simp; omega) _
  have h2 : (sorL zs).Nodup := hp.nodup_iff.2 (onceL_nodup zs)
  have h3 := List.Pairwise.and h1 h2
  exact h3.imp fun ⟨h4, h5⟩ => by have := of_decide_eq_true h4; omega
theorem IsSor.length {zs L : List Int} (h : IsSor zs L) : L.length = (onceL zs).length := by
  rw [h.unique (sorL_isSor zs)]; exact (sorL_perm zs).length_eq
theorem IsSor.length_le {zs L : List Int} (h : IsSor zs L) : L.length ≤ zs.length := h.length ▸ onceL_length_le zs
theorem IsSor.length_eq {zs L : List Int} (h : IsSor zs L) : L.length = zs.length ↔ zs.Nodup := by
  rw [h.length]
  have h1 := onceL_length_le zs
  constructor
  · intro e; exact Classical.byContradiction fun hn => by have := onceL_lt.2 hn; omega
  · intro e; rw [onceL_eq e]
end Go.Proofs
/- Locators of any integers; modified syndromes as words. Nothing of the program. -/
namespace Go.Proofs
namespace Cd
open Pol (ofL toL Byt Bd IsN ev vl Dg)
open GF (al pw ls)

theorem ofL_lin (r : Nat) : ofL [1, r] = li (GF.of r) := by
  funext i
  unfold Pol.ofL li
  match i with
  | 0 => rfl
  | 1 => rfl
  | i + 2 => rw [if_neg (by omega), if_neg (by omega)]; rfl
end Cd
end Go.Proofs
/- Integers chosen one by one, each time the least above the last; where an integer stands first. Nothing of the program. -/
namespace Go.Proofs

theorem getD_mem_z {L : List Int} {i : Nat} (h : i < L.length) : L.getD i 0 ∈ L := by
  rw [List.getD_eq_getElem?_getD, List.getElem?_eq_getElem h]; exact List.getElem_mem h
theorem take_snoc_z (L : List Int) (t : Nat) (h : t < L.length) : L.take (t + 1) = L.take t ++ [L.getD t 0] := by
  rw [List.take_succ_eq_append_getElem h]; simp [List.getD, h]
section
variable {zs : List Int} {lo : Option Int} {k r : Nat}
end
section
variable {zs L : List Int} {m r : Nat}
end

/-! ## Where an integer stands first -/
def plN : List Int → Int → Nat
  | [], _ => 0
  | a :: l, z => if a = z then 0 else plN l z + 1
/-- Its place, or below 0. -/
def plZ (zs : List Int) (z : Int) : Int := if plN zs z < zs.length then (plN zs z : Int) else -1
theorem plN_lt (zs : List Int) (z : Int) : ∀ t, t ≤ zs.length → (plN zs z < t ↔ z ∈ zs.take t) := by
  induction zs with
  | nil => intro t ht; simp at ht; subst ht; simp [plN]
  | cons a l ih =>
    intro t ht
    cases t with
    | zero => simp
    | succ t =>
      unfold plN
      split
      · rename_i h; subst h; simp
      · rename_i h
        rw [List.take_succ_cons, List.mem_cons, Nat.add_lt_add_iff_right, ih t (by simpa using ht)]
        exact ⟨.inr, fun h' => h'.resolve_left (fun e => h e.symm)⟩
theorem plZ_neg {zs : List Int} {z : Int} : plZ zs z < 0 ↔ z ∉ zs := by
  have h := plN_lt zs z zs.length (Nat.le_refl _)
  rw [List.take_length] at h
  unfold plZ
  split
  · rename_i h1; exact ⟨fun h2 => by omega, fun h2 => absurd (h.1 h1) h2⟩
  · rename_i h1; exact ⟨fun _ h2 => h1 (h.2 h2), fun _ => by omega⟩
theorem plZ_at {zs : List Int} {z : Int} {t : Nat} (ht : t < zs.length) (hn : z ∉ zs.take t) (hz : zs.getD t 0 = z) : plZ zs z = (t : Int) := by
  have h1 : ¬ plN zs z < t := fun h => hn ((plN_lt zs z t (by omega)).1 h)
  have h2 : plN zs z < t + 1 := (plN_lt zs z (t + 1) (by omega)).2 (by rw [take_snoc_z zs t ht, hz]; simp)
  unfold plZ
  rw [if_pos (by omega)]; omega
theorem plZ_none {zs : List Int} {z : Int} (h : z ∉ zs) : plZ zs z = -1 := by
  unfold plZ
  rw [if_neg]
  intro h1
  exact h (by have := (plN_lt zs z zs.length (Nat.le_refl _)).1 h1; rwa [List.take_length] at this)
end Go.Proofs
