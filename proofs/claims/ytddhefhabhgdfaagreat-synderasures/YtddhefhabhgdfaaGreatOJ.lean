/- Texts laid together: SorM, LocM, SelM. Each says its own conditions. -/
import Derived.WalkKit
import Derived.Test.YtddhefhabhgdfaaGreatNU
/- Lists of integers: each once, in order; rising, each once. Nothing of the program. -/
namespace Go.Proofs

/-- Each once, in the order in which they come. -/
def onceL (zs : List Int) : List Int := zs.foldl (fun acc z => if z ∈ acc then acc else acc ++ [z]) []
theorem onceL_snoc (zs : List Int) (z : Int) : onceL (zs ++ [z]) = if z ∈ onceL zs then onceL zs else onceL zs ++ [z] := by
  unfold onceL; rw [List.foldl_append]; rfl
theorem snoc_ind {α : Type} {p : List α → Prop} (h0 : p []) (h1 : ∀ l a, p l → p (l ++ [a])) : ∀ l, p l := by
  intro l
  have : p l.reverse.reverse := by
    generalize l.reverse = m
    induction m with
    | nil => exact h0
    | cons a m ih => rw [List.reverse_cons]; exact h1 _ _ ih
  rwa [List.reverse_reverse] at this
theorem mem_onceL (zs : List Int) : ∀ z, z ∈ onceL zs ↔ z ∈ zs := by
  induction zs using snoc_ind with
  | h0 => intro z; exact Iff.rfl
  | h1 l a ih =>
    intro z
    rw [onceL_snoc]
    split
    · rename_i h
      rw [ih z, List.mem_append, List.mem_singleton]
      constructor
      · exact .inl
      · rintro (h1 | rfl)
        · exact h1
        · exact (ih z).1 h
    · rw [List.mem_append, List.mem_append, ih z]
theorem onceL_yes {zs : List Int} {z : Int} (h : z ∈ zs) : onceL (zs ++ [z]) = onceL zs := by rw [onceL_snoc, if_pos ((mem_onceL zs z).2 h)]
theorem onceL_no {zs : List Int} {z : Int} (h : z ∉ zs) : onceL (zs ++ [z]) = onceL zs ++ [z] := by rw [onceL_snoc, if_neg (fun k => h ((mem_onceL zs z).1 k))]
theorem onceL_nodup (zs : List Int) : (onceL zs).Nodup := by
  induction zs using snoc_ind with
  | h0 => exact List.Pairwise.nil
  | h1 l a ih =>
    rw [onceL_snoc]
    split
    · exact ih
    · rename_i h
      exact List.pairwise_append.2 ⟨ih, List.pairwise_singleton _ _, fun x hx y hy => by rw [List.mem_singleton] at hy; rintro rfl; exact h (hy ▸ hx)⟩
theorem onceL_length_le (zs : List Int) : (onceL zs).length ≤ zs.length := by
  induction zs using snoc_ind with
  | h0 => exact Nat.le_refl _
  | h1 l a ih =>
    rw [onceL_snoc]
    split
    · rw [List.length_append]; omega
    · rw [List.length_append, List.length_append]; simp; exact ih
theorem onceL_eq {zs : List Int} (h : zs.Nodup) : onceL zs = zs := by
  induction zs using snoc_ind with
  | h0 => rfl
  | h1 l a ih =>
    have h' := List.pairwise_append.1 h
    rw [onceL_no (fun hm => (h'.2.2 a hm a (by simp)) rfl), ih h'.1]
theorem onceL_lt {zs : List Int} : (onceL zs).length < zs.length ↔ ¬ zs.Nodup := by
  constructor
  · intro h hn
    rw [onceL_eq hn] at h; omega
  · intro h
    refine Classical.byContradiction fun hl => h ?_
    have h1 : (onceL zs).length = zs.length := by have := onceL_length_le zs; omega
    induction zs using snoc_ind with
    | h0 => exact List.Pairwise.nil
    | h1 l a ih =>
      have h2 := onceL_length_le l
      by_cases ha : a ∈ l
      · rw [onceL_yes ha, List.length_append] at h1; simp at h1; omega
      · rw [onceL_no ha, List.length_append, List.length_append] at h1
        have h3 : l.Nodup := Classical.byContradiction fun hn => hn (ih hn (by omega) (by omega))
        exact List.pairwise_append.2 ⟨h3, List.pairwise_singleton _ _, fun x hx y hy => by rw [List.mem_singleton] at hy; rintro rfl; exact ha (hy ▸ hx)⟩
/-- Rising, each once. -/
structure IsSor (zs L : List Int) : Prop where
  up : L.Pairwise (· < ·)
  mem : ∀ z, z ∈ L ↔ z ∈ zs
theorem IsSor.nodup {zs L : List Int} (h : IsSor zs L) : L.Nodup := h.up.imp fun h e => by omega
theorem IsSor.unique {zs L M : List Int} (h : IsSor zs L) (h' : IsSor zs M) : L = M := by
  have hp : L.Perm M := (List.perm_ext_iff_of_nodup h.nodup h'.nodup).2 fun a => (h.mem a).trans (h'.mem a).symm
  exact hp.eq_of_pairwise (le := (· < ·)) (fun a b _ _ h1 h2 => by omega) h.up h'.up
def sorL (zs : List Int) : List Int := (onceL zs).mergeSort fun x y => decide (x ≤ y)
theorem sorL_perm (zs : List Int) : (sorL zs).Perm (onceL zs) := List.mergeSort_perm _ _
theorem sorL_isSor (zs : List Int) : IsSor zs (sorL zs) := by
  have hp := sorL_perm zs
  refine ⟨?_, fun z => (hp.mem_iff).trans (mem_onceL zs z)⟩
  have h1 : (sorL zs).Pairwise (fun a b => decide (a ≤ b) = true) := List.pairwise_mergeSort (le := fun x y : Int => decide (x ≤ y)) (fun a b c h1 h2 => by simp at *; omega) (fun a b => by simp; omega) _
  have h2 : (sorL zs).Nodup := hp.nodup_iff.2 (onceL_nodup zs)
  have h3 := List.Pairwise.and h1 h2
  exact h3.imp fun ⟨h4, h5⟩ => by have := of_decide_eq_true h4; omega
theorem IsSor.length {zs L : List Int} (h : IsSor zs L) : L.length = (onceL zs).length := by
  rw [h.unique (sorL_isSor zs)]; exact (sorL_perm zs).length_eq
theorem IsSor.length_le {zs L : List Int} (h : IsSor zs L) : L.length ≤ zs.length := h.length ▸ onceL_length_le zs
theorem IsSor.length_eq {zs L : List Int} (h : IsSor zs L) : L.length = zs.length ↔ zs.Nodup := by
  rw [h.length]
  have h1 := onceL_length_le zs
  constructor
  · intro e; exact Classical.byContradiction fun hn => by have := onceL_lt.2 hn; omega
  · intro e; rw [onceL_eq e]
theorem IsSor.at_lt {zs L : List Int} (h : IsSor zs L) {i j : Nat} (hij : i < j) (hj : j < L.length) : L.getD i 0 < L.getD j 0 := by
  have := List.pairwise_iff_getElem.1 h.up i j (by omega) hj hij
  rw [List.getD_eq_getElem?_getD, List.getD_eq_getElem?_getD, List.getElem?_eq_getElem (by omega), List.getElem?_eq_getElem hj]
  exact this
end Go.Proofs
/- Locators of any integers; modified syndromes as words. Nothing of the program. -/
namespace Go.Proofs
namespace Cd
open Pol (ofL toL Byt Bd IsN ev vl Dg)
open GF (al pw ls)

/-- The locator of any integers, as a list. -/
def locZ (zs : List Int) : List Nat := toL (zs.length + 1) (lo (zs.map fun z => GF.of (Gf.powZ 2 z)))
theorem powZ_ne (z : Int) : GF.of (Gf.powZ 2 z) ≠ 0 := by rw [powZ_any, of_pt]; exact GF.al_ne_zero _
theorem powZ_lt (z : Int) : Gf.powZ 2 z < 256 := by rw [powZ_any]; exact pt_lt _
theorem locZ_length (zs : List Int) : (locZ zs).length = zs.length + 1 := Pol.toL_length _ _
theorem locZ_isN (zs : List Int) : IsN (locZ zs) (lo (zs.map fun z => GF.of (Gf.powZ 2 z))) := by
  have := lo_dg (l := zs.map fun z => GF.of (Gf.powZ 2 z)) (fun c hc => by
    obtain ⟨z, _, rfl⟩ := List.mem_map.1 hc
    exact powZ_ne z)
  rw [List.length_map] at this
  exact Pol.isN_of_dg this
theorem ofL_lin (r : Nat) : ofL [1, r] = li (GF.of r) := by
  funext i
  unfold Pol.ofL li
  match i with
  | 0 => rfl
  | 1 => rfl
  | i + 2 => rw [if_neg (by omega), if_neg (by omega)]; rfl
theorem locZ_nil : locZ [] = [1] := rfl
theorem locZ_snoc (zs : List Int) (z : Int) (r : Nat) (hr : Gf.powZ 2 z = r) : IsN (locZ (zs ++ [z])) (Pol.mul (ofL (locZ zs)) (ofL [1, r])) := by
  have h := locZ_isN (zs ++ [z])
  rw [List.map_append] at h
  rw [(locZ_isN zs).eq, ofL_lin, ← hr, ← lo_snoc]; exact h
theorem locZ_nat (e : List Nat) : locZ (e.map fun i : Nat => (i : Int)) = loL e := by
  unfold locZ loL
  rw [List.length_map, List.map_map]
  have h : (fun z : Int => GF.of (Gf.powZ 2 z)) ∘ (fun i : Nat => (i : Int)) = al := by
    funext i
    show GF.of (Gf.powZ 2 (i : Int)) = al i
    rw [powZ_pt, of_pt]
  rw [h]
theorem modL_wd {s l zs : List Nat} {N : Nat} (hs : s.length = N) (h : IsN zs (Pol.mul (ofL s) (ofL l))) : wd N zs = modL s l := by
  refine Mx.list_ext (by rw [wd_length, modL_length, hs]) fun i hi => ?_
  rw [wd_length] at hi
  rw [wd_at _ hi, modL, Pol.toL_at, if_pos (by omega)]
  have e : ofL zs i = Pol.mul (ofL s) (ofL l) i := by rw [h.eq]
  rw [← e]
  exact (GF.of_val _ (h.byt i)).symm
theorem modL_byt (s l : List Nat) : Byt (modL s l) := Pol.toL_byt _ _
end Cd
end Go.Proofs
/- Integers chosen one by one, each time the least above the last; where an integer stands first. Nothing of the program. -/
namespace Go.Proofs

theorem getD_mem_z {L : List Int} {i : Nat} (h : i < L.length) : L.getD i 0 ∈ L := by
  rw [List.getD_eq_getElem?_getD, List.getElem?_eq_getElem h]; exact List.getElem_mem h
theorem mem_getD_z {L : List Int} {z : Int} (h : z ∈ L) : ∃ i, i < L.length ∧ L.getD i 0 = z := by
  obtain ⟨i, hi, e⟩ := List.getElem_of_mem h
  exact ⟨i, hi, by rw [List.getD_eq_getElem?_getD, List.getElem?_eq_getElem hi]; exact e⟩
theorem take_snoc_z (L : List Int) (t : Nat) (h : t < L.length) : L.take (t + 1) = L.take t ++ [L.getD t 0] := by
  rw [List.take_succ_eq_append_getElem h]; simp [List.getD, h]
/-- Is it above? -/
def Gt (lo : Option Int) (z : Int) : Prop := ∀ y, lo = some y → y < z
/-- None of the first k is above. -/
def LstN (zs : List Int) (lo : Option Int) (k : Nat) : Prop := ∀ i, i < k → ¬ Gt lo (zs.getD i 0)
/-- The r-th is the least of those of the first k that are above. -/
def LstY (zs : List Int) (lo : Option Int) (k r : Nat) : Prop := r < k ∧ Gt lo (zs.getD r 0) ∧ ∀ i, i < k → Gt lo (zs.getD i 0) → zs.getD r 0 ≤ zs.getD i 0
section
variable {zs : List Int} {lo : Option Int} {k r : Nat}
theorem lst_zero : LstN zs lo 0 := fun i hi => absurd hi (Nat.not_lt_zero i)
theorem lst_nskip (h : LstN zs lo k) (hg : ¬ Gt lo (zs.getD k 0)) : LstN zs lo (k + 1) := fun i hi => by
  rcases Nat.lt_succ_iff_lt_or_eq.1 hi with h1 | rfl
  · exact h i h1
  · exact hg
theorem lst_ntake (h : LstN zs lo k) (hg : Gt lo (zs.getD k 0)) : LstY zs lo (k + 1) k := ⟨by omega, hg, fun i hi hgi => by
  rcases Nat.lt_succ_iff_lt_or_eq.1 hi with h1 | rfl
  · exact absurd hgi (h i h1)
  · exact Int.le_refl _⟩
theorem lst_yskip (h : LstY zs lo k r) (hg : Gt lo (zs.getD k 0) → ¬ zs.getD k 0 < zs.getD r 0) : LstY zs lo (k + 1) r := ⟨by have := h.1; omega, h.2.1, fun i hi hgi => by
  rcases Nat.lt_succ_iff_lt_or_eq.1 hi with h1 | rfl
  · exact h.2.2 i h1 hgi
  · have := hg hgi; omega⟩
theorem lst_ytake (h : LstY zs lo k r) (hg : Gt lo (zs.getD k 0)) (hl : zs.getD k 0 < zs.getD r 0) : LstY zs lo (k + 1) k := ⟨by omega, hg, fun i hi hgi => by
  rcases Nat.lt_succ_iff_lt_or_eq.1 hi with h1 | rfl
  · have := h.2.2 i h1 hgi; omega
  · exact Int.le_refl _⟩
end
/-- The last of the first m. -/
def loM (L : List Int) (m : Nat) : Option Int := if m = 0 then none else some (L.getD (m - 1) 0)
theorem gt_zero (L : List Int) (z : Int) : Gt (loM L 0) z := fun y h => by cases h
theorem gt_succ {L : List Int} {m : Nat} {z : Int} (h : 0 < m) : Gt (loM L m) z ↔ L.getD (m - 1) 0 < z := by
  unfold Gt loM
  rw [if_neg (by omega)]
  exact ⟨fun h => h _ rfl, fun h y e => by injection e with e; rw [← e]; exact h⟩
section
variable {zs L : List Int} {m r : Nat}
theorem gt_next (h : IsSor zs L) (hm : m < L.length) : Gt (loM L m) (L.getD m 0) := by
  rcases Nat.eq_zero_or_pos m with rfl | h0
  · exact gt_zero _ _
  · exact (gt_succ h0).2 (h.at_lt (by omega) hm)
theorem lst_end_no (h : IsSor zs L) (hm : m ≤ L.length) (hn : LstN zs (loM L m) zs.length) : m = L.length := by
  refine Classical.byContradiction fun hne => ?_
  have hlt : m < L.length := by omega
  obtain ⟨i, hi, e⟩ := mem_getD_z ((h.mem _).1 (getD_mem_z hlt))
  exact hn i hi (e ▸ gt_next h hlt)
theorem lst_end_yes (h : IsSor zs L) (hm0 : m ≤ L.length) (hy : LstY zs (loM L m) zs.length r) : m < L.length ∧ zs.getD r 0 = L.getD m 0 := by
  obtain ⟨j, hj, e⟩ := mem_getD_z ((h.mem _).2 (getD_mem_z hy.1))
  have hmj : m ≤ j := by
    rcases Nat.eq_zero_or_pos m with rfl | h0
    · omega
    · refine Classical.byContradiction fun hc => ?_
      have h1 := (gt_succ h0).1 hy.2.1
      rw [← e] at h1
      rcases Nat.lt_or_ge j (m - 1) with h2 | h2
      · by_cases h3 : m - 1 < L.length
        · have := h.at_lt h2 h3; omega
        · omega
      · have : j = m - 1 := by omega
        rw [this] at h1; omega
  have hm : m < L.length := by omega
  refine ⟨hm, ?_⟩
  obtain ⟨i, hi, e2⟩ := mem_getD_z ((h.mem _).1 (getD_mem_z hm))
  have h1 := hy.2.2 i hi (e2 ▸ gt_next h hm)
  rw [e2] at h1
  rcases Nat.lt_or_ge m j with h2 | h2
  · have := h.at_lt h2 hj; omega
  · have : j = m := by omega
    rw [← this, e]
end

/-! ## Where an integer stands first -/
def plN : List Int → Int → Nat
  | [], _ => 0
  | a :: l, z => if a = z then 0 else plN l z + 1
/-- Its place, or below 0. -/
def plZ (zs : List Int) (z : Int) : Int := if plN zs z < zs.length then (plN zs z : Int) else -1
theorem plN_lt (zs : List Int) (z : Int) : ∀ t, t ≤ zs.length → (plN zs z < t ↔ z ∈ zs.take t) := by
  induction zs with
  | nil => intro t ht; simp at ht; subst ht; simp [plN]
  | cons a l ih =>
    intro t ht
    cases t with
    | zero => simp
    | succ t =>
      unfold plN
      split
      · rename_i h; subst h; simp
      · rename_i h
        rw [List.take_succ_cons, List.mem_cons, Nat.add_lt_add_iff_right, ih t (by simpa using ht)]
        exact ⟨.inr, fun h' => h'.resolve_left (fun e => h e.symm)⟩
theorem plZ_neg {zs : List Int} {z : Int} : plZ zs z < 0 ↔ z ∉ zs := by
  have h := plN_lt zs z zs.length (Nat.le_refl _)
  rw [List.take_length] at h
  unfold plZ
  split
  · rename_i h1; exact ⟨fun h2 => by omega, fun h2 => absurd (h.1 h1) h2⟩
  · rename_i h1; exact ⟨fun _ h2 => h1 (h.2 h2), fun _ => by omega⟩
theorem plZ_lt {zs : List Int} {z : Int} {t : Nat} (ht : t < zs.length) (hz : zs.getD t 0 = z) : plZ zs z < (t : Int) ↔ z ∈ zs.take t := by
  have h1 : plN zs z < zs.length := by
    have := (plN_lt zs z zs.length (Nat.le_refl _)).2 (by rw [List.take_length, ← hz]; exact getD_mem_z ht)
    exact this
  rw [← plN_lt zs z t (by omega)]
  unfold plZ
  rw [if_pos h1]; omega
theorem plZ_at {zs : List Int} {z : Int} {t : Nat} (ht : t < zs.length) (hn : z ∉ zs.take t) (hz : zs.getD t 0 = z) : plZ zs z = (t : Int) := by
  have h1 : ¬ plN zs z < t := fun h => hn ((plN_lt zs z t (by omega)).1 h)
  have h2 : plN zs z < t + 1 := (plN_lt zs z (t + 1) (by omega)).2 (by rw [take_snoc_z zs t ht, hz]; simp)
  unfold plZ
  rw [if_pos (by omega)]; omega
theorem plZ_none {zs : List Int} {z : Int} (h : z ∉ zs) : plZ zs z = -1 := by
  unfold plZ
  rw [if_neg]
  intro h1
  exact h (by have := (plN_lt zs z zs.length (Nat.le_refl _)).1 h1; rwa [List.take_length] at this)
end Go.Proofs
