/- Texts laid together: GApi, GNul. Each says its own conditions. -/
import Derived.Test.YtnphdldcfdpflaaGreatND
import Derived.Test.YtnphdldcfdpflaaGreatNA
/- The walks of gauss.Solve, nullAt, slices.Contains of ints. Conditions: any numbers of rows and columns, and cells of bytes; a field that Of has made. -/
namespace Go.Proofs
open Go.RowKit Go.ChangeShapes Go.WideShapes
open Mx (Mat cells upd prt lay mx rowL bes IsEch Sol dot solx IsSol nv nulL)
open Pol (Byt ofL toL)

/-- What is told of any matrix and any column. -/
def SlO (R C : Int) (n : Nat) (xs : List Nat) (m : Nat) (ys zs : List Nat) (ok : Bool) : Prop :=
  (ok = true ∧ rightB R C n = true ∧ R = (m : Int) ∧ IsSol R.toNat C.toNat xs ys zs) ∨
  (ok = false ∧ zs = [] ∧ (rightB R C n = true → R = (m : Int) → ∀ x : Nat → GF, ¬ ∀ i, i < R.toNat → dot C.toNat (mx C.toNat xs i) x = ofL ys i))
theorem mx_col (ys : List Nat) (i : Nat) : mx 1 ys i 0 = ofL ys i := by unfold mx; rw [Nat.mul_one, Nat.add_zero]
theorem slO_sa {R C : Int} {n : Nat} {xs : List Nat} {m : Nat} {ys zs : List Nat} {ok : Bool} (h : SlO R C n xs m ys zs ok) : ∃ c b, SaO R C n xs (m : Int) 1 ys c b zs ok := by
  rcases h with ⟨h1, h2, h3, h4⟩ | ⟨h1, h2, h3⟩
  · obtain ⟨r, c, e1, e2, _⟩ := right_split h2
    have e3 : C.toNat = c := by omega
    rw [e3] at h4
    refine ⟨c, 1, .inl ⟨h1, h2, h3, e2, rfl, by rw [h4.len, Nat.mul_one], h4.byt, fun j hj => ?_⟩⟩
    obtain rfl : j = 0 := by omega
    exact h4.sol.congr (Mx.Eq.refl _ _ _) (fun i _ => (mx_col ys i).symm) (fun t _ => (mx_col zs t).symm)
  · refine ⟨0, 0, .inr ⟨h1, rfl, rfl, h2, fun a b => ⟨0, by omega, fun x hx => h3 a b x fun i hi => ?_⟩⟩⟩
    rw [hx i hi, mx_col]
theorem slO_exists (R C : Int) (n : Nat) (xs : List Nat) (m : Nat) (ys : List Nat) : ∃ zs ok, SlO R C n xs m ys zs ok := by
  by_cases h : rightB R C n = true ∧ R = (m : Int)
  · rcases Mx.isSol_dec R.toNat C.toNat xs ys with ⟨x, hx⟩ | hno
    · exact ⟨x, true, .inl ⟨rfl, h.1, h.2, hx⟩⟩
    · exact ⟨[], false, .inr ⟨rfl, rfl, fun _ _ => hno⟩⟩
  · exact ⟨[], false, .inr ⟨rfl, rfl, fun a b => absurd ⟨a, b⟩ h⟩⟩

set_option maxRecDepth 100000 in
set_option maxHeartbeats 4000000 in
theorem gsolve1_calls (k B T : Nat) (R C : Int) (q qb : Option Addr) (n c m cb : Nat) (xs ys zs : List Nat) (ok : Bool) (hE : SlO R C n xs m ys zs ok) (hR1 : -9223372036854775808 ≤ R) (hR2 : R < 9223372036854775808) (hC1 : -9223372036854775808 ≤ C) (hC2 : C < 9223372036854775808)
    (hnc : n ≤ c) (hcb : m ≤ cb) (w : World) (hs : Bs w q n xs) (hs2 : Bs w qb m ys) (hF : Fd k B T w) :
    Calls Tryz.prog 17 #[.pointer (some ⟨B, 0, none⟩), .agg #[.int .i64 R, .int .i64 C, .slice q n c], .slice qb m cb] w fun e w' => ∃ v, e = .returned (.tuple #[v, .bool ok]) ∧ Ow w' w.heap.size v zs ∧ Fd k B T w' ∧ But (· = T) w w' := by
  obtain ⟨A, hA⟩ : ∃ A, w.heap.size = A := ⟨_, rfl⟩
  obtain ⟨P2, hP2⟩ : ∃ P2, w.alloc (.cells #[.int .i64 R, .int .i64 C, .slice q n c] 24) = P2 := ⟨_, rfl⟩
  have hb0 : Below w.heap.size w P2 := hP2 ▸ (Below.refl _ w).alloc (Nat.le_refl _) _
  have HP : Hid (Mb P2 A (.int .i64 R) (.int .i64 C) (.slice q n c) ∧ Below w.heap.size w P2) := ⟨by rw [← hA, ← hP2]; exact mb_new w _ _ _, hb0⟩
  obtain ⟨c', b', hSa⟩ := slO_sa hE
  have K1 := gsolve_calls k B T R C (m : Int) q qb n c m 1 cb xs ys c' b' zs ok hSa hR1 hR2 hC1 hC2 hnc hcb (by decide) (fun _ e => by omega) P2 (hs.below hb0) (hs2.below hb0) (hF.below hb0)
  clear hs hs2 hF hE hSa hb0 hR1 hR2 hC1 hC2
  have a0 := (HP.out.1).c0
  have a1 := (HP.out.1).c1
  have a2 := (HP.out.1).c2
  go_enter Tryz.func17, Tryz.ntmps17
  go_wp2_with fail
  refine K1.mono ?_
  rintro e w1 ⟨v1, rfl, hO1, hF1, hb1⟩
  clear K1
  clear a0 a1 a2
  obtain ⟨q1, m1, c1, rfl⟩ := hO1.isSlice
  have HT : Hid (Fd k B T w1 ∧ But (· = T) w w1 ∧ Ow w1 w.heap.size (.slice q1 m1 c1) zs) := ⟨hF1, (But.of_below HP.out.2).trans hb1, hO1.mono HP.out.2.size⟩
  clear hO1 hF1 hb1
  go_wp2
  go_ret2
  exact ⟨_, rfl, HT.out.2.2.alloc _, HT.out.1.alloc _, HT.out.2.1.alloc _⟩

set_option maxRecDepth 100000 in
set_option maxHeartbeats 1000000 in
theorem sindex_calls (q : Option Addr) (n c j : Nat) (L : List Nat) (hn : n ≤ 1000000) (w : World) (hs : Is w q n L) :
    Calls Tryz.prog 60 #[.slice q n c, .int .i64 (j : Nat)] w fun e w' => (∃ z : Int, e = .returned (.int .i64 z) ∧ ((0 ≤ z ∧ j ∈ L) ∨ (z = -1 ∧ j ∉ L))) ∧ w' = w := by
  have HS : Hid (Is w q n L) := hs
  clear hs
  go_enter Tryz.func60, Tryz.ntmps60
  go_wp2
  go_loopw [8] (fun i wr => ∃ t : Nat, t ≤ n ∧ i = .int .i64 (t : Int) ∧ (∀ k, k < t → L.getD k 0 ≠ j) ∧ wr = w) (fun i _ => n - (intOf i).toNat)
  case atStart => exact ⟨0, by omega, rfl, fun k hk => absurd hk (by omega), rfl⟩
  case round =>
    obtain ⟨t, ht, rfl, hall, rfl⟩ := hrel
    have HA : Hid (∀ k, k < t → L.getD k 0 ≠ j) := hall
    clear hall
    by_cases hlt : t < n
    · have hti : (t : Int) < (n : Int) := by omega
      obtain ⟨a, rfl, _, ca⟩ := HS.out.cell t hlt
      obtain ⟨x, hx⟩ : ∃ x, L.getD t 0 = x := ⟨_, rfl⟩
      rw [hx] at ca
      by_cases hxj : x = j
      · have HM : Hid (j ∈ L) := Mx.mem_leads.2 ⟨t, by rw [HS.out.len]; exact hlt, hx.trans hxj⟩
        subst hxj
        clear hx
        go_wp2
        go_ret
        exact ⟨⟨_, rfl, .inl ⟨by omega, HM.out⟩⟩, rfl⟩
      · have HN : Hid (∀ k, k < t + 1 → L.getD k 0 ≠ j) := fun k hk => by
          by_cases e : k = t
          · subst e; rw [hx]; exact hxj
          · exact HA.out k (by omega)
        have hne : ((j : Int) == (x : Int)) = false := by simp; omega
        have hne2 : ((j : Int) = (x : Int)) = False := eq_false (by omega)
        clear hx hxj
        go_wp2
        go_roundw
        case rel => exact ⟨t + 1, by omega, by go_num, HN.out, trivial⟩
        case measure => simp [intOf]; omega
    · obtain rfl : t = n := by omega
      go_wp2
      go_ret
      exact ⟨⟨_, rfl, .inr ⟨rfl, fun hm => by obtain ⟨k, hk, e⟩ := Mx.mem_leads.1 hm; rw [HS.out.len] at hk; exact HA.out k hk e⟩⟩, rfl⟩

set_option maxRecDepth 100000 in
set_option maxHeartbeats 1000000 in
theorem scontains_calls (q : Option Addr) (n c j : Nat) (L : List Nat) (b : Bool) (hb : decide (j ∈ L) = b) (hn : n ≤ 1000000) (w : World) (hs : Is w q n L) :
    Calls Tryz.prog 42 #[.slice q n c, .int .i64 (j : Nat)] w fun e w' => e = .returned (.bool b) ∧ w' = w := by
  have K := sindex_calls q n c j L hn w hs
  clear hs
  go_enter Tryz.func42, Tryz.ntmps42
  go_wp2_with fail
  refine K.mono ?_
  rintro e w1 ⟨⟨z, rfl, hz⟩, rfl⟩
  clear K
  rcases hz with ⟨hz, hm⟩ | ⟨hz, hm⟩
  · rw [decide_eq_true hm] at hb
    subst hb
    clear hm
    go_wp2
    go_ret
    exact ⟨rfl, rfl⟩
  · rw [decide_eq_false hm] at hb
    subst hb
    subst hz
    clear hm
    go_wp2
    go_ret
    exact ⟨rfl, rfl⟩
end Go.Proofs
/- The walks of gauss.nullAt and Null. Conditions: any numbers of rows and columns, and cells of bytes; a field that Of has made. -/
namespace Go.Proofs
open Go.RowKit Go.ChangeShapes Go.WideShapes
open Mx (Mat cells upd prt lay mx rowL bes IsEch nv nulL nullL freeL)
open Pol (Byt ofL toL)
attribute [local go_sem ↓ high] builtin_ap
attribute [local go_sem] ap_sem

namespace Mx
theorem toL_set {C : Nat} {p p' : Nat → GF} {i x : Nat} (hx : x < 256) (h1 : i < C → p' i = GF.of x) (h2 : ∀ a, a < C → a ≠ i → p' a = p a) : (toL C p).set i x = toL C p' := by
  refine list_ext (by rw [List.length_set, Pol.toL_length, Pol.toL_length]) fun a ha => ?_
  rw [List.length_set, Pol.toL_length] at ha
  rw [getD_set, Pol.toL_length, Pol.toL_at, Pol.toL_at, if_pos ha, if_pos ha]
  by_cases e : i = a
  · subst e; rw [if_pos ⟨rfl, ha⟩, h1 ha, GF.of_val x hx]
  · rw [if_neg (fun k => e k.1), h2 a ha (Ne.symm e)]
theorem nv_zero (E : Mat) (l : Nat → Nat) (c : Nat) : nv E 0 l c = fun j => dl j c := by funext j; exact GF.add_zero _
theorem nv_succ (E : Mat) (t : Nat) (l : Nat → Nat) (c a : Nat) : nv E (t + 1) l c a = nv E t l c a + E t c * dl a (l t) := by unfold nv; rw [sm_succ, GF.add_assoc]
theorem nul_start {C c : Nat} (E : Mat) (l : Nat → Nat) : (List.replicate C 0).set c 1 = toL C (nv E 0 l c) := by
  have e : List.replicate C 0 = toL C fun _ => (0 : GF) := by
    refine list_ext (by rw [List.length_replicate, Pol.toL_length]) fun a ha => ?_
    rw [List.length_replicate] at ha
    rw [Pol.toL_at, if_pos ha]
    simp [List.getD, ha]; rfl
  rw [e, nv_zero]
  exact toL_set (by decide) (fun _ => by rw [dl_self]; rfl) (fun a _ h => by rw [dl_ne h])
theorem nul_next {R C r c t : Nat} {E : Mat} {l : Nat → Nat} (h : Red R C E r l) (ht : t < r) (hc : ∀ k, k < r → l k ≠ c) (x : Nat) (hx : x = (E t c).val) : (toL C (nv E t l c)).set (l t) x = toL C (nv E (t + 1) l c) := by
  refine toL_set (hx ▸ GF.lt _) (fun _ => ?_) (fun a _ ha => ?_)
  · have e : nv E t l c (l t) = 0 := by
      rw [nv_other c (l t) fun k hk e => by have := h.inj (by omega) ht e; omega]
      exact dl_ne (hc t ht)
    rw [nv_succ, e, dl_self, GF.mul_one, GF.zero_add, hx, GF.of_self]
  · rw [nv_succ, dl_ne ha, GF.mul_zero, GF.add_zero]
end Mx

set_option maxRecDepth 100000 in
set_option maxHeartbeats 2000000 in
theorem gnullAt_calls (R C n c l cl j : Nat) (q ql : Option Addr) (xs ys L : List Nat) (hE : IsEch R C xs ys L) (hj : j ∈ freeL C L) (hl : L.length = l) (hn : n = R * C) (hR : R ≤ 300) (hC : C ≤ 300) (w : World) (hs : Bs w q n ys) (hL : Is w ql l L) :
    Calls Tryz.prog 43 #[.agg #[.int .i64 (R : Nat), .int .i64 (C : Nat), .slice q n c], .slice ql l cl, .int .i64 (j : Nat)] w fun e w' => ∃ v, e = .returned v ∧ Ow w' w.heap.size v (nulL C ys L j) ∧ Below w.heap.size w w' := by
  obtain ⟨A, hA⟩ : ∃ A, w.heap.size = A := ⟨_, rfl⟩
  have hmk := make_bytes C (by omega)
  obtain ⟨P1, hP1⟩ : ∃ P1, w.alloc (.cells #[.int .i64 (R : Nat), .int .i64 (C : Nat), .slice q n c] 24) = P1 := ⟨_, rfl⟩
  obtain ⟨W0, hW0⟩ : ∃ W0, P1.alloc (.cells (madeCells #[.int .u8 0] C) 5) = W0 := ⟨_, rfl⟩
  obtain ⟨hjC, hjL⟩ := Mx.mem_freeL.1 hj
  have hsP : P1.heap.size = A + 1 := by rw [← hP1, ← hA]; simp
  have hO0 : Ow W0 (A + 1) (.slice (some ⟨A + 1, 0, none⟩) C C) (List.replicate C 0) := by
    have := ow_made P1 (base := A + 1) (by omega) C (by omega)
    rw [hsP, hW0] at this
    exact this
  have hB0 : Below A w W0 := by
    rw [← hA, ← hW0, ← hP1]
    exact ((Below.refl _ w).alloc (Nat.le_refl _) _).alloc (by simp) _
  have HM : Hid (Mb P1 A (.int .i64 (R : Nat)) (.int .i64 (C : Nat)) (.slice q n c) ∧ Mb W0 A (.int .i64 (R : Nat)) (.int .i64 (C : Nat)) (.slice q n c)) := by
    have h1 := mb_new w (.int .i64 (R : Nat)) (.int .i64 (C : Nat)) (.slice q n c)
    rw [hP1, hA] at h1
    exact ⟨h1, h1.below (hW0 ▸ (Below.refl _ _).alloc (Nat.le_refl _) _)⟩
  have hx := hO0.at (by simp) j hjC
  have hxf := hx.2
  have hxc := hx.1
  have HS : Hid (Bs w q n ys ∧ Is w ql l L ∧ IsEch R C xs ys L ∧ L.length = l ∧ n = R * C ∧ j ∉ L ∧ Below A w W0 ∧ Ow W0 (A + 1) (.slice (some ⟨A + 1, 0, none⟩) C C) (List.replicate C 0)) := ⟨hs, hL, hE, hl, hn, hjL, hB0, hO0⟩
  have hji : (j : Int) < (C : Int) := by omega
  have hlR : l ≤ 300 := by have := hE.rank.1; omega
  clear hs hL hE hl hn hj hjL hB0 hO0 hx
  have hjz : ((List.replicate C 0).getD j 0 : Nat) = 0 := by simp [List.getD, hjC]
  rw [hjz] at hxc
  clear hjz
  have a0 := (HM.out.1).c0
  have a1 := (HM.out.1).c1
  have a2 := (HM.out.1).c2
  have d0 := (HM.out.2).c0
  have d1 := (HM.out.2).c1
  have d2 := (HM.out.2).c2
  go_enter Tryz.func43, Tryz.ntmps43
  go_wp2
  clear a0 a1 a2
  clear d0 d1 d2
  obtain ⟨W1, hW1⟩ : ∃ W1, W0.setCell ⟨A + 1, j, none⟩ (.int .u8 1) = W1 := ⟨_, rfl⟩
  have HT : Hid (Mb W1 A (.int .i64 (R : Nat)) (.int .i64 (C : Nat)) (.slice q n c) ∧ Below A w W1 ∧ Ow W1 (A + 1) (.slice (some ⟨A + 1, 0, none⟩) C C) (toL C (nv (mx C ys) 0 (fun k => L.getD k 0) j))) := by
    have hb : But (· = A + 1) W0 W1 := hW1 ▸ (But.refl (· = A + 1) W0).setCell (p := ⟨A + 1, j, none⟩) (.inl rfl) _
    have h1 := HS.out.2.2.2.2.2.2.1
    refine ⟨HM.out.2.but hb (by omega), h1.trans (hb.below (by rw [← hA]; have := h1.size; exact Nat.le_trans (Nat.le_refl _) this) (fun k hk => by omega)), ?_⟩
    rw [← Mx.nul_start, ← hW1]
    exact HS.out.2.2.2.2.2.2.2.set (by simp) j 1
  rw [hW1]
  clear hW1 hW0 hxf hxc HM
  go_loopw [18] (fun i wr => ∃ t : Nat, t ≤ l ∧ i = .int .i64 (t : Int) ∧ Ow wr (A + 1) (.slice (some ⟨A + 1, 0, none⟩) C C) (toL C (nv (mx C ys) t (fun k => L.getD k 0) j)) ∧ But (· = A + 1) W1 wr) (fun i _ => l - (intOf i).toNat)
  case atStart => exact ⟨0, by omega, rfl, HT.out.2.2, But.refl _ _⟩
  case round =>
    obtain ⟨t, ht, rfl, hO, hB⟩ := hrel
    have hBw : Below A w wr := HT.out.2.1.trans (hB.below (by have h1 := HT.out.2.1.size; rw [hA] at h1; exact h1) (fun k hk => by omega))
    by_cases hlt : t < l
    · have hti : (t : Int) < (l : Int) := by omega
      obtain ⟨ld, hld⟩ : ∃ ld, L.getD t 0 = ld := ⟨_, rfl⟩
      have hldC : ld < C := hld ▸ HS.out.2.2.1.lead_lt (by rw [HS.out.2.2.2.1]; exact hlt)
      have hldi : (ld : Int) < (C : Int) := by omega
      obtain ⟨a9, e9, _, cl⟩ := (HS.out.2.1.below (hA.symm ▸ hBw)).cell t hlt
      subst e9
      rw [hld] at cl
      obtain ⟨o, ho⟩ : ∃ o, o = t * C := ⟨_, rfl⟩
      obtain ⟨s, hs⟩ : ∃ s, s = o + j := ⟨_, rfl⟩
      have e1 : (t : Int) * (C : Int) = (o : Int) := by rw [ho]; exact (Int.natCast_mul t C).symm
      have e2 : (o : Int) + (j : Int) = (s : Int) := by omega
      have hsn : s < n := by rw [hs, ho, HS.out.2.2.2.2.1]; exact Mx.cell_lt (by have := HS.out.2.2.1.rank.1; rw [HS.out.2.2.2.1] at this; omega) hjC
      have hsi : (s : Int) < (n : Int) := by omega
      have hn9 : n ≤ 90000 := by rw [HS.out.2.2.2.2.1]; exact Nat.mul_le_mul hR hC
      have ho9 : o ≤ 90000 := by omega
      obtain ⟨a8, e8, _, cy⟩ := (HS.out.1.below (hA.symm ▸ hBw)).cell s hsn
      subst e8
      obtain ⟨y, hy⟩ : ∃ y, ys.getD s 0 = y := ⟨_, rfl⟩
      have hyl : y < 256 := hy ▸ HS.out.1.byte s
      rw [hy] at cy
      have hx := hO.at (by rw [Pol.toL_length]) ld hldC
      have hxf := hx.2
      have hxc := hx.1
      obtain ⟨z, hz⟩ : ∃ z, (toL C (nv (mx C ys) t (fun k => L.getD k 0) j)).getD ld 0 = z := ⟨_, rfl⟩
      rw [hz] at hxc
      have HN : Hid (Ow (wr.setCell ⟨A + 1, ld, none⟩ (.int .u8 (y : Nat))) (A + 1) (.slice (some ⟨A + 1, 0, none⟩) C C) (toL C (nv (mx C ys) (t + 1) (fun k => L.getD k 0) j)) ∧ But (· = A + 1) W1 (wr.setCell ⟨A + 1, ld, none⟩ (.int .u8 (y : Nat)))) := by
        refine ⟨?_, hB.setCell (p := ⟨A + 1, ld, none⟩) (.inl rfl) _⟩
        have e := Mx.nul_next (c := j) (t := t) HS.out.2.2.1.ech.red (by rw [HS.out.2.2.2.1]; exact hlt) (fun k hk e => HS.out.2.2.2.2.2.1 (Mx.mem_leads.2 ⟨k, hk, e⟩)) y (by
          rw [← hy, hs, ho]; exact (GF.of_val _ (HS.out.1.byte _)).symm)
        rw [hld] at e
        rw [← e]
        exact hO.set (by rw [Pol.toL_length]) ld y
      have hm := HT.out.1.but hB (by omega)
      have a0 := (hm).c0
      have a1 := (hm).c1
      have a2 := (hm).c2
      clear hm hO hB hBw hx hz hy hld ho hs
      go_wp2
      go_roundw
      case rel => exact ⟨t + 1, by omega, by go_num, HN.out⟩
      case measure => simp [intOf]; omega
    · obtain rfl : t = l := by omega
      have HN : Hid (Ow wr A (.slice (some ⟨A + 1, 0, none⟩) C C) (nulL C ys L j) ∧ Below A w wr) := by
        refine ⟨?_, hBw⟩
        unfold nulL
        rw [HS.out.2.2.2.1]
        exact hO.mono (by omega)
      clear hO hB hBw
      go_wp2
      go_ret
      subst hA
      exact ⟨_, rfl, HN.out⟩

namespace Mx
/-- The columns of nothing ahead of column j. -/
def nulT (C j : Nat) (ys L : List Nat) : List (List Nat) := ((List.range j).filter fun c => !L.contains c).map (nulL C ys L)
theorem nulT_in {C j : Nat} {ys L : List Nat} (h : j ∈ L) : nulT C (j + 1) ys L = nulT C j ys L := by
  unfold nulT; rw [List.range_succ, List.filter_append]; simp [h]
theorem nulT_out {C j : Nat} {ys L : List Nat} (h : j ∉ L) : nulT C (j + 1) ys L = nulT C j ys L ++ [nulL C ys L j] := by
  unfold nulT; rw [List.range_succ, List.filter_append, List.map_append]; simp [h]
theorem nulT_length (C j : Nat) (ys L : List Nat) : (nulT C j ys L).length ≤ j := by
  unfold nulT; rw [List.length_map]
  exact Nat.le_trans (List.length_filter_le _ _) (by rw [List.length_range]; exact Nat.le_refl _)
theorem nulT_end (C : Nat) (ys L : List Nat) : nulT C C ys L = nullL C ys L := rfl
end Mx
theorem OwL.isSlice {W : World} {base : Nat} {v : Value} {xss : List (List Nat)} (h : OwL W base v xss) : ∃ q c, v = .slice q xss.length c := by
  obtain ⟨vs, h1, h2, _⟩ := h
  rw [← h2]
  rcases h1.shape with ⟨rfl, rfl⟩ | ⟨g, c, rfl, _⟩
  · exact ⟨_, _, rfl⟩
  · exact ⟨_, _, rfl⟩

set_option maxRecDepth 100000 in
set_option maxHeartbeats 4000000 in
theorem gnull_calls (k B T : Nat) (R C : Int) (q : Option Addr) (n c : Nat) (xs : List Nat) (r' c' : Nat) (ys L : List Nat) (hE : EchO R C n xs r' c' ys L) (hR1 : -9223372036854775808 ≤ R) (hR2 : R < 9223372036854775808) (hC1 : -9223372036854775808 ≤ C) (hC2 : C < 9223372036854775808) (hnc : n ≤ c) (w : World) (hs : Bs w q n xs) (hF : Fd k B T w) (hq : Off T n q) :
    Calls Tryz.prog 19 #[.pointer (some ⟨B, 0, none⟩), .agg #[.int .i64 R, .int .i64 C, .slice q n c]] w fun e w' => ∃ v, e = .returned v ∧ OwL w' w.heap.size v (nullL c' ys L) ∧ Fd k B T w' ∧ But (· = T) w w' := by
  obtain ⟨A, hA⟩ : ∃ A, w.heap.size = A := ⟨_, rfl⟩
  obtain ⟨P2, hP2⟩ : ∃ P2, w.alloc (.cells #[.int .i64 R, .int .i64 C, .slice q n c] 24) = P2 := ⟨_, rfl⟩
  have hb0 : Below w.heap.size w P2 := hP2 ▸ (Below.refl _ w).alloc (Nat.le_refl _) _
  have HP : Hid (Mb P2 A (.int .i64 R) (.int .i64 C) (.slice q n c) ∧ Below w.heap.size w P2) := ⟨by rw [← hA, ← hP2]; exact mb_new w _ _ _, hb0⟩
  have K1 := gech_calls k B T R C q n c xs r' c' ys L hE hR1 hR2 hC1 hC2 hnc P2 (hs.below hb0) (hF.below hb0) hq
  have hc3 : c' ≤ 300 ∧ r' ≤ 300 ∧ L.length ≤ 300 ∧ ys.length = r' * c' ∧ Byt ys := by
    rcases hE with ⟨h1, h2, h3, h4⟩ | ⟨_, rfl, rfl, rfl, rfl⟩
    · obtain ⟨r, c0, e1, e2, h5, h6, _⟩ := right_split h1
      have := h4.rank.1
      exact ⟨by omega, by omega, by omega, h4.len, h4.byt⟩
    · exact ⟨by omega, by omega, by simp, rfl, fun i => by simp⟩
  have HE : Hid (EchO R C n xs r' c' ys L ∧ L.length ≤ 300 ∧ Fd k B T w ∧ ys.length = r' * c' ∧ Byt ys) := ⟨hE, hc3.2.2.1, hF, hc3.2.2.2⟩
  obtain ⟨hc3, hr3, -⟩ := hc3
  clear hs hF hq hE hb0 hR1 hR2 hC1 hC2
  have a0 := (HP.out.1).c0
  have a1 := (HP.out.1).c1
  have a2 := (HP.out.1).c2
  go_enter Tryz.func19, Tryz.ntmps19
  go_wp2_with fail
  refine K1.mono ?_
  rintro e w1 ⟨v1, v2, rfl, hO1, hO2, hF1, hb1⟩
  clear K1
  clear a0 a1 a2
  obtain ⟨l, hl⟩ : ∃ l, L.length = l := ⟨_, rfl⟩
  obtain ⟨n1, hn1⟩ : ∃ n1, ys.length = n1 := ⟨_, rfl⟩
  obtain ⟨q2, c2, rfl, S2, C2, Q2⟩ := OwI.tell hO2 hl
  obtain ⟨q1, c1, rfl, S1, C1, -⟩ := hO1.tell HE.out.2.2.2.2 hn1
  obtain ⟨X, hX⟩ : ∃ X, w1.heap.size = X := ⟨_, rfl⟩
  obtain ⟨W2, hW2⟩ : ∃ W2, w1.alloc (.cells #[.int .i64 (r' : Nat), .int .i64 (c' : Nat), .slice q1 n1 c1] 24) = W2 := ⟨_, rfl⟩
  have HT : Hid (Mb W2 X (.int .i64 (r' : Nat)) (.int .i64 (c' : Nat)) (.slice q1 n1 c1) ∧ Bs W2 q1 n1 ys ∧ Is W2 q2 l L ∧ Fd k B T W2 ∧ But (· = T) w W2 ∧ W2.heap.size = X + 1 ∧ A ≤ X ∧ L.length = l ∧ ys.length = n1 ∧ T < A ∧ B < A) := by
    have h1 : Below w1.heap.size w1 W2 := hW2 ▸ (Below.refl _ w1).alloc (Nat.le_refl _) _
    refine ⟨?_, S1.below h1, S2.below h1, hF1.below h1, ((But.of_below HP.out.2).trans hb1).trans (But.of_below h1), ?_, ?_, hl, hn1, hA ▸ HE.out.2.2.1.lt, hA ▸ HE.out.2.2.1.blt⟩
    · rw [← hX, ← hW2]; exact mb_new w1 _ _ _
    · rw [← hX, ← hW2]; simp
    · rw [← hX, ← hA]; exact Nat.le_trans HP.out.2.size hb1.size
  have hl3 : l ≤ 300 := hl ▸ HE.out.2.1
  clear hO1 hO2 hF1 hb1 S1 S2 C1 C2 Q2 hl hn1
  have a0 := (HT.out.1).c0
  have a1 := (HT.out.1).c1
  have a2 := (HT.out.1).c2
  go_wp2
  clear a0 a1 a2
  clear hW2
  go_loopw [7, 17] (fun v i wr => ∃ j : Nat, j ≤ c' ∧ i = .int .i64 (j : Int) ∧ OwL wr (X + 1) v (Mx.nulT c' j ys L) ∧ Below (X + 1) W2 wr) (fun _ i _ => c' - (intOf i).toNat)
  case atStart => exact ⟨0, by omega, rfl, owL_nil _ _, Below.refl _ _⟩
  case round =>
    obtain ⟨j, hj, rfl, hO, hB⟩ := hrel
    have hB2 : Below W2.heap.size W2 wr := by rw [HT.out.2.2.2.2.2.1]; exact hB
    by_cases hlt : j < c'
    · have hji : (j : Int) < (c' : Int) := by omega
      have hm := HT.out.1.below hB2
      by_cases hin : j ∈ L
      · have K2 := scontains_calls q2 l c2 j L true (decide_eq_true hin) (by omega) wr (HT.out.2.2.1.below hB2)
        have HN : Hid (OwL wr (X + 1) u7 (Mx.nulT c' (j + 1) ys L) ∧ Below (X + 1) W2 wr) := ⟨by rw [Mx.nulT_in hin]; exact hO, hB⟩
        have a0 := (hm).c0
        have a1 := (hm).c1
        have a2 := (hm).c2
        clear hm hO hB hB2 hin
        go_wp2_with fail
        refine K2.mono ?_
        rintro e wr ⟨rfl, hw⟩
        subst hw
        clear K2
        clear a0 a1 a2
        go_wp2
        go_roundw
        case rel => exact ⟨j + 1, by omega, by go_num, HN.out⟩
        case measure => simp [intOf]; omega
      · have K2 := scontains_calls q2 l c2 j L false (decide_eq_false hin) (by omega) wr (HT.out.2.2.1.below hB2)
        have hIE : IsEch r' c' xs ys L := by
          rcases HE.out.1 with ⟨_, _, _, h⟩ | ⟨_, _, h, _⟩
          · exact h
          · omega
        have K3 := gnullAt_calls r' c' n1 c1 l c2 j q1 q2 xs ys L hIE (Mx.mem_freeL.2 ⟨hlt, hin⟩) HT.out.2.2.2.2.2.2.2.1 (by rw [← HT.out.2.2.2.2.2.2.2.2.1]; exact hIE.len) hr3 hc3 wr (HT.out.2.1.below hB2) (HT.out.2.2.1.below hB2)
        obtain ⟨m, hm'⟩ : ∃ m, (Mx.nulT c' j ys L).length = m := ⟨_, rfl⟩
        obtain ⟨qv, cv, rfl⟩ := hO.isSlice
        rw [hm'] at hO
        have HO : Hid (OwL wr (X + 1) (.slice qv m cv) (Mx.nulT c' j ys L) ∧ Below (X + 1) W2 wr ∧ j ∉ L ∧ (Mx.nulT c' j ys L).length = m ∧ m ≤ 300) := ⟨hO, hB, hin, hm', by have := Mx.nulT_length c' j ys L; omega⟩
        rw [hm']
        have a0 := (hm).c0
        have a1 := (hm).c1
        have a2 := (hm).c2
        clear hm hO hB hB2 hin hIE hm'
        go_wp2_with fail
        refine K2.mono ?_
        rintro e wr ⟨rfl, hw⟩
        subst hw
        clear K2
        go_wp2_with fail
        refine K3.mono ?_
        rintro e w3 ⟨v3, rfl, hO3, hb3⟩
        clear K3
        clear a0 a1 a2
        have hs3 : X + 1 ≤ wr.heap.size := by have := HO.out.2.1.size; rw [HT.out.2.2.2.2.2.1] at this; exact this
        have hu := hO3.mono hs3
        have hl3' : OwL w3 (X + 1) (.slice qv m cv) (Mx.nulT c' j ys L) := HO.out.1.below hb3
        obtain ⟨g4, c4, w4, hap, hO4, hb4⟩ := run_append_sl (nulL c' ys L j) v3 hl3' hu (by rw [HO.out.2.2.2.1]; have := HO.out.2.2.2.2; omega) (Nat.le_trans hs3 hb3.size)
        rw [HO.out.2.2.2.1] at hap hO4
        obtain ⟨q3, m3, c3, rfl⟩ := hO3.isSlice
        have HN : Hid (OwL w4 (X + 1) (.slice (some ⟨g4, 0, none⟩) (m + 1) c4) (Mx.nulT c' (j + 1) ys L) ∧ Below (X + 1) W2 w4) := by
          refine ⟨by rw [Mx.nulT_out HO.out.2.2.1]; exact hO4, (HO.out.2.1.trans (hb3.mono hs3)).trans (hb4 _ (Nat.le_refl _))⟩
        have ha1 := ap_ok hap
        have ha2 := ap_v hap
        have ha3 := ap_w hap
        clear hap hO4 hb4 hl3' hu hO3 hb3 hs3
        go_wp2
        go_roundw
        case rel => exact ⟨j + 1, by omega, by go_num, HN.out⟩
        case measure => simp [intOf]; omega
    · obtain rfl : j = c' := by omega
      have HN : Hid (OwL wr A u7 (nullL j ys L) ∧ Fd k B T wr ∧ But (· = T) w wr) := by
        have h := HT.out.2.2.2.2
        exact ⟨hO.mono (by omega), HT.out.2.2.2.1.below hB2, h.1.trans (But.of_below hB2)⟩
      clear hO hB hB2
      go_wp2
      go_ret
      subst hA
      exact ⟨_, rfl, HN.out⟩
end Go.Proofs
