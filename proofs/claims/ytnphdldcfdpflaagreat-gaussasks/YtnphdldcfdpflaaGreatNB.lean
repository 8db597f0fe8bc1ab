/- Texts laid together: GLead, GRed. Each says its own conditions. -/
import Derived.Deep.RegionWith
import Derived.Deep.LoopGhost
import Derived.Test.YtnphdldcfdpflaaGreatNA
import Derived.Test.YtnphdldcfdpflaaGreatMG
/- The walk of the work's lead. Conditions: no more than 300 rows and 600 columns; a field that Of has made; the row leads, and has noughts ahead. -/
namespace Go.Proofs
open Go.RowKit Go.ChangeShapes Go.WideShapes
open Mx (Mat cells upd prt lay)
open Pol (Byt ofL)

namespace Mx
/-- Row p leads with 1 in column j, which is 0 in all other rows. -/
def ldM (p j : Nat) (M : Mat) : Mat := fun a b => if a = p then GF.inv (M p j) * M p b else M a b + M a j * (GF.inv (M p j) * M p b)
/-- The same, as far as row t. -/
def ldT (p j t : Nat) (M : Mat) : Mat := fun a b => if a = p then GF.inv (M p j) * M p b else if a < t then M a b + M a j * (GF.inv (M p j) * M p b) else M a b
theorem ofL_map (x : Nat) (hx : x < 256) (ys : List Nat) (hy : Byt ys) (t : Nat) (ht : t < ys.length) : ofL (ys.map (Gf.mul x)) t = GF.of x * ofL ys t := by
  unfold Pol.ofL
  have e : (ys.map (Gf.mul x)).getD t 0 = Gf.mul x (ys.getD t 0) := by simp [List.getD, ht]
  rw [e, GF.of_mul x _ hx (hy t)]
/-- The row is multiplied. -/
theorem ld_start {R C p j : Nat} (M : Mat) (hj : j < C) (hz : ∀ c, c < j → M p c = 0) (a : Nat) (ha : a = (GF.inv (M p j)).val) : Eq R C (lay M p j ((prt M p j (C - j)).map (Gf.mul a))) (ldT p j 0 M) := fun i b _ hb => by
  have hl : ((prt M p j (C - j)).map (Gf.mul a)).length = C - j := by rw [List.length_map, prt_length]
  have hal : a < 256 := ha ▸ GF.lt _
  unfold lay ldT
  rw [hl]
  by_cases e : i = p
  · subst e
    rw [if_pos rfl]
    by_cases h : j ≤ b
    · rw [if_pos ⟨rfl, h, by omega⟩, ofL_map a hal _ (prt_byt _ _ _ _) _ (by rw [prt_length]; omega), prt_ofL _ _ _ _ _ (by omega), ha, GF.of_self]
      congr 2; omega
    · rw [if_neg (fun k => h k.2.1), hz b (by omega), GF.mul_zero]
  · rw [if_neg (fun k => e k.1), if_neg e, if_neg (Nat.not_lt_zero i)]
theorem ld_end {R C p j : Nat} (M : Mat) : Eq R C (ldT p j R M) (ldM p j M) := fun i b hi _ => by
  unfold ldT ldM; rw [if_pos hi]
theorem ld_skip {R C p j t : Nat} (M : Mat) (h : t = p ∨ M t j = 0) : Eq R C (ldT p j t M) (ldT p j (t + 1) M) := fun i b _ _ => by
  unfold ldT
  by_cases e : i = p
  · rw [if_pos e, if_pos e]
  · rw [if_neg e, if_neg e]
    by_cases e1 : i < t
    · rw [if_pos e1, if_pos (by omega)]
    · rw [if_neg e1]
      by_cases e2 : i < t + 1
      · obtain rfl : i = t := by omega
        rw [if_pos e2]
        rcases h with h | h
        · exact absurd h e
        · rw [h, GF.zero_mul, GF.add_zero]
      · rw [if_neg e2]
theorem ldT_top {p j t b : Nat} (M : Mat) : ldT p j t M p b = GF.inv (M p j) * M p b := by unfold ldT; rw [if_pos rfl]
theorem ldT_here {p j t b : Nat} (M : Mat) (h : t ≠ p) : ldT p j t M t b = M t b := by unfold ldT; rw [if_neg h, if_neg (Nat.lt_irrefl t)]
/-- So many times it is added to row t. -/
theorem ld_next {R C p j t : Nat} (M : Mat) (hj : j < C) (hz : ∀ c, c < j → M p c = 0) (htp : t ≠ p) (x : Nat) (hx : x = (M t j).val) :
    Eq R C (fun a b => if a = t ∧ j ≤ b ∧ b < j + (C - j) then ldT p j t M a b + ofL ((prt (ldT p j t M) p j (C - j)).map (Gf.mul x)) (b - j) else ldT p j t M a b) (ldT p j (t + 1) M) := fun i b _ hb => by
  have hxl : x < 256 := hx ▸ GF.lt _
  show (if i = t ∧ j ≤ b ∧ b < j + (C - j) then _ else _) = _
  by_cases e : i = t
  · subst e
    by_cases h : j ≤ b
    · rw [if_pos ⟨rfl, h, by omega⟩, ofL_map x hxl _ (prt_byt _ _ _ _) _ (by rw [prt_length]; omega), prt_ofL _ _ _ _ _ (by omega), ldT_top, ldT_here M htp, hx, GF.of_self]
      unfold ldT
      rw [if_neg htp, if_pos (Nat.lt_succ_self i)]
      congr 4; omega
    · rw [if_neg (fun k => h k.2.1), ldT_here M htp]
      unfold ldT
      rw [if_neg htp, if_pos (Nat.lt_succ_self i), hz b (by omega), GF.mul_zero, GF.mul_zero, GF.add_zero]
  · rw [if_neg (fun k => e k.1)]
    unfold ldT
    by_cases e1 : i = p
    · rw [if_pos e1, if_pos e1]
    · rw [if_neg e1, if_neg e1]
      by_cases e2 : i < t
      · rw [if_pos e2, if_pos (by omega)]
      · rw [if_neg e2, if_neg (by omega)]
end Mx

set_option maxRecDepth 100000 in
set_option maxHeartbeats 4000000 in
theorem glead_calls (k B T base G n R C p j : Nat) (M : Mat) (hp : p < R) (hj : j < C) (hR : R ≤ 300) (hC : C ≤ 600) (h0 : M p j ≠ 0) (hz : ∀ c, c < j → M p c = 0) (w : World) (h : Wk w base G n R C M) (hF : Fd k B T w) (hGB : ¬ B = G) (hGT : ¬ T = G) :
    Calls Tryz.prog 64 #[.agg #[.int .i64 (R : Nat), .int .i64 (C : Nat), .slice (some ⟨G, 0, none⟩) n n, .pointer (some ⟨B, 0, none⟩)], .int .i64 (p : Nat), .int .i64 (j : Nat)] w fun e w' => (∃ v, e = .returned v) ∧ Wk w' base G n R C (Mx.ldM p j M) ∧ Fd k B T w' ∧ But (fun x => x = T ∨ x = G) w w' := by
  obtain ⟨o, ho⟩ : ∃ o, o = p * C := ⟨_, rfl⟩
  obtain ⟨x, hx⟩ : ∃ x, (M p j).val = x := ⟨_, rfl⟩
  have hxl : x < 256 := hx ▸ GF.lt _
  have hx0 : (x != 0) = true := by
    simp only [bne_iff_ne, ne_eq]
    rintro rfl
    exact h0 (GF.ext hx)
  obtain ⟨a, ha⟩ : ∃ a, Gf.inv x = a := ⟨_, rfl⟩
  have hal : a < 256 := ha ▸ Gf.inv_lt _ hxl
  have hae : a = (GF.inv (M p j)).val := by rw [← ha, ← hx]; rfl
  obtain ⟨m, hm⟩ : ∃ m, C - j = m := ⟨_, rfl⟩
  obtain ⟨A, hA⟩ : ∃ A, w.heap.size = A := ⟨_, rfl⟩
  obtain ⟨W0, hW0⟩ : ∃ W0, w.alloc (.cells #[.int .i64 (R : Nat), .int .i64 (C : Nat), .slice (some ⟨G, 0, none⟩) n n, .pointer (some ⟨B, 0, none⟩)] 85) = W0 := ⟨_, rfl⟩
  have K1 := grow_calls G n R C p o (.pointer (some ⟨B, 0, none⟩)) hp h.1 ho hR hC W0
  have hS0 : Below w.heap.size w W0 := hW0 ▸ (Below.refl _ w).alloc (Nat.le_refl _) _
  have HB : Hid (Wb W0 A R C G n (.pointer (some ⟨B, 0, none⟩))) := by rw [← hA, ← hW0]; exact wb_new w R C G n _
  have HW : Hid (Wk W0 base G n R C M ∧ Fd k B T W0 ∧ Below w.heap.size w W0 ∧ o = p * C ∧ n = R * C ∧ G < w.heap.size ∧ T < w.heap.size ∧ a = (GF.inv (M p j)).val ∧ C - j = m) := ⟨h.below hS0, hF.below hS0, hS0, ho, h.1, h.lt.2, hF.lt, hae, hm⟩
  have hN : ¬ A = G := by have := h.lt.2; omega
  have hNT : ¬ A = T := by have := hF.lt; omega
  have hm0 : (0 : Int) < (m : Int) := by omega
  have hm1 : 0 < m := by omega
  have hmC : j + m ≤ C := by omega
  clear h hF hS0 ho h0 hae
  have b0 := (HB.out).c0
  have b1 := (HB.out).c1
  have b2 := (HB.out).c2
  have b3 := (HB.out).c3
  go_enter Tryz.func64, Tryz.ntmps64
  go_wp2_with fail
  refine K1.mono ?_
  rintro e w1 ⟨rfl, hb1⟩
  clear K1
  clear b0 b1 b2 b3
  have HB1 : Hid (Wb w1 A R C G n (.pointer (some ⟨B, 0, none⟩)) ∧ Wk w1 base G n R C M ∧ Fd k B T w1 ∧ Below w.heap.size w w1) := ⟨HB.out.below hb1, HW.out.1.below hb1, HW.out.2.1.below hb1, HW.out.2.2.1.trans (hb1.mono HW.out.2.2.1.size)⟩
  clear hb1 HB
  have hCj : ¬ C = j := by omega
  have hji : (j : Int) ≤ (C : Int) := by omega
  have b0 := (HB1.out.1).c0
  have b1 := (HB1.out.1).c1
  have b2 := (HB1.out.1).c2
  have b3 := (HB1.out.1).c3
  have cx := (HB1.out.2.1.cell hp hj HW.out.2.2.2.1).1
  rw [hx] at cx
  go_wp2
  have K2 : Hid (Calls Tryz.prog 69 #[.pointer (some ⟨B, 0, none⟩), .int .u8 (x : Nat)] w1.drew fun e w' => e = .returned (.tuple #[.int .u8 (a : Nat), .bool true]) ∧ Fd k B T w' ∧ But (· = T) w1.drew w') := finv_e k B T x a true hxl ha hx0 w1.drew HB1.out.2.2.1.drew
  clear hx ha
  go_region_held3 (fun w' => w'.cell? ⟨A, 3, none⟩ = some (.pointer (some ⟨B, 0, none⟩)) ∧ w'.cell? ⟨G, o + j, none⟩ = some (.int .u8 (x : Nat)))
    (first | (go_keep; done) | exact ⟨hk1, hk2⟩)
    (first
      | (go_at_call 69; refine (K2.out).mono ?_; rintro e w2 ⟨rfl, hF2, hb2⟩; have hb2 : But (· = T) w1 w2 := ((But.refl (· = T) w1).drew).trans hb2; have hk1 := (hb2.cell (p := ⟨A, 3, none⟩) (HB1.out.1.blt) hNT).trans b3; have hk2 := (hb2.cell (p := ⟨G, o + j, none⟩) (HB1.out.2.1.lt.2) (fun e => hGT e.symm)).trans cx))
  clear K2 hk1 hk2 cx
  clear b0 b1 b2 b3
  have HT2 : Hid (But (· = T) w w2 ∧ Wb w2 A R C G n (.pointer (some ⟨B, 0, none⟩)) ∧ Wk w2 base G n R C M) := ⟨(But.of_below HB1.out.2.2.2).trans hb2, HB1.out.1.but hb2 hNT, HB1.out.2.1.but hb2 (fun e => hGT e.symm)⟩
  clear hb2 HB1 hm hCj
  have K3 := feach_calls k B T a m m (some ⟨G, o + j, none⟩) (prt M p j m) hal (by omega) (Nat.le_refl _) w2 hF2 (HT2.out.2.2.bs hp hmC HW.out.2.2.2.1 (by omega)) (fun _ ad e => by cases e; exact fun e => hGT e.symm)
  clear hF2
  have b0 := (HT2.out.2.1).c0
  have b1 := (HT2.out.2.1).c1
  have b2 := (HT2.out.2.1).c2
  have b3 := (HT2.out.2.1).c3
  go_wp2_with fail
  refine K3.mono ?_
  rintro e w3 ⟨v, rfl, hO, hF3, hb3⟩
  clear K3
  clear b0 b1 b2 b3
  obtain ⟨q3, c3, rfl, S3, -, -⟩ := hO.tell (n := m) (map_byte a _ hal) (by rw [List.length_map, Mx.prt_length])
  have hW3 : Wk w3 base G n R C M := HT2.out.2.2.but hb3 (fun e => hGT e.symm)
  obtain ⟨w4, hcp, hW4, hb4⟩ := run_copy_part w3 3 base G n R C p j m m m c3 (some ⟨G, o + j, none⟩) q3 M _ hp hmC hW3 (fun _ => by rw [HW.out.2.2.2.1]) S3 (Nat.le_refl _)
  have HT4 : Hid (But (fun x => x = T ∨ x = G) w w4 ∧ Wb w4 A R C G n (.pointer (some ⟨B, 0, none⟩)) ∧ Wk w4 base G n R C (Mx.ldT p j 0 M) ∧ Fd k B T w4) := by
    refine ⟨((HT2.out.1.mono fun _ h => .inl h).trans (hb3.mono fun _ h => .inl h)).trans (hb4.mono fun _ h => .inr h), (HT2.out.2.1.but hb3 hNT).but hb4 hN, ?_, hF3.but hb4 hGB hGT⟩
    have := Mx.ld_start (R := R) M hj hz a HW.out.2.2.2.2.2.2.2.1
    rw [HW.out.2.2.2.2.2.2.2.2] at this
    exact hW4.congr this
  clear hO hF3 hb3 hb4 hW3 hW4 S3 HT2
  have b0 := (HT4.out.2.1).c0
  have b1 := (HT4.out.2.1).c1
  have b2 := (HT4.out.2.1).c2
  have b3 := (HT4.out.2.1).c3
  go_wp2
  clear b0 b1 b2 b3
  clear hcp
  clear hx0 hxl hal
  clear hW0
  go_loopw [35] (fun i wr => ∃ t : Nat, t ≤ R ∧ i = .int .i64 (t : Int) ∧ Wk wr base G n R C (Mx.ldT p j t M) ∧ Fd k B T wr ∧ But (fun x => x = T ∨ x = G) w4 wr) (fun i _ => R - (intOf i).toNat)
  case atStart => exact ⟨0, by omega, rfl, HT4.out.2.2.1, HT4.out.2.2.2, But.refl _ _⟩
  case round =>
    obtain ⟨t, ht, rfl, hW, hF, hB⟩ := hrel
    by_cases hlt : t < R
    · have hti : (t : Int) < (R : Int) := by omega
      obtain ⟨o', ho'⟩ : ∃ o, o = t * C := ⟨_, rfl⟩
      obtain ⟨y, hy⟩ : ∃ y, (Mx.ldT p j t M t j).val = y := ⟨_, rfl⟩
      have hyl : y < 256 := hy ▸ GF.lt _
      have HR : Hid (Wk wr base G n R C (Mx.ldT p j t M) ∧ Fd k B T wr ∧ But (fun x => x = T ∨ x = G) w4 wr ∧ o' = t * C ∧ (Mx.ldT p j t M t j).val = y) := ⟨hW, hF, hB, ho', hy⟩
      have HBr : Hid (Wb wr A R C G n (.pointer (some ⟨B, 0, none⟩))) := HT4.out.2.1.but hB (by rintro (e | e); exact hNT e; exact hN e)
      have K5 := grow_calls G n R C t o' (.pointer (some ⟨B, 0, none⟩)) hlt HW.out.2.2.2.2.1 ho' hR hC wr
      clear hW hF hB ho' hy
      have b0 := (HBr.out).c0
      have b1 := (HBr.out).c1
      have b2 := (HBr.out).c2
      have b3 := (HBr.out).c3
      go_wp2_with fail
      refine K5.mono ?_
      rintro e w5 ⟨rfl, hb5⟩
      clear K5
      clear b0 b1 b2 b3
      have HT5 : Hid (Wb w5 A R C G n (.pointer (some ⟨B, 0, none⟩)) ∧ Wk w5 base G n R C (Mx.ldT p j t M) ∧ Fd k B T w5 ∧ But (fun x => x = T ∨ x = G) w4 w5) := ⟨HBr.out.below hb5, HR.out.1.below hb5, HR.out.2.1.below hb5, HR.out.2.2.1.trans (But.of_below hb5)⟩
      clear hb5 HBr
      have hCj : ¬ C = j := by omega
      have hm := HW.out.2.2.2.2.2.2.2.2
      have cy := (HT5.out.2.1.cell hlt hj HR.out.2.2.2.1).1
      rw [HR.out.2.2.2.2] at cy
      have b0 := (HT5.out.1).c0
      have b1 := (HT5.out.1).c1
      have b2 := (HT5.out.1).c2
      have b3 := (HT5.out.1).c3
      by_cases htp : t = p
      · have hE : ((t : Int) != (p : Int)) = false := by simp [htp]
        have HN : Hid (Wk w5 base G n R C (Mx.ldT p j (t + 1) M) ∧ Fd k B T w5 ∧ But (fun x => x = T ∨ x = G) w4 w5) := ⟨HT5.out.2.1.congr (Mx.ld_skip M (.inl htp)), HT5.out.2.2⟩
        clear htp
        go_wp2
        clear b0 b1 b2 b3
        go_roundw
        case rel => exact ⟨t + 1, by omega, by go_num, HN.out⟩
        case measure => simp [intOf]; omega
      · have hE : ((t : Int) != (p : Int)) = true := by simp; omega
        by_cases hy0 : y = 0
        · have HN : Hid (Wk w5 base G n R C (Mx.ldT p j (t + 1) M) ∧ Fd k B T w5 ∧ But (fun x => x = T ∨ x = G) w4 w5) := by
            refine ⟨HT5.out.2.1.congr (Mx.ld_skip M (.inr ?_)), HT5.out.2.2⟩
            have := HR.out.2.2.2.2
            rw [Mx.ldT_here M htp, hy0] at this
            exact GF.ext this
          subst hy0
          clear htp
          go_wp2
          clear b0 b1 b2 b3
          go_roundw
          case rel => exact ⟨t + 1, by omega, by go_num, HN.out⟩
          case measure => simp [intOf]; omega
        · have hy1 : ((y : Int) != 0) = true := by simp; omega
          have hyv : y = (M t j).val := by rw [← HR.out.2.2.2.2, Mx.ldT_here M htp]
          obtain ⟨ys, hys⟩ : ∃ ys, (prt (Mx.ldT p j t M) p j m).map (Gf.mul y) = ys := ⟨_, rfl⟩
          have K6 : Hid (Calls Tryz.prog 70 #[.pointer (some ⟨B, 0, none⟩), .int .u8 (y : Nat), .slice (some ⟨G, o + j, none⟩) m m] w5.drew fun e w' => ∃ q c, e = .returned (.slice q m c) ∧ Hid (Bs w' q m ys ∧ Off G m q ∧ Fd k B T w' ∧ But (· = T) w5 w')) := by
            refine (feach_calls k B T y m m (some ⟨G, o + j, none⟩) (prt (Mx.ldT p j t M) p j m) hyl (by omega) (Nat.le_refl _) w5.drew HT5.out.2.2.1.drew (HT5.out.2.1.drew.bs hp hmC HW.out.2.2.2.1 (by omega)) (fun _ ad e => by cases e; exact fun e => hGT e.symm)).mono ?_
            rintro e w' ⟨v, rfl, hO, hF', hb'⟩
            rw [hys] at hO
            obtain ⟨q6, c6, rfl, S6, -, Q6⟩ := hO.tell (n := m) (by rw [← hys]; exact map_byte y _ hyl) (by rw [← hys, List.length_map, Mx.prt_length])
            exact ⟨q6, c6, rfl, S6, Q6 G (by have := HT5.out.2.1.lt.2; simpa using this), hF', ((But.refl (· = T) w5).drew).trans hb'⟩
          have K7 : Hid (∀ W q c, Hid (Bs W q m ys ∧ Off G m q ∧ Fd k B T W ∧ But (· = T) w5 W) → Calls Tryz.prog 71 #[.slice (some ⟨G, o' + j, none⟩) m m, .slice q m c] W fun e w' => ∃ v, e = .returned v ∧ Hid (Wk w' base G n R C (Mx.ldT p j (t + 1) M) ∧ Fd k B T w' ∧ But (fun x => x = T ∨ x = G) w4 w')) := fun W q c H => by
            refine (gaddTo_calls base G n R C t j m m c o' q (Mx.ldT p j t M) ys hlt hmC HR.out.2.2.2.1 hC W (HT5.out.2.1.but H.out.2.2.2 (fun e => hGT e.symm)) H.out.1 H.out.2.1).mono ?_
            rintro e w' ⟨⟨v, rfl⟩, hW', hb'⟩
            refine ⟨v, rfl, ?_, H.out.2.2.1.but hb' hGB hGT, (HT5.out.2.2.2.trans (H.out.2.2.2.mono fun _ h => .inl h)).trans (hb'.mono fun _ h => .inr h)⟩
            have := Mx.ld_next (R := R) M hj hz htp y hyv
            rw [hm, hys] at this
            exact hW'.congr this
          clear hys hyv
          go_wp2
          go_region_with
            (first
              | (go_at_call 70; refine (K6.out).mono ?_; rintro e w6 ⟨q6, c6, rfl, H6⟩)
              | (go_at_call 71; refine (K7.out _ _ _ H6).mono ?_; rintro e w7 ⟨v7, rfl, H7⟩))
          all_goals
            clear K6 K7 H6 HT5 HR cy
            clear b0 b1 b2 b3
            go_wp2
            go_roundw
            case rel => exact ⟨t + 1, by omega, by go_num, H7.out⟩
            case measure => simp [intOf]; omega
    · obtain rfl : t = R := by omega
      have HN : Hid (Wk wr base G n t C (Mx.ldM p j M) ∧ Fd k B T wr ∧ But (fun x => x = T ∨ x = G) w wr) := ⟨hW.congr (Mx.ld_end M), hF, HT4.out.1.trans hB⟩
      clear hW hF hB
      go_wp2
      go_end0
      exact ⟨⟨_, rfl⟩, HN.out⟩
end Go.Proofs
/- The walk of the work's reduce. Conditions: no more than 300 rows and 600 columns; a field that Of has made. -/
namespace Go.Proofs
open Go.RowKit Go.ChangeShapes Go.WideShapes
open Mx (Mat cells upd prt lay)
open Pol (Byt ofL)
attribute [local go_sem ↓ high] builtin_ap
attribute [local go_sem] ap_sem

namespace Mx
/-- One lead more, as the program makes it. -/
theorem red_next {R C j p : Nat} {M E : Mat} {L : List Nat} (h : Red R j E L.length fun k => L.getD k 0) (he : Eqv R C M E) (hj : j < C) (hp : L.length ≤ p) (hpR : p < R) (h0 : E p j ≠ 0) :
    Red R (j + 1) (ldM L.length j (swp L.length p E)) (L ++ [j]).length (fun k => (L ++ [j]).getD k 0) ∧ Eqv R C M (ldM L.length j (swp L.length p E)) := by
  obtain ⟨r, hr⟩ : ∃ r, L.length = r := ⟨_, rfl⟩
  rw [hr] at h hp ⊢
  have e1 : swp r p E r = E p := by unfold swp; rw [if_pos rfl]
  have e2 : ∀ i, i ≠ r → swp r p E i = mid E p r i := fun i hi => by unfold swp mid; rw [if_neg hi]
  have hF : ∀ c, c < C → ldM r j (swp r p E) r c = GF.inv (E p j) * E p c := fun c _ => by unfold ldM; rw [if_pos rfl, e1]
  have hi : ∀ i c, i < R → i ≠ r → c < C → ldM r j (swp r p E) i c = mid E p r i c + mid E p r i j * ldM r j (swp r p E) r c := fun i c _ hi hc => by
    rw [hF c hc]; unfold ldM; rw [if_neg hi, e1, e2 i hi]
  have hl : (L ++ [j]).length = r + 1 := by rw [List.length_append, hr]; rfl
  refine ⟨?_, he.trans (lead_eqv (j := j) p (by omega) hpR (GF.inv (E p j)) (GF.inv_ne_zero h0) hF hi)⟩
  rw [hl]
  refine (h.lead hj p hp hpR (GF.inv (E p j)) (GF.inv_mul _ h0) hF hi).congr (Eq.refl _ _ _) fun k hk => ?_
  show (if k = r then j else L.getD k 0) = (L ++ [j]).getD k 0
  rw [Pol.getD_append, hr]
  by_cases e : k = r
  · subst e; rw [if_pos rfl, if_neg (Nat.lt_irrefl _), Nat.sub_self]; rfl
  · rw [if_neg e, if_pos (by omega)]
end Mx

/-- Between the columns. -/
structure GI (k B T A base G n R C c : Nat) (M : Mat) (w0 : World) (v : Value) (L : List Nat) (E : Mat) (W : World) : Prop where
  wk : Wk W base G n R C E
  ow : OwI W (A + 1) v L
  red : Mx.Red R c E L.length fun k => L.getD k 0
  eqv : Mx.Eqv R C M E
  fd : Fd k B T W
  but : But (fun x => x = T ∨ x = G) w0 W
theorem GI.below {k B T A base G n R C c : Nat} {M : Mat} {w0 W W' : World} {v : Value} {L : List Nat} {E : Mat} (h : GI k B T A base G n R C c M w0 v L E W) (hb : Below W.heap.size W W') : GI k B T A base G n R C c M w0 v L E W' :=
  ⟨h.wk.below hb, h.ow.below hb, h.red, h.eqv, h.fd.below hb, h.but.trans (But.of_below hb)⟩

set_option maxRecDepth 100000 in
set_option maxHeartbeats 4000000 in
theorem greduce_calls (k B T base G n R C : Nat) (M : Mat) (hR : R ≤ 300) (hC : C ≤ 600) (w : World) (h : Wk w base G n R C M) (hF : Fd k B T w) (hGB : ¬ B = G) (hGT : ¬ T = G) :
    Calls Tryz.prog 51 #[.agg #[.int .i64 (R : Nat), .int .i64 (C : Nat), .slice (some ⟨G, 0, none⟩) n n, .pointer (some ⟨B, 0, none⟩)]] w fun e w' => ∃ v E L, e = .returned v ∧ Wk w' base G n R C E ∧ OwI w' w.heap.size v L ∧ Mx.Ech R C M E L.length (fun k => L.getD k 0) ∧ Fd k B T w' ∧ But (fun x => x = T ∨ x = G) w w' := by
  obtain ⟨A, hA⟩ : ∃ A, w.heap.size = A := ⟨_, rfl⟩
  obtain ⟨W0, hW0⟩ : ∃ W0, w.alloc (.cells #[.int .i64 (R : Nat), .int .i64 (C : Nat), .slice (some ⟨G, 0, none⟩) n n, .pointer (some ⟨B, 0, none⟩)] 85) = W0 := ⟨_, rfl⟩
  have hS0 : Below w.heap.size w W0 := hW0 ▸ (Below.refl _ w).alloc (Nat.le_refl _) _
  have HB : Hid (Wb W0 A R C G n (.pointer (some ⟨B, 0, none⟩)) ∧ A < W0.heap.size ∧ W0.heap.size = A + 1) := by
    rw [← hA, ← hW0]; exact ⟨wb_new w R C G n _, by simp, by simp⟩
  have HW : Hid (n = R * C ∧ But (fun x => x = T ∨ x = G) w W0 ∧ GI k B T A base G n R C 0 M W0 (.slice none 0 0) [] M W0 ∧ T < A ∧ G < A ∧ B < A) := ⟨h.1, But.of_below hS0, ⟨h.below hS0, owV_nil _ _ _, Mx.Red.start R M _, Mx.Eqv.refl R C M, hF.below hS0, But.refl _ _⟩, hA ▸ hF.lt, hA ▸ h.lt.2, hA ▸ hF.blt⟩
  have hN : ¬ A = G := by have := h.lt.2; omega
  have hNT : ¬ A = T := by have := hF.lt; omega
  clear h hF hS0
  have b0 := (HB.out.1).c0
  have b1 := (HB.out.1).c1
  have b2 := (HB.out.1).c2
  have b3 := (HB.out.1).c3
  go_enter Tryz.func51, Tryz.ntmps51
  go_wp2
  go_step3
  go_wp2
  go_step3
  go_wp2
  clear b0 b1 b2 b3
  clear hW0
  go_loopg [3, 10] C (fun g v i wr => ∃ (c : Nat) (L : List Nat) (E : Mat), c + g = C ∧ i = .int .i64 (c : Int) ∧ GI k B T A base G n R C c M W0 v L E wr)
  case atStart => exact ⟨0, [], M, by omega, rfl, HW.out.2.2.1⟩
  case round =>
    obtain ⟨c, L, E, hcg, rfl, hI⟩ := hrel
    obtain ⟨W1, hW1⟩ : ∃ W1, W1 = wr := ⟨_, rfl⟩
    subst hW1
    by_cases hlt : c < C
    · have hci : (c : Int) < (C : Int) := by omega
      obtain ⟨r, hr⟩ : ∃ r, L.length = r := ⟨_, rfl⟩
      have hrR : r ≤ R := hr ▸ hI.red.le
      obtain ⟨q0, cp, rfl, -, -, -⟩ := OwI.tell hI.ow hr
      have HI : Hid (GI k B T A base G n R C c M W0 (.slice q0 r cp) L E W1 ∧ L.length = r) := ⟨hI, hr⟩
      have HB1 : Hid (Wb W1 A R C G n (.pointer (some ⟨B, 0, none⟩)) ∧ A < W1.heap.size) := ⟨HB.out.1.but hI.but (by rintro (e | e); exact hNT e; exact hN e), Nat.lt_of_lt_of_le HB.out.2.1 hI.but.size⟩
      clear hI hr
      have b0 := (HB1.out.1).c0
      have b1 := (HB1.out.1).c1
      have b2 := (HB1.out.1).c2
      have b3 := (HB1.out.1).c3
      obtain ⟨go, hgo⟩ : ∃ go, go + 1 = gk := ⟨gk - 1, by omega⟩
      go_wp2
      clear b0 b1 b2 b3
      go_loopg [3, 6] (R - r) (fun g v i wx => v = .slice q0 r cp ∧ ∃ p : Nat, p + g = R ∧ r ≤ p ∧ i = .int .i64 (p : Int) ∧ (∀ a, r ≤ a → a < p → E a c = 0) ∧ Below W1.heap.size W1 wx)
      case atStart => exact ⟨rfl, r, by omega, Nat.le_refl _, rfl, fun a h1 h2 => absurd h2 (by omega), Below.refl _ _⟩
      case round =>
        obtain ⟨rfl, p, hpg, hrp, rfl, hz, hb⟩ := hrel
        have HJ : Hid (GI k B T A base G n R C c M W0 (.slice q0 r cp) L E wr ∧ ∀ a, r ≤ a → a < p → E a c = 0) := ⟨HI.out.1.below hb, hz⟩
        have HBr : Hid (Wb wr A R C G n (.pointer (some ⟨B, 0, none⟩)) ∧ A < wr.heap.size ∧ Below W1.heap.size W1 wr) := ⟨HB1.out.1.below hb, Nat.lt_of_lt_of_le HB1.out.2 hb.size, hb⟩
        clear hb hz
        have b0 := (HBr.out.1).c0
        have b1 := (HBr.out.1).c1
        have b2 := (HBr.out.1).c2
        have b3 := (HBr.out.1).c3
        by_cases hp : p < R
        · have hpi : (p : Int) < (R : Int) := by omega
          obtain ⟨o, ho⟩ : ∃ o, o = p * C := ⟨_, rfl⟩
          obtain ⟨x, hx⟩ : ∃ x, (E p c).val = x := ⟨_, rfl⟩
          have hxl : x < 256 := hx ▸ GF.lt _
          have K1 := grow_calls G n R C p o (.pointer (some ⟨B, 0, none⟩)) hp HW.out.1 ho hR hC wr
          have HX : Hid (o = p * C ∧ (E p c).val = x) := ⟨ho, hx⟩
          clear ho hx
          go_wp2_with fail
          refine K1.mono ?_
          rintro e w1 ⟨rfl, hb1⟩
          clear K1
          clear b0 b1 b2 b3
          have HJ1 : Hid (GI k B T A base G n R C c M W0 (.slice q0 r cp) L E w1 ∧ Below W1.heap.size W1 w1) := ⟨HJ.out.1.below hb1, HBr.out.2.2.trans (hb1.mono HBr.out.2.2.size)⟩
          have HB2 : Hid (Wb w1 A R C G n (.pointer (some ⟨B, 0, none⟩)) ∧ A < w1.heap.size) := ⟨HBr.out.1.below hb1, Nat.lt_of_lt_of_le HBr.out.2.1 hb1.size⟩
          clear hb1
          have b0 := (HB2.out.1).c0
          have b1 := (HB2.out.1).c1
          have b2 := (HB2.out.1).c2
          have b3 := (HB2.out.1).c3
          have cx := (HJ1.out.1.wk.cell hp hlt HX.out.1).1
          rw [HX.out.2] at cx
          by_cases hx0 : x = 0
          · have hz1 : ∀ a, r ≤ a → a < p + 1 → E a c = 0 := fun a h1 h2 => by
              by_cases e : a = p
              · subst e; exact GF.ext (HX.out.2.trans hx0)
              · exact HJ.out.2 a h1 (by omega)
            have HZ : Hid (∀ a, r ≤ a → a < p + 1 → E a c = 0) := hz1
            subst hx0
            clear hz1
            go_wp2
            clear b0 b1 b2 b3
            clear cx
            go_roundg (gk - 1)
            case rel => exact ⟨rfl, p + 1, by omega, by omega, by go_num, HZ.out, HJ1.out.2⟩
            case measure => omega
          · have hx1 : ((x : Int) != 0) = true := by simp; omega
            have K2 := gswap_calls base G n R C r p (.pointer (some ⟨B, 0, none⟩)) E (by omega) hp hR hC w1 HJ1.out.1.wk
            go_wp2_with fail
            refine K2.mono ?_
            rintro e w2 ⟨⟨v2, rfl⟩, hW2, hb2⟩
            clear K2 cx
            clear b0 b1 b2 b3
            have HB3 : Hid (Wb w2 A R C G n (.pointer (some ⟨B, 0, none⟩)) ∧ A < w2.heap.size) := ⟨HB2.out.1.but hb2 hN, Nat.lt_of_lt_of_le HB2.out.2 hb2.size⟩
            have HJ2 : Hid (Wk w2 base G n R C (Mx.swp r p E) ∧ OwI w2 (A + 1) (.slice q0 r cp) L ∧ Fd k B T w2 ∧ But (fun x => x = T ∨ x = G) W0 w2) := ⟨hW2, HJ1.out.1.ow.but hb2 (fun k hk e => by have := HW.out.2.2.2.2.1; omega), HJ1.out.1.fd.but hb2 hGB hGT, HJ1.out.1.but.trans (hb2.mono fun _ h => .inr h)⟩
            clear hW2 hb2
            have HP : Hid (E p c ≠ 0 ∧ Mx.swp r p E r = E p) := ⟨fun e => hx0 (by rw [← HX.out.2, e]; rfl), by unfold Mx.swp; rw [if_pos rfl]⟩
            have K3 := glead_calls k B T base G n R C r c (Mx.swp r p E) (by omega) hlt hR hC (by rw [HP.out.2]; exact HP.out.1) (fun c' hc' => by rw [HP.out.2]; exact HJ1.out.1.red.rest p c' (by rw [HI.out.2]; omega) hp hc') w2 HJ2.out.1 HJ2.out.2.2.1 hGB hGT
            have b0 := (HB3.out.1).c0
            have b1 := (HB3.out.1).c1
            have b2 := (HB3.out.1).c2
            have b3 := (HB3.out.1).c3
            go_wp2_with fail
            refine K3.mono ?_
            rintro e w3 ⟨⟨v3, rfl⟩, hW3, hF3, hb3⟩
            clear K3
            clear b0 b1 b2 b3
            have hO3 : OwI w3 (A + 1) (.slice q0 r cp) L := HJ2.out.2.1.but hb3 (fun k hk e => by have h1 := HW.out.2.2.2.1; have h2 := HW.out.2.2.2.2.1; rcases e with e | e <;> omega)
            have hA3 : A < w3.heap.size := Nat.lt_of_lt_of_le HB3.out.2 hb3.size
            obtain ⟨g4, c4, w4, hap, hO4, hb4⟩ := run_append_int w3 (A + 1) (.slice q0 r cp) L c hO3 (by rw [HI.out.2]; omega) (by omega)
            rw [HI.out.2] at hap hO4
            have HN : Hid (GI k B T A base G n R C (c + 1) M W0 (.slice (some ⟨g4, 0, none⟩) (r + 1) c4) (L ++ [c]) (Mx.ldM r c (Mx.swp r p E)) w4) := by
              have h4 := hb4 (A + 1) (Nat.le_refl _)
              have hrn := Mx.red_next (C := C) HJ1.out.1.red HJ1.out.1.eqv hlt (by rw [HI.out.2]; exact hrp) hp HP.out.1
              rw [HI.out.2] at hrn
              have hbk : But (fun x => A + 1 ≤ x) w3 w4 := ⟨h4.os, h4.tape, h4.output, h4.size, fun i hi hs => h4.block i (by omega)⟩
              have hTA := HW.out.2.2.2.1
              have hGA := HW.out.2.2.2.2.1
              have hBA := HW.out.2.2.2.2.2
              have hpr := HJ2.out.2.2.2.trans hb3
              have hW0s := HB.out.2.2
              exact ⟨hW3.but hbk (by omega), hO4, hrn.1, hrn.2, hF3.but hbk (by omega) (by omega), h4.os.trans hpr.os, h4.tape.trans hpr.tape, h4.output.trans hpr.output, Nat.le_trans hpr.size h4.size, fun i hi hs => (h4.block i (by omega)).trans (hpr.block i hi hs)⟩
            have ha1 := ap_ok hap
            have ha2 := ap_v hap
            have ha3 := ap_w hap
            clear hO4 hb4 hap hO3 hA3 hW3 hF3 hb3
            go_wp2
            clear ha1 ha2 ha3
            go_roundg go
            case rel => exact ⟨c + 1, _, _, by omega, by go_num, HN.out⟩
            case measure => omega
        · obtain rfl : p = R := by omega
          have HN : Hid (GI k B T A base G n p C (c + 1) M W0 (.slice q0 r cp) L E wr) := ⟨HJ.out.1.wk, HJ.out.1.ow, HJ.out.1.red.skip (fun i h1 h2 => HJ.out.2 i (by rw [HI.out.2] at h1; exact h1) h2), HJ.out.1.eqv, HJ.out.1.fd, HJ.out.1.but⟩
          go_wp2
          clear b0 b1 b2 b3
          go_roundg go
          case rel => exact ⟨c + 1, _, _, by omega, by go_num, HN.out⟩
          case measure => omega
    · obtain rfl : c = C := by omega
      have HN : Hid (Wk W1 base G n R c E ∧ OwI W1 w.heap.size u3 L ∧ Mx.Ech R c M E L.length (fun k => L.getD k 0) ∧ Fd k B T W1 ∧ But (fun x => x = T ∨ x = G) w W1) := ⟨hI.wk, hI.ow.mono (by omega), ⟨hI.red, hI.eqv⟩, hI.fd, HW.out.2.1.trans hI.but⟩
      clear hI
      go_wp2
      try rw [Exit.noGoto_ret]
      go_ret
      exact ⟨_, _, _, rfl, HN.out⟩
end Go.Proofs
