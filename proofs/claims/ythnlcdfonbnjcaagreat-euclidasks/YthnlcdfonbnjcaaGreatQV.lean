/- The walk of euclid.Key: a locator and an evaluator. Conditions: a field that Of has made; a list of at most five hundred bytes, apart from its table. -/
import Derived.OwnWalk
import Derived.Test.YthnlcdfonbnjcaaGreatQS
import Derived.Test.YthnlcdfonbnjcaaGreatMO
import Derived.Test.YthnlcdfonbnjcaaGreatNA
import Derived.Test.YthnlcdfonbnjcaaGreatQI
namespace Go.Proofs
open Go.RowKit Go.Shelf Go.ChangeShapes Go.WideShapes
open Pol (IsN Dg ofL Byt)
open Eu (Er Gr IsRun IsKey)
attribute [local go_sem ↓ high] builtin_ap
attribute [local go_sem] ap_sem

theorem tl_nil (W : World) (T : Nat) : Tl W T none 0 0 [] := ⟨⟨rfl, by decide, fun i hi => absurd hi (Nat.not_lt_zero i), Pol.byt_nil⟩, Nat.le_refl _, fun h => absurd h (Nat.lt_irrefl 0)⟩

set_option maxRecDepth 100000 in
set_option maxHeartbeats 4000000 in
theorem ekey_calls (B T kf n c a1 a2 : Nat) (q : Option Addr) (xs ls es : List Nat) (z : Int) (b : Bool) (hK : IsKey xs z ls es b) (l1 : ls.length = a1) (l2 : es.length = a2) (hn : n ≤ 500) (w : World) (hF : Fd kf B T w) (ta : Tl w T q n c xs) :
    Calls Tryz.prog 19 #[.pointer (some ⟨B, 0, none⟩), .slice q n c, .int .i64 z] w fun e w' => ∃ q1 c1 q2 c2, e = .returned (.tuple #[.slice q1 a1 c1, .slice q2 a2 c2, .bool b]) ∧ Tl w' T q1 a1 c1 ls ∧ Tl w' T q2 a2 c2 es ∧ Fd kf B T w' ∧ But (· = T) w w' := by
  have hl := ta.bs.len
  by_cases hz0 : z < 0
  · obtain ⟨rfl, rfl, rfl⟩ : b = false ∧ ls = [] ∧ es = [] := by
      rcases hK with ⟨_, h1, _⟩ | ⟨h1, h2, h3, _⟩
      · omega
      · exact ⟨h1, h2, h3⟩
    subst l1 l2
    clear hK
    go_enter Tryz.func19, Tryz.ntmps19
    go_wp2
    go_ret3
    exact ⟨_, _, _, _, rfl, tl_nil _ _, tl_nil _ _, hF, But.refl _ _⟩
  · obtain ⟨t, rfl⟩ := Int.eq_ofNat_of_zero_le (show 0 ≤ z by omega)
    by_cases htn : (n : Int) < (t : Int)
    · obtain ⟨rfl, rfl, rfl⟩ : b = false ∧ ls = [] ∧ es = [] := by
        rcases hK with ⟨_, _, h1, _⟩ | ⟨h1, h2, h3, _⟩
        · omega
        · exact ⟨h1, h2, h3⟩
      subst l1 l2
      clear hK
      go_enter Tryz.func19, Tryz.ntmps19
      go_wp2
      go_ret3
      exact ⟨_, _, _, _, rfl, tl_nil _ _, tl_nil _ _, hF, But.refl _ _⟩
    · obtain ⟨h, hh⟩ : ∃ h, (n + t + 1) / 2 = h := ⟨_, rfl⟩
      obtain ⟨ss, vs, N, hR⟩ := Eu.isRun_exists h (Eu.xM n) xs
      have hcase : (b = true ∧ ofL vs 0 ≠ 0 ∧ IsN ls (Pol.smul (GF.inv (ofL vs 0)) (ofL vs)) ∧ IsN es (Pol.smul (GF.inv (ofL vs 0)) (ofL ss))) ∨ (b = false ∧ ls = [] ∧ es = [] ∧ ofL vs 0 = 0) := by
        have hR' := hR
        rw [← hh] at hR'
        rcases hK with ⟨h1, _, _, ss', vs', N', h2, h3, h4, h5⟩ | ⟨h1, h2, h3, h4⟩
        · rw [hl, Int.toNat_natCast] at h2
          obtain ⟨rfl, rfl, rfl⟩ := h2.unique hR'
          exact .inl ⟨h1, h3, h4, h5⟩
        · rcases h4 with h4 | h4 | ⟨ss', vs', N', h5, h6⟩
          · omega
          · rw [hl] at h4; omega
          · rw [hl, Int.toNat_natCast] at h5
            obtain ⟨rfl, rfl, rfl⟩ := h5.unique hR'
            exact .inr ⟨h1, h2, h3, h6⟩
      obtain ⟨x0, hx0⟩ : ∃ x0, vs.getD 0 0 = x0 := ⟨_, rfl⟩
      have hx08 : x0 < 256 := by rw [← hx0]; exact hR.v.byt 0
      have hof : ofL vs 0 = GF.of x0 := by rw [← hx0]; rfl
      obtain ⟨D1, hD1⟩ : ∃ D1, n + t = D1 := ⟨_, rfl⟩
      obtain ⟨D2, hD2⟩ : ∃ D2, D1 + 1 = D2 := ⟨_, rfl⟩
      have hs1 : (n : Int) + (t : Int) = (D1 : Int) := by omega
      have hs2 : (D1 : Int) + 1 = (D2 : Int) := by omega
      have hw1 := wrap_nat D1 (by omega)
      have hw2 := wrap_nat D2 (by omega)
      have hw3 := wrap_nat h (by omega)
      have hquo : (D2 : Int).tdiv 2 = (h : Int) := by
        rw [← hh, hD1, hD2]
        exact (Int.ofNat_tdiv D2 2).symm
      have hh5 : h ≤ 1000 := by omega
      have hnt : (t : Int) ≤ (n : Int) := by omega
      have hn5 : (n : Int) ≤ 500 := by omega
      obtain ⟨a3, l3⟩ : ∃ a3, ss.length = a3 := ⟨_, rfl⟩
      obtain ⟨a4, l4⟩ : ∃ a4, vs.length = a4 := ⟨_, rfl⟩
      have hzk : (if (h : Int) < 0 then 0 else (h : Int)) = (h : Int) := if_neg (by omega)
      have hT := hF.lt
      -- the first list: x to the power of n
      have hmk := make_bytes n (by omega) w
      obtain ⟨W1, hW1⟩ : ∃ W1, w.alloc (.cells (madeCells #[.int .u8 0] n) 5) = W1 := ⟨_, rfl⟩
      have hb1 : Below w.heap.size w W1 := hW1 ▸ (Below.refl _ w).alloc (Nat.le_refl _) _
      have hO1 : Ow W1 w.heap.size (.slice (some ⟨w.heap.size, 0, none⟩) n n) (List.replicate n 0) := hW1 ▸ ow_made w (Nat.le_refl _) n (by omega)
      obtain ⟨g, c5, W2, hap, hO2, hb2⟩ := run_append_one W1 w.heap.size _ _ 1 hO1 (by rw [List.length_replicate]; omega) hb1.size
      have hb12 : Below w.heap.size w W2 := hb1.trans (hb2 _ (Nat.le_refl _))
      obtain ⟨m, hm⟩ : ∃ m, n + 1 = m := ⟨_, rfl⟩
      have hxl : (List.replicate n 0 ++ [1]).length = m := by simp [hm]
      have hxM : List.replicate n 0 ++ [1] = Eu.xM n := rfl
      rw [hxl, show ((1 : Nat) : Int) = 1 from rfl] at hap
      rw [hxl] at hO2
      rw [hxM] at hO2
      obtain ⟨q5, c6, he5, t5⟩ := Ow.tl (n := m) hO2 hT (Eu.xM_isN n).byt (by rw [← hxM]; exact hxl)
      simp only [Value.slice.injEq] at he5
      obtain ⟨rfl, -, rfl⟩ := he5
      have ha1 := ap_ok hap
      have ha2 := ap_v hap
      have ha3 := ap_w hap
      have K1 := erun_calls B T kf h N m c5 n c a3 a4 (some ⟨g, 0, none⟩) q (h : Int) hzk (Eu.xM n) xs ss vs hR l3 l4 (by omega) (by omega) W2 (hF.below hb12) t5 (ta.below hb12)
      have HX : Hid (Tl w T q n c xs ∧ IsRun (Eu.xM n) xs h ss vs N ∧ ((b = true ∧ ofL vs 0 ≠ 0 ∧ IsN ls (Pol.smul (GF.inv (ofL vs 0)) (ofL vs)) ∧ IsN es (Pol.smul (GF.inv (ofL vs 0)) (ofL ss))) ∨ (b = false ∧ ls = [] ∧ es = [] ∧ ofL vs 0 = 0)) ∧ vs.getD 0 0 = x0 ∧ x0 < 256 ∧ ofL vs 0 = GF.of x0 ∧ Below w.heap.size w W2 ∧ ls.length = a1 ∧ es.length = a2 ∧ ss.length = a3 ∧ vs.length = a4) := ⟨ta, hR, hcase, hx0, hx08, hof, hb12, l1, l2, l3, l4⟩
      clear hK ta hh hR hcase hx0 hx08 hof hD1 hD2 hb1 hO1 hb2 hb12 hO2 t5 hxl hxM hm hzk l1 l2 l3 l4 hl hF hT
      go_enter Tryz.func19, Tryz.ntmps19
      go_wp2_with fail
      refine K1.mono ?_
      rintro e w3 ⟨q3, c3, q4, c4, rfl, t3, t4, hF3, hb3⟩
      clear K1 ha1 ha2 ha3 hap hmk hW1
      have K3 := pcoef_calls q4 a4 c4 vs 0 w3 t4.bs
      rw [show cof vs 0 = x0 from HX.out.2.2.2.1] at K3
      obtain ⟨y, hy⟩ : ∃ y, Gf.inv x0 = y := ⟨_, rfl⟩
      have hy8 : y < 256 := by rw [← hy]; exact Gf.inv_lt _ HX.out.2.2.2.2.1
      have hyf : GF.of y = GF.inv (ofL vs 0) := by rw [← hy, GF.of_inv _ HX.out.2.2.2.2.1, HX.out.2.2.2.2.2.1]
      have hbx : (x0 != 0) = b := by
        have h4 := HX.out.2.2.2.2.2.1
        rcases HX.out.2.2.1 with ⟨rfl, h1, -⟩ | ⟨rfl, -, -, h1⟩
        · rw [bne_iff_ne]
          intro e0
          rw [h4, e0] at h1
          exact h1 rfl
        · rw [h4] at h1
          have h2 := GF.of_val x0 HX.out.2.2.2.2.1
          rw [h1] at h2
          rw [← h2]; rfl
      have K4 := finv_e kf B T x0 y b HX.out.2.2.2.2.1 hy hbx w3 hF3
      have hbw3 : But (· = T) w w3 := (But.of_below HX.out.2.2.2.2.2.2.1).trans hb3
      have H3 : Hid (Tl w3 T q3 a3 c3 ss ∧ Tl w3 T q4 a4 c4 vs ∧ But (· = T) w w3 ∧ a3 ≤ 100000000 ∧ a4 ≤ 100000000 ∧ y < 256 ∧ GF.of y = GF.inv (ofL vs 0)) := by
        refine ⟨t3, t4, hbw3, ?_, ?_, hy8, hyf⟩
        · have h1 := HX.out.2.1.short
          have := HX.out.2.2.2.2.2.2.2.2.2.1
          omega
        · have h1 := HX.out.2.1.lenV
          have h2 := HX.out.1.bs.len
          have := HX.out.2.2.2.2.2.2.2.2.2.2
          rw [Eu.xM_length] at h1
          omega
      clear t3 t4 hF3 hb3 hbw3 hy8 hyf hy hbx
      go_wp2_with fail
      refine K3.mono ?_
      rintro e w4 ⟨rfl, hw⟩
      obtain rfl := hw.symm
      clear K3
      go_wp2_with fail
      refine K4.mono ?_
      rintro e w5 ⟨rfl, hF5, hb5⟩
      clear K4
      rcases HX.out.2.2.1 with ⟨rfl, h1, h2, h3⟩ | ⟨rfl, rfl, rfl, h1⟩
      · have hF0 := hF5.drew
        have hB0 : But (· = T) w5 w5.drew := (But.refl _ w5).drew
        have H5 : Hid (Tl w5 T q3 a3 c3 ss ∧ Tl w5 T q4 a4 c4 vs ∧ But (· = T) w w5) := ⟨H3.out.1.but hb5, H3.out.2.1.but hb5, H3.out.2.2.1.trans hb5⟩
        have K5 : Hid (∀ W, But (· = T) w5 W → Fd kf B T W → Calls Tryz.prog 35 #[.pointer (some ⟨B, 0, none⟩), .int .u8 (y : Nat), .slice q4 a4 c4] W fun e w' => ∃ q1 c1, e = .returned (.slice q1 a1 c1) ∧ Hid (Tl w' T q1 a1 c1 ls ∧ But (· = T) W w') ∧ Fd kf B T w' ∧ But (· = T) w5 w') := fun W hW hF => by
          refine (pscale_calls kf B T y a4 c4 q4 vs ls H3.out.2.2.2.2.2.1 (by rw [H3.out.2.2.2.2.2.2]; exact h2) (by have := H3.out.2.2.2.2.1; omega) H5.out.2.1.le W hF (H5.out.2.1.but hW).bs H5.out.2.1.off).mono ?_
          rintro e w' ⟨v, rfl, hO, hF', hb'⟩
          obtain ⟨q1, c1, rfl, t1⟩ := hO.tl hF.lt h2.byt HX.out.2.2.2.2.2.2.2.1
          exact ⟨q1, c1, rfl, (⟨t1, hb'⟩ : _ ∧ _), hF', hW.trans hb'⟩
        have K6 : Hid (∀ W, But (· = T) w5 W → Fd kf B T W → Calls Tryz.prog 35 #[.pointer (some ⟨B, 0, none⟩), .int .u8 (y : Nat), .slice q3 a3 c3] W fun e w' => ∃ q2 c2, e = .returned (.slice q2 a2 c2) ∧ Hid (Tl w' T q2 a2 c2 es ∧ But (· = T) W w') ∧ Fd kf B T w' ∧ But (· = T) w5 w') := fun W hW hF => by
          refine (pscale_calls kf B T y a3 c3 q3 ss es H3.out.2.2.2.2.2.1 (by rw [H3.out.2.2.2.2.2.2]; exact h3) (by have := H3.out.2.2.2.1; omega) H5.out.1.le W hF (H5.out.1.but hW).bs H5.out.1.off).mono ?_
          rintro e w' ⟨v, rfl, hO, hF', hb'⟩
          obtain ⟨q1, c1, rfl, t1⟩ := hO.tl hF.lt h3.byt HX.out.2.2.2.2.2.2.2.2.1
          exact ⟨q1, c1, rfl, (⟨t1, hb'⟩ : _ ∧ _), hF', hW.trans hb'⟩
        clear h1 h2 h3 hb5
        have K7 := K5.out w5 (But.refl _ w5) hF5
        clear K5
        go_wp2_with fail
        refine K7.mono ?_
        rintro e w7 ⟨q7, c7, rfl, H7, hF7, hB7⟩
        have K8 := K6.out w7 hB7 hF7
        clear K6 K7 hF5 hF7 hB7
        go_wp2_with fail
        refine K8.mono ?_
        rintro e w9 ⟨q8, c8, rfl, H8, hF9, hB9⟩
        have HFin : Hid (Tl w9 T q7 a1 c7 ls ∧ Tl w9 T q8 a2 c8 es ∧ Fd kf B T w9 ∧ But (· = T) w5 w9) := ⟨H7.out.1.but H8.out.2, H8.out.1, hF9, hB9⟩
        clear K8 hF9 hB9
        go_wp2
        go_ret3
        exact ⟨_, _, _, _, rfl, HFin.out.1, HFin.out.2.1, HFin.out.2.2.1, H5.out.2.2.trans HFin.out.2.2.2⟩
      · have H5 : Hid (But (· = T) w w5 ∧ Fd kf B T w5 ∧ ([] : List Nat).length = a1 ∧ ([] : List Nat).length = a2) := ⟨H3.out.2.2.1.trans hb5, hF5, HX.out.2.2.2.2.2.2.2.1, HX.out.2.2.2.2.2.2.2.2.1⟩
        clear hb5 hF5
        go_wp2
        go_ret3
        obtain ⟨g1, g2, g3, g4⟩ := H5.out
        cases g3
        cases g4
        exact ⟨_, _, _, _, rfl, tl_nil _ _, tl_nil _ _, g2, g1⟩
end Go.Proofs
