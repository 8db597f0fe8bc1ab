/- The walk of massey's change.mended: the last change's register is laid over the one at hand. Conditions: a field that Of has made; lists of at most a million bytes, apart from its table; a last change that did miss. -/
import Derived.Test.YthnlcdfonbnjcaaGreatQB
import Derived.Test.YthnlcdfonbnjcaaGreatQA
import Derived.Test.YthnlcdfonbnjcaaGreatMG
namespace Go.Proofs
open Go.RowKit Go.ChangeShapes Go.WideShapes
open Pol (IsN Dg ofL Byt)

theorem mb_chg (w : World) (v0 v1 v2 : Value) : Mb (w.alloc (.cells #[v0, v1, v2] 76)) w.heap.size v0 v1 v2 := ⟨by simp [go_sem], by simp [go_sem], by simp [go_sem]⟩
/-- Two lists in a row: what Concat is handed. -/
theorem two_new (w : World) (v0 v1 : Value) : (w.alloc (.cells #[v0, v1] 22)).cell? ⟨w.heap.size, 0, none⟩ = some v0 ∧ (w.alloc (.cells #[v0, v1] 22)).cell? ⟨w.heap.size, 1, none⟩ = some v1 := ⟨by simp [go_sem], by simp [go_sem]⟩

theorem up_smul' (t : Nat) (a : GF) (p : Pol) : Pol.up t (Pol.smul a p) = Pol.smul a (Pol.up t p) := by
  funext i
  show (if t ≤ i then a * p (i - t) else 0) = a * (if t ≤ i then p (i - t) else 0)
  split
  · rfl
  · rw [GF.mul_zero]
theorem off_made {W : World} {T n : Nat} (h : T < W.heap.size) : Off T n (some ⟨W.heap.size, 0, none⟩) := fun _ a e => by cases e; exact fun hh => by have : W.heap.size = T := hh; omega
set_option maxRecDepth 100000 in
set_option maxHeartbeats 4000000 in
theorem mended_calls (k B T : Nat) (q p : Option Addr) (n c m d t : Nat) (i j : Int) (x y : Nat) (cs ds zs : List Nat) (ht : i - j = (t : Int)) (ht6 : t ≤ 1000000) (hn : n ≤ 1000000) (hm : m ≤ 1000000) (hx : x < 256) (hy : y < 256) (hy0 : y ≠ 0)
    (hz : IsN zs (Ms.ch (ofL cs) (ofL ds) t (GF.of x * GF.inv (GF.of y)))) (w : World) (h : Fd k B T w) (h1 : Tl w T q n c cs) (h2 : Tl w T p m d ds) :
    Calls Tryz.prog 37 #[.agg #[.slice q n c, .int .i64 i, .int .u8 (x : Nat)], .pointer (some ⟨B, 0, none⟩), .agg #[.slice p m d, .int .i64 j, .int .u8 (y : Nat)]] w fun e w' => ∃ v, e = .returned v ∧ Ow w' w.heap.size v zs ∧ Fd k B T w' ∧ But (· = T) w w' := by
  obtain ⟨g, hg⟩ : ∃ g, Gf.div x y = g := ⟨_, rfl⟩
  have hg8 : g < 256 := by rw [← hg]; exact Gf.mul_lt _ _ hx
  have hgf : GF.of g = GF.of x * GF.inv (GF.of y) := by rw [← hg]; unfold Gf.div; rw [GF.of_mul _ _ hx (Gf.inv_lt _ hy), GF.of_inv _ hy]
  rw [← hgf] at hz
  obtain ⟨us, hu, hul⟩ := Pol.isN_of_bd (n := m) (Pol.Bd.smul (GF.of g) (h2.bs.len ▸ Pol.ofL_bd ds))
  obtain ⟨l, hl⟩ : ∃ l, us.length = l := ⟨_, rfl⟩
  have hz2 : IsN zs (Pol.add (ofL cs) (ofL (List.replicate t 0 ++ us))) := by rw [Pol.ofL_up, hu.eq, up_smul']; exact hz
  obtain ⟨l8, hl8⟩ : ∃ l8, t + l = l8 := ⟨_, rfl⟩
  have hb8 : Byt (List.replicate t 0 ++ us) := Pol.byt_append (Pol.byt_rep t) hu.byt
  have hlen8 : (List.replicate t 0 ++ us).length = l8 := by rw [List.length_append, List.length_replicate, hl, hl8]
  obtain ⟨P, hP⟩ : ∃ P, w.heap.size = P := ⟨_, rfl⟩
  obtain ⟨w1, hw1⟩ : ∃ w1, (w.alloc (.cells #[.slice q n c, .int .i64 i, .int .u8 (x : Nat)] 76)).alloc (.cells #[.slice p m d, .int .i64 j, .int .u8 (y : Nat)] 76) = w1 := ⟨_, rfl⟩
  have hb1 : Below P w w1 := by rw [← hw1, ← hP]; exact ((Below.refl _ w).alloc (Nat.le_refl _) _).alloc (by simp) _
  have hM1 : Mb w1 P (.slice q n c) (.int .i64 i) (.int .u8 (x : Nat)) := by
    rw [← hw1, ← hP]
    exact (mb_chg w _ _ _).below ((Below.refl _ _).alloc (Nat.le_refl _) _)
  have hM2 : Mb w1 (P + 1) (.slice p m d) (.int .i64 j) (.int .u8 (y : Nat)) := by
    have e := mb_chg (w.alloc (.cells #[.slice q n c, .int .i64 i, .int .u8 (x : Nat)] 76)) (.slice p m d) (.int .i64 j) (.int .u8 (y : Nat))
    rw [hw1] at e
    simpa [hP] using e
  have hTP : T < P := by rw [← hP]; exact h.lt
  have hs1 : w1.heap.size = P + 2 := by rw [← hw1, ← hP]; simp
  -- what holds in each world that comes
  have HI : Hid (∀ W, Fd k B T W → But (· = T) w1 W → Mb W P (.slice q n c) (.int .i64 i) (.int .u8 (x : Nat)) ∧ Mb W (P + 1) (.slice p m d) (.int .i64 j) (.int .u8 (y : Nat)) ∧ Tl W T q n c cs ∧ Tl W T p m d ds ∧ But (· = T) w W ∧ P + 2 ≤ W.heap.size ∧ T < P) := fun W _ hb =>
    ⟨hM1.but hb (by omega), hM2.but hb (by omega), (h1.below (hP ▸ hb1)).but hb, (h2.below (hP ▸ hb1)).but hb, (But.of_below (hP ▸ hb1)).trans hb, by have := hb.size; omega, hTP⟩
  have hF1 : Fd k B T w1 := h.below (hP ▸ hb1)
  have KD : Calls Tryz.prog 57 #[.pointer (some ⟨B, 0, none⟩), .int .u8 (x : Nat), .int .u8 (y : Nat)] w1 _ := fdiv_e k B T x y g true hx hy hg (by simpa using hy0) w1 hF1
  have HW1 : Hid ((w.alloc (.cells #[.slice q n c, .int .i64 i, .int .u8 (x : Nat)] 76)).alloc (.cells #[.slice p m d, .int .i64 j, .int .u8 (y : Nat)] 76) = w1) := hw1
  have HQ : Hid (IsN us (Pol.smul (GF.of g) (ofL ds)) ∧ us.length = l ∧ IsN zs (Pol.add (ofL cs) (ofL (List.replicate t 0 ++ us))) ∧ Byt (List.replicate t 0 ++ us) ∧ (List.replicate t 0 ++ us).length = l8 ∧ g < 256 ∧ n ≤ 1000000 ∧ m ≤ 1000000 ∧ l ≤ 1000000 ∧ l8 ≤ 2000000 ∧ t ≤ 1000000) := ⟨hu, hl, hz2, hb8, hlen8, hg8, hn, hm, by omega, by omega, ht6⟩
  obtain ⟨u0, u1, u2⟩ := hM1
  obtain ⟨v0, v1, v2⟩ := hM2
  clear hg hgf hz hu hul hl hz2 hl8 hb8 hlen8 hb1 hTP hs1 h h1 h2 hx hy hg8
  go_enter Tryz.func37, Tryz.ntmps37
  go_wp2_with fail
  refine KD.mono ?_
  rintro e w2 ⟨rfl, hF2, hb2⟩
  clear KD u0 u1 u2 v0 v1 v2
  obtain ⟨hM1, hM2, -, -, -, -, -⟩ := HI.out w2 hF2 hb2
  obtain ⟨u0, u1, u2⟩ := hM1
  obtain ⟨v0, v1, v2⟩ := hM2
  have hmk := make_bytes t (by omega)
  have hwt := wrap_nat t (by omega)
  have HS4 : Hid (∀ W, Fd k B T W → But (· = T) w1 W → W.cell? ⟨P, 0, none⟩ = some (.slice q n c) ∧ W.cell? ⟨P, 1, none⟩ = some (.int .i64 i) ∧ W.cell? ⟨P + 1, 1, none⟩ = some (.int .i64 j) ∧ W.cell? ⟨P + 1, 0, none⟩ = some (.slice p m d)) := fun W hF hb => by
    obtain ⟨h1, h2, -⟩ := HI.out W hF hb
    exact ⟨h1.c0, h1.c1, h2.c1, h2.c0⟩
  have KSc : Hid (∀ W, Fd k B T W → But (· = T) w1 W → Calls Tryz.prog 35 #[.pointer (some ⟨B, 0, none⟩), .int .u8 (g : Nat), .slice p m d] W fun e w' => ∃ q7 c7, e = .returned (.slice q7 l c7) ∧ Tl w' T q7 l c7 us ∧ Fd k B T w' ∧ But (· = T) W w') := fun W hF hb => by
    obtain ⟨-, -, -, h4, -, -, -⟩ := HI.out W hF hb
    refine (pscale_calls k B T g m d p ds us HQ.out.2.2.2.2.2.1 HQ.out.1 (by have := HQ.out; omega) h4.le W hF h4.bs h4.off).mono ?_
    rintro e w' ⟨v, he, hO, hF', hb'⟩
    obtain ⟨q7, c7, rfl, t7⟩ := hO.tl hF.lt HQ.out.1.byt HQ.out.2.1
    exact ⟨q7, c7, he, t7, hF', hb'⟩
  have KCat : Hid (∀ (W : World) (H A : Nat) (q7 : Option Addr) (c7 : Nat), W.heap.size = H → Fd k B T W → But (· = T) w1 W → Bs W (some ⟨A, 0, none⟩) t (List.replicate t 0) → Bs W q7 l us → Calls Tryz.prog 59 #[.slice (some ⟨H, 0, none⟩) 2 2] (W.alloc (.cells #[.slice (some ⟨A, 0, none⟩) t t, .slice q7 l c7] 22)) fun e w8 => ∃ q8 c8, e = .returned (.slice q8 l8 c8) ∧ Bs w8 q8 l8 (List.replicate t 0 ++ us) ∧ Fd k B T w8 ∧ But (· = T) w1 w8) := fun W H A q7 c7 hH hF hb h5 h6 => by
    subst hH
    obtain ⟨z0, z1⟩ := two_new W (.slice (some ⟨A, 0, none⟩) t t) (.slice q7 l c7)
    have hba : Below W.heap.size W (W.alloc (.cells #[.slice (some ⟨A, 0, none⟩) t t, .slice q7 l c7] 22)) := (Below.refl _ W).alloc (Nat.le_refl _) _
    refine (cat_calls W.heap.size (some ⟨A, 0, none⟩) q7 t t l c7 2 _ us (by have := HQ.out; omega) (by have := HQ.out; omega) _ (h5.below hba) (h6.below hba) z0 z1).mono ?_
    rintro e w8 ⟨v, he, hO, hb8⟩
    obtain ⟨q8, c8, rfl, t8, -, -⟩ := hO.tell HQ.out.2.2.2.1 HQ.out.2.2.2.2.1
    have hbb := hba.trans (hb8.mono hba.size)
    exact ⟨q8, c8, he, t8, hF.below hbb, hb.trans (But.of_below hbb)⟩
  have KAdd : Hid (∀ (W : World) (q8 : Option Addr) (c8 : Nat), Fd k B T W → But (· = T) w1 W → Bs W q8 l8 (List.replicate t 0 ++ us) → Calls Tryz.prog 58 #[.slice q n c, .slice q8 l8 c8] W fun e w9 => ∃ v, e = .returned v ∧ Fd k B T w9 ∧ But (· = T) w1 w9 ∧ Hid (Ow w9 P v zs ∧ Fd k B T w9 ∧ But (· = T) w w9)) := fun W q8 c8 hF hb h5 => by
    obtain ⟨-, -, h3, -, h6, h7, -⟩ := HI.out W hF hb
    refine (padd_calls q q8 n c l8 c8 cs _ zs HQ.out.2.2.1 (by have := HQ.out; omega) (by have := HQ.out; omega) W h3.bs h5).mono ?_
    rintro e w9 ⟨v, he, hO, hb9⟩
    exact ⟨v, he, hF.below hb9, hb.trans (But.of_below hb9), hO.mono (by omega), hF.below hb9, h6.trans (But.of_below hb9)⟩
  have hTw : T < w2.heap.size := hF2.lt
  have hba : Below w2.heap.size w2 (w2.alloc (.cells (madeCells #[.int .u8 0] t) 5)) := (Below.refl _ w2).alloc (Nat.le_refl _) _
  have hFA : Fd k B T (w2.alloc (.cells (madeCells #[.int .u8 0] t) 5)).drew := (hF2.below hba).drew
  have hBA : But (· = T) w1 (w2.alloc (.cells (madeCells #[.int .u8 0] t) 5)).drew := (hb2.trans (But.of_below hba)).drew
  have hSA : Bs (w2.alloc (.cells (madeCells #[.int .u8 0] t) 5)).drew (some ⟨w2.heap.size, 0, none⟩) t (List.replicate t 0) := (bs_mk w2 t (by omega)).drew
  have hQA : Off T t (some ⟨w2.heap.size, 0, none⟩) := off_made hTw
  have hFB : Fd k B T w2.drew := hF2.drew
  have hBB : But (· = T) w1 w2.drew := hb2.drew
  obtain ⟨s0, s1, s2, s3⟩ := HS4.out w2 hF2 hb2
  clear u0 u1 u2 v0 v1 v2 hba hTw
  go_wp2
  go_region_held3 (fun w' => w'.cell? ⟨P, 0, none⟩ = some (.slice q n c) ∧ w'.cell? ⟨P, 1, none⟩ = some (.int .i64 i) ∧ w'.cell? ⟨P + 1, 1, none⟩ = some (.int .i64 j) ∧ w'.cell? ⟨P + 1, 0, none⟩ = some (.slice p m d))
    (first | (with_reducible exact HS4.out _ hF9 hB9) | (with_reducible exact HS4.out _ hF8 hB8) | (with_reducible exact HS4.out _ hF7m hB7m) | (with_reducible exact HS4.out _ hF7 hB7) | (with_reducible exact HS4.out _ hFA hBA) | (with_reducible exact HS4.out _ hFB hBB) | (go_keep; done))
    (first
      | (go_at_call 35; with_reducible refine (KSc.out _ hFA hBA).mono ?_; rintro e w7 ⟨q7, c7, rfl, hS7, hF7, hb7⟩; have hB7 := hBA.trans hb7; have hA7 := hSA.but hb7 hQA)
      | (go_at_call 35; with_reducible refine (KSc.out _ hFB hBB).mono ?_; rintro e w7 ⟨q7, c7, rfl, hS7, hF7, hb7⟩; have hB7 := hBB.trans hb7; have hbm : Below w7.heap.size w7 (w7.alloc (.cells (madeCells #[.int .u8 0] t) 5)) := (Below.refl _ w7).alloc (Nat.le_refl _) _; have hF7m := hF7.below hbm; have hB7m := hB7.trans (But.of_below hbm); have hA7m := bs_mk w7 t (by omega); have hS7m := hS7.below hbm)
      | (go_at_call 59; with_reducible refine (KCat.out w7 w7.heap.size w2.heap.size q7 c7 rfl hF7 hB7 hA7 hS7.bs).mono ?_; rintro e w8 ⟨q8, c8, rfl, hS8, hF8, hB8⟩)
      | (go_at_call 58; with_reducible refine (KAdd.out w8 q8 c8 hF8 hB8 hS8).mono ?_; rintro e w9 ⟨v, rfl, hF9, hB9, HZ⟩)
      | (go_at_call 59; with_reducible refine (KCat.out (w7.alloc (.cells (madeCells #[.int .u8 0] t) 5)) (w7.heap.size + 1) w7.heap.size q7 c7 (by simp) hF7m hB7m hA7m hS7m.bs).mono ?_; rintro e w8 ⟨q8, c8, rfl, hS8, hF8, hB8⟩))
  all_goals
    go_wp2
    go_ret
    exact ⟨_, rfl, by rw [hP]; exact HZ.out.1, HZ.out.2⟩
end Go.Proofs
