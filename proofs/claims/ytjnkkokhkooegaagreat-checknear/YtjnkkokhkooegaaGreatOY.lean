/- Texts laid together: ChX, Known13. Each says its own conditions. -/
import Derived.Test.YtjnkkokhkooegaaGreatOQ
import Derived.Test.YtjnkkokhkooegaaGreatOU
import Derived.Test.YtjnkkokhkooegaaGreatOW
import Derived.Test.YtjnkkokhkooegaaGreatOX
/- What the laws of check ask, each call a step from world to world. Conditions: a field that Of has made; lists apart from its table, of at most a million. -/
namespace Go.Proofs
open Go.RowKit Go.ChangeShapes Go.WideShapes
open Pol (IsN Dg ofL Byt vl)
section
variable (k Bf T P : Nat) (N K B X Y Z : Int) (w0 : World)
theorem ap_wf {xs ys : List Nat} {n : Nat} (h : xs.length = n) (hn : n ≤ 1000000) : ∀ z ∈ zi (Cd.ap xs ys), (Lit.int .i64 z).wf = true := zi_wf fun i hi => by have := (Cd.mem_ap.1 hi).1; omega
theorem kapart (q p : Option Addr) (n c m d o : Nat) (xs ys L : List Nat) (hn : n ≤ 1000000) (hL : Cd.ap xs ys = L) (ho : L.length = o) (W : World) (hW : Tc k Bf T P N K B w0 W) (h1 : Tl W T q n c xs) (h2 : Tl W T p m d ys) :
    Calls Tryz.prog 18 #[.slice q n c, .slice p m d] W fun e w' => ∃ q c, e = .returned (.slice q o c) ∧ Tz w' T q o c (zi L) ∧ Tc k Bf T P N K B w0 w' ∧ But (· = T) W w' :=
  (apart_calls q p n c m d xs ys hn W h1.bs h2.bs).mono fun e w' ⟨v, he, hO, hb⟩ => by
    obtain ⟨q, c, rfl, t⟩ := OwV.tz (L := zi L) (n := o) (hL ▸ hO) hW.lt (hL ▸ ap_wf h1.bs.len hn) (by rw [zi_length, ho])
    exact ⟨q, c, he, t, hW.below hb, But.of_below hb⟩
theorem kwrong (q p s : Option Addr) (n c m d l o r : Nat) (xs ys : List Nat) (zs : List Int) (hn : n ≤ 1000000) (hl : l ≤ 1000000) (hr : Cd.wrZ xs ys zs = r) (W : World) (hW : Tc k Bf T P N K B w0 W) (h1 : Tl W T q n c xs) (h2 : Tl W T p m d ys) (h3 : Tz W T s l o zs) :
    Calls Tryz.prog 20 #[.slice q n c, .slice p m d, .slice s l o] W fun e w' => e = .returned (.int .i64 (r : Nat)) ∧ Tc k Bf T P N K B w0 w' ∧ But (· = T) W w' :=
  (wrong_calls q p s n c m d l o xs ys zs hn hl W h1.bs h2.bs h3.ns).mono fun _ _ ⟨he, hb⟩ => ⟨hr ▸ he, hW.below hb, But.of_below hb⟩
theorem kfits (U V : Int) (r : Bool) (hr : fitB X Y Z U V = r) (W : World) (hW : Tc k Bf T P N K B w0 W) :
    Calls Tryz.prog 22 #[.agg #[.int .i64 X, .int .i64 Y, .int .i64 Z], .int .i64 U, .int .i64 V] W fun e w' => e = .returned (.bool r) ∧ Tc k Bf T P N K B w0 w' ∧ But (· = T) W w' :=
  (fits_calls X Y Z U V W).mono fun _ _ ⟨he, hb⟩ => ⟨hr ▸ he, hW.below hb, But.of_below hb⟩
theorem kacc (q s p : Option Addr) (n c l o m d : Nat) (xs ys : List Nat) (zs : List Int) (r : Bool) (hr : r = true ↔ acP X Y Z xs zs ys) (hn : n ≤ 1000000) (hl : l ≤ 1000000) (W : World) (hW : Tc k Bf T P N K B w0 W) (h1 : Tl W T q n c xs) (h2 : Tl W T p m d ys) (h3 : Tz W T s l o zs) :
    Calls Tryz.prog 15 #[.pointer (some ⟨Bf, 0, none⟩), .agg #[.int .i64 X, .int .i64 Y, .int .i64 Z], .slice q n c, .slice s l o, .slice p m d] W fun e w' => e = .returned (.bool r) ∧ Tc k Bf T P N K B w0 w' ∧ But (· = T) W w' :=
  (accept_calls k Bf T X Y Z q s p n c l o m d xs ys zs r hr hn hl W hW.tw.fd h1.bs h2.bs h3.ns h1.off h2.off h3.off).mono fun _ _ ⟨he, hF, hb⟩ => ⟨he, hW.next hF hb, hb⟩
theorem kaccn (q s p : Option Addr) (n c l o m d : Nat) (xs ys : List Nat) (zs : List Int) (hn : n ≤ 1000000) (hl : l ≤ 1000000) (W : World) (hW : Tc k Bf T P N K B w0 W) (h1 : Tl W T q n c xs) (h2 : Tl W T p m d ys) (h3 : Tz W T s l o zs) :
    Calls Tryz.prog 15 #[.pointer none, .agg #[.int .i64 X, .int .i64 Y, .int .i64 Z], .slice q n c, .slice s l o, .slice p m d] W fun e w' => e = .returned (.bool false) ∧ Tc k Bf T P N K B w0 w' ∧ But (· = T) W w' :=
  (accept_none X Y Z q s p n c l o m d xs ys zs hn hl W h1.bs h2.bs h3.ns).mono fun _ _ ⟨he, hb⟩ => ⟨he, hW.below hb, But.of_below hb⟩
end
theorem tz_nil (W : World) (T : Nat) : Tz W T none 0 0 [] := ⟨⟨rfl, by omega, fun i hi => absurd hi (Nat.not_lt_zero i), fun z hz => by cases hz⟩, Nat.le_refl _, fun h => absurd h (Nat.not_lt_zero 0)⟩
end Go.Proofs
/- The walk of the example of chapter 13 (known). No conditions. -/
namespace Go.Proofs
open Go.RowKit Go.ChangeShapes Go.WideShapes
open Pol (IsN Dg ofL Byt)

theorem cod420 : Cod 4 2 0 := ⟨by decide, by decide, by decide, by decide⟩
theorem acc_known1 : acP 4 2 0 [2, 7, 1, 0] [] [2, 3, 1, 0] := (acP_yes cod420 (S := 2) rfl _ _ _).2 (of_decide_eq_true (by kernel_rfl))
theorem acc_known2 : ¬ acP 4 2 0 [2, 7, 1, 0] [0] [2, 3, 1, 0] := fun h => absurd ((acP_yes cod420 (S := 2) rfl _ _ _).1 h).2.2.2 (of_decide_eq_true (by kernel_rfl))
/-- A list of literals ahead of a call. -/
theorem tc_lit {k Bf T R : Nat} {N K B : Int} {w W : World} (h : Tc k Bf T R N K B w W) (L : List Nat) (A : Array Value) (n : Nat) (hA : A = ⟨ob L⟩) (hn : n = L.length) (hx : L.all (· < 256) = true) (hl : L.length ≤ 1000) :
    Tc k Bf T R N K B w (W.alloc (.cells A 5)) ∧ Tl (W.alloc (.cells A 5)) T (some ⟨W.heap.size, 0, none⟩) n n L ∧ Below W.heap.size W (W.alloc (.cells A 5)) :=
  have hb := (Below.refl _ W).alloc (Nat.le_refl _) (.cells A 5)
  ⟨h.below hb, tl_lit W T L A _ n h.lt hA rfl hn hx hl, hb⟩
theorem tc_litz {k Bf T R : Nat} {N K B : Int} {w W : World} (h : Tc k Bf T R N K B w W) (L : List Int) (A : Array Value) (n : Nat) (hA : A = ⟨oz L⟩) (hn : n = L.length) (hw : L.all (fun z => (Lit.int .i64 z).wf) = true) (hl : L.length ≤ 1000) :
    Tc k Bf T R N K B w (W.alloc (.cells A 3)) ∧ Tz (W.alloc (.cells A 3)) T (some ⟨W.heap.size, 0, none⟩) n n L ∧ Below W.heap.size W (W.alloc (.cells A 3)) :=
  have hb := (Below.refl _ W).alloc (Nat.le_refl _) (.cells A 3)
  ⟨h.below hb, tz_lit W T L A _ n h.lt hA rfl hn hw hl, hb⟩
set_option maxRecDepth 100000 in
set_option maxHeartbeats 1000000 in
theorem known13_calls (w : World) : Calls Tryz.prog 16 #[] w fun e w' => e = .returned (.bool true) ∧ Below w.heap.size w w' := by
  have hnot : ∀ (x : Bool) (w : World), (Op.unary .not (.bool x)).run Tryz.prog w = .ok (.bool (!x)) w := fun _ _ => rfl
  go_enter Tryz.func16, Tryz.ntmps16
  go_wp2_with fail
  obtain ⟨P, hP⟩ : ∃ P, w.heap.size = P := ⟨_, rfl⟩
  obtain ⟨W0, hW0⟩ : ∃ W0, w.alloc (.cells #[.int .i64 4, .int .i64 2, .int .i64 0] 26) = W0 := ⟨_, rfl⟩
  have hb0 : Below w.heap.size w W0 := hW0 ▸ (Below.refl _ w).alloc (Nat.le_refl _) _
  have hC0 : Cb W0 P 4 2 0 := by rw [← hW0, ← hP]; exact cb_new w _ _ _
  have K0 := fof_calls 2 (by decide) (by decide) W0
  have H0 : Hid (Below w.heap.size w W0 ∧ Cb W0 P 4 2 0) := ⟨hb0, hC0⟩
  rw [hW0, hP]
  clear hb0 hC0 hW0 hP
  refine K0.mono ?_
  rintro e w1 ⟨B_f, T_f, rfl, hF, hb, hlB, hlT⟩
  clear K0
  have hT1 : Tc 2 B_f T_f P 4 2 0 w w1 := ⟨⟨hF, But.of_below (H0.out.1.trans (hb.mono H0.out.1.size))⟩, H0.out.2.below hb, by have := H0.out.2.blt; omega⟩
  have HTf : Hid (w.heap.size ≤ T_f) := Nat.le_trans H0.out.1.size hlT
  have hC := hT1.cb
  have HT1 : Hid (Tc 2 B_f T_f P 4 2 0 w w1) := hT1
  clear hF hb hlB hlT H0 hT1
  have u0 := (hC).c0
  have u1 := (hC).c1
  have u2 := (hC).c2
  clear hC
  go_wp2_with fail
  obtain ⟨hTa, la, hba⟩ := tc_lit HT1.out [2, 7, 1, 0] #[.int .u8 2, .int .u8 7, .int .u8 1, .int .u8 0] 4 rfl rfl (by decide) (by decide)
  obtain ⟨hTb, lb, hbb⟩ := tc_lit hTa [2, 3, 1, 0] #[.int .u8 2, .int .u8 3, .int .u8 1, .int .u8 0] 4 rfl rfl (by decide) (by decide)
  have K := kacc 2 B_f T_f P 4 2 0 4 2 0 w _ none _ 4 4 0 0 4 4 [2, 7, 1, 0] [2, 3, 1, 0] [] true ⟨fun _ => acc_known1, fun _ => rfl⟩ (by omega) (by omega) _ hTb (la.below hbb) lb (tz_nil _ _)
  simp only [World.size_alloc] at K
  refine K.mono ?_
  rintro e w2 ⟨rfl, hT2, -⟩
  clear K hTa la hba hTb lb hbb HT1
  clear u0 u1 u2
  have hC := hT2.cb
  have HT2 : Hid (Tc 2 B_f T_f P 4 2 0 w w2) := hT2
  clear hT2
  have u0 := (hC).c0
  have u1 := (hC).c1
  have u2 := (hC).c2
  clear hC
  go_wp2_with fail
  obtain ⟨hTa, la, hba⟩ := tc_lit HT2.out [2, 7, 1, 0] #[.int .u8 2, .int .u8 7, .int .u8 1, .int .u8 0] 4 rfl rfl (by decide) (by decide)
  obtain ⟨hTz, lz, hbz⟩ := tc_litz hTa [0] #[.int .i64 0] 1 rfl rfl (by decide) (by decide)
  obtain ⟨hTb, lb, hbb⟩ := tc_lit hTz [2, 3, 1, 0] #[.int .u8 2, .int .u8 3, .int .u8 1, .int .u8 0] 4 rfl rfl (by decide) (by decide)
  have K := kacc 2 B_f T_f P 4 2 0 4 2 0 w _ _ _ 4 4 1 1 4 4 [2, 7, 1, 0] [2, 3, 1, 0] [0] false ⟨fun h => (by cases h), fun h => absurd h acc_known2⟩ (by omega) (by omega) _ hTb ((la.below hbz).below hbb) lb (lz.below hbb)
  simp only [World.size_alloc] at K
  refine K.mono ?_
  rintro e w3 ⟨rfl, hT3, -⟩
  clear K hTa la hba hTb lb hbb hTz lz hbz HT2
  clear u0 u1 u2
  have HT3 : Hid (Tc 2 B_f T_f P 4 2 0 w w3) := hT3
  clear hT3
  go_wp2_with fail
  obtain ⟨hTa, la, hba⟩ := tc_lit HT3.out [2, 7] #[.int .u8 2, .int .u8 7] 2 rfl rfl (by decide) (by decide)
  obtain ⟨hTb, lb, hbb⟩ := tc_lit hTa [2, 3] #[.int .u8 2, .int .u8 3] 2 rfl rfl (by decide) (by decide)
  have K := kapart 2 B_f T_f P 4 2 0 w _ _ 2 2 2 2 1 [2, 7] [2, 3] [1] (by omega) (of_decide_eq_true (by kernel_rfl)) rfl _ hTb (la.below hbb) lb
  simp only [World.size_alloc] at K
  refine K.mono ?_
  rintro e w4 ⟨q4, c4, rfl, l4, hT4, -⟩
  clear K hTa la hba hTb lb hbb HT3
  have H4 : Hid (Tc 2 B_f T_f P 4 2 0 w w4 ∧ Tz w4 T_f q4 1 c4 [1]) := ⟨hT4, l4⟩
  clear hT4 l4
  go_wp2_with fail
  obtain ⟨hTa, la, hba⟩ := tc_litz H4.out.1 [1] #[.int .i64 1] 1 rfl rfl (by decide) (by decide)
  have K := kints 2 B_f T_f P 4 2 0 w q4 _ 1 c4 1 [1] (by omega) _ hTa (H4.out.2.below hba) la
  refine K.mono ?_
  rintro e w5 ⟨rfl, hT5, -⟩
  clear K hTa la hba H4
  have hC := hT5.cb
  have K := kfits 2 B_f T_f P 4 2 0 4 2 0 w 1 0 true (by decide) w5 hT5
  clear hT5
  have u0 := (hC).c0
  have u1 := (hC).c1
  have u2 := (hC).c2
  clear hC
  go_wp2_with fail
  refine K.mono ?_
  rintro e w6 ⟨rfl, hT6, -⟩
  clear K
  clear u0 u1 u2
  have hC := hT6.cb
  have K := kfits 2 B_f T_f P 4 2 0 4 2 0 w 1 1 false (by decide) w6 hT6
  clear hT6
  have u0 := (hC).c0
  have u1 := (hC).c1
  have u2 := (hC).c2
  clear hC
  go_wp2_with fail
  refine K.mono ?_
  rintro e w7 ⟨rfl, hT7, -⟩
  clear K
  clear u0 u1 u2
  go_wp2
  go_ret
  exact ⟨rfl, hT7.tw.but.below (Nat.le_refl _) (by rintro k rfl; exact HTf.out)⟩
end Go.Proofs
