/- Texts laid together: SyAsk2, SyAsk. Each says its own conditions. -/
import Derived.Test.YtddhefhabhgdfaaGreatOQ
import Derived.Test.YtddhefhabhgdfaaGreatMR
import Derived.Test.YtddhefhabhgdfaaGreatOR
import Derived.Test.YtddhefhabhgdfaaGreatOS
/- The walk of erratumlaw12.asks: all calls of a code and of lists are what the chapter says. Conditions: any code; lists that are no great ones. -/
namespace Go.Proofs
open Go.RowKit Go.ChangeShapes Go.WideShapes
open Pol (IsN Dg ofL Byt vl)

set_option maxRecDepth 100000 in
set_option maxHeartbeats 8000000 in
theorem asks12_13 (j : Nat) (N K B : Int) (q1 q2 q3 q4 : Option Addr) (n1 c1 n2 c2 n3 c3 n4 c4 : Nat) (xs ss ls : List Nat) (zs : List Int) (hr : erE N K B zs = 13) (b1 : n1 ≤ 1000000) (b2 : n2 ≤ 1000000) (b3 : n3 ≤ 1000000) (b4 : n4 ≤ 1000000) (w : World) (s1 : Bs w q1 n1 xs) (s2 : Ns .i64 w q2 n2 zs) (s3 : Bs w q3 n3 ss) (s4 : Bs w q4 n4 ls) (d1 : n1 ≤ c1) (d2 : n2 ≤ c2) (d3 : n3 ≤ c3) (d4 : n4 ≤ c4) :
    Calls Tryz.prog 11 #[.int .u8 j, .agg #[.int .i64 N, .int .i64 K, .int .i64 B], .slice q1 n1 c1, .slice q2 n2 c2, .slice q3 n3 c3, .slice q4 n4 c4] w fun e w' => e = .returned (.bool true) ∧ Below w.heap.size w w' := by
  obtain ⟨ws, hw⟩ : ∃ ws, syR N K B xs = ws := ⟨_, rfl⟩
  obtain ⟨l, hl⟩ : ∃ l, ws.length = l := ⟨_, rfl⟩
  obtain ⟨o, ho⟩ : ∃ o, n2 + 1 = o := ⟨_, rfl⟩
  obtain ⟨L, hL⟩ : ∃ L, IsSor zs L := ⟨_, sorL_isSor zs⟩
  obtain ⟨m, hm⟩ : ∃ m, L.length = m := ⟨_, rfl⟩
  have HM : Hid (syR N K B xs = ws ∧ ws.length = l ∧ n2 + 1 = o ∧ IsSor zs L ∧ L.length = m ∧ erE N K B zs = 13 ∧ m ≤ 1000000) := ⟨hw, hl, ho, hL, hm, hr, by have := hL.length_le; have := s2.len; omega⟩
  have HB : Hid (n1 ≤ 1000000 ∧ n2 ≤ 1000000 ∧ n3 ≤ 1000000 ∧ n4 ≤ 1000000) := ⟨b1, b2, b3, b4⟩
  clear hw hl ho hL hm hr b1 b2 b3 b4
  obtain ⟨f, hf⟩ : ∃ f : Nat, 1 + j % 3 = f := ⟨_, rfl⟩
  have hf1 : 1 ≤ f := by omega
  have hf3 : f ≤ 3 := by omega
  have hfi : (1 : Int) + (j : Int) % 3 = (f : Int) := by omega
  obtain ⟨P, hP⟩ : ∃ P, w.heap.size = P := ⟨_, rfl⟩
  obtain ⟨W0, hW0⟩ : ∃ W0, w.alloc (.cells #[.int .i64 N, .int .i64 K, .int .i64 B] 23) = W0 := ⟨_, rfl⟩
  have hb0 : Below w.heap.size w W0 := hW0 ▸ (Below.refl _ w).alloc (Nat.le_refl _) _
  have hC0 : Cb W0 P N K B := by rw [← hW0, ← hP]; exact cb_new w _ _ _
  have K0 := fof_calls f hf1 hf3 W0
  have H0 : Hid (Below w.heap.size w W0 ∧ Cb W0 P N K B ∧ (Bs w q1 n1 xs ∧ n1 ≤ c1) ∧ (Ns .i64 w q2 n2 zs ∧ n2 ≤ c2) ∧ (Bs w q3 n3 ss ∧ n3 ≤ c3) ∧ Bs w q4 n4 ls ∧ n4 ≤ c4) := ⟨hb0, hC0, ⟨s1, d1⟩, ⟨s2, d2⟩, ⟨s3, d3⟩, s4, d4⟩
  clear hf hf1 hf3 hb0 hC0 s1 s2 s3 s4 d1 d2 d3 d4
  go_enter Tryz.func11, Tryz.ntmps11
  go_wp2_with fail
  refine K0.mono ?_
  rintro e w1 ⟨B_f, T_f, rfl, hF, hb, hlB, hlT⟩
  clear K0 hfi
  have hT1 : Tc f B_f T_f P N K B w w1 := ⟨⟨hF, But.of_below (H0.out.1.trans (hb.mono H0.out.1.size))⟩, H0.out.2.1.below hb, by have := H0.out.2.1.blt; omega⟩
  have HTf : Hid (w.heap.size ≤ T_f) := Nat.le_trans H0.out.1.size hlT
  have HX : Hid (∀ W, Tc f B_f T_f P N K B w W → Tl W T_f q1 n1 c1 xs ∧ Tz W T_f q2 n2 c2 zs ∧ Tl W T_f q3 n3 c3 ss ∧ Tl W T_f q4 n4 c4 ls) := fun W hW =>
    ⟨(⟨H0.out.2.2.1.1, H0.out.2.2.1.2, H0.out.2.2.1.1.off HTf.out⟩ : Tl w T_f q1 n1 c1 xs).but hW.tw.but,
     (⟨H0.out.2.2.2.1.1, H0.out.2.2.2.1.2, H0.out.2.2.2.1.1.off HTf.out⟩ : Tz w T_f q2 n2 c2 zs).but hW.tw.but,
     (⟨H0.out.2.2.2.2.1.1, H0.out.2.2.2.2.1.2, H0.out.2.2.2.2.1.1.off HTf.out⟩ : Tl w T_f q3 n3 c3 ss).but hW.tw.but,
     (⟨H0.out.2.2.2.2.2.1, H0.out.2.2.2.2.2.2, H0.out.2.2.2.2.2.1.off HTf.out⟩ : Tl w T_f q4 n4 c4 ls).but hW.tw.but⟩
  clear hF hb hlB hlT hW0 hP
  have K1 : Hid (∀ W, Tc f B_f T_f P N K B w W → _) := fun W hW => ksynd f B_f T_f P N K B N K B w q1 n1 c1 l xs ws HM.out.1 HM.out.2.1 W hW (HX.out W hW).1
  have K2 : Hid (∀ W, Tc f B_f T_f P N K B w W → _) := fun W hW => ksynd12 f B_f T_f P N K B N K B w q1 n1 c1 l xs ws HM.out.1 HM.out.2.1 W hW (HX.out W hW).1
  have K3 : Hid (∀ W, Tc f B_f T_f P N K B w W → _) := fun W hW => kera f B_f T_f P N K B N K B w q2 n2 c2 zs 13 HB.out.2.1 HM.out.2.2.2.2.2.1 W hW (HX.out W hW).2.1
  have K4 : Hid (∀ W, Tc f B_f T_f P N K B w W → _) := fun W hW => kera12 f B_f T_f P N K B N K B w q2 n2 c2 zs 13 HB.out.2.1 HM.out.2.2.2.2.2.1 W hW (HX.out W hW).2.1
  have K5 : Hid (∀ W, Tc f B_f T_f P N K B w W → _) := fun W hW => kloc f B_f T_f P N K B w q2 n2 c2 o zs HB.out.2.1 HM.out.2.2.1 W hW (HX.out W hW).2.1
  have K6 : Hid (∀ W, Tc f B_f T_f P N K B w W → _) := fun W hW => kloc12 f B_f T_f P N K B w q2 n2 c2 o zs HB.out.2.1 HM.out.2.2.1 W hW (HX.out W hW).2.1
  have K7 : Hid (∀ W, Tc f B_f T_f P N K B w W → _) := fun W hW => kmod f B_f T_f P N K B w q3 q4 n3 c3 n4 c4 ss ls HB.out.2.2.1 HB.out.2.2.2 W hW (HX.out W hW).2.2.1 (HX.out W hW).2.2.2
  have K8 : Hid (∀ W, Tc f B_f T_f P N K B w W → _) := fun W hW => kmod12 f B_f T_f P N K B w q3 q4 n3 c3 n4 c4 ss ls HB.out.2.2.1 HB.out.2.2.2 W hW (HX.out W hW).2.2.1 (HX.out W hW).2.2.2
  have KA : Hid (∀ W, Tc f B_f T_f P N K B w W → _) := fun W hW => ksor f B_f T_f P N K B w q2 n2 c2 m zs L HB.out.2.1 HM.out.2.2.2.1 HM.out.2.2.2.2.1 W hW (HX.out W hW).2.1
  have KB : Hid (∀ W, Tc f B_f T_f P N K B w W → _) := fun W hW => ksor12 f B_f T_f P N K B w q2 n2 c2 m zs L HB.out.2.1 HM.out.2.2.2.1 HM.out.2.2.2.2.1 W hW (HX.out W hW).2.1
  have K9 : Hid (∀ q p n c d xs W, Tc f B_f T_f P N K B w W → Tl W T_f q n c xs → Tl W T_f p n d xs → Calls Tryz.prog 18 #[.slice q n c, .slice p n d] W fun e w' => e = .returned (.bool true) ∧ Tc f B_f T_f P N K B w w' ∧ But (· = T_f) W w') := fun q p n c d xs W hW g1 g2 => ksame12 f B_f T_f P N K B w q p n c d xs W hW g1 g2
  have KI : Hid (∀ q p c d W, Tc f B_f T_f P N K B w W → Tz W T_f q m c L → Tz W T_f p m d L → Calls Tryz.prog 32 #[.slice q m c, .slice p m d] W fun e w' => e = .returned (.bool true) ∧ Tc f B_f T_f P N K B w w' ∧ But (· = T_f) W w') := fun q p c d W hW g1 g2 => kints f B_f T_f P N K B w q p m c d L HM.out.2.2.2.2.2.2 W hW g1 g2
  have hT0 := hT1.drew
  have hC := hT1.cb
  clear hT1
  have u0 := (hC).c0
  have u1 := (hC).c1
  have u2 := (hC).c2
  clear hC
  go_wp2
  go_region_held3 (fun w' => w'.cell? ⟨P, 0, none⟩ = some (.int .i64 N) ∧ w'.cell? ⟨P, 1, none⟩ = some (.int .i64 K) ∧ w'.cell? ⟨P, 2, none⟩ = some (.int .i64 B))
    (first | (with_reducible exact ⟨hTe.cb.c0, hTe.cb.c1, hTe.cb.c2⟩) | (with_reducible exact ⟨hTd.cb.c0, hTd.cb.c1, hTd.cb.c2⟩) | (with_reducible exact ⟨hTc.cb.c0, hTc.cb.c1, hTc.cb.c2⟩) | (with_reducible exact ⟨hTb.cb.c0, hTb.cb.c1, hTb.cb.c2⟩) | (with_reducible exact ⟨hTa.cb.c0, hTa.cb.c1, hTa.cb.c2⟩) | (with_reducible exact ⟨hT9.cb.c0, hT9.cb.c1, hT9.cb.c2⟩) | (with_reducible exact ⟨hT8.cb.c0, hT8.cb.c1, hT8.cb.c2⟩) | (with_reducible exact ⟨hT7.cb.c0, hT7.cb.c1, hT7.cb.c2⟩) | (with_reducible exact ⟨hT6.cb.c0, hT6.cb.c1, hT6.cb.c2⟩) | (with_reducible exact ⟨hT5.cb.c0, hT5.cb.c1, hT5.cb.c2⟩) | (with_reducible exact ⟨hT4.cb.c0, hT4.cb.c1, hT4.cb.c2⟩) | (with_reducible exact ⟨hT3.cb.c0, hT3.cb.c1, hT3.cb.c2⟩) | (with_reducible exact ⟨hT2.cb.c0, hT2.cb.c1, hT2.cb.c2⟩) | (with_reducible exact ⟨hT1.cb.c0, hT1.cb.c1, hT1.cb.c2⟩) | (with_reducible exact ⟨hT0.cb.c0, hT0.cb.c1, hT0.cb.c2⟩))
    (first
      | (go_at_call 17; with_reducible refine (K1.out _ hT0).mono ?_; rintro e x1 ⟨q1', c1', rfl, l1, hT1, -⟩)
      | (go_at_call 33; with_reducible refine (K2.out _ hT1).mono ?_; rintro e x2 ⟨q2', c2', rfl, l2, hT2, hb2⟩; have l12 := l1.but hb2)
      | (go_at_call 18; with_reducible refine (K9.out _ _ _ _ _ _ _ hT2 l12 l2).mono ?_; rintro e x3 ⟨rfl, hT3, -⟩)
      | (go_at_call 31; with_reducible refine (K3.out _ hT3).mono ?_; rintro e x4 ⟨rfl, hT4, -⟩)
      | (go_at_call 34; with_reducible refine (K4.out _ hT4).mono ?_; rintro e x5 ⟨rfl, hT5, -⟩)
      | (go_at_call 20; with_reducible refine (K5.out _ hT5).mono ?_; rintro e x6 ⟨q6, c6, rfl, l6, hT6, -⟩)
      | (go_at_call 35; with_reducible refine (K6.out _ hT6).mono ?_; rintro e x7 ⟨q7, c7, rfl, l7, hT7, hb7⟩; have l67 := l6.but hb7)
      | (go_at_call 18; with_reducible refine (K9.out _ _ _ _ _ _ _ hT7 l67 l7).mono ?_; rintro e x8 ⟨rfl, hT8, -⟩)
      | (go_at_call 29; with_reducible refine (K7.out _ hT8).mono ?_; rintro e x9 ⟨q9, c9, rfl, l9, hT9, -⟩)
      | (go_at_call 36; with_reducible refine (K8.out _ hT9).mono ?_; rintro e xa ⟨qa, ca, rfl, la, hTa, hba⟩; have l9a := l9.but hba)
      | (go_at_call 18; with_reducible refine (K9.out _ _ _ _ _ _ _ hTa l9a la).mono ?_; rintro e xb ⟨rfl, hTb, -⟩)
      | (go_at_call 30; with_reducible refine (KA.out _ hTb).mono ?_; rintro e xc ⟨qc, cc, rfl, lc, hTc, -⟩)
      | (go_at_call 37; with_reducible refine (KB.out _ hTc).mono ?_; rintro e xd ⟨qd, cd, rfl, ld, hTd, hbd⟩; have lcd := lc.but hbd)
      | (go_at_call 32; with_reducible refine (KI.out _ _ _ _ _ hTd lcd ld).mono ?_; rintro e xe ⟨rfl, hTe, -⟩))
  go_wp2
  go_ret
  exact ⟨rfl, hTe.tw.but.below (Nat.le_refl _) (by rintro k rfl; exact HTf.out)⟩
end Go.Proofs
/- The walk of erratumlaw12.asks: all calls of a code and of lists are what the chapter says. Conditions: any code; lists that are no great ones. -/
namespace Go.Proofs
open Go.RowKit Go.ChangeShapes Go.WideShapes
open Pol (IsN Dg ofL Byt vl)

theorem asks12_calls (j : Nat) (N K B : Int) (q1 q2 q3 q4 : Option Addr) (n1 c1 n2 c2 n3 c3 n4 c4 : Nat) (xs ss ls : List Nat) (zs : List Int) (b1 : n1 ≤ 1000000) (b2 : n2 ≤ 1000000) (b3 : n3 ≤ 1000000) (b4 : n4 ≤ 1000000) (w : World) (s1 : Bs w q1 n1 xs) (s2 : Ns .i64 w q2 n2 zs) (s3 : Bs w q3 n3 ss) (s4 : Bs w q4 n4 ls) (d1 : n1 ≤ c1) (d2 : n2 ≤ c2) (d3 : n3 ≤ c3) (d4 : n4 ≤ c4) :
    Calls Tryz.prog 11 #[.int .u8 j, .agg #[.int .i64 N, .int .i64 K, .int .i64 B], .slice q1 n1 c1, .slice q2 n2 c2, .slice q3 n3 c3, .slice q4 n4 c4] w fun e w' => e = .returned (.bool true) ∧ Below w.heap.size w w' := by
  by_cases h1 : erE N K B zs = 10
  · exact asks12_10 j N K B q1 q2 q3 q4 n1 c1 n2 c2 n3 c3 n4 c4 xs ss ls zs h1 b1 b2 b3 b4 w s1 s2 s3 s4 d1 d2 d3 d4
  · by_cases h2 : erE N K B zs = 0
    · exact asks12_0 j N K B q1 q2 q3 q4 n1 c1 n2 c2 n3 c3 n4 c4 xs ss ls zs h2 b1 b2 b3 b4 w s1 s2 s3 s4 d1 d2 d3 d4
    · have h3 : erE N K B zs = 13 := by
        unfold erE at h1 h2 ⊢
        split at h1 <;> split at h2 <;> simp_all
      exact asks12_13 j N K B q1 q2 q3 q4 n1 c1 n2 c2 n3 c3 n4 c4 xs ss ls zs h3 b1 b2 b3 b4 w s1 s2 s3 s4 d1 d2 d3 d4
end Go.Proofs
