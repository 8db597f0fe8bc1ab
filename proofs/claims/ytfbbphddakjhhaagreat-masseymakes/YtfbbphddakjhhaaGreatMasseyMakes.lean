/- MasseyMakes holds for every input: Makes and Next of any lists and lengths, and of choices, are what the chapter says. No conditions. -/
import Derived.Test.YtfbbphddakjhhaaGreatRows
import Derived.Test.YtfbbphddakjhhaaGreatMB
import Derived.Test.YtfbbphddakjhhaaGreatQJ
namespace Go.Proofs.YtfbbphddakjhhaaGreat.masseyMakes
open Go.ChangeShapes Go.WideShapes Go.ChangeAt Go.RowKit
open Pol (IsN Dg ofL Byt)
attribute [local go_sem ↓ high] builtin_ap
attribute [local go_sem] ap_sem

set_option maxRecDepth 100000 in
set_option maxHeartbeats 8000000 in
theorem walk (j : Nat) (q : Option Addr) (n c : Nat) (xs : List Nat) (p : Option Addr) (m d : Nat) (ys : List Nat) (z : Int) (r : Option Addr) (l g : Nat) (fs : List Nat) (e t : Nat) (w : World) (_hj : j < 256) (hs : Bs w q n xs) (hc : n ≤ c ∧ c ≤ 140737488351232) (hf : Bs w p m ys) (hd : m ≤ d ∧ d ≤ 140737488351232) (_hz1 : -9223372036854775808 ≤ z) (_hz2 : z < 9223372036854775808) (hg : Bs w r l fs) (hl : l ≤ g ∧ g ≤ 140737488351232) (he : e < 256) (ht : t < 256) :
    Calls Tryz.prog 3 #[.int .u8 j, .slice q n c, .slice p m d, .int .i64 z, .slice r l g, .int .u8 e, .int .u8 t] w fun e w' => e = .returned (.bool true) ∧ Below w.heap.size w w' := by
  have hwnm : IntKind.i64.wrap ((n : Int) + (m : Int)) = (n : Int) + (m : Int) := by rw [IntKind.wrap_i64]; omega
  have hwnl : IntKind.i64.wrap ((n : Int) + (m : Int) + (l : Int)) = (n : Int) + (m : Int) + (l : Int) := by rw [IntKind.wrap_i64]; omega
  have hnot : ∀ (x : Bool) (w : World), (Op.unary .not (.bool x)).run Tryz.prog w = .ok (.bool (!x)) w := fun _ _ => rfl
  have KN := known14_calls w
  clear _hz1 _hz2
  by_cases hbig : n + m + l ≤ 120
  · have hbi : ¬ (120 : Int) < (n : Int) + (m : Int) + (l : Int) := by omega
    have HX : Hid (Bs w q n xs ∧ n ≤ c ∧ Bs w p m ys ∧ m ≤ d ∧ Bs w r l fs ∧ l ≤ g ∧ n ≤ 120 ∧ m ≤ 120 ∧ l ≤ 120) := ⟨hs, hc.1, hf, hd.1, hg, hl.1, by omega, by omega, by omega⟩
    clear hs hc hf hd hg hl hbig
    go_enter Tryz.func3, Tryz.ntmps3
    go_wp2_with fail
    refine KN.mono ?_
    rintro e_ w1 ⟨rfl, hb1⟩
    clear KN hwnm hwnl hbi
    obtain ⟨k, hk⟩ : ∃ k, min n 5 = k := ⟨_, rfl⟩
    have hki : (if (5 : Int) < (n : Int) then 5 else (n : Int)) = (k : Int) := by split <;> omega
    have hkc : (k : Int) ≤ (c : Int) := by have := HX.out.2.1; omega
    have hk5 : k ≤ 5 := by omega
    obtain ⟨own, how⟩ : ∃ own, xs.take k = own := ⟨_, rfl⟩
    obtain ⟨N, hN⟩ : ∃ N, e % 20 = N := ⟨_, rfl⟩
    have hNi : (e : Int) % 20 = (N : Int) := by omega
    have hN6 : N ≤ 19 := by omega
    have so : Bs w q k own := by rw [← how]; exact bs_take HX.out.1 k (by omega)
    obtain ⟨ts, hts⟩ : ∃ ts, Ms.mdL own fs N = ts := ⟨_, rfl⟩
    have hoc := HX.out.2.1
    have HM : Hid (Bs w q k own ∧ own.length = k ∧ Ms.mdL own fs N = ts ∧ Byt own ∧ k ≤ 5 ∧ N ≤ 19 ∧ ts.length = N ∧ Byt ts ∧ k ≤ c) := ⟨so, so.len, hts, so.byte, hk5, hN6, hts ▸ Ms.mdL_length own fs N, hts ▸ Ms.mdL_byt HX.out.2.2.2.2.1.byte N, by omega⟩
    have K := lmade_calls q r k c l g N own fs (by omega) (by omega) w1 (so.below hb1) (HX.out.2.2.2.2.1.below hb1)
    rw [hts] at K
    have H1 : Hid (Below w.heap.size w w1) := hb1
    clear hb1 hk how hN so hts hoc
    go_wp2_with fail
    refine K.mono ?_
    rintro e_ w2 ⟨v2, rfl, hO2, hb2⟩
    clear K
    obtain ⟨q2, c2, rfl, S2, C2, -⟩ := hO2.tell (n := N) HM.out.2.2.2.2.2.2.2.1 HM.out.2.2.2.2.2.2.1
    have H2 : Hid (Below w.heap.size w w2) := H1.out.trans (hb2.mono H1.out.size)
    -- the register of choices
    obtain ⟨W6, hW6⟩ : ∃ W6, w2.alloc (.cells #[.int .u8 1] 5) = W6 := ⟨_, rfl⟩
    have hb6 : Below w2.heap.size w2 W6 := hW6 ▸ (Below.refl _ w2).alloc (Nat.le_refl _) _
    have hO6 : Ow W6 w2.heap.size (.slice (some ⟨w2.heap.size, 0, none⟩) 1 1) [1] := by rw [← hW6]; exact ow_one w2 (Nat.le_refl _) 1
    obtain ⟨v7, W7, hap, hO7, hg7⟩ := run_append_list W6 w2.heap.size _ [1] q k c own hO6 ((HM.out.1.below H2.out).below hb6) (by simp; omega) hb6.size
    have hb7 : Below w2.heap.size w2 W7 := hb6.grown hg7 hb6.size (fun k hk => (hO6.lt k hk).1)
    have hbz : Byt (1 :: own) := fun i => by
      cases i with
      | zero => exact (by decide : (1 : Nat) < 256)
      | succ i => exact HM.out.2.2.2.1 i
    obtain ⟨g9, hg9⟩ : ∃ g9, k + 1 = g9 := ⟨_, rfl⟩
    obtain ⟨q7, c7, rfl, S7, C7, -⟩ := hO7.tell (n := g9) hbz (by show (1 :: own).length = _; rw [List.length_cons, HM.out.2.1, hg9])
    -- the bent one
    obtain ⟨v8, W8, hap8, hO8, hg8⟩ := run_append_list W7 W7.heap.size (.slice none 0 0) [] q2 N c2 ts (ow_nil _ _) (S2.below hb7) (by simp; omega) (Nat.le_refl _)
    rw [List.nil_append] at hO8
    have hb8 : Below W7.heap.size W7 W8 := (Below.refl _ W7).grown hg8 (Nat.le_refl _) (fun k hk => by cases hk)
    have H8 : Hid (Below w.heap.size w W8 ∧ Bs W8 q2 N ts ∧ N ≤ c2 ∧ Bs W8 q7 g9 (1 :: own) ∧ g9 ≤ c7 ∧ g9 ≤ 6 ∧ Ow W8 W7.heap.size v8 ts ∧ Below W7.heap.size W7 W8 ∧ w.heap.size ≤ W7.heap.size) := by
      have hbb := hb7.trans (hb8.mono hb7.size)
      exact ⟨H2.out.trans (hbb.mono H2.out.size), S2.below hbb, C2, S7.below hb8, C7, by omega, hO8, hb8, Nat.le_trans H2.out.size hb7.size⟩
    have HBW : Hid (Bs W7 q2 N ts ∧ Bs W7 q7 g9 (1 :: own) ∧ Below w.heap.size w W7) := ⟨S2.below hb7, S7, H2.out.trans (hb7.mono H2.out.size)⟩
    have ha1 := ap_ok hap
    have ha2 := ap_v hap
    have ha3 := ap_w hap
    have ha4 := ap_ok hap8
    have ha5 := ap_v hap8
    have ha6 := ap_w hap8
    obtain ⟨kk, hkk⟩ : ∃ kk, k + t % 3 = kk := ⟨_, rfl⟩
    have hkki : (k : Int) + (t : Int) % 3 = (kk : Int) := by omega
    have hkk6 : (kk : Int) ≤ 100 := by omega
    clear hO2 hb2 S2 C2 hb6 hO6 hap hO7 hg7 hb7 hbz hg9 S7 C7 hap8 hO8 hg8 hb8 H1 hkk
    obtain ⟨qb, nb, cb, rfl⟩ := H8.out.2.2.2.2.2.2.1.isSlice
    obtain ⟨q9, c9, e9, S9, C9, -⟩ := H8.out.2.2.2.2.2.2.1.tell (n := N) HM.out.2.2.2.2.2.2.2.1 HM.out.2.2.2.2.2.2.1
    obtain ⟨rfl, rfl, rfl⟩ : q9 = qb ∧ N = nb ∧ c9 = cb := by cases e9; exact ⟨rfl, rfl, rfl⟩
    clear e9
    by_cases hN0 : 0 < N
    · have hN0i : (0 : Int) < (N : Int) := by omega
      obtain ⟨i, hi⟩ : ∃ i, t % N = i := ⟨_, rfl⟩
      have hiN : i < N := by rw [← hi]; exact Nat.mod_lt _ hN0
      have hiNi : (i : Int) < (N : Int) := by omega
      have hi0 : (0 : Int) ≤ (i : Int) := by omega
      have hmod : (t : Int).tmod (N : Int) = (i : Int) := by rw [← hi]; exact (Int.ofNat_tmod t N).symm
      have hNz : ((N : Int) = 0) = False := eq_false (by omega)
      have hNN : (N = 0) = False := eq_false (by omega)
      have hut : IntKind.i64.wrap (t : Int) = (t : Int) := wrap_nat t (by omega)
      obtain ⟨g8, hg8, hgb⟩ : ∃ g8, q9 = some ⟨g8, 0, none⟩ ∧ W7.heap.size ≤ g8 := by
        rcases H8.out.2.2.2.2.2.2.1.shape with ⟨_, h0⟩ | ⟨g8, cap, e8, hg8, -⟩
        · have h1 := congrArg List.length h0
          rw [HM.out.2.2.2.2.2.2.1] at h1
          exact absurd h1 (by simp; omega)
        · cases e8; exact ⟨g8, rfl, hg8⟩
      subst hg8
      have h9 := H8.out.2.2.2.2.2.2.1.at HM.out.2.2.2.2.2.2.1.symm i hiN
      have hxc := h9.1
      have hxf := h9.2
      obtain ⟨x, hx⟩ : ∃ x, ts.getD i 0 = x := ⟨_, rfl⟩
      rw [hx] at hxc
      have hx8 : x < 256 := by rw [← hx]; exact HM.out.2.2.2.2.2.2.2.1 i
      have hxo : bits .xor .u8 (x : Int) 1 = ((x ^^^ 1 : Nat) : Int) := u8_xor_nat x 1 hx8 (by decide)
      have hy8 : x ^^^ 1 < 256 := Gf.xor_lt8 hx8 (by decide)
      obtain ⟨y, hy⟩ : ∃ y, x ^^^ 1 = y := ⟨_, rfl⟩
      rw [hy] at hxo hy8
      obtain ⟨us, hus⟩ : ∃ us, ts.set i y = us := ⟨_, rfl⟩
      obtain ⟨W9, hW9⟩ : ∃ W9, W8.setCell ⟨g8, i, none⟩ (.int .u8 (y : Nat)) = W9 := ⟨_, rfl⟩
      have hO9 : Ow W9 W7.heap.size (.slice (some ⟨g8, 0, none⟩) N c9) us := by rw [← hW9, ← hus]; exact H8.out.2.2.2.2.2.2.1.set HM.out.2.2.2.2.2.2.1.symm i y
      have hb9 : Below W7.heap.size W7 W9 := by rw [← hW9]; exact H8.out.2.2.2.2.2.2.2.1.setCell (p := ⟨g8, i, none⟩) hgb _
      have hub : Byt us := fun a => by
        rw [← hus, Mx.getD_set]
        split
        · exact hy8
        · exact HM.out.2.2.2.2.2.2.2.1 a
      obtain ⟨qu, cu, eu, su, -, -⟩ := hO9.tell (n := N) hub (by rw [← hus, List.length_set]; exact HM.out.2.2.2.2.2.2.1)
      obtain ⟨rfl, rfl⟩ : qu = some ⟨g8, 0, none⟩ ∧ cu = c9 := by cases eu; exact ⟨rfl, rfl⟩
      clear eu
      have HF : Hid (Below w.heap.size w W9 ∧ Bs W9 q2 N ts ∧ Bs W9 q7 g9 (1 :: own) ∧ Bs W9 (some ⟨g8, 0, none⟩) N us) := ⟨HBW.out.2.2.trans (hb9.mono HBW.out.2.2.size), HBW.out.1.below hb9, HBW.out.2.1.below hb9, su⟩
      clear hi hiN h9 hx hx8 hy hy8 hus hO9 hb9 hub su S9 hgb
      have K := lmakes_calls j q p n c m d xs ys z (by have := HX.out; omega) (by have := HX.out; omega) HX.out.2.1 HX.out.2.2.2.1 W9 (HX.out.1.below HF.out.1) (HX.out.2.2.1.below HF.out.1)
      go_wp2_with fail
      refine K.mono ?_
      rintro e_ x1 ⟨rfl, hb⟩
      clear K
      have HF1 : Hid (Below w.heap.size w x1 ∧ Bs x1 q2 N ts ∧ Bs x1 q7 g9 (1 :: own) ∧ Bs x1 (some ⟨g8, 0, none⟩) N us) := ⟨HF.out.1.trans (hb.mono HF.out.1.size), HF.out.2.1.below hb, HF.out.2.2.1.below hb, HF.out.2.2.2.below hb⟩
      clear hb HF
      have K := lmakes_calls j q7 q2 g9 c7 N c2 (1 :: own) ts (k : Int) (by have := H8.out; omega) (by omega) H8.out.2.2.2.2.1 H8.out.2.2.1 x1 HF1.out.2.2.1 HF1.out.2.1
      go_wp2_with fail
      refine K.mono ?_
      rintro e_ x2 ⟨rfl, hb⟩
      clear K
      have HF2 : Hid (Below w.heap.size w x2 ∧ Bs x2 q2 N ts ∧ Bs x2 q7 g9 (1 :: own) ∧ Bs x2 (some ⟨g8, 0, none⟩) N us) := ⟨HF1.out.1.trans (hb.mono HF1.out.1.size), HF1.out.2.1.below hb, HF1.out.2.2.1.below hb, HF1.out.2.2.2.below hb⟩
      clear hb HF1
      have K := lmakes_calls j q7 q2 g9 c7 N c2 (1 :: own) ts (kk : Int) (by have := H8.out; omega) (by omega) H8.out.2.2.2.2.1 H8.out.2.2.1 x2 HF2.out.2.2.1 HF2.out.2.1
      go_wp2_with fail
      refine K.mono ?_
      rintro e_ x3 ⟨rfl, hb⟩
      clear K
      have HF3 : Hid (Below w.heap.size w x3 ∧ Bs x3 q7 g9 (1 :: own) ∧ Bs x3 (some ⟨g8, 0, none⟩) N us) := ⟨HF2.out.1.trans (hb.mono HF2.out.1.size), HF2.out.2.2.1.below hb, HF2.out.2.2.2.below hb⟩
      clear hb HF2
      have K := lmakes_calls j q7 (some ⟨g8, 0, none⟩) g9 c7 N cu (1 :: own) us (k : Int) (by have := H8.out; omega) (by omega) H8.out.2.2.2.2.1 C9 x3 HF3.out.2.1 HF3.out.2.2
      go_wp2_with fail
      refine K.mono ?_
      rintro e_ x4 ⟨rfl, hb⟩
      clear K
      have HF4 : Hid (Below w.heap.size w x4) := HF3.out.1.trans (hb.mono HF3.out.1.size)
      clear hb HF3
      have K := lmakes_calls j q p n c m d xs ys ((t : Int) % 9) (by have := HX.out; omega) (by have := HX.out; omega) HX.out.2.1 HX.out.2.2.2.1 x4 (HX.out.1.below HF4.out) (HX.out.2.2.1.below HF4.out)
      go_wp2_with fail
      refine K.mono ?_
      rintro e_ x5 ⟨rfl, hb⟩
      clear K
      have HZ : Hid (Below w.heap.size w x5) := HF4.out.trans (hb.mono HF4.out.size)
      clear hb HF4
      go_wp2
      go_ret
      exact ⟨rfl, HZ.out⟩
    · have hN0i : ¬ (0 : Int) < (N : Int) := by omega
      obtain ⟨us, hus⟩ : ∃ us, ts = us := ⟨_, rfl⟩
      have HF : Hid (Below w.heap.size w W8 ∧ Bs W8 q2 N ts ∧ Bs W8 q7 g9 (1 :: own) ∧ Bs W8 q9 N us) := ⟨H8.out.1, H8.out.2.1, H8.out.2.2.2.1, hus ▸ S9⟩
      clear S9 hus
      have K := lmakes_calls j q p n c m d xs ys z (by have := HX.out; omega) (by have := HX.out; omega) HX.out.2.1 HX.out.2.2.2.1 W8 (HX.out.1.below HF.out.1) (HX.out.2.2.1.below HF.out.1)
      go_wp2_with fail
      refine K.mono ?_
      rintro e_ x1 ⟨rfl, hb⟩
      clear K
      have HF1 : Hid (Below w.heap.size w x1 ∧ Bs x1 q2 N ts ∧ Bs x1 q7 g9 (1 :: own) ∧ Bs x1 q9 N us) := ⟨HF.out.1.trans (hb.mono HF.out.1.size), HF.out.2.1.below hb, HF.out.2.2.1.below hb, HF.out.2.2.2.below hb⟩
      clear hb HF
      have K := lmakes_calls j q7 q2 g9 c7 N c2 (1 :: own) ts (k : Int) (by have := H8.out; omega) (by omega) H8.out.2.2.2.2.1 H8.out.2.2.1 x1 HF1.out.2.2.1 HF1.out.2.1
      go_wp2_with fail
      refine K.mono ?_
      rintro e_ x2 ⟨rfl, hb⟩
      clear K
      have HF2 : Hid (Below w.heap.size w x2 ∧ Bs x2 q2 N ts ∧ Bs x2 q7 g9 (1 :: own) ∧ Bs x2 q9 N us) := ⟨HF1.out.1.trans (hb.mono HF1.out.1.size), HF1.out.2.1.below hb, HF1.out.2.2.1.below hb, HF1.out.2.2.2.below hb⟩
      clear hb HF1
      have K := lmakes_calls j q7 q2 g9 c7 N c2 (1 :: own) ts (kk : Int) (by have := H8.out; omega) (by omega) H8.out.2.2.2.2.1 H8.out.2.2.1 x2 HF2.out.2.2.1 HF2.out.2.1
      go_wp2_with fail
      refine K.mono ?_
      rintro e_ x3 ⟨rfl, hb⟩
      clear K
      have HF3 : Hid (Below w.heap.size w x3 ∧ Bs x3 q7 g9 (1 :: own) ∧ Bs x3 q9 N us) := ⟨HF2.out.1.trans (hb.mono HF2.out.1.size), HF2.out.2.2.1.below hb, HF2.out.2.2.2.below hb⟩
      clear hb HF2
      have K := lmakes_calls j q7 q9 g9 c7 N c9 (1 :: own) us (k : Int) (by have := H8.out; omega) (by omega) H8.out.2.2.2.2.1 C9 x3 HF3.out.2.1 HF3.out.2.2
      go_wp2_with fail
      refine K.mono ?_
      rintro e_ x4 ⟨rfl, hb⟩
      clear K
      have HF4 : Hid (Below w.heap.size w x4) := HF3.out.1.trans (hb.mono HF3.out.1.size)
      clear hb HF3
      have K := lmakes_calls j q p n c m d xs ys ((t : Int) % 9) (by have := HX.out; omega) (by have := HX.out; omega) HX.out.2.1 HX.out.2.2.2.1 x4 (HX.out.1.below HF4.out) (HX.out.2.2.1.below HF4.out)
      go_wp2_with fail
      refine K.mono ?_
      rintro e_ x5 ⟨rfl, hb⟩
      clear K
      have HZ : Hid (Below w.heap.size w x5) := HF4.out.trans (hb.mono HF4.out.size)
      clear hb HF4
      go_wp2
      go_ret
      exact ⟨rfl, HZ.out⟩
  · have hbi : (120 : Int) < (n : Int) + (m : Int) + (l : Int) := by omega
    clear hs hc hf hd hg hl hbig
    go_enter Tryz.func3, Tryz.ntmps3
    go_wp2_with fail
    refine KN.mono ?_
    rintro e_ w1 ⟨rfl, hb⟩
    clear KN
    go_wp2
    go_ret
    exact ⟨rfl, hb⟩
theorem own : ownKnob Tryz.prog.godebug = none := by kernel_rfl
theorem laidOut : laidOutB Tryz.prog = true := by kernel_rfl
set_option maxRecDepth 100000 in
theorem lifted (os : Os) (started : os.Started) (H : Type) (enc : TypeId × Value → H) :
    ReturnsInHanded {} Tryz.checked os 3 .any (Rows.masseyMakesSpec.pre6 enc Tryz.prog Tryz.f3 Rows.masseyMakesRow.domain false) (Rows.masseyMakesSpec.post enc Tryz.prog Tryz.f3 false true false false) := by
  refine returnsInHanded_of_change_sized (C := Tryz.checked) own started (by kernel_rfl) Tryz.func3
    (ChangeSpec.witness6 (enc := enc) (C := Tryz.checked) false ⟨#[], #[.int .u8 0, .slice none 0 0, .slice none 0 0, .int .i64 0, .slice none 0 0, .int .u8 0, .int .u8 0], []⟩ 8 (by kernel_rfl) (by kernel_rfl) (by kernel_rfl) (by kernel_rfl)) ?_
  intro W base args ds gs before hval0 hW _ hz _
  have hval : ∀ (j : Nat) t v, Tryz.f3.params[j]? = some t → args[j]? = some v → Value.okWide Tryz.prog W .any base t v := hval0
  have hW' := hW
  obtain ⟨p, q, hA0, hV, rfl, _, _⟩ := hW
  have hA : DataW.TrodAll enc Tryz.prog W 0 (fun _ => true) true Tryz.f3.params.toList args.toList ds p := hA0
  rw [Tryz.params3] at hA hval
  obtain ⟨v0, vs0, d0, ds0, p0, q0, hargs, rfl, rfl, h0, r0⟩ := trodAll_cons hA
  obtain ⟨v1, vs1, d1, ds1, p1, q1, rfl, rfl, rfl, h1, r1⟩ := trodAll_cons r0
  obtain ⟨v2, vs2, d2, ds2, p2, q2, rfl, rfl, rfl, h2, r2⟩ := trodAll_cons r1
  obtain ⟨v3, vs3, d3, ds3, p3, q3, rfl, rfl, rfl, h3, r3⟩ := trodAll_cons r2
  obtain ⟨v4, vs4, d4, ds4, p4, q4, rfl, rfl, rfl, h4, r4⟩ := trodAll_cons r3
  obtain ⟨v5, vs5, d5, ds5, p5, q5, rfl, rfl, rfl, h5, r5⟩ := trodAll_cons r4
  obtain ⟨v6, vs6, d6, ds6, p6, q6, rfl, rfl, rfl, h6, r6⟩ := trodAll_cons r5
  obtain ⟨rfl, rfl, rfl⟩ := trodAll_nil r6
  obtain rfl : args = #[v0, v1, v2, v3, v4, v5, v6] := by cases args; simp_all
  obtain ⟨rfl, rfl⟩ := trodVars_none hV
  obtain ⟨a0, rfl, rfl, rfl, w0⟩ := open_int Tryz.underlying5 (hval 0 5 v0 rfl rfl) h0
  obtain ⟨n0, b0, rfl⟩ := nat_of_u8 w0
  have k1 := h1
  obtain ⟨q1, n1, c1, xs1, rfl, w1, m1⟩ := open_bytes_sz Tryz.underlying22 Tryz.underlying5 (by kernel_rfl) (hval 1 22 v1 rfl rfl) h1
  have y1 : n1 ≤ c1 ∧ c1 ≤ 140737488351232 := ⟨m1.1, m1.2 _ fun el sp hd => by have := sized_slice (j := 1) (t := 22) (e := 5) (elems := el) (spare := sp) hz (by kernel_rfl) (by first | (rw [← hd]; done) | (rw [← hd]; rfl)) Tryz.underlying22; have hbe : Tryz.checked.prog.bytesOf 5 = 1 := (by kernel_rfl); have hre : reachBytes = 140737488351232 := rfl; rw [hbe, hre] at this; omega⟩
  have k2 := h2
  obtain ⟨q2, n2, c2, xs2, rfl, w2, m2⟩ := open_bytes_sz Tryz.underlying22 Tryz.underlying5 (by kernel_rfl) (hval 2 22 v2 rfl rfl) h2
  have y2 : n2 ≤ c2 ∧ c2 ≤ 140737488351232 := ⟨m2.1, m2.2 _ fun el sp hd => by have := sized_slice (j := 2) (t := 22) (e := 5) (elems := el) (spare := sp) hz (by kernel_rfl) (by first | (rw [← hd]; done) | (rw [← hd]; rfl)) Tryz.underlying22; have hbe : Tryz.checked.prog.bytesOf 5 = 1 := (by kernel_rfl); have hre : reachBytes = 140737488351232 := rfl; rw [hbe, hre] at this; omega⟩
  obtain ⟨a3, rfl, rfl, rfl, w3⟩ := open_int Tryz.underlying3 (hval 3 3 v3 rfl rfl) h3
  obtain ⟨b3, c3⟩ := int_of_i64 w3
  have k4 := h4
  obtain ⟨q4, n4, c4, xs4, rfl, w4, m4⟩ := open_bytes_sz Tryz.underlying22 Tryz.underlying5 (by kernel_rfl) (hval 4 22 v4 rfl rfl) h4
  have y4 : n4 ≤ c4 ∧ c4 ≤ 140737488351232 := ⟨m4.1, m4.2 _ fun el sp hd => by have := sized_slice (j := 4) (t := 22) (e := 5) (elems := el) (spare := sp) hz (by kernel_rfl) (by first | (rw [← hd]; done) | (rw [← hd]; rfl)) Tryz.underlying22; have hbe : Tryz.checked.prog.bytesOf 5 = 1 := (by kernel_rfl); have hre : reachBytes = 140737488351232 := rfl; rw [hbe, hre] at this; omega⟩
  obtain ⟨a5, rfl, rfl, rfl, w5⟩ := open_int Tryz.underlying5 (hval 5 5 v5 rfl rfl) h5
  obtain ⟨n5, b5, rfl⟩ := nat_of_u8 w5
  obtain ⟨a6, rfl, rfl, rfl, w6⟩ := open_int Tryz.underlying5 (hval 6 5 v6 rfl rfl) h6
  obtain ⟨n6, b6, rfl⟩ := nat_of_u8 w6
  clear hA0 hval0
  simp only [List.append_nil] at hW'
  refine (walk (w := W) n0 q1 n1 c1 xs1 q2 n2 c2 xs2 a3 q4 n4 c4 xs4 n5 n6 b0 w1 y1 w2 y2 b3 c3 w4 y4 b5 b6).mono fun e W' ⟨he, bel⟩ => ?_
  subst he
  exact ⟨_, rfl, _, _, _, [], _, [], hW', trodAll_mk1 (shut_bool Tryz.underlying4 _), (trodAll_cons_mk (shut_int Tryz.underlying5 w0) (trodAll_cons_mk (shut_same laidOut (by kernel_rfl) (of_decide_eq_true (by kernel_rfl)) k1 bel) (trodAll_cons_mk (shut_same laidOut (by kernel_rfl) (of_decide_eq_true (by kernel_rfl)) k2 bel) (trodAll_cons_mk (shut_int Tryz.underlying3 w3) (trodAll_cons_mk (shut_same laidOut (by kernel_rfl) (of_decide_eq_true (by kernel_rfl)) k4 bel) (trodAll_cons_mk (shut_int Tryz.underlying5 w5) (trodAll_cons_mk (shut_int Tryz.underlying5 w6) trodAll_mk0))))))), rfl, bel.frame _, fun h => by cases h⟩
theorem over : Rows.masseyMakesRow.holds Tryz.pinned (OpenSpec.ofChange Rows.masseyMakesSpec) :=
  OpenClaim.holds_of_wide 3 Tryz.f3 rfl rfl rfl rfl rfl rfl rfl ⟨rfl, rfl, rfl, rfl, rfl⟩ rfl rfl rfl rfl rfl (by kernel_rfl) Tryz.func3 (by kernel_rfl)
    (of_decide_eq_true (by kernel_rfl)) (by unfold Func.isWrapper; first | (rw [if_pos (by decide +kernel)]; kernel_rfl) | (rw [if_neg (by decide +kernel)]; exact ⟨rfl, rfl⟩))
    (fun os started H enc _ => lifted os started H enc)
theorem proved : Rows.MasseyMakesSaid := over
#print axioms proved
end Go.Proofs.YtfbbphddakjhhaaGreat.masseyMakes
