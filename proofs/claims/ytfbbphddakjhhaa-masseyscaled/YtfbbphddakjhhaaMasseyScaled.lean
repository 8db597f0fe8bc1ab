/- MasseyScaled holds for every input: a list that is scaled has the same register, where it is alone; noughts have none. No conditions. -/
import Derived.Test.YtfbbphddakjhhaaRows
import Derived.Test.YtfbbphddakjhhaaMB
import Derived.Test.YtfbbphddakjhhaaQI
namespace Go.Proofs.Ytfbbphddakjhhaa.masseyScaled
open Go.ChangeShapes Go.WideShapes Go.ChangeAt Go.RowKit
open Pol (IsN Dg ofL Byt)

theorem make_u8 (n : Nat) (hn : n < 256) (w : World) :
    (Instr.makeSlice 22 (.int .u8 (n : Int)) (.int .u8 (n : Int))).run Try.prog w = .ok (.slice (some ⟨w.heap.size, 0, none⟩) n n) (w.alloc (.cells (madeCells #[.int .u8 0] n) 5)) := by
  obtain ⟨i, hi, hz, hs, hb⟩ := info_parts info_u8
  have hr := run_make (P := Try.prog) w 22 5 i (.int .u8 0) Try.underlying22 hi hz .u8 .u8 n n (by omega) (Int.le_refl _) (by rw [hb]; omega) (by omega)
  simp only [Int.toNat_natCast, hs, Nat.mul_one] at hr
  exact hr
theorem keach (k B T : Nat) (w0 : World) (a n c : Nat) (q : Option Addr) (xs ys : List Nat) (ha : a < 256) (hn : n ≤ 1000000000) (hys : xs.map (Gf.mul a) = ys) (W : World) (hW : Tw k B T w0 W) (hs : Tl W T q n c xs) :
    Calls Try.prog 14 #[.pointer (some ⟨B, 0, none⟩), .int .u8 a, .slice q n c] W fun e w' => ∃ q2 c2, e = .returned (.slice q2 n c2) ∧ Tl w' T q2 n c2 ys ∧ Tw k B T w0 w' ∧ But (· = T) W w' :=
  (feach_calls k B T a n c q xs ha hn hs.le W hW.fd hs.bs hs.off).mono fun e w' ⟨v, he, hO, hF, hb⟩ => by
    rw [hys] at hO
    obtain ⟨q2, c2, rfl, t⟩ := hO.tl (n := n) hW.lt (hys ▸ map_byte a xs ha) (by rw [← hys, List.length_map]; exact hs.bs.len)
    exact ⟨q2, c2, he, t, hW.next hF hb, hb⟩

set_option maxRecDepth 100000 in
set_option maxHeartbeats 8000000 in
theorem walk (j : Nat) (q : Option Addr) (n c : Nat) (xs : List Nat) (a t : Nat) (w : World) (_hj : j < 256) (hs : Bs w q n xs) (hc : n ≤ c ∧ c ≤ 140737488351232) (ha8 : a < 256) (ht8 : t < 256) :
    Calls Try.prog 5 #[.int .u8 j, .slice q n c, .int .u8 a, .int .u8 t] w fun e w' => e = .returned (.bool true) ∧ Below w.heap.size w w' := by
  by_cases hbig : n ≤ 40
  · have hbi : ¬ (40 : Int) < (n : Int) := by omega
    by_cases ha0 : a = 0
    · subst ha0
      have KN := known14_calls w
      clear hs hc hbig
      go_enter Try.func5, Try.ntmps5
      go_wp2_with fail
      refine KN.mono ?_
      rintro e_ w1 ⟨rfl, hb⟩
      clear KN
      go_wp2
      go_ret
      exact ⟨rfl, hb⟩
    · have ha0i : ¬ (a : Int) = 0 := by omega
      obtain ⟨f, hfe⟩ : ∃ f : Nat, 1 + j % 3 = f := ⟨_, rfl⟩
      have hf1 : 1 ≤ f := by omega
      have hf3 : f ≤ 3 := by omega
      have hfi : (1 : Int) + (j : Int) % 3 = (f : Int) := by omega
      have K0 := fof_calls f hf1 hf3 w
      obtain ⟨ys, hys⟩ : ∃ ys, xs.map (Gf.mul a) = ys := ⟨_, rfl⟩
      have hyl : ys.length = n := by rw [← hys, List.length_map]; exact hs.len
      have HX : Hid (Bs w q n xs ∧ n ≤ c ∧ n ≤ 40 ∧ a < 256 ∧ a ≠ 0 ∧ xs.length = n ∧ xs.map (Gf.mul a) = ys ∧ ys.length = n) := ⟨hs, hc.1, hbig, ha8, ha0, hs.len, hys, hyl⟩
      obtain ⟨z, hz⟩ : ∃ z, t % 40 = z := ⟨_, rfl⟩
      have hzi : (t : Int) % 40 = (z : Int) := by omega
      have hz4 : z < 40 := by omega
      clear hs hc hf1 hf3 hfe ha8 ha0 hys hyl
      go_enter Try.func5, Try.ntmps5
      go_wp2_with fail
      refine K0.mono ?_
      rintro e_ w1 ⟨B, T, rfl, hF, hb, hlB, hlT⟩
      clear K0 hfi hbi ha0i
      have HT : Hid (w.heap.size ≤ T) := hlT
      have hT1 : Tw f B T w w1 := ⟨hF, But.of_below hb⟩
      have l1 : Tl w1 T q n c xs := ⟨HX.out.1.below hb, HX.out.2.1, HX.out.1.off hlT⟩
      obtain ⟨L, hL⟩ := Ms.least_exists (ofL xs) n
      have K := kmassey f B T w q n c L xs (by omega) hL w1 hT1 l1
      have H1 : Hid (Tl w1 T q n c xs) := l1
      clear hF hb hlB hlT l1 hT1 hL
      go_wp2_with fail
      refine K.mono ?_
      rintro e_ w2 ⟨q2, n2, c2, rfl, ⟨ls, hl2, hls, l2⟩, hT2, hb2⟩
      clear K
      have hmy := hls.scale HX.out.2.2.2.2.2.2.1.symm HX.out.2.2.2.1 HX.out.2.2.2.2.1 HX.out.1.byte
      have hLn := hls.reg.le
      rw [HX.out.2.2.2.2.2.1] at hLn
      have HR : Hid (ls.length = n2 ∧ Ms.IsMas xs ls L ∧ Ms.IsMas ys ls L ∧ n2 ≤ 1000 ∧ L ≤ n) := by
        refine ⟨hl2, hls, hmy, ?_, hLn⟩
        have h1 := hls.nrm.dg.le hls.reg.bd
        omega
      have K := keach f B T w a n c q xs ys HX.out.2.2.2.1 (by omega) HX.out.2.2.2.2.2.2.1 w2 hT2 (H1.out.but hb2)
      have H2 : Hid (Tl w2 T q n c xs ∧ Tl w2 T q2 n2 c2 ls) := ⟨H1.out.but hb2, l2⟩
      clear hl2 hls l2 hT2 hb2 H1 hmy hLn
      go_wp2_with fail
      refine K.mono ?_
      rintro e_ w3 ⟨q3, c3, rfl, l3, hT3, hb3⟩
      clear K
      have hlst := HR.out.2.2.1.least
      rw [HX.out.2.2.2.2.2.2.2] at hlst
      have K := kmassey f B T w q3 n c3 L ys (by omega) hlst w3 hT3 l3
      have H3 : Hid (Tl w3 T q n c xs ∧ Tl w3 T q2 n2 c2 ls) := ⟨H2.out.1.but hb3, H2.out.2.but hb3⟩
      clear l3 hT3 hb3 H2 hlst
      go_wp2_with fail
      refine K.mono ?_
      rintro e_ w4 ⟨q4, n4, c4, rfl, ⟨ms, hl4, hms, l4⟩, hT4, hb4⟩
      clear K
      have hmk := make_u8 z (by omega) w4
      obtain ⟨W5, hW5⟩ : ∃ W5, w4.alloc (.cells (madeCells #[.int .u8 0] z) 5) = W5 := ⟨_, rfl⟩
      have hb5 : Below w4.heap.size w4 W5 := hW5 ▸ (Below.refl _ w4).alloc (Nat.le_refl _) _
      obtain ⟨A, hA⟩ : ∃ A, w4.heap.size = A := ⟨_, rfl⟩
      have l5 : Tl W5 T (some ⟨A, 0, none⟩) z z (List.replicate z 0) := by
        rw [← hW5, ← hA]
        exact ⟨bs_mk w4 z (by omega), Nat.le_refl _, off_new hT4.lt⟩
      have K := kmassey f B T w (some ⟨A, 0, none⟩) z z 0 (List.replicate z 0) (by omega) (Ms.least_zeros z) W5 (hT4.below hb5) l5
      have H5 : Hid (Tl W5 T q n c xs ∧ Tl W5 T q2 n2 c2 ls ∧ Tl W5 T q4 n4 c4 ms ∧ (2 * L ≤ n → ls = ms)) := ⟨(H3.out.1.but hb4).below hb5, (H3.out.2.but hb4).below hb5, l4.below hb5, fun h => HR.out.2.2.1.alone hms (by rw [HX.out.2.2.2.2.2.2.2]; exact h)⟩
      clear hl4 hms l4 hT4 hb4 hb5 l5 H3
      go_wp2_with fail
      refine K.mono ?_
      rintro e_ w6 ⟨q6, n6, c6, rfl, ⟨zs, hl6, hzs, l6⟩, hT6, hb6⟩
      clear K hmk hW5 hA
      obtain ⟨-, rfl⟩ := Ms.isMas_zero hzs
      obtain rfl : n6 = 1 := hl6.symm
      have KN := known14_calls w6
      have H6 : Hid (Tw f B T w w6 ∧ Tl w6 T q n c xs ∧ Tl w6 T q2 n2 c2 ls ∧ Tl w6 T q4 n4 c4 ms ∧ Tl w6 T q6 1 c6 [1]) := ⟨hT6, H5.out.1.but hb6, H5.out.2.1.but hb6, H5.out.2.2.1.but hb6, l6⟩
      clear hl6 hzs l6 hT6 hb6
      go_wp2_with fail
      refine KN.mono ?_
      rintro e_ w7 ⟨rfl, hb7⟩
      clear KN
      have K := keach f B T w a n c q xs ys HX.out.2.2.2.1 (by omega) HX.out.2.2.2.2.2.2.1 w7 (H6.out.1.below hb7) (H6.out.2.1.below hb7)
      have H7 : Hid (Tl w7 T q2 n2 c2 ls ∧ Tl w7 T q4 n4 c4 ms ∧ Tl w7 T q6 1 c6 [1]) := ⟨H6.out.2.2.1.below hb7, H6.out.2.2.2.1.below hb7, H6.out.2.2.2.2.below hb7⟩
      clear hb7 H6
      go_wp2_with fail
      refine K.mono ?_
      rintro e_ w8 ⟨q8, c8, rfl, l8, hT8, hb8⟩
      clear K
      have K := kmakes f B T w q2 q8 n2 c2 n c8 ls ys (L : Int) true ⟨fun _ => HR.out.2.2.1.mkZ, fun _ => rfl⟩ (by have := HR.out; omega) (by omega) w8 hT8 (H7.out.1.but hb8) l8
      have H8 : Hid (Tl w8 T q2 n2 c2 ls ∧ Tl w8 T q4 n4 c4 ms ∧ Tl w8 T q6 1 c6 [1]) := ⟨H7.out.1.but hb8, H7.out.2.1.but hb8, H7.out.2.2.but hb8⟩
      clear l8 hT8 hb8 H7
      go_wp2_with fail
      refine K.mono ?_
      rintro e_ w9 ⟨rfl, hT9, hb9⟩
      clear K
      have H9 : Hid (Tw f B T w w9 ∧ Tl w9 T q2 n2 c2 ls ∧ Tl w9 T q4 n4 c4 ms ∧ Tl w9 T q6 1 c6 [1]) := ⟨hT9, H8.out.1.but hb9, H8.out.2.1.but hb9, H8.out.2.2.but hb9⟩
      have hL6 : (L : Int) ≤ 40 := by have := HR.out.2.2.2.2; omega
      clear hT9 hb9 H8
      by_cases h2 : 2 * L ≤ n
      · have h2i : ¬ (n : Int) < (2 : Int) * (L : Int) := by omega
        have K := psame_calls q2 q4 n2 c2 n4 c4 ls ms true ⟨fun _ => by rw [H5.out.2.2.2 h2], fun _ => rfl⟩ H9.out.2.1.le H9.out.2.2.1.le w9 H9.out.2.1.bs H9.out.2.2.1.bs
        go_wp2_with fail
        refine K.mono ?_
        rintro e_ w10 ⟨rfl, hb10⟩
        clear K
        have hT10 := H9.out.1.below hb10
        have l10 := H9.out.2.2.2.below hb10
        have l11 := tl_lt w10 T [1] #[.int .u8 1] _ 1 hT10.lt rfl rfl rfl (by decide) (by decide)
        have K := ksame14 f B T w q6 _ 1 1 c6 1 [1] [1] true ⟨fun _ => rfl, fun _ => rfl⟩ _ (hT10.alloc _) (l10.alloc _) l11
        clear hb10 hT10 l10 l11
        go_wp2_with fail
        refine K.mono ?_
        rintro e_ w12 ⟨rfl, hT12, -⟩
        clear K
        have HZ : Hid (Below w.heap.size w w12) := hT12.but.below (Nat.le_refl _) (by rintro k rfl; exact HT.out)
        clear hT12
        go_wp2
        go_ret
        exact ⟨rfl, HZ.out⟩
      · have h2i : (n : Int) < (2 : Int) * (L : Int) := by omega
        have hT10 := H9.out.1
        have l10 := H9.out.2.2.2
        have l11 := tl_lt w9 T [1] #[.int .u8 1] _ 1 hT10.lt rfl rfl rfl (by decide) (by decide)
        have K := ksame14 f B T w q6 _ 1 1 c6 1 [1] [1] true ⟨fun _ => rfl, fun _ => rfl⟩ _ (hT10.alloc _) (l10.alloc _) l11
        clear hT10 l10 l11
        go_wp2_with fail
        refine K.mono ?_
        rintro e_ w12 ⟨rfl, hT12, -⟩
        clear K
        have HZ : Hid (Below w.heap.size w w12) := hT12.but.below (Nat.le_refl _) (by rintro k rfl; exact HT.out)
        clear hT12
        go_wp2
        go_ret
        exact ⟨rfl, HZ.out⟩
  · have hbi : (40 : Int) < (n : Int) := by omega
    have KN := known14_calls w
    clear hs hc hbig ha8 ht8
    go_enter Try.func5, Try.ntmps5
    go_wp2_with fail
    refine KN.mono ?_
    rintro e_ w1 ⟨rfl, hb⟩
    clear KN
    go_wp2
    go_ret
    exact ⟨rfl, hb⟩
theorem own : ownKnob Try.prog.godebug = none := by kernel_rfl
theorem laidOut : laidOutB Try.prog = true := by kernel_rfl
set_option maxRecDepth 100000 in
theorem lifted (os : Os) (started : os.Started) (H : Type) (enc : TypeId × Value → H) :
    ReturnsInHanded {} Try.checked os 5 .any (Rows.masseyScaledSpec.pre6 enc Try.prog Try.f5 Rows.masseyScaledRow.domain false) (Rows.masseyScaledSpec.post enc Try.prog Try.f5 false true false false) := by
  refine returnsInHanded_of_change_sized (C := Try.checked) own started (by kernel_rfl) Try.func5
    (ChangeSpec.witness6 (enc := enc) (C := Try.checked) false ⟨#[], #[.int .u8 0, .slice none 0 0, .int .u8 0, .int .u8 0], []⟩ 8 (by kernel_rfl) (by kernel_rfl) (by kernel_rfl) (by kernel_rfl)) ?_
  intro W base args ds gs before hval0 hW _ hz _
  have hval : ∀ (j : Nat) t v, Try.f5.params[j]? = some t → args[j]? = some v → Value.okWide Try.prog W .any base t v := hval0
  have hW' := hW
  obtain ⟨p, q, hA0, hV, rfl, _, _⟩ := hW
  have hA : DataW.TrodAll enc Try.prog W 0 (fun _ => true) true Try.f5.params.toList args.toList ds p := hA0
  rw [Try.params5] at hA hval
  obtain ⟨v0, vs0, d0, ds0, p0, q0, hargs, rfl, rfl, h0, r0⟩ := trodAll_cons hA
  obtain ⟨v1, vs1, d1, ds1, p1, q1, rfl, rfl, rfl, h1, r1⟩ := trodAll_cons r0
  obtain ⟨v2, vs2, d2, ds2, p2, q2, rfl, rfl, rfl, h2, r2⟩ := trodAll_cons r1
  obtain ⟨v3, vs3, d3, ds3, p3, q3, rfl, rfl, rfl, h3, r3⟩ := trodAll_cons r2
  obtain ⟨rfl, rfl, rfl⟩ := trodAll_nil r3
  obtain rfl : args = #[v0, v1, v2, v3] := by cases args; simp_all
  obtain ⟨rfl, rfl⟩ := trodVars_none hV
  obtain ⟨a0, rfl, rfl, rfl, w0⟩ := open_int Try.underlying5 (hval 0 5 v0 rfl rfl) h0
  obtain ⟨n0, b0, rfl⟩ := nat_of_u8 w0
  have k1 := h1
  obtain ⟨q1, n1, c1, xs1, rfl, w1, m1⟩ := open_bytes_sz Try.underlying22 Try.underlying5 (by kernel_rfl) (hval 1 22 v1 rfl rfl) h1
  have y1 : n1 ≤ c1 ∧ c1 ≤ 140737488351232 := ⟨m1.1, m1.2 _ fun el sp hd => by have := sized_slice (j := 1) (t := 22) (e := 5) (elems := el) (spare := sp) hz (by kernel_rfl) (by first | (rw [← hd]; done) | (rw [← hd]; rfl)) Try.underlying22; have hbe : Try.checked.prog.bytesOf 5 = 1 := (by kernel_rfl); have hre : reachBytes = 140737488351232 := rfl; rw [hbe, hre] at this; omega⟩
  obtain ⟨a2, rfl, rfl, rfl, w2⟩ := open_int Try.underlying5 (hval 2 5 v2 rfl rfl) h2
  obtain ⟨n2, b2, rfl⟩ := nat_of_u8 w2
  obtain ⟨a3, rfl, rfl, rfl, w3⟩ := open_int Try.underlying5 (hval 3 5 v3 rfl rfl) h3
  obtain ⟨n3, b3, rfl⟩ := nat_of_u8 w3
  clear hA0 hval0
  simp only [List.append_nil] at hW'
  refine (walk (w := W) n0 q1 n1 c1 xs1 n2 n3 b0 w1 y1 b2 b3).mono fun e W' ⟨he, bel⟩ => ?_
  subst he
  exact ⟨_, rfl, _, _, _, [], _, [], hW', trodAll_mk1 (shut_bool Try.underlying4 _), (trodAll_cons_mk (shut_int Try.underlying5 w0) (trodAll_cons_mk (shut_same laidOut (by kernel_rfl) (of_decide_eq_true (by kernel_rfl)) k1 bel) (trodAll_cons_mk (shut_int Try.underlying5 w2) (trodAll_cons_mk (shut_int Try.underlying5 w3) trodAll_mk0)))), rfl, bel.frame _, fun h => by cases h⟩
theorem over : Rows.masseyScaledRow.holds Try.pinned (OpenSpec.ofChange Rows.masseyScaledSpec) :=
  OpenClaim.holds_of_wide 5 Try.f5 rfl rfl rfl rfl rfl rfl rfl ⟨rfl, rfl, rfl, rfl, rfl⟩ rfl rfl rfl rfl rfl (by kernel_rfl) Try.func5 (by kernel_rfl)
    (of_decide_eq_true (by kernel_rfl)) (by unfold Func.isWrapper; first | (rw [if_pos (by decide +kernel)]; kernel_rfl) | (rw [if_neg (by decide +kernel)]; exact ⟨rfl, rfl⟩))
    (fun os started H enc _ => lifted os started H enc)
theorem proved : Rows.MasseyScaledSaid := over
#print axioms proved
end Go.Proofs.Ytfbbphddakjhhaa.masseyScaled
