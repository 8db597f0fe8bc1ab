/- MasseyFront holds for every input: of a longer list the length is no less; one byte more makes it longer just if the register does not make that. No conditions. -/
import Derived.Test.YtfbbphddakjhhaaRows
import Derived.Test.YtfbbphddakjhhaaMB
import Derived.Test.YtfbbphddakjhhaaQI
namespace Go.Proofs.Ytfbbphddakjhhaa.masseyFront
open Go.ChangeShapes Go.WideShapes Go.ChangeAt Go.RowKit
open Pol (IsN Dg ofL Byt)
attribute [local go_sem ↓ high] builtin_ap
attribute [local go_sem] ap_sem

set_option maxRecDepth 100000 in
set_option maxHeartbeats 8000000 in
theorem walk (j : Nat) (q : Option Addr) (n c : Nat) (xs : List Nat) (b : Nat) (w : World) (_hj : j < 256) (hs : Bs w q n xs) (hc : n ≤ c ∧ c ≤ 140737488351232) (hb8 : b < 256) :
    Calls Try.prog 4 #[.int .u8 j, .slice q n c, .int .u8 b] w fun e w' => e = .returned (.bool true) ∧ Below w.heap.size w w' := by
  by_cases hbig : n ≤ 40
  · have hbi : ¬ (40 : Int) < (n : Int) := by omega
    obtain ⟨f, hfe⟩ : ∃ f : Nat, 1 + j % 3 = f := ⟨_, rfl⟩
    have hf1 : 1 ≤ f := by omega
    have hf3 : f ≤ 3 := by omega
    have hfi : (1 : Int) + (j : Int) % 3 = (f : Int) := by omega
    have K0 := fof_calls f hf1 hf3 w
    have HX : Hid (Bs w q n xs ∧ n ≤ c ∧ n ≤ 40 ∧ b < 256 ∧ xs.length = n) := ⟨hs, hc.1, hbig, hb8, hs.len⟩
    clear hs hc hf1 hf3 hfe hb8
    go_enter Try.func4, Try.ntmps4
    go_wp2_with fail
    refine K0.mono ?_
    rintro e_ w1 ⟨B, T, rfl, hF, hb, hlB, hlT⟩
    clear K0 hfi hbi
    have HT : Hid (w.heap.size ≤ T) := hlT
    have hT1 : Tw f B T w w1 := ⟨hF, But.of_below hb⟩
    have l1 : Tl w1 T q n c xs := ⟨HX.out.1.below hb, HX.out.2.1, HX.out.1.off hlT⟩
    obtain ⟨L, hL⟩ := Ms.least_exists (ofL xs) n
    have K := kmassey f B T w q n c L xs (by omega) hL w1 hT1 l1
    have H1 : Hid (Tl w1 T q n c xs) := l1
    clear hF hb hlB hlT l1 hT1 hL
    go_wp2_with fail
    refine K.mono ?_
    rintro e_ w2 ⟨q2, n2, c2, rfl, ⟨ls, hl2, hls, l2⟩, hT2, hb2⟩
    clear K
    obtain ⟨v, hv⟩ : ∃ v, Ms.nxv ls xs = v := ⟨_, rfl⟩
    have hfl := Ms.front_least HX.out.2.2.2.1 hls
    have hLn := hls.reg.le
    rw [HX.out.2.2.2.2] at hLn hfl
    rw [hv] at hfl
    obtain ⟨M, hM⟩ : ∃ M, (if v ≠ b ∧ 2 * L ≤ n then n + 1 - L else L) = M := ⟨_, rfl⟩
    rw [hM] at hfl
    -- the longer list
    have l1 := H1.out.but hb2
    obtain ⟨v3, W3, hap, hO3, hg3⟩ := run_append_list w2 w2.heap.size (.slice none 0 0) [] q n c xs (ow_nil _ _) l1.bs (by simp; omega) (Nat.le_refl _)
    have hb3 : Below w2.heap.size w2 W3 := (Below.refl _ w2).grown hg3 (Nat.le_refl _) (fun k hk => by cases hk)
    obtain ⟨g, cg, W4, hap4, hO4, hb4⟩ := run_append_one W3 w2.heap.size v3 xs b hO3 (by rw [HX.out.2.2.2.2]; omega) hb3.size
    obtain ⟨n1, hn1⟩ : ∃ n1, n + 1 = n1 := ⟨_, rfl⟩
    have hlen : (xs ++ [b]).length = n1 := by rw [List.length_append, HX.out.2.2.2.2]; exact hn1
    rw [hlen] at hap4 hO4
    have hbb : Byt (xs ++ [b]) := Pol.byt_append HX.out.1.byte (fun i => by
      match i with
      | 0 => exact HX.out.2.2.2.1
      | i + 1 => exact (by decide : (0 : Nat) < 256))
    have hb24 : Below w2.heap.size w2 W4 := hb3.trans (hb4 _ (Nat.le_refl _))
    obtain ⟨q5, c5, e5, l5⟩ := hO4.tl (T := T) hT2.lt hbb hlen
    cases e5
    have H4 : Hid (Tw f B T w W4 ∧ Tl W4 T q n c xs ∧ Tl W4 T q2 n2 c2 ls ∧ Tl W4 T (some ⟨g, 0, none⟩) n1 cg (xs ++ [b])) := ⟨hT2.below hb24, l1.below hb24, l2.below hb24, l5⟩
    have HR : Hid (ls.length = n2 ∧ Ms.IsMas xs ls L ∧ Ms.nxv ls xs = v ∧ Ms.Least (ofL (xs ++ [b])) n1 M ∧ n2 ≤ 1000) := by
      refine ⟨hl2, hls, hv, hn1 ▸ hfl, ?_⟩
      have h1 := hls.nrm.dg.le hls.reg.bd
      omega
    have K := knext f B T w q2 q n2 c2 n c ls xs (L : Int) true v ⟨fun _ => hls.mkZ, fun _ => rfl⟩ (by rw [if_pos rfl]; exact hv.symm) (by have := HR.out; omega) (by omega) W4 H4.out.1 H4.out.2.2.1 H4.out.2.1
    have ha1 := ap_ok hap
    have ha2 := ap_v hap
    have ha3 := ap_w hap
    have ha4 := ap_ok hap4
    have ha5 := ap_v hap4
    have ha6 := ap_w hap4
    have HMM : Hid ((if v ≠ b ∧ 2 * L ≤ n then n + 1 - L else L) = M ∧ L ≤ n ∧ n + 1 = n1) := ⟨hM, hLn, hn1⟩
    clear hl2 hls l2 hT2 hb2 hv hfl hM l1 hap hO3 hg3 hb3 hap4 hO4 hb4 hlen hbb hb24 l5 H1 hLn hn1
    go_wp2_with fail
    refine K.mono ?_
    rintro e_ w5 ⟨rfl, hT5, hb5⟩
    clear K ha1 ha2 ha3 ha4 ha5 ha6
    have K := kmlen f B T w (some ⟨g, 0, none⟩) n1 cg M (xs ++ [b]) (by have := HMM.out; omega) HR.out.2.2.2.1 w5 hT5 (H4.out.2.2.2.but hb5)
    clear hT5 hb5
    go_wp2_with fail
    refine K.mono ?_
    rintro e_ w6 ⟨rfl, hT6, hb6⟩
    clear K
    have KN := known14_calls w6
    have HTL : Hid (Tw f B T w w6) := hT6
    have hL6 : (L : Int) ≤ 40 := by have := HMM.out.2.1; omega
    have hn6 : (n : Int) ≤ 40 := by omega
    have hL0 : (L : Int) ≤ (n : Int) := by have := HMM.out.2.1; omega
    clear hT6 hb6
    by_cases hvb : v = b
    · have hvbi : ((v : Int) != (b : Int)) = false := by rw [hvb]; simp
      have hML : M = L := by rw [← HMM.out.1, if_neg (fun hc => hc.1 hvb)]
      subst hML
      clear hvb
      go_wp2_with fail
      refine KN.mono ?_
      rintro e_ w7 ⟨rfl, hb7⟩
      clear KN
      have HZ : Hid (Below w.heap.size w w7) := (HTL.out.below hb7).but.below (Nat.le_refl _) (by rintro k rfl; exact HT.out)
      clear hb7
      go_wp2
      go_ret
      exact ⟨rfl, HZ.out⟩
    · have hvbi : ((v : Int) != (b : Int)) = true := by
        rw [bne_iff_ne]; omega
      by_cases h2 : 2 * L ≤ n
      · have h2i : (2 : Int) * (L : Int) ≤ (n : Int) := by omega
        have hMi : (n : Int) + 1 - (L : Int) = (M : Int) := by
          have h3 := HMM.out.1
          rw [if_pos ⟨hvb, h2⟩] at h3
          omega
        have hML : (L : Int) ≤ (M : Int) := by omega
        clear hvb
        go_wp2_with fail
        refine KN.mono ?_
        rintro e_ w7 ⟨rfl, hb7⟩
        clear KN
        have HZ : Hid (Below w.heap.size w w7) := (HTL.out.below hb7).but.below (Nat.le_refl _) (by rintro k rfl; exact HT.out)
        clear hb7
        go_wp2
        go_ret
        exact ⟨rfl, HZ.out⟩
      · have h2i : ¬ (2 : Int) * (L : Int) ≤ (n : Int) := by omega
        have hML : M = L := by rw [← HMM.out.1, if_neg (fun hc => h2 hc.2)]
        subst hML
        clear hvb
        go_wp2_with fail
        refine KN.mono ?_
        rintro e_ w7 ⟨rfl, hb7⟩
        clear KN
        have HZ : Hid (Below w.heap.size w w7) := (HTL.out.below hb7).but.below (Nat.le_refl _) (by rintro k rfl; exact HT.out)
        clear hb7
        go_wp2
        go_ret
        exact ⟨rfl, HZ.out⟩
  · have hbi : (40 : Int) < (n : Int) := by omega
    have KN := known14_calls w
    clear hs hc hbig hb8
    go_enter Try.func4, Try.ntmps4
    go_wp2_with fail
    refine KN.mono ?_
    rintro e_ w1 ⟨rfl, hb⟩
    clear KN
    go_wp2
    go_ret
    exact ⟨rfl, hb⟩
theorem own : ownKnob Try.prog.godebug = none := by kernel_rfl
theorem laidOut : laidOutB Try.prog = true := by kernel_rfl
set_option maxRecDepth 100000 in
theorem lifted (os : Os) (started : os.Started) (H : Type) (enc : TypeId × Value → H) :
    ReturnsInHanded {} Try.checked os 4 .any (Rows.masseyFrontSpec.pre6 enc Try.prog Try.f4 Rows.masseyFrontRow.domain false) (Rows.masseyFrontSpec.post enc Try.prog Try.f4 false true false false) := by
  refine returnsInHanded_of_change_sized (C := Try.checked) own started (by kernel_rfl) Try.func4
    (ChangeSpec.witness6 (enc := enc) (C := Try.checked) false ⟨#[], #[.int .u8 0, .slice none 0 0, .int .u8 0], []⟩ 8 (by kernel_rfl) (by kernel_rfl) (by kernel_rfl) (by kernel_rfl)) ?_
  intro W base args ds gs before hval0 hW _ hz _
  have hval : ∀ (j : Nat) t v, Try.f4.params[j]? = some t → args[j]? = some v → Value.okWide Try.prog W .any base t v := hval0
  have hW' := hW
  obtain ⟨p, q, hA0, hV, rfl, _, _⟩ := hW
  have hA : DataW.TrodAll enc Try.prog W 0 (fun _ => true) true Try.f4.params.toList args.toList ds p := hA0
  rw [Try.params4] at hA hval
  obtain ⟨v0, vs0, d0, ds0, p0, q0, hargs, rfl, rfl, h0, r0⟩ := trodAll_cons hA
  obtain ⟨v1, vs1, d1, ds1, p1, q1, rfl, rfl, rfl, h1, r1⟩ := trodAll_cons r0
  obtain ⟨v2, vs2, d2, ds2, p2, q2, rfl, rfl, rfl, h2, r2⟩ := trodAll_cons r1
  obtain ⟨rfl, rfl, rfl⟩ := trodAll_nil r2
  obtain rfl : args = #[v0, v1, v2] := by cases args; simp_all
  obtain ⟨rfl, rfl⟩ := trodVars_none hV
  obtain ⟨a0, rfl, rfl, rfl, w0⟩ := open_int Try.underlying5 (hval 0 5 v0 rfl rfl) h0
  obtain ⟨n0, b0, rfl⟩ := nat_of_u8 w0
  have k1 := h1
  obtain ⟨q1, n1, c1, xs1, rfl, w1, m1⟩ := open_bytes_sz Try.underlying22 Try.underlying5 (by kernel_rfl) (hval 1 22 v1 rfl rfl) h1
  have y1 : n1 ≤ c1 ∧ c1 ≤ 140737488351232 := ⟨m1.1, m1.2 _ fun el sp hd => by have := sized_slice (j := 1) (t := 22) (e := 5) (elems := el) (spare := sp) hz (by kernel_rfl) (by first | (rw [← hd]; done) | (rw [← hd]; rfl)) Try.underlying22; have hbe : Try.checked.prog.bytesOf 5 = 1 := (by kernel_rfl); have hre : reachBytes = 140737488351232 := rfl; rw [hbe, hre] at this; omega⟩
  obtain ⟨a2, rfl, rfl, rfl, w2⟩ := open_int Try.underlying5 (hval 2 5 v2 rfl rfl) h2
  obtain ⟨n2, b2, rfl⟩ := nat_of_u8 w2
  clear hA0 hval0
  simp only [List.append_nil] at hW'
  refine (walk (w := W) n0 q1 n1 c1 xs1 n2 b0 w1 y1 b2).mono fun e W' ⟨he, bel⟩ => ?_
  subst he
  exact ⟨_, rfl, _, _, _, [], _, [], hW', trodAll_mk1 (shut_bool Try.underlying4 _), (trodAll_cons_mk (shut_int Try.underlying5 w0) (trodAll_cons_mk (shut_same laidOut (by kernel_rfl) (of_decide_eq_true (by kernel_rfl)) k1 bel) (trodAll_cons_mk (shut_int Try.underlying5 w2) trodAll_mk0))), rfl, bel.frame _, fun h => by cases h⟩
theorem over : Rows.masseyFrontRow.holds Try.pinned (OpenSpec.ofChange Rows.masseyFrontSpec) :=
  OpenClaim.holds_of_wide 4 Try.f4 rfl rfl rfl rfl rfl rfl rfl ⟨rfl, rfl, rfl, rfl, rfl⟩ rfl rfl rfl rfl rfl (by kernel_rfl) Try.func4 (by kernel_rfl)
    (of_decide_eq_true (by kernel_rfl)) (by unfold Func.isWrapper; first | (rw [if_pos (by decide +kernel)]; kernel_rfl) | (rw [if_neg (by decide +kernel)]; exact ⟨rfl, rfl⟩))
    (fun os started H enc _ => lifted os started H enc)
theorem proved : Rows.MasseyFrontSaid := over
#print axioms proved
end Go.Proofs.Ytfbbphddakjhhaa.masseyFront
