/- QuotNone holds for every input: without a field nothing is told; nothing is divided by nothing. No conditions. -/
import Derived.Test.YtphhehppcfddgaaRows
import Derived.Test.YtphhehppcfddgaaMB
import Derived.Test.YtphhehppcfddgaaKnown06
import Derived.Test.YtphhehppcfddgaaMK
namespace Go.Proofs.Ytphhehppcfddgaa.quotNone
open Go.ChangeShapes Go.WideShapes Go.ChangeAt Go.RowKit
open Pol (IsN Dg ofL Byt)

/-- make([]byte, n), n a byte. -/
theorem make_bytes8 (n : Nat) (hn : n ≤ 1000) (w : World) :
    (Instr.makeSlice 22 (.int .u8 (n : Int)) (.int .u8 (n : Int))).run Try.prog w = .ok (.slice (some ⟨w.heap.size, 0, none⟩) n n) (w.alloc (.cells (madeCells #[.int .u8 0] n) 5)) := by
  obtain ⟨i, hi, hz, hs, hb⟩ := info_parts info_u8
  have hr := run_make (P := Try.prog) w 22 5 i (.int .u8 0) Try.underlying22 hi hz .u8 .u8 n n (by omega) (Int.le_refl _) (by rw [hb]; omega) (by omega)
  simp only [Int.toNat_natCast, hs, Nat.mul_one] at hr
  exact hr
theorem bs_made (W : World) (n : Nat) (hn : n ≤ 1000) : Bs (W.alloc (.cells (madeCells #[.int .u8 0] n) 5)) (some ⟨W.heap.size, 0, none⟩) n (List.replicate n 0) := by
  obtain ⟨q, c, e, hb, -⟩ := (ow_made W (Nat.le_refl _) n (by omega)).tell (n := n) (Pol.byt_rep n) (by simp)
  cases e
  exact hb
set_option maxRecDepth 100000 in
set_option maxHeartbeats 4000000 in
theorem walk (j : Nat) (q : Option Addr) (n c : Nat) (xs : List Nat) (o : Nat) (w : World) (hj : j < 256) (S_p : Bs w q n xs) (y_p : n ≤ c ∧ c ≤ 140737488351232) (ho : o < 256) :
    Calls Try.prog 7 #[.int .u8 j, .slice q n c, .int .u8 o] w fun e w' => e = .returned (.bool true) ∧ Below w.heap.size w w' := by
  obtain ⟨k, hk⟩ : ∃ k : Nat, 1 + j % 3 = k := ⟨_, rfl⟩
  have hk1 : 1 ≤ k := by omega
  have hk3 : k ≤ 3 := by omega
  have hki : (1 : Int) + (j : Int) % 3 = (k : Int) := by omega
  obtain ⟨z, hz⟩ : ∃ z : Nat, o % 9 = z := ⟨_, rfl⟩
  have hzi : (o : Int) % 9 = (z : Int) := by omega
  have hz9 : z ≤ 1000 := by omega
  have hmk := make_bytes8 z hz9
  clear hk hz
  have HB : Below w.heap.size w w := Below.refl _ _
  have Cp := y_p.1
  clear y_p
  go_enter Try.func7, Try.ntmps7
  by_cases hbig : 100 < n
  · have hb1 : (100 : Int) < (n : Int) := by omega
    go_wp2_with fail
    refine (known06_calls _).mono ?_
    rintro e w1 ⟨rfl, hb⟩
    replace HB := HB.trans (hb.mono HB.size)
    replace S_p := S_p.below hb
    clear hb
    go_wp2
    go_ret
    exact ⟨rfl, HB⟩
  · have hb1 : ((100 : Int) < (n : Int)) = False := eq_false (by omega)
    have hn9 : n ≤ 1000000000 := by omega
    have HU : Hid (n ≤ 1000000000) := hn9
    clear hbig hn9
    go_wp2_with fail
    refine (fof_calls k hk1 hk3 _).mono ?_
    rintro e w1 ⟨B_f, T_f, rfl, HF_f, hb, hlB, hlT⟩
    have HL_f : w.heap.size ≤ T_f := Nat.le_trans HB.size hlT
    have Q_p_f := S_p.off hlT
    replace HB := HB.trans (hb.mono HB.size)
    replace S_p := S_p.below hb
    clear hb hlB hlT
    clear hb1 hki
    go_wp2_with fail
    have S_o : Bs (w1.alloc (.cells #[.int .u8 1] 5)) (some ⟨w1.heap.size, 0, none⟩) 1 [1] := bs_lits w1 _ [1] _ 1 rfl (by first | rfl | simp) rfl rfl (by simp)
    have Q_o_f : Off T_f 1 (some ⟨w1.heap.size, 0, none⟩) := off_at (by have := HF_f.lt; (try simp at this); omega)
    replace HF_f := HF_f.alloc (.cells #[.int .u8 1] 5)
    replace S_p := S_p.alloc (.cells #[.int .u8 1] 5)
    replace HB := HB.alloc HB.size (.cells #[.int .u8 1] 5)
    go_wp2_with fail
    refine (qdiv_nil n c 1 1 q _ [1] _ S_o).mono ?_
    rintro e w2 ⟨rfl, hb⟩
    replace HB := HB.trans (hb.mono HB.size)
    replace HF_f := HF_f.below hb
    replace S_p := S_p.below hb
    replace S_o := S_o.below hb
    clear hb
    clear S_o
    go_wp2_with fail
    have S_z := bs_made w2 z hz9
    replace HF_f := HF_f.alloc (.cells (madeCells #[.int .u8 0] z) 5)
    replace S_p := S_p.alloc (.cells (madeCells #[.int .u8 0] z) 5)
    replace HB := HB.alloc HB.size (.cells (madeCells #[.int .u8 0] z) 5)
    go_wp2_with fail
    refine (qexact_zero k B_f T_f n c z z q _ (List.replicate z 0) (by rw [Pol.ofL_rep]; exact Pol.dg_zero) _ HF_f S_z).mono ?_
    rintro e w3 ⟨rfl, hF, hb⟩
    replace HB := HB.trans (hb.below HB.size (by rintro k rfl; exact HL_f))
    replace S_p := S_p.but hb Q_p_f
    clear HF_f hb
    have HF_f := hF
    clear hF
    clear S_z hmk hzi hz9
    go_wp2_with fail
    refine (qmod_zero k B_f T_f n c 0 0 q none [] dg_nil _ HF_f (bs_nil _)).mono ?_
    rintro e w4 ⟨rfl, hF, hb⟩
    replace HB := HB.trans (hb.below HB.size (by rintro k rfl; exact HL_f))
    replace S_p := S_p.but hb Q_p_f
    clear HF_f hb
    have HF_f := hF
    clear hF
    go_wp2_with fail
    refine (known06_calls _).mono ?_
    rintro e w5 ⟨rfl, hb⟩
    replace HB := HB.trans (hb.mono HB.size)
    replace HF_f := HF_f.below hb
    replace S_p := S_p.below hb
    clear hb
    go_wp2_with fail
    refine (qgcd_nil n c n c q q xs xs _ S_p S_p).mono ?_
    rintro e w6 ⟨rfl, hb⟩
    replace HB := HB.trans (hb.mono HB.size)
    replace HF_f := HF_f.below hb
    replace S_p := S_p.below hb
    clear hb
    go_wp2_with fail
    refine (qmonic_nil n c q xs _ S_p).mono ?_
    rintro e w7 ⟨rfl, hb⟩
    replace HB := HB.trans (hb.mono HB.size)
    replace HF_f := HF_f.below hb
    replace S_p := S_p.below hb
    clear hb
    obtain ⟨dp, hdp, gp⟩ := Pol.dg_list xs
    cases dp with
    | zero =>
      go_wp2_with fail
      refine (qgcd_zero k B_f T_f n c 0 0 q none xs [] gp dg_nil _ HF_f S_p (bs_nil _) Q_p_f).mono ?_
      rintro e w8 ⟨rfl, hF, hb⟩
      replace HB := HB.trans (hb.below HB.size (by rintro k rfl; exact HL_f))
      replace S_p := S_p.but hb Q_p_f
      clear HF_f hb
      have HF_f := hF
      clear hF
      go_wp2_with fail
      refine (qmonic_zero k B_f T_f n c q xs gp _ HF_f S_p).mono ?_
      rintro e w9 ⟨rfl, hF, hb⟩
      replace HB := HB.trans (hb.below HB.size (by rintro k rfl; exact HL_f))
      replace S_p := S_p.but hb Q_p_f
      clear HF_f hb
      have HF_f := hF
      clear hF
      go_wp2_with fail
      refine (psame_calls none none 0 0 0 0 [] [] true (iff_of_true rfl rfl) (Nat.le_refl _) (Nat.le_refl _) _ (bs_nil _) (bs_nil _)).mono ?_
      rintro e w10 ⟨rfl, hb⟩
      replace HB := HB.trans (hb.mono HB.size)
      replace HF_f := HF_f.below hb
      replace S_p := S_p.below hb
      clear hb
      go_wp2
      go_ret
      exact ⟨rfl, HB⟩
    | succ dp =>
      have hm := gp.monic
      have hg : Pol.IsGcd (Pol.smul (GF.inv (ofL xs dp)) (ofL xs)) (ofL xs) (ofL []) := by rw [Pol.ofL_nil]; exact (Pol.IsGcd.zero _).smul (GF.inv_ne_zero (gp.top (by omega)))
      obtain ⟨lg, hlg, blg⟩ := Pol.isN_smul (GF.inv (ofL xs dp)) xs
      obtain ⟨ng, nge⟩ : ∃ ng, lg.length = ng := ⟨_, rfl⟩
      have HH : Hid (IsN lg (Pol.smul (GF.inv (ofL xs dp)) (ofL xs)) ∧ lg.length = ng ∧ Dg (dp + 1) (ofL xs) ∧ Pol.Mon dp (Pol.smul (GF.inv (ofL xs dp)) (ofL xs)) ∧ Pol.IsGcd (Pol.smul (GF.inv (ofL xs dp)) (ofL xs)) (ofL xs) (ofL [])) := ⟨hlg, nge, gp, hm, hg⟩
      clear gp hdp hm hg hlg blg nge
      go_wp2_with fail
      refine (qgcd_calls k B_f T_f n c 0 0 q none xs [] lg _ dp HH.out.1 HH.out.2.2.2.1 HH.out.2.2.2.2 (.inl HH.out.2.2.1.ne_zero) HU.out (by decide) Cp (Nat.le_refl _) _ HF_f S_p (bs_nil _) Q_p_f (fun h => absurd h (Nat.lt_irrefl 0))).mono ?_
      rintro e w8 ⟨v, rfl, hO, hF, hb⟩
      obtain ⟨q_a, c_a, rfl, S_a, C_a, hQ⟩ := hO.tell (n := ng) HH.out.1.byt HH.out.2.1
      clear hO
      have Q_a_f := hQ _ HF_f.lt
      clear hQ
      replace HB := HB.trans (hb.below HB.size (by rintro k rfl; exact HL_f))
      replace S_p := S_p.but hb Q_p_f
      clear HF_f hb
      have HF_f := hF
      clear hF
      go_wp2_with fail
      refine (qmonic_calls k B_f T_f n c dp q xs lg HH.out.2.2.1 HH.out.1 HU.out Cp _ HF_f S_p Q_p_f).mono ?_
      rintro e w9 ⟨v, rfl, hO, hF, hb⟩
      obtain ⟨q_b, c_b, rfl, S_b, C_b, hQ⟩ := hO.tell (n := ng) HH.out.1.byt HH.out.2.1
      clear hO
      have Q_b_f := hQ _ HF_f.lt
      clear hQ
      replace HB := HB.trans (hb.below HB.size (by rintro k rfl; exact HL_f))
      replace S_p := S_p.but hb Q_p_f
      replace S_a := S_a.but hb Q_a_f
      clear HF_f hb
      have HF_f := hF
      clear hF
      go_wp2_with fail
      refine (psame_calls q_a q_b ng c_a ng c_b lg lg true (iff_of_true rfl rfl) C_a C_b _ S_a S_b).mono ?_
      rintro e w10 ⟨rfl, hb⟩
      replace HB := HB.trans (hb.mono HB.size)
      replace HF_f := HF_f.below hb
      replace S_p := S_p.below hb
      replace S_a := S_a.below hb
      replace S_b := S_b.below hb
      clear hb
      go_wp2
      go_ret
      exact ⟨rfl, HB⟩
theorem own : ownKnob Try.prog.godebug = none := by kernel_rfl
theorem laidOut : laidOutB Try.prog = true := by kernel_rfl
set_option maxRecDepth 100000 in
theorem lifted (os : Os) (started : os.Started) (H : Type) (enc : TypeId × Value → H) :
    ReturnsInHanded {} Try.checked os 7 .any (Rows.quotNoneSpec.pre6 enc Try.prog Try.f7 Rows.quotNoneRow.domain false) (Rows.quotNoneSpec.post enc Try.prog Try.f7 false true false false) := by
  refine returnsInHanded_of_change_sized (C := Try.checked) own started (by kernel_rfl) Try.func7
    (ChangeSpec.witness6 (enc := enc) (C := Try.checked) false ⟨#[], #[.int .u8 0, .slice none 0 0, .int .u8 0], []⟩ 8 (by kernel_rfl) (by kernel_rfl) (by kernel_rfl) (by kernel_rfl)) ?_
  intro W base args ds gs before hval0 hW _ hz _
  have hval : ∀ (j : Nat) t v, Try.f7.params[j]? = some t → args[j]? = some v → Value.okWide Try.prog W .any base t v := hval0
  have hW' := hW
  obtain ⟨p, q, hA0, hV, rfl, _, _⟩ := hW
  have hA : DataW.TrodAll enc Try.prog W 0 (fun _ => true) true Try.f7.params.toList args.toList ds p := hA0
  rw [Try.params7] at hA hval
  obtain ⟨v0, vs0, d0, ds0, p0, q0, hargs, rfl, rfl, h0, r0⟩ := trodAll_cons hA
  obtain ⟨v1, vs1, d1, ds1, p1, q1, rfl, rfl, rfl, h1, r1⟩ := trodAll_cons r0
  obtain ⟨v2, vs2, d2, ds2, p2, q2, rfl, rfl, rfl, h2, r2⟩ := trodAll_cons r1
  obtain ⟨rfl, rfl, rfl⟩ := trodAll_nil r2
  obtain rfl : args = #[v0, v1, v2] := by cases args; simp_all
  obtain ⟨rfl, rfl⟩ := trodVars_none hV
  obtain ⟨a0, rfl, rfl, rfl, w0⟩ := open_int Try.underlying5 (hval 0 5 v0 rfl rfl) h0
  obtain ⟨n0, b0, rfl⟩ := nat_of_u8 w0
  have k1 := h1
  obtain ⟨q1, n1, c1, xs1, rfl, w1, m1⟩ := open_bytes_sz Try.underlying22 Try.underlying5 (by kernel_rfl) (hval 1 22 v1 rfl rfl) h1
  have y1 : n1 ≤ c1 ∧ c1 ≤ 140737488351232 := ⟨m1.1, m1.2 _ fun el sp hd => by have := sized_slice (j := 1) (t := 22) (e := 5) (elems := el) (spare := sp) hz (by kernel_rfl) (by first | (rw [← hd]; done) | (rw [← hd]; rfl)) Try.underlying22; have hbe : Try.checked.prog.bytesOf 5 = 1 := (by kernel_rfl); have hre : reachBytes = 140737488351232 := rfl; rw [hbe, hre] at this; omega⟩
  obtain ⟨a2, rfl, rfl, rfl, w2⟩ := open_int Try.underlying5 (hval 2 5 v2 rfl rfl) h2
  obtain ⟨n2, b2, rfl⟩ := nat_of_u8 w2
  clear hA0 hval0
  simp only [List.append_nil] at hW'
  refine (walk (w := W) n0 q1 n1 c1 xs1 n2 b0 w1 y1 b2).mono fun e W' ⟨he, bel⟩ => ?_
  subst he
  exact ⟨_, rfl, _, _, _, [], _, [], hW', trodAll_mk1 (shut_bool Try.underlying4 _), (trodAll_cons_mk (shut_int Try.underlying5 w0) (trodAll_cons_mk (shut_same laidOut (by kernel_rfl) (of_decide_eq_true (by kernel_rfl)) k1 bel) (trodAll_cons_mk (shut_int Try.underlying5 w2) trodAll_mk0))), rfl, bel.frame _, fun h => by cases h⟩
theorem over : Rows.quotNoneRow.holds Try.pinned (OpenSpec.ofChange Rows.quotNoneSpec) :=
  OpenClaim.holds_of_wide 7 Try.f7 rfl rfl rfl rfl rfl rfl rfl ⟨rfl, rfl, rfl, rfl, rfl⟩ rfl rfl rfl rfl rfl (by kernel_rfl) Try.func7 (by kernel_rfl)
    (of_decide_eq_true (by kernel_rfl)) (by unfold Func.isWrapper; first | (rw [if_pos (by decide +kernel)]; kernel_rfl) | (rw [if_neg (by decide +kernel)]; exact ⟨rfl, rfl⟩))
    (fun os started H enc _ => lifted os started H enc)
theorem proved : Rows.QuotNoneSaid := over
#print axioms proved
end Go.Proofs.Ytphhehppcfddgaa.quotNone
