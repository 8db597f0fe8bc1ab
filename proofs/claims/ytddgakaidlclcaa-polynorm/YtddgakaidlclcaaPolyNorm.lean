/- PolyNorm holds for every input: noughts behind a list change nothing; what is normal has none. No conditions. -/
import Derived.Test.YtddgakaidlclcaaRows
import Derived.Test.YtddgakaidlclcaaNums
import Derived.Test.YtddgakaidlclcaaCaps
import Derived.Test.YtddgakaidlclcaaKnown05
import Derived.Test.YtddgakaidlclcaaAppZ
namespace Go.Proofs.Ytddgakaidlclcaa.polyNorm
open Go.ChangeShapes Go.WideShapes Go.ChangeAt Go.RowKit
open Pol (IsN Dg ofL Byt)
attribute [local go_sem ↓ high] builtin_ap
attribute [local go_sem] ap_sem

theorem ofL_noughts (xs : List Nat) (z : Nat) : ofL (xs ++ List.replicate z 0) = ofL xs := by
  funext i
  show GF.of _ = GF.of _
  rw [Pol.getD_append]
  split
  · rfl
  · rw [Pol.getD_rep]
    simp [List.getD, List.getElem?_eq_none (show xs.length ≤ i by omega)]
set_option maxRecDepth 100000 in
set_option maxHeartbeats 4000000 in
theorem walk (q : Option Addr) (n c : Nat) (xs : List Nat) (u : Nat) (w : World) (S_p : Bs w q n xs) (y_p : n ≤ c ∧ c ≤ 140737488351232) (hu : u < 256) :
    Calls Try.prog 5 #[.slice q n c, .int .u8 u] w fun e w' => e = .returned (.bool true) ∧ Below w.heap.size w w' := by
  have HB : Below w.heap.size w w := Below.refl _ _
  have Cp := y_p.1
  clear y_p
  go_enter Try.func5, Try.ntmps5
  by_cases hbig : 200 < n
  · have hb1 : (200 : Int) < (n : Int) := by omega
    go_wp2_with fail
    refine (known05_calls _).mono ?_
    rintro e w1 ⟨rfl, hb⟩
    replace HB := HB.trans (hb.mono HB.size)
    replace S_p := S_p.below hb
    clear hb
    go_wp2
    go_ret
    exact ⟨rfl, HB⟩
  · have hb1 : ((200 : Int) < (n : Int)) = False := eq_false (by omega)
    obtain ⟨z, hz⟩ : ∃ z, u % 20 = z := ⟨_, rfl⟩
    have hzi : (u : Int) % 20 = (z : Int) := by omega
    have lp := S_p.len
    obtain ⟨v1, W1, hap1, hO1, hg1⟩ := run_append_list w w.heap.size (.slice none 0 0) [] q n c xs (ow_nil _ _) S_p (by simp; omega) (Nat.le_refl _)
    have hw1 : Below w.heap.size w W1 := (Below.refl _ w).grown hg1 (Nat.le_refl _) (fun k hk => by cases hk)
    rw [List.nil_append] at hO1
    obtain ⟨v2, W2, hap2, hO2, hg2⟩ := run_append_zeros W1 w.heap.size v1 xs z hO1 (by omega) (by omega) hw1.size
    have hw2 : Below w.heap.size w W2 := hw1.grown hg2 hw1.size (fun k hk => (hO1.lt k hk).1)
    obtain ⟨N, hN⟩ : ∃ N, n + z = N := ⟨_, rfl⟩
    have hby : Byt (xs ++ List.replicate z 0) := Pol.byt_append S_p.byt (Pol.byt_rep z)
    have hlN : (xs ++ List.replicate z 0).length = N := by rw [List.length_append, List.length_replicate]; omega
    have hoN := ofL_noughts xs z
    obtain ⟨ys, hys⟩ : ∃ ys, xs ++ List.replicate z 0 = ys := ⟨_, rfl⟩
    rw [hys] at hO2 hby hlN hoN
    obtain ⟨q_q, c_q, rfl, S_q, C_q, -⟩ := hO2.tell (n := N) hby hlN
    have ha1 := ap_ok hap1
    have ha2 := ap_v hap1
    have ha3 := ap_w hap1
    have hc1 := ap_ok hap2
    have hc2 := ap_v hap2
    have hc3 := ap_w hap2
    obtain ⟨l1, h1, b1⟩ := Pol.isN_norm xs
    obtain ⟨n1, n1e⟩ : ∃ n1, l1.length = n1 := ⟨_, rfl⟩
    have g1 : Dg n1 (ofL xs) := n1e ▸ h1.dg
    have HH : Hid (IsN l1 (ofL xs) ∧ IsN l1 (ofL ys) ∧ Dg n1 (ofL xs) ∧ Dg n1 (ofL ys) ∧ l1.length = n1 ∧ IsN l1 (ofL l1) ∧ ofL xs = ofL ys) := ⟨h1, hoN ▸ h1, g1, hoN ▸ g1, n1e, h1.eq ▸ h1, hoN.symm⟩
    have HU : Hid (n1 ≤ 1000 ∧ N ≤ 1000 ∧ n ≤ 1000) := by show _ ∧ _; omega
    have HW : Hid (Below w.heap.size w W2 ∧ Bs W2 q_q N ys) := ⟨hw2, S_q⟩
    have hw : wrap64 ((n1 : Int) - 1 + 1) = (n1 : Int) := by unfold wrap64; omega
    have Hw : Hid (wrap64 ((n1 : Int) - 1 + 1) = (n1 : Int)) := hw
    have HK : Hid (n1 = 0 ∨ ∃ k1 : Nat, ((n1 : Int) == 0) = false ∧ k1 < n1 ∧ (n1 : Int) - 1 = (k1 : Int) ∧ ((l1.getD k1 0 : Nat) : Int) ≠ 0) := by
      show n1 = 0 ∨ _
      by_cases h0 : n1 = 0
      · exact .inl h0
      · refine .inr ⟨n1 - 1, by simp; omega, by omega, by omega, ?_⟩
        have := h1.nrm (by omega)
        rw [n1e] at this
        omega
    clear hap1 hap2 hO1 hO2 hg1 hg2 hw1 hw2 hby hlN hoN hys h1 b1 n1e g1 hN hz lp S_q hbig hw
    go_wp2_with fail
    replace HB := HW.out.1
    replace S_p := S_p.below HW.out.1
    have S_q := HW.out.2
    clear HW hzi hb1
    go_wp2_with fail
    refine (pnorm_calls q_q N c_q ys l1 HH.out.2.1 (by have := HU.out; omega) C_q _ S_q).mono ?_
    rintro e w1 ⟨v, rfl, hO, hb⟩
    obtain ⟨q_m, c_m, rfl, S_m, C_m, hQ⟩ := hO.tell (n := n1) HH.out.1.byt HH.out.2.2.2.2.1
    clear hO
    clear hQ
    replace HB := HB.trans (hb.mono HB.size)
    replace S_p := S_p.below hb
    replace S_q := S_q.below hb
    clear hb
    clear ha1 ha2 ha3 hc1 hc2 hc3
    go_wp2_with fail
    refine (known05_calls _).mono ?_
    rintro e w2 ⟨rfl, hb⟩
    replace HB := HB.trans (hb.mono HB.size)
    replace S_p := S_p.below hb
    replace S_q := S_q.below hb
    replace S_m := S_m.below hb
    clear hb
    go_wp2_with fail
    refine (psame_calls q q_q n c N c_q xs ys true (iff_of_true rfl HH.out.2.2.2.2.2.2) Cp C_q _ S_p S_q).mono ?_
    rintro e w3 ⟨rfl, hb⟩
    replace HB := HB.trans (hb.mono HB.size)
    replace S_p := S_p.below hb
    replace S_q := S_q.below hb
    replace S_m := S_m.below hb
    clear hb
    go_wp2_with fail
    refine (pdeg_calls q n c xs n1 HH.out.2.2.1 _ S_p).mono ?_
    rintro e w4 ⟨rfl, hb⟩
    replace HB := HB.trans (hb.mono HB.size)
    replace S_p := S_p.below hb
    replace S_q := S_q.below hb
    replace S_m := S_m.below hb
    clear hb
    go_wp2_with fail
    refine (pdeg_calls q_q N c_q ys n1 HH.out.2.2.2.1 _ S_q).mono ?_
    rintro e w5 ⟨rfl, hb⟩
    replace HB := HB.trans (hb.mono HB.size)
    replace S_p := S_p.below hb
    replace S_q := S_q.below hb
    replace S_m := S_m.below hb
    clear hb
    go_wp2_with fail
    refine (pnorm_calls q n c xs l1 HH.out.1 (by have := HU.out; omega) Cp _ S_p).mono ?_
    rintro e w6 ⟨v, rfl, hO, hb⟩
    obtain ⟨q_a, c_a, rfl, S_a, C_a, hQ⟩ := hO.tell (n := n1) HH.out.1.byt HH.out.2.2.2.2.1
    clear hO
    clear hQ
    replace HB := HB.trans (hb.mono HB.size)
    replace S_p := S_p.below hb
    replace S_q := S_q.below hb
    replace S_m := S_m.below hb
    clear hb
    go_wp2_with fail
    refine (same_calls q_a q_m n1 c_a c_m l1 _ S_a S_m).mono ?_
    rintro e w7 ⟨rfl, hb⟩
    replace HB := HB.trans (hb.mono HB.size)
    replace S_p := S_p.below hb
    replace S_q := S_q.below hb
    replace S_m := S_m.below hb
    replace S_a := S_a.below hb
    clear hb
    clear S_a
    have hw := Hw.out
    go_wp2_with fail
    refine (pdeg_calls q_q N c_q ys n1 HH.out.2.2.2.1 _ S_q).mono ?_
    rintro e w8 ⟨rfl, hb⟩
    replace HB := HB.trans (hb.mono HB.size)
    replace S_p := S_p.below hb
    replace S_q := S_q.below hb
    replace S_m := S_m.below hb
    clear hb
    rcases HK.out with hk0 | ⟨k1, hk0, hk1, hk2, hk3⟩
    · subst hk0
      clear HK
      go_wp2_with fail
      refine (pnorm_calls q_m 0 c_m l1 l1 HH.out.2.2.2.2.2.1 (by decide) C_m _ S_m).mono ?_
      rintro e w9 ⟨v, rfl, hO, hb⟩
      obtain ⟨q_b, c_b, rfl, S_b, C_b, hQ⟩ := hO.tell (n := 0) HH.out.1.byt HH.out.2.2.2.2.1
      clear hO
      clear hQ
      replace HB := HB.trans (hb.mono HB.size)
      replace S_p := S_p.below hb
      replace S_q := S_q.below hb
      replace S_m := S_m.below hb
      clear hb
      go_wp2_with fail
      refine (same_calls q_b q_m 0 c_b c_m l1 _ S_b S_m).mono ?_
      rintro e w10 ⟨rfl, hb⟩
      replace HB := HB.trans (hb.mono HB.size)
      replace S_p := S_p.below hb
      replace S_q := S_q.below hb
      replace S_m := S_m.below hb
      replace S_b := S_b.below hb
      clear hb
      go_wp2
      go_ret
      exact ⟨rfl, HB⟩
    · clear HK
      obtain ⟨ad, rfl, la, ca⟩ := S_m.cell k1 hk1
      obtain ⟨x, hx⟩ : ∃ x, l1.getD k1 0 = x := ⟨_, rfl⟩
      rw [hx] at ca hk3
      have hx1 : ((x : Int) != 0) = true := by simpa using hk3
      have hki : (k1 : Int) < (n1 : Int) := by omega
      have hkb : (k1 : Int) ≤ 1000 := by have := HU.out; omega
      have hk7 : (k1 : Int) + 1 = (n1 : Int) := by omega
      clear hx hk3 la hw
      go_wp2_with fail
      refine (pnorm_calls _ n1 c_m l1 l1 HH.out.2.2.2.2.2.1 (by have := HU.out; omega) C_m _ S_m).mono ?_
      rintro e w9 ⟨v, rfl, hO, hb⟩
      obtain ⟨q_b, c_b, rfl, S_b, C_b, hQ⟩ := hO.tell (n := n1) HH.out.1.byt HH.out.2.2.2.2.1
      clear hO
      clear hQ
      replace HB := HB.trans (hb.mono HB.size)
      replace S_p := S_p.below hb
      replace S_q := S_q.below hb
      replace S_m := S_m.below hb
      clear hb
      go_wp2_with fail
      refine (same_calls q_b _ n1 c_b c_m l1 _ S_b S_m).mono ?_
      rintro e w10 ⟨rfl, hb⟩
      replace HB := HB.trans (hb.mono HB.size)
      replace S_p := S_p.below hb
      replace S_q := S_q.below hb
      replace S_m := S_m.below hb
      replace S_b := S_b.below hb
      clear hb
      go_wp2
      go_ret
      exact ⟨rfl, HB⟩
theorem own : ownKnob Try.prog.godebug = none := by kernel_rfl
theorem laidOut : laidOutB Try.prog = true := by kernel_rfl
set_option maxRecDepth 100000 in
theorem lifted (os : Os) (started : os.Started) (H : Type) (enc : TypeId × Value → H) :
    ReturnsInHanded {} Try.checked os 5 .any (Rows.polyNormSpec.pre6 enc Try.prog Try.f5 Rows.polyNormRow.domain false) (Rows.polyNormSpec.post enc Try.prog Try.f5 false true false false) := by
  refine returnsInHanded_of_change_sized (C := Try.checked) own started (by kernel_rfl) Try.func5
    (ChangeSpec.witness6 (enc := enc) (C := Try.checked) false ⟨#[], #[.slice none 0 0, .int .u8 0], []⟩ 8 (by kernel_rfl) (by kernel_rfl) (by kernel_rfl) (by kernel_rfl)) ?_
  intro W base args ds gs before hval0 hW _ hz _
  have hval : ∀ (j : Nat) t v, Try.f5.params[j]? = some t → args[j]? = some v → Value.okWide Try.prog W .any base t v := hval0
  have hW' := hW
  obtain ⟨p, q, hA0, hV, rfl, _, _⟩ := hW
  have hA : DataW.TrodAll enc Try.prog W 0 (fun _ => true) true Try.f5.params.toList args.toList ds p := hA0
  rw [Try.params5] at hA hval
  obtain ⟨v0, vs0, d0, ds0, p0, q0, hargs, rfl, rfl, h0, r0⟩ := trodAll_cons hA
  obtain ⟨v1, vs1, d1, ds1, p1, q1, rfl, rfl, rfl, h1, r1⟩ := trodAll_cons r0
  obtain ⟨rfl, rfl, rfl⟩ := trodAll_nil r1
  obtain rfl : args = #[v0, v1] := by cases args; simp_all
  obtain ⟨rfl, rfl⟩ := trodVars_none hV
  have k0 := h0
  obtain ⟨q0, n0, c0, xs0, rfl, w0, m0⟩ := open_bytes_sz Try.underlying22 Try.underlying5 (by kernel_rfl) (hval 0 22 v0 rfl rfl) h0
  have y0 : n0 ≤ c0 ∧ c0 ≤ 140737488351232 := ⟨m0.1, m0.2 _ fun el sp hd => by have := sized_slice (j := 0) (t := 22) (e := 5) (elems := el) (spare := sp) hz (by kernel_rfl) (by first | (rw [← hd]; done) | (rw [← hd]; rfl)) Try.underlying22; have hbe : Try.checked.prog.bytesOf 5 = 1 := (by kernel_rfl); have hre : reachBytes = 140737488351232 := rfl; rw [hbe, hre] at this; omega⟩
  obtain ⟨a1, rfl, rfl, rfl, w1⟩ := open_int Try.underlying5 (hval 1 5 v1 rfl rfl) h1
  obtain ⟨n1, b1, rfl⟩ := nat_of_u8 w1
  clear hA0 hval0
  simp only [List.append_nil] at hW'
  refine (walk (w := W) q0 n0 c0 xs0 n1 w0 y0 b1).mono fun e W' ⟨he, bel⟩ => ?_
  subst he
  exact ⟨_, rfl, _, _, _, [], _, [], hW', trodAll_mk1 (shut_bool Try.underlying4 _), (trodAll_cons_mk (shut_same laidOut (by kernel_rfl) (of_decide_eq_true (by kernel_rfl)) k0 bel) (trodAll_cons_mk (shut_int Try.underlying5 w1) trodAll_mk0)), rfl, bel.frame _, fun h => by cases h⟩
theorem over : Rows.polyNormRow.holds Try.pinned (OpenSpec.ofChange Rows.polyNormSpec) :=
  OpenClaim.holds_of_wide 5 Try.f5 rfl rfl rfl rfl rfl rfl rfl ⟨rfl, rfl, rfl, rfl, rfl⟩ rfl rfl rfl rfl rfl (by kernel_rfl) Try.func5 (by kernel_rfl)
    (of_decide_eq_true (by kernel_rfl)) (by unfold Func.isWrapper; first | (rw [if_pos (by decide +kernel)]; kernel_rfl) | (rw [if_neg (by decide +kernel)]; exact ⟨rfl, rfl⟩))
    (fun os started H enc _ => lifted os started H enc)
theorem proved : Rows.PolyNormSaid := over
#print axioms proved
end Go.Proofs.Ytddgakaidlclcaa.polyNorm
