/- ValueMany holds for every input: a polynomial that is not 0 has no more zeros than its degree; each of them divides it, all together. No conditions. -/
import Derived.Test.YtafjlbkcpjkojaaGreatRows
import Derived.Test.YtafjlbkcpjkojaaGreatMB
import Derived.Test.YtafjlbkcpjkojaaGreatKnown07
import Derived.Test.YtafjlbkcpjkojaaGreatMK
namespace Go.Proofs.YtafjlbkcpjkojaaGreat.valueMany
open Go.ChangeShapes Go.WideShapes Go.ChangeAt Go.RowKit
open Pol (IsN Dg ofL Byt vl zl frL)

set_option maxRecDepth 100000 in
set_option maxHeartbeats 4000000 in
theorem walk (j : Nat) (q : Option Addr) (n c : Nat) (xs : List Nat) (w : World) (hj : j < 256) (S_p : Bs w q n xs) (y_p : n ≤ c ∧ c ≤ 140737488351232) :
    Calls Tryz.prog 7 #[.int .u8 j, .slice q n c] w fun e w' => e = .returned (.bool true) ∧ Below w.heap.size w w' := by
  obtain ⟨k, hk⟩ : ∃ k : Nat, 1 + j % 3 = k := ⟨_, rfl⟩
  have hk1 : 1 ≤ k := by omega
  have hk3 : k ≤ 3 := by omega
  have hki : (1 : Int) + (j : Int) % 3 = (k : Int) := by omega
  clear hk
  have HB : Below w.heap.size w w := Below.refl _ _
  have Cp := y_p.1
  clear y_p
  go_enter Tryz.func7, Tryz.ntmps7
  by_cases hbig : 24 < n
  · have hb1 : (24 : Int) < (n : Int) := by omega
    go_wp2_with fail
    refine (known07_calls _).mono ?_
    rintro e w1 ⟨rfl, hb⟩
    replace HB := HB.trans (hb.mono HB.size)
    replace S_p := S_p.below hb
    clear hb
    go_wp2
    go_ret
    exact ⟨rfl, HB⟩
  · have hb1 : ((24 : Int) < (n : Int)) = False := eq_false (by omega)
    have lp := S_p.len
    obtain ⟨d, hd, gd⟩ := Pol.dg_list xs
    obtain ⟨nz, nze⟩ : ∃ nz, (zl xs).length = nz := ⟨_, rfl⟩
    have HZ : Hid ((zl xs).length = nz) := nze
    have hzl : nz ≤ 256 := by rw [← nze]; exact Pol.zlK_length xs 256
    have HD : Hid (Dg d (ofL xs) ∧ n ≤ 24) := ⟨gd, by omega⟩
    have HV : Hid (Pol.Dvd (Pol.fr (zl xs)) (ofL xs)) := Pol.zl_dvd xs
    clear hbig hd nze gd lp
    obtain ⟨zz, hzz⟩ : ∃ zz, zl xs = zz := ⟨_, rfl⟩
    have HB2 : Hid (zl xs = zz ∧ Byt zz) := ⟨hzz, hzz ▸ Pol.zl_byt xs⟩
    go_wp2_with fail
    refine (fof_calls k hk1 hk3 _).mono ?_
    rintro e w1 ⟨B_f, T_f, rfl, HF_f, hb, hlB, hlT⟩
    have HL_f : w.heap.size ≤ T_f := Nat.le_trans HB.size hlT
    have Q_p_f := S_p.off hlT
    replace HB := HB.trans (hb.mono HB.size)
    replace S_p := S_p.below hb
    clear hb hlB hlT
    clear hb1 hki
    go_wp2_with fail
    refine (vzeros_calls k B_f T_f n c q xs _ HF_f S_p Q_p_f).mono ?_
    rintro e w2 ⟨v, rfl, hO, hF, hb⟩
    obtain ⟨q_z, c_z, rfl, S_z, C_z, hQ⟩ := hO.tell (n := nz) (Pol.zl_byt xs) HZ.out
    clear hO
    have Q_z_f := hQ _ HF_f.lt
    clear hQ
    replace HB := HB.trans (hb.below HB.size (by rintro k rfl; exact HL_f))
    replace S_p := S_p.but hb Q_p_f
    clear HF_f hb
    have HF_f := hF
    clear hF
    rw [hzz] at S_z HZ HV
    clear hzz
    go_wp2_with fail
    refine (pdeg_calls q n c xs d HD.out.1 _ S_p).mono ?_
    rintro e w3 ⟨rfl, hb⟩
    replace HB := HB.trans (hb.mono HB.size)
    replace HF_f := HF_f.below hb
    replace S_p := S_p.below hb
    replace S_z := S_z.below hb
    clear hb
    cases d with
    | zero =>
      have h256 : nz = 256 := by rw [← HZ.out, ← HB2.out.1]; exact Pol.zl_zero HD.out.1
      subst h256
      go_wp2_with fail
      refine (known07_calls _).mono ?_
      rintro e w4 ⟨rfl, hb⟩
      replace HB := HB.trans (hb.mono HB.size)
      replace HF_f := HF_f.below hb
      replace S_p := S_p.below hb
      replace S_z := S_z.below hb
      clear hb
      go_wp2
      go_ret
      exact ⟨rfl, HB⟩
    | succ d =>
      have hle : nz ≤ d := by rw [← HZ.out, ← HB2.out.1]; exact Pol.zl_le HD.out.1
      have hle' : (nz : Int) ≤ (d : Int) := by omega
      have hge : ¬ (d : Int) < 0 := by omega
      have hd1 : ((d + 1 : Nat) : Int) - 1 = (d : Int) := by omega
      obtain ⟨P, hPf, hPe⟩ := HV.out
      obtain ⟨nP, hPb⟩ := hPf
      obtain ⟨lq, hlq, -⟩ := Pol.isN_of_bd hPb
      obtain ⟨nq, nqe⟩ : ∃ nq, lq.length = nq := ⟨_, rfl⟩
      have HP : Hid (Dg (nz + 1) (ofL (frL zz)) ∧ IsN lq P ∧ ofL xs = Pol.mul P (ofL (frL zz)) ∧ lq.length = nq ∧ (frL zz).length = nz + 1) := by
        have h1 := (Pol.fr_mon zz).dg
        rw [HZ.out] at h1
        refine ⟨?_, hlq, ?_, nqe, ?_⟩
        · rw [(Pol.frL_isN zz).eq]; exact h1
        · rw [(Pol.frL_isN zz).eq]; exact hPe
        · rw [Pol.frL_length, HZ.out]
      clear hPb hPe hlq nqe hle
      go_wp2_with fail
      refine (vfrom_calls k B_f T_f nz c_z q_z zz (by omega) _ HF_f S_z Q_z_f).mono ?_
      rintro e w4 ⟨v, rfl, hO, hF, hb⟩
      obtain ⟨q_g, c_g, rfl, S_g, C_g, hQ⟩ := hO.tell (n := nz + 1) (Pol.frL_isN _).byt HP.out.2.2.2.2
      clear hO
      have Q_g_f := hQ _ HF_f.lt
      clear hQ
      replace HB := HB.trans (hb.below HB.size (by rintro k rfl; exact HL_f))
      replace S_p := S_p.but hb Q_p_f
      replace S_z := S_z.but hb Q_z_f
      clear HF_f hb
      have HF_f := hF
      clear hF
      go_wp2_with fail
      refine (qexact_calls k B_f T_f n c (nz + 1) c_g nz q q_g xs (frL zz) lq P HP.out.1 HP.out.2.1 HP.out.2.2.1 (by have := HD.out.2; omega) (by omega) Cp C_g _ HF_f S_p S_g Q_p_f Q_g_f).mono ?_
      rintro e w5 ⟨v, rfl, hO, hF, hb⟩
      obtain ⟨q_e, c_e, rfl, S_e, C_e, hQ⟩ := hO.tell (n := nq) HP.out.2.1.byt HP.out.2.2.2.1
      clear hO
      have Q_e_f := hQ _ HF_f.lt
      clear hQ
      replace HB := HB.trans (hb.below HB.size (by rintro k rfl; exact HL_f))
      replace S_p := S_p.but hb Q_p_f
      replace S_z := S_z.but hb Q_z_f
      replace S_g := S_g.but hb Q_g_f
      clear HF_f hb
      have HF_f := hF
      clear hF
      go_wp2_with fail
      refine (known07_calls _).mono ?_
      rintro e w6 ⟨rfl, hb⟩
      replace HB := HB.trans (hb.mono HB.size)
      replace HF_f := HF_f.below hb
      replace S_p := S_p.below hb
      replace S_z := S_z.below hb
      replace S_g := S_g.below hb
      replace S_e := S_e.below hb
      clear hb
      go_wp2_with fail
      refine (pdeg_calls q n c xs (d + 1) HD.out.1 _ S_p).mono ?_
      rintro e w7 ⟨rfl, hb⟩
      replace HB := HB.trans (hb.mono HB.size)
      replace HF_f := HF_f.below hb
      replace S_p := S_p.below hb
      replace S_z := S_z.below hb
      replace S_g := S_g.below hb
      replace S_e := S_e.below hb
      clear hb
      go_wp2
      go_ret
      exact ⟨rfl, HB⟩
theorem own : ownKnob Tryz.prog.godebug = none := by kernel_rfl
theorem laidOut : laidOutB Tryz.prog = true := by kernel_rfl
set_option maxRecDepth 100000 in
theorem lifted (os : Os) (started : os.Started) (H : Type) (enc : TypeId × Value → H) :
    ReturnsInHanded {} Tryz.checked os 7 .any (Rows.valueManySpec.pre6 enc Tryz.prog Tryz.f7 Rows.valueManyRow.domain false) (Rows.valueManySpec.post enc Tryz.prog Tryz.f7 false true false false) := by
  refine returnsInHanded_of_change_sized (C := Tryz.checked) own started (by kernel_rfl) Tryz.func7
    (ChangeSpec.witness6 (enc := enc) (C := Tryz.checked) false ⟨#[], #[.int .u8 0, .slice none 0 0], []⟩ 8 (by kernel_rfl) (by kernel_rfl) (by kernel_rfl) (by kernel_rfl)) ?_
  intro W base args ds gs before hval0 hW _ hz _
  have hval : ∀ (j : Nat) t v, Tryz.f7.params[j]? = some t → args[j]? = some v → Value.okWide Tryz.prog W .any base t v := hval0
  have hW' := hW
  obtain ⟨p, q, hA0, hV, rfl, _, _⟩ := hW
  have hA : DataW.TrodAll enc Tryz.prog W 0 (fun _ => true) true Tryz.f7.params.toList args.toList ds p := hA0
  rw [Tryz.params7] at hA hval
  obtain ⟨v0, vs0, d0, ds0, p0, q0, hargs, rfl, rfl, h0, r0⟩ := trodAll_cons hA
  obtain ⟨v1, vs1, d1, ds1, p1, q1, rfl, rfl, rfl, h1, r1⟩ := trodAll_cons r0
  obtain ⟨rfl, rfl, rfl⟩ := trodAll_nil r1
  obtain rfl : args = #[v0, v1] := by cases args; simp_all
  obtain ⟨rfl, rfl⟩ := trodVars_none hV
  obtain ⟨a0, rfl, rfl, rfl, w0⟩ := open_int Tryz.underlying5 (hval 0 5 v0 rfl rfl) h0
  obtain ⟨n0, b0, rfl⟩ := nat_of_u8 w0
  have k1 := h1
  obtain ⟨q1, n1, c1, xs1, rfl, w1, m1⟩ := open_bytes_sz Tryz.underlying22 Tryz.underlying5 (by kernel_rfl) (hval 1 22 v1 rfl rfl) h1
  have y1 : n1 ≤ c1 ∧ c1 ≤ 140737488351232 := ⟨m1.1, m1.2 _ fun el sp hd => by have := sized_slice (j := 1) (t := 22) (e := 5) (elems := el) (spare := sp) hz (by kernel_rfl) (by first | (rw [← hd]; done) | (rw [← hd]; rfl)) Tryz.underlying22; have hbe : Tryz.checked.prog.bytesOf 5 = 1 := (by kernel_rfl); have hre : reachBytes = 140737488351232 := rfl; rw [hbe, hre] at this; omega⟩
  clear hA0 hval0
  simp only [List.append_nil] at hW'
  refine (walk (w := W) n0 q1 n1 c1 xs1 b0 w1 y1).mono fun e W' ⟨he, bel⟩ => ?_
  subst he
  exact ⟨_, rfl, _, _, _, [], _, [], hW', trodAll_mk1 (shut_bool Tryz.underlying4 _), (trodAll_cons_mk (shut_int Tryz.underlying5 w0) (trodAll_cons_mk (shut_same laidOut (by kernel_rfl) (of_decide_eq_true (by kernel_rfl)) k1 bel) trodAll_mk0)), rfl, bel.frame _, fun h => by cases h⟩
theorem over : Rows.valueManyRow.holds Tryz.pinned (OpenSpec.ofChange Rows.valueManySpec) :=
  OpenClaim.holds_of_wide 7 Tryz.f7 rfl rfl rfl rfl rfl rfl rfl ⟨rfl, rfl, rfl, rfl, rfl⟩ rfl rfl rfl rfl rfl (by kernel_rfl) Tryz.func7 (by kernel_rfl)
    (of_decide_eq_true (by kernel_rfl)) (by unfold Func.isWrapper; first | (rw [if_pos (by decide +kernel)]; kernel_rfl) | (rw [if_neg (by decide +kernel)]; exact ⟨rfl, rfl⟩))
    (fun os started H enc _ => lifted os started H enc)
theorem proved : Rows.ValueManySaid := over
#print axioms proved
end Go.Proofs.YtafjlbkcpjkojaaGreat.valueMany
