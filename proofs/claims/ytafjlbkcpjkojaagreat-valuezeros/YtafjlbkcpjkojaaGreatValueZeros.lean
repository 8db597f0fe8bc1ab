/- ValueZeros holds for every input: the zeros of any polynomial, and of one made of zeros, are what the chapter says. No conditions. -/
import Derived.Test.YtafjlbkcpjkojaaGreatRows
import Derived.Test.YtafjlbkcpjkojaaGreatMB
import Derived.Test.YtafjlbkcpjkojaaGreatKnown07
import Derived.Test.YtafjlbkcpjkojaaGreatMW
namespace Go.Proofs.YtafjlbkcpjkojaaGreat.valueZeros
open Go.ChangeShapes Go.WideShapes Go.ChangeAt Go.RowKit
open Pol (IsN Dg ofL Byt vl zl frL unl)

set_option maxRecDepth 100000 in
set_option maxHeartbeats 4000000 in
theorem walk (j : Nat) (q : Option Addr) (n c : Nat) (xs : List Nat) (p : Option Addr) (m d : Nat) (ys : List Nat) (w : World) (hj : j < 256) (S_p : Bs w q n xs) (S_q : Bs w p m ys) :
    Calls Tryz.prog 4 #[.int .u8 j, .slice q n c, .slice p m d] w fun e w' => e = .returned (.bool true) ∧ Below w.heap.size w w' := by
  have hnot : ∀ (x : Bool) (w : World), (Op.unary .not (.bool x)).run Tryz.prog w = .ok (.bool (!x)) w := fun _ _ => rfl
  obtain ⟨k, hk⟩ : ∃ k : Nat, 1 + j % 3 = k := ⟨_, rfl⟩
  have hk1 : 1 ≤ k := by omega
  have hk3 : k ≤ 3 := by omega
  have hki : (1 : Int) + (j : Int) % 3 = (k : Int) := by omega
  clear hk
  have HB : Below w.heap.size w w := Below.refl _ _
  go_enter Tryz.func4, Tryz.ntmps4
  by_cases hbig : 20 < n
  · have hb1 : (20 : Int) < (n : Int) := by omega
    go_wp2_with fail
    refine (known07_calls _).mono ?_
    rintro e w1 ⟨rfl, hb⟩
    replace HB := HB.trans (hb.mono HB.size)
    replace S_p := S_p.below hb
    replace S_q := S_q.below hb
    clear hb
    go_wp2
    go_ret
    exact ⟨rfl, HB⟩
  · have hb1 : ((20 : Int) < (n : Int)) = False := eq_false (by omega)
    by_cases hbig2 : 12 < m
    · have hb2 : (12 : Int) < (m : Int) := by omega
      go_wp2_with fail
      refine (known07_calls _).mono ?_
      rintro e w1 ⟨rfl, hb⟩
      replace HB := HB.trans (hb.mono HB.size)
      replace S_p := S_p.below hb
      replace S_q := S_q.below hb
      clear hb
      go_wp2
      go_ret
      exact ⟨rfl, HB⟩
    · have hb2 : ((12 : Int) < (m : Int)) = False := eq_false (by omega)
      have lq := S_q.len
      obtain ⟨nz, nze⟩ : ∃ nz, (zl xs).length = nz := ⟨_, rfl⟩
      obtain ⟨nu, nue⟩ : ∃ nu, (zl (frL ys)).length = nu := ⟨_, rfl⟩
      have hun : (unl ys 99).length = nu := by
        rw [← nue]
        refine (Pol.nodup_eq (Pol.zl_nodup _) (Pol.unl_nodup _ _) fun x => ?_).symm
        rw [Pol.mem_zl_frL ys S_q.byte, Pol.mem_unl ys 99 (by omega)]
      have HU : Hid (n ≤ 1000 ∧ m ≤ 1000 ∧ (zl xs).length = nz ∧ (zl (frL ys)).length = nu ∧ (unl ys 99).length = nu ∧ (frL ys).length = m + 1) := ⟨by omega, by omega, nze, nue, hun, by rw [Pol.frL_length, lq]⟩
      have HBq : Hid (Byt ys) := S_q.byte
      clear hbig hbig2 lq nze nue hun
      go_wp2_with fail
      refine (known07_calls _).mono ?_
      rintro e w1 ⟨rfl, hb⟩
      replace HB := HB.trans (hb.mono HB.size)
      replace S_p := S_p.below hb
      replace S_q := S_q.below hb
      clear hb
      go_wp2_with fail
      refine (fof_calls k hk1 hk3 _).mono ?_
      rintro e w2 ⟨B_f, T_f, rfl, HF_f, hb, hlB, hlT⟩
      have HL_f : w.heap.size ≤ T_f := Nat.le_trans HB.size hlT
      have Q_p_f := S_p.off hlT
      have Q_q_f := S_q.off hlT
      replace HB := HB.trans (hb.mono HB.size)
      replace S_p := S_p.below hb
      replace S_q := S_q.below hb
      clear hb hlB hlT
      clear hb1 hb2 hki
      go_wp2_with fail
      refine (vfrom_calls k B_f T_f m d p ys (by have := HU.out; omega) _ HF_f S_q Q_q_f).mono ?_
      rintro e w3 ⟨v, rfl, hO, hF, hb⟩
      obtain ⟨q_g, c_g, rfl, S_g, C_g, hQ⟩ := hO.tell (n := m + 1) (Pol.frL_isN _).byt HU.out.2.2.2.2.2
      clear hO
      have Q_g_f := hQ _ HF_f.lt
      clear hQ
      replace HB := HB.trans (hb.below HB.size (by rintro k rfl; exact HL_f))
      replace S_p := S_p.but hb Q_p_f
      replace S_q := S_q.but hb Q_q_f
      clear HF_f hb
      have HF_f := hF
      clear hF
      go_wp2_with fail
      refine (vzeros_calls k B_f T_f n c q xs _ HF_f S_p Q_p_f).mono ?_
      rintro e w4 ⟨v, rfl, hO, hF, hb⟩
      obtain ⟨q_a, c_a, rfl, S_a, C_a, hQ⟩ := hO.tell (n := nz) (Pol.zl_byt _) HU.out.2.2.1
      clear hO
      have Q_a_f := hQ _ HF_f.lt
      clear hQ
      replace HB := HB.trans (hb.below HB.size (by rintro k rfl; exact HL_f))
      replace S_p := S_p.but hb Q_p_f
      replace S_q := S_q.but hb Q_q_f
      replace S_g := S_g.but hb Q_g_f
      clear HF_f hb
      have HF_f := hF
      clear hF
      go_wp2_with fail
      refine (r7zeros_calls q n c xs (by have := HU.out; omega) _ S_p).mono ?_
      rintro e w5 ⟨v, rfl, hO, hb⟩
      obtain ⟨q_b, c_b, rfl, S_b, C_b, hQ⟩ := hO.tell (n := nz) (Pol.zl_byt _) HU.out.2.2.1
      clear hO
      have Q_b_f := hQ _ HF_f.lt
      clear hQ
      replace HB := HB.trans (hb.mono HB.size)
      replace HF_f := HF_f.below hb
      replace S_p := S_p.below hb
      replace S_q := S_q.below hb
      replace S_g := S_g.below hb
      replace S_a := S_a.below hb
      clear hb
      go_wp2_with fail
      refine (same_calls q_a q_b nz c_a c_b (zl xs) _ S_a S_b).mono ?_
      rintro e w6 ⟨rfl, hb⟩
      replace HB := HB.trans (hb.mono HB.size)
      replace HF_f := HF_f.below hb
      replace S_p := S_p.below hb
      replace S_q := S_q.below hb
      replace S_g := S_g.below hb
      replace S_a := S_a.below hb
      replace S_b := S_b.below hb
      clear hb
      clear S_a S_b
      go_wp2_with fail
      refine (vzeros_calls k B_f T_f (m + 1) c_g q_g (frL ys) _ HF_f S_g Q_g_f).mono ?_
      rintro e w7 ⟨v, rfl, hO, hF, hb⟩
      obtain ⟨q_a, c_a, rfl, S_a, C_a, hQ⟩ := hO.tell (n := nu) (Pol.zl_byt _) HU.out.2.2.2.1
      clear hO
      have Q_a_f := hQ _ HF_f.lt
      clear hQ
      replace HB := HB.trans (hb.below HB.size (by rintro k rfl; exact HL_f))
      replace S_p := S_p.but hb Q_p_f
      replace S_q := S_q.but hb Q_q_f
      replace S_g := S_g.but hb Q_g_f
      clear HF_f hb
      have HF_f := hF
      clear hF
      go_wp2_with fail
      refine (r7from_calls p m d ys (by have := HU.out; omega) _ S_q).mono ?_
      rintro e w8 ⟨v, rfl, hO, hb⟩
      obtain ⟨q_e, c_e, rfl, S_e, C_e, hQ⟩ := hO.tell (n := m + 1) (Pol.frL_isN _).byt HU.out.2.2.2.2.2
      clear hO
      have Q_e_f := hQ _ HF_f.lt
      clear hQ
      replace HB := HB.trans (hb.mono HB.size)
      replace HF_f := HF_f.below hb
      replace S_p := S_p.below hb
      replace S_q := S_q.below hb
      replace S_g := S_g.below hb
      replace S_a := S_a.below hb
      clear hb
      go_wp2_with fail
      refine (r7zeros_calls q_e (m + 1) c_e (frL ys) (by have := HU.out; omega) _ S_e).mono ?_
      rintro e w9 ⟨v, rfl, hO, hb⟩
      obtain ⟨q_b, c_b, rfl, S_b, C_b, hQ⟩ := hO.tell (n := nu) (Pol.zl_byt _) HU.out.2.2.2.1
      clear hO
      have Q_b_f := hQ _ HF_f.lt
      clear hQ
      replace HB := HB.trans (hb.mono HB.size)
      replace HF_f := HF_f.below hb
      replace S_p := S_p.below hb
      replace S_q := S_q.below hb
      replace S_g := S_g.below hb
      replace S_a := S_a.below hb
      replace S_e := S_e.below hb
      clear hb
      go_wp2_with fail
      refine (same_calls q_a q_b nu c_a c_b (zl (frL ys)) _ S_a S_b).mono ?_
      rintro e w10 ⟨rfl, hb⟩
      replace HB := HB.trans (hb.mono HB.size)
      replace HF_f := HF_f.below hb
      replace S_p := S_p.below hb
      replace S_q := S_q.below hb
      replace S_g := S_g.below hb
      replace S_a := S_a.below hb
      replace S_e := S_e.below hb
      replace S_b := S_b.below hb
      clear hb
      clear S_a S_b
      go_wp2_with fail
      refine (vzeros_calls k B_f T_f (m + 1) c_g q_g (frL ys) _ HF_f S_g Q_g_f).mono ?_
      rintro e w11 ⟨v, rfl, hO, hF, hb⟩
      obtain ⟨q_a, c_a, rfl, S_a, C_a, hQ⟩ := hO.tell (n := nu) (Pol.zl_byt _) HU.out.2.2.2.1
      clear hO
      have Q_a_f := hQ _ HF_f.lt
      clear hQ
      replace HB := HB.trans (hb.below HB.size (by rintro k rfl; exact HL_f))
      replace S_p := S_p.but hb Q_p_f
      replace S_q := S_q.but hb Q_q_f
      replace S_g := S_g.but hb Q_g_f
      replace S_e := S_e.but hb Q_e_f
      clear HF_f hb
      have HF_f := hF
      clear hF
      go_wp2_with fail
      refine (unlike_calls p m d 99 ys (by decide) _ S_q).mono ?_
      rintro e w12 ⟨v, rfl, hO, hb⟩
      obtain ⟨q_b, c_b, rfl, S_b, C_b, hQ⟩ := hO.tell (n := nu) (Pol.unl_byt HBq.out 99) HU.out.2.2.2.2.1
      clear hO
      have Q_b_f := hQ _ HF_f.lt
      clear hQ
      replace HB := HB.trans (hb.mono HB.size)
      replace HF_f := HF_f.below hb
      replace S_p := S_p.below hb
      replace S_q := S_q.below hb
      replace S_g := S_g.below hb
      replace S_e := S_e.below hb
      replace S_a := S_a.below hb
      clear hb
      go_wp2
      go_ret
      exact ⟨rfl, HB⟩
theorem own : ownKnob Tryz.prog.godebug = none := by kernel_rfl
theorem laidOut : laidOutB Tryz.prog = true := by kernel_rfl
set_option maxRecDepth 100000 in
theorem lifted (os : Os) (started : os.Started) (H : Type) (enc : TypeId × Value → H) :
    ReturnsInHanded {} Tryz.checked os 4 .any (Rows.valueZerosSpec.pre6 enc Tryz.prog Tryz.f4 Rows.valueZerosRow.domain false) (Rows.valueZerosSpec.post enc Tryz.prog Tryz.f4 false true false false) := by
  refine returnsInHanded_of_change (C := Tryz.checked) own started (by kernel_rfl) Tryz.func4
    (ChangeSpec.witness6 (enc := enc) (C := Tryz.checked) false ⟨#[], #[.int .u8 0, .slice none 0 0, .slice none 0 0], []⟩ 8 (by kernel_rfl) (by kernel_rfl) (by kernel_rfl) (by kernel_rfl)) ?_
  intro W base args ds gs before hval0 hW _ _
  have hval : ∀ (j : Nat) t v, Tryz.f4.params[j]? = some t → args[j]? = some v → Value.okWide Tryz.prog W .any base t v := hval0
  have hW' := hW
  obtain ⟨p, q, hA0, hV, rfl, _, _⟩ := hW
  have hA : DataW.TrodAll enc Tryz.prog W 0 (fun _ => true) true Tryz.f4.params.toList args.toList ds p := hA0
  rw [Tryz.params4] at hA hval
  obtain ⟨v0, vs0, d0, ds0, p0, q0, hargs, rfl, rfl, h0, r0⟩ := trodAll_cons hA
  obtain ⟨v1, vs1, d1, ds1, p1, q1, rfl, rfl, rfl, h1, r1⟩ := trodAll_cons r0
  obtain ⟨v2, vs2, d2, ds2, p2, q2, rfl, rfl, rfl, h2, r2⟩ := trodAll_cons r1
  obtain ⟨rfl, rfl, rfl⟩ := trodAll_nil r2
  obtain rfl : args = #[v0, v1, v2] := by cases args; simp_all
  obtain ⟨rfl, rfl⟩ := trodVars_none hV
  obtain ⟨a0, rfl, rfl, rfl, w0⟩ := open_int Tryz.underlying5 (hval 0 5 v0 rfl rfl) h0
  obtain ⟨n0, b0, rfl⟩ := nat_of_u8 w0
  have k1 := h1
  obtain ⟨q1, n1, c1, xs1, rfl, w1⟩ := open_bytes Tryz.underlying22 Tryz.underlying5 (by kernel_rfl) (hval 1 22 v1 rfl rfl) h1
  have k2 := h2
  obtain ⟨q2, n2, c2, xs2, rfl, w2⟩ := open_bytes Tryz.underlying22 Tryz.underlying5 (by kernel_rfl) (hval 2 22 v2 rfl rfl) h2
  clear hA0 hval0
  simp only [List.append_nil] at hW'
  refine (walk (w := W) n0 q1 n1 c1 xs1 q2 n2 c2 xs2 b0 w1 w2).mono fun e W' ⟨he, bel⟩ => ?_
  subst he
  exact ⟨_, rfl, _, _, _, [], _, [], hW', trodAll_mk1 (shut_bool Tryz.underlying4 _), (trodAll_cons_mk (shut_int Tryz.underlying5 w0) (trodAll_cons_mk (shut_same laidOut (by kernel_rfl) (of_decide_eq_true (by kernel_rfl)) k1 bel) (trodAll_cons_mk (shut_same laidOut (by kernel_rfl) (of_decide_eq_true (by kernel_rfl)) k2 bel) trodAll_mk0))), rfl, bel.frame _, fun h => by cases h⟩
theorem over : Rows.valueZerosRow.holds Tryz.pinned (OpenSpec.ofChange Rows.valueZerosSpec) :=
  OpenClaim.holds_of_wide 4 Tryz.f4 rfl rfl rfl rfl rfl rfl rfl ⟨rfl, rfl, rfl, rfl, rfl⟩ rfl rfl rfl rfl rfl (by kernel_rfl) Tryz.func4 (by kernel_rfl)
    (of_decide_eq_true (by kernel_rfl)) (by unfold Func.isWrapper; first | (rw [if_pos (by decide +kernel)]; kernel_rfl) | (rw [if_neg (by decide +kernel)]; exact ⟨rfl, rfl⟩))
    (fun os started H enc _ => lifted os started H enc)
theorem proved : Rows.ValueZerosSaid := over
#print axioms proved
end Go.Proofs.YtafjlbkcpjkojaaGreat.valueZeros
