/- QuotBack holds for every input: a quotient times what it was divided by, and what is left, are what was there; what is left is of a lower degree. No conditions. -/
import Derived.Test.YtphhehppcfddgaaRows
import Derived.Test.YtphhehppcfddgaaMB
import Derived.Test.YtphhehppcfddgaaKnown06
import Derived.Test.YtphhehppcfddgaaMJ
namespace Go.Proofs.Ytphhehppcfddgaa.quotBack
open Go.ChangeShapes Go.WideShapes Go.ChangeAt Go.RowKit
open Pol (IsN Dg ofL Byt)

set_option maxRecDepth 100000 in
set_option maxHeartbeats 4000000 in
theorem walk (j : Nat) (q : Option Addr) (n c : Nat) (xs : List Nat) (p : Option Addr) (m d : Nat) (ys : List Nat) (w : World) (hj : j < 256) (S_p : Bs w q n xs) (y_p : n ≤ c ∧ c ≤ 140737488351232) (S_q : Bs w p m ys) (y_q : m ≤ d ∧ d ≤ 140737488351232) :
    Calls Try.prog 3 #[.int .u8 j, .slice q n c, .slice p m d] w fun e w' => e = .returned (.bool true) ∧ Below w.heap.size w w' := by
  obtain ⟨k, hk⟩ : ∃ k : Nat, 1 + j % 3 = k := ⟨_, rfl⟩
  have hk1 : 1 ≤ k := by omega
  have hk3 : k ≤ 3 := by omega
  have hki : (1 : Int) + (j : Int) % 3 = (k : Int) := by omega
  clear hk
  have HB : Below w.heap.size w w := Below.refl _ _
  have Cp := y_p.1
  have Cq := y_q.1
  have HW : Hid (wrap64 ((n : Int) + (m : Int)) = (n : Int) + (m : Int)) := by show _ = _; unfold wrap64; omega
  clear y_p y_q
  go_enter Try.func3, Try.ntmps3
  by_cases hbig : 120 < n + m
  · have hb1 : (120 : Int) < (n : Int) + (m : Int) := by omega
    have hs1 := HW.out
    go_wp2_with fail
    refine (known06_calls _).mono ?_
    rintro e w1 ⟨rfl, hb⟩
    replace HB := HB.trans (hb.mono HB.size)
    replace S_p := S_p.below hb
    replace S_q := S_q.below hb
    clear hb
    go_wp2
    go_ret
    exact ⟨rfl, HB⟩
  · have hb1 : ((120 : Int) < (n : Int) + (m : Int)) = False := eq_false (by omega)
    have hs1 := HW.out
    have hn9 : n ≤ 1000000000 := by omega
    have hm9 : m ≤ 1000000000 := by omega
    have HU0 : Hid (n ≤ 120 ∧ m ≤ 120 ∧ n ≤ 1000000000 ∧ m ≤ 1000000000) := by show _ ∧ _; omega
    clear hbig hn9 hm9
    go_wp2_with fail
    refine (fof_calls k hk1 hk3 _).mono ?_
    rintro e w1 ⟨B_f, T_f, rfl, HF_f, hb, hlB, hlT⟩
    have HL_f : w.heap.size ≤ T_f := Nat.le_trans HB.size hlT
    have Q_p_f := S_p.off hlT
    have Q_q_f := S_q.off hlT
    replace HB := HB.trans (hb.mono HB.size)
    replace S_p := S_p.below hb
    replace S_q := S_q.below hb
    clear hb hlB hlT
    clear hb1 hki hs1 HW
    obtain ⟨dq, hdq, gq⟩ := Pol.dg_list ys
    cases dq with
    | zero =>
      have K0 := pdeg_calls p m d ys 0 gq
      go_wp2_with fail
      refine (qdiv_zero k B_f T_f n c m d q p ys gq _ HF_f S_q).mono ?_
      rintro e w2 ⟨rfl, hF, hb⟩
      replace HB := HB.trans (hb.below HB.size (by rintro k rfl; exact HL_f))
      replace S_p := S_p.but hb Q_p_f
      replace S_q := S_q.but hb Q_q_f
      clear HF_f hb
      have HF_f := hF
      clear hF
      go_wp2_with fail
      refine (pdeg_calls p m d ys 0 gq _ S_q).mono ?_
      rintro e w3 ⟨rfl, hb⟩
      replace HB := HB.trans (hb.mono HB.size)
      replace HF_f := HF_f.below hb
      replace S_p := S_p.below hb
      replace S_q := S_q.below hb
      clear hb
      go_wp2_with fail
      refine (known06_calls _).mono ?_
      rintro e w4 ⟨rfl, hb⟩
      replace HB := HB.trans (hb.mono HB.size)
      replace HF_f := HF_f.below hb
      replace S_p := S_p.below hb
      replace S_q := S_q.below hb
      clear hb
      go_wp2
      go_ret
      exact ⟨rfl, HB⟩
    | succ dq =>
      obtain ⟨A, R, hA, hR, he⟩ := Pol.div_exists gq n (ofL xs) (by have := Pol.ofL_bd xs; rwa [S_p.len] at this)
      obtain ⟨la, ha, ba⟩ := Pol.isN_of_bd hA
      obtain ⟨lr, hr, br⟩ := Pol.isN_of_bd hR
      obtain ⟨lm, hm, bm⟩ := Pol.isN_mul la ys
      obtain ⟨l1, h1, b1⟩ := Pol.isN_norm xs
      obtain ⟨dr, hdr, gr⟩ := Pol.dg_list lr
      have hrd := gr.le (show Pol.Bd dq (ofL lr) by rw [hr.eq]; exact hR)
      have h1' : IsN l1 (Pol.add (ofL lm) (ofL lr)) := by rw [hm.eq, hr.eq, ha.eq, ← he]; exact h1
      have lq := S_q.len
      have lp := S_p.len
      obtain ⟨na, nae⟩ : ∃ na, la.length = na := ⟨_, rfl⟩
      obtain ⟨nr, nre⟩ : ∃ nr, lr.length = nr := ⟨_, rfl⟩
      obtain ⟨nm, nme⟩ : ∃ nm, lm.length = nm := ⟨_, rfl⟩
      obtain ⟨n1, n1e⟩ : ∃ n1, l1.length = n1 := ⟨_, rfl⟩
      have HU : Hid (na ≤ 1000 ∧ nr ≤ 1000 ∧ nm ≤ 1000 ∧ n1 ≤ 1000 ∧ n ≤ 1000 ∧ m ≤ 1000) := by have := HU0.out; show _ ∧ _; omega
      have HH : Hid (Dg (dq + 1) (ofL ys) ∧ IsN la A ∧ IsN lr R ∧ Pol.Bd dq R ∧ ofL xs = Pol.add (Pol.mul A (ofL ys)) R ∧ IsN lm (Pol.mul (ofL la) (ofL ys)) ∧ IsN l1 (Pol.add (ofL lm) (ofL lr)) ∧ ofL l1 = ofL xs ∧ Dg dr (ofL lr)) := ⟨gq, ha, hr, hR, he, hm, h1', h1.eq, gr⟩
      have HNl : Hid (la.length = na ∧ lr.length = nr ∧ lm.length = nm ∧ l1.length = n1) := ⟨nae, nre, nme, n1e⟩
      have hlt : (dr : Int) - 1 < (dq : Int) := by omega
      clear gq hdq hA hR he ha ba hr br hm bm h1 b1 hdr gr hrd h1' nae nre nme n1e lq lp HU0
      go_wp2_with fail
      refine (qdiv_calls k B_f T_f n c m d dq q p xs ys la lr A R HH.out.1 HH.out.2.1 HH.out.2.2.1 HH.out.2.2.2.1 HH.out.2.2.2.2.1 (by have := HU.out; omega) (by have := HU.out; omega) Cp Cq _ HF_f S_p S_q Q_p_f Q_q_f).mono ?_
      rintro e w2 ⟨v, v', rfl, hO, hO', hF, hb⟩
      obtain ⟨q_a, c_a, rfl, S_a, C_a, hQ⟩ := hO.tell (n := na) HH.out.2.1.byt HNl.out.1
      clear hO
      have Q_a_f := hQ _ HF_f.lt
      clear hQ
      obtain ⟨q_b, c_b, rfl, S_b, C_b, hQ⟩ := hO'.tell (n := nr) HH.out.2.2.1.byt HNl.out.2.1
      clear hO'
      have Q_b_f := hQ _ HF_f.lt
      clear hQ
      replace HB := HB.trans (hb.below HB.size (by rintro k rfl; exact HL_f))
      replace S_p := S_p.but hb Q_p_f
      replace S_q := S_q.but hb Q_q_f
      clear HF_f hb
      have HF_f := hF
      clear hF
      go_wp2_with fail
      refine (pdeg_calls p m d ys (dq + 1) HH.out.1 _ S_q).mono ?_
      rintro e w3 ⟨rfl, hb⟩
      replace HB := HB.trans (hb.mono HB.size)
      replace HF_f := HF_f.below hb
      replace S_p := S_p.below hb
      replace S_q := S_q.below hb
      replace S_a := S_a.below hb
      replace S_b := S_b.below hb
      clear hb
      go_wp2_with fail
      refine (known06_calls _).mono ?_
      rintro e w4 ⟨rfl, hb⟩
      replace HB := HB.trans (hb.mono HB.size)
      replace HF_f := HF_f.below hb
      replace S_p := S_p.below hb
      replace S_q := S_q.below hb
      replace S_a := S_a.below hb
      replace S_b := S_b.below hb
      clear hb
      go_wp2_with fail
      refine (pmul_calls k B_f T_f na c_a m d q_a p la ys lm HH.out.2.2.2.2.2.1 (by have := HU.out; omega) (by have := HU.out; omega) C_a Cq _ HF_f S_a S_q Q_a_f Q_q_f).mono ?_
      rintro e w5 ⟨v, rfl, hO, hF, hb⟩
      obtain ⟨q_m, c_m, rfl, S_m, C_m, hQ⟩ := hO.tell (n := nm) HH.out.2.2.2.2.2.1.byt HNl.out.2.2.1
      clear hO
      have Q_m_f := hQ _ HF_f.lt
      clear hQ
      replace HB := HB.trans (hb.below HB.size (by rintro k rfl; exact HL_f))
      replace S_p := S_p.but hb Q_p_f
      replace S_q := S_q.but hb Q_q_f
      replace S_a := S_a.but hb Q_a_f
      replace S_b := S_b.but hb Q_b_f
      clear HF_f hb
      have HF_f := hF
      clear hF
      go_wp2_with fail
      refine (padd_calls q_m q_b nm c_m nr c_b lm lr l1 HH.out.2.2.2.2.2.2.1 (by have := HU.out; omega) (by have := HU.out; omega) _ S_m S_b).mono ?_
      rintro e w6 ⟨v, rfl, hO, hb⟩
      obtain ⟨q_s, c_s, rfl, S_s, C_s, hQ⟩ := hO.tell (n := n1) HH.out.2.2.2.2.2.2.1.byt HNl.out.2.2.2
      clear hO
      have Q_s_f := hQ _ HF_f.lt
      clear hQ
      replace HB := HB.trans (hb.mono HB.size)
      replace HF_f := HF_f.below hb
      replace S_p := S_p.below hb
      replace S_q := S_q.below hb
      replace S_a := S_a.below hb
      replace S_b := S_b.below hb
      replace S_m := S_m.below hb
      clear hb
      go_wp2_with fail
      refine (psame_calls q_s q n1 c_s n c l1 xs true (iff_of_true rfl HH.out.2.2.2.2.2.2.2.1) C_s Cp _ S_s S_p).mono ?_
      rintro e w7 ⟨rfl, hb⟩
      replace HB := HB.trans (hb.mono HB.size)
      replace HF_f := HF_f.below hb
      replace S_p := S_p.below hb
      replace S_q := S_q.below hb
      replace S_a := S_a.below hb
      replace S_b := S_b.below hb
      replace S_m := S_m.below hb
      replace S_s := S_s.below hb
      clear hb
      go_wp2_with fail
      refine (pdeg_calls q_b nr c_b lr dr HH.out.2.2.2.2.2.2.2.2 _ S_b).mono ?_
      rintro e w8 ⟨rfl, hb⟩
      replace HB := HB.trans (hb.mono HB.size)
      replace HF_f := HF_f.below hb
      replace S_p := S_p.below hb
      replace S_q := S_q.below hb
      replace S_a := S_a.below hb
      replace S_b := S_b.below hb
      replace S_m := S_m.below hb
      replace S_s := S_s.below hb
      clear hb
      go_wp2_with fail
      refine (pdeg_calls p m d ys (dq + 1) HH.out.1 _ S_q).mono ?_
      rintro e w9 ⟨rfl, hb⟩
      replace HB := HB.trans (hb.mono HB.size)
      replace HF_f := HF_f.below hb
      replace S_p := S_p.below hb
      replace S_q := S_q.below hb
      replace S_a := S_a.below hb
      replace S_b := S_b.below hb
      replace S_m := S_m.below hb
      replace S_s := S_s.below hb
      clear hb
      go_wp2
      go_ret
      exact ⟨rfl, HB⟩
theorem own : ownKnob Try.prog.godebug = none := by kernel_rfl
theorem laidOut : laidOutB Try.prog = true := by kernel_rfl
set_option maxRecDepth 100000 in
theorem lifted (os : Os) (started : os.Started) (H : Type) (enc : TypeId × Value → H) :
    ReturnsInHanded {} Try.checked os 3 .any (Rows.quotBackSpec.pre6 enc Try.prog Try.f3 Rows.quotBackRow.domain false) (Rows.quotBackSpec.post enc Try.prog Try.f3 false true false false) := by
  refine returnsInHanded_of_change_sized (C := Try.checked) own started (by kernel_rfl) Try.func3
    (ChangeSpec.witness6 (enc := enc) (C := Try.checked) false ⟨#[], #[.int .u8 0, .slice none 0 0, .slice none 0 0], []⟩ 8 (by kernel_rfl) (by kernel_rfl) (by kernel_rfl) (by kernel_rfl)) ?_
  intro W base args ds gs before hval0 hW _ hz _
  have hval : ∀ (j : Nat) t v, Try.f3.params[j]? = some t → args[j]? = some v → Value.okWide Try.prog W .any base t v := hval0
  have hW' := hW
  obtain ⟨p, q, hA0, hV, rfl, _, _⟩ := hW
  have hA : DataW.TrodAll enc Try.prog W 0 (fun _ => true) true Try.f3.params.toList args.toList ds p := hA0
  rw [Try.params3] at hA hval
  obtain ⟨v0, vs0, d0, ds0, p0, q0, hargs, rfl, rfl, h0, r0⟩ := trodAll_cons hA
  obtain ⟨v1, vs1, d1, ds1, p1, q1, rfl, rfl, rfl, h1, r1⟩ := trodAll_cons r0
  obtain ⟨v2, vs2, d2, ds2, p2, q2, rfl, rfl, rfl, h2, r2⟩ := trodAll_cons r1
  obtain ⟨rfl, rfl, rfl⟩ := trodAll_nil r2
  obtain rfl : args = #[v0, v1, v2] := by cases args; simp_all
  obtain ⟨rfl, rfl⟩ := trodVars_none hV
  obtain ⟨a0, rfl, rfl, rfl, w0⟩ := open_int Try.underlying5 (hval 0 5 v0 rfl rfl) h0
  obtain ⟨n0, b0, rfl⟩ := nat_of_u8 w0
  have k1 := h1
  obtain ⟨q1, n1, c1, xs1, rfl, w1, m1⟩ := open_bytes_sz Try.underlying22 Try.underlying5 (by kernel_rfl) (hval 1 22 v1 rfl rfl) h1
  have y1 : n1 ≤ c1 ∧ c1 ≤ 140737488351232 := ⟨m1.1, m1.2 _ fun el sp hd => by have := sized_slice (j := 1) (t := 22) (e := 5) (elems := el) (spare := sp) hz (by kernel_rfl) (by first | (rw [← hd]; done) | (rw [← hd]; rfl)) Try.underlying22; have hbe : Try.checked.prog.bytesOf 5 = 1 := (by kernel_rfl); have hre : reachBytes = 140737488351232 := rfl; rw [hbe, hre] at this; omega⟩
  have k2 := h2
  obtain ⟨q2, n2, c2, xs2, rfl, w2, m2⟩ := open_bytes_sz Try.underlying22 Try.underlying5 (by kernel_rfl) (hval 2 22 v2 rfl rfl) h2
  have y2 : n2 ≤ c2 ∧ c2 ≤ 140737488351232 := ⟨m2.1, m2.2 _ fun el sp hd => by have := sized_slice (j := 2) (t := 22) (e := 5) (elems := el) (spare := sp) hz (by kernel_rfl) (by first | (rw [← hd]; done) | (rw [← hd]; rfl)) Try.underlying22; have hbe : Try.checked.prog.bytesOf 5 = 1 := (by kernel_rfl); have hre : reachBytes = 140737488351232 := rfl; rw [hbe, hre] at this; omega⟩
  clear hA0 hval0
  simp only [List.append_nil] at hW'
  refine (walk (w := W) n0 q1 n1 c1 xs1 q2 n2 c2 xs2 b0 w1 y1 w2 y2).mono fun e W' ⟨he, bel⟩ => ?_
  subst he
  exact ⟨_, rfl, _, _, _, [], _, [], hW', trodAll_mk1 (shut_bool Try.underlying4 _), (trodAll_cons_mk (shut_int Try.underlying5 w0) (trodAll_cons_mk (shut_same laidOut (by kernel_rfl) (of_decide_eq_true (by kernel_rfl)) k1 bel) (trodAll_cons_mk (shut_same laidOut (by kernel_rfl) (of_decide_eq_true (by kernel_rfl)) k2 bel) trodAll_mk0))), rfl, bel.frame _, fun h => by cases h⟩
theorem over : Rows.quotBackRow.holds Try.pinned (OpenSpec.ofChange Rows.quotBackSpec) :=
  OpenClaim.holds_of_wide 3 Try.f3 rfl rfl rfl rfl rfl rfl rfl ⟨rfl, rfl, rfl, rfl, rfl⟩ rfl rfl rfl rfl rfl (by kernel_rfl) Try.func3 (by kernel_rfl)
    (of_decide_eq_true (by kernel_rfl)) (by unfold Func.isWrapper; first | (rw [if_pos (by decide +kernel)]; kernel_rfl) | (rw [if_neg (by decide +kernel)]; exact ⟨rfl, rfl⟩))
    (fun os started H enc _ => lifted os started H enc)
theorem proved : Rows.QuotBackSaid := over
#print axioms proved
end Go.Proofs.Ytphhehppcfddgaa.quotBack
