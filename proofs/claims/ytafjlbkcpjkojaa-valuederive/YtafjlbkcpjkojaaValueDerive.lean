/- ValueDerive holds for every input: derivatives go with sums, and with products as Leibniz has it; squares have none. No conditions. -/
import Derived.Test.YtafjlbkcpjkojaaRows
import Derived.Test.YtafjlbkcpjkojaaMB
import Derived.Test.YtafjlbkcpjkojaaKnown07
namespace Go.Proofs.Ytafjlbkcpjkojaa.valueDerive
open Go.ChangeShapes Go.WideShapes Go.ChangeAt Go.RowKit
open Pol (IsN Dg ofL Byt vl)

set_option maxRecDepth 100000 in
set_option maxHeartbeats 4000000 in
theorem walk (j : Nat) (q : Option Addr) (n c : Nat) (xs : List Nat) (p : Option Addr) (m d : Nat) (ys : List Nat) (w : World) (hj : j < 256) (S_p : Bs w q n xs) (y_p : n ≤ c ∧ c ≤ 140737488351232) (S_q : Bs w p m ys) (y_q : m ≤ d ∧ d ≤ 140737488351232) :
    Calls Try.prog 4 #[.int .u8 j, .slice q n c, .slice p m d] w fun e w' => e = .returned (.bool true) ∧ Below w.heap.size w w' := by
  obtain ⟨k, hk⟩ : ∃ k : Nat, 1 + j % 3 = k := ⟨_, rfl⟩
  have hk1 : 1 ≤ k := by omega
  have hk3 : k ≤ 3 := by omega
  have hki : (1 : Int) + (j : Int) % 3 = (k : Int) := by omega
  clear hk
  have HB : Below w.heap.size w w := Below.refl _ _
  have Cp := y_p.1
  have Cq := y_q.1
  have HW : Hid (wrap64 ((n : Int) + (m : Int)) = (n : Int) + (m : Int)) := by show _ = _; unfold wrap64; omega
  clear y_p y_q
  go_enter Try.func4, Try.ntmps4
  by_cases hbig : 100 < n + m
  · have hb1 : (100 : Int) < (n : Int) + (m : Int) := by omega
    have hs1 := HW.out
    go_wp2_with fail
    refine (known07_calls _).mono ?_
    rintro e w1 ⟨rfl, hb⟩
    replace HB := HB.trans (hb.mono HB.size)
    replace S_p := S_p.below hb
    replace S_q := S_q.below hb
    clear hb
    go_wp2
    go_ret
    exact ⟨rfl, HB⟩
  · have hb1 : ((100 : Int) < (n : Int) + (m : Int)) = False := eq_false (by omega)
    have lp := S_p.len
    have lq := S_q.len
    -- derivatives of p, q; products; the sum and the product; their derivatives; the square
    obtain ⟨l1, h1, b1⟩ := Pol.isN_der xs
    obtain ⟨l2, h2, b2⟩ := Pol.isN_der ys
    obtain ⟨l3, h3, b3⟩ := Pol.isN_mul l1 ys
    obtain ⟨l4, h4, b4⟩ := Pol.isN_mul xs l2
    obtain ⟨l5, h5, b5⟩ := Pol.isN_add xs ys
    obtain ⟨l6, h6, b6⟩ := Pol.isN_der l5
    obtain ⟨l7, h7, b7⟩ := Pol.isN_mul xs ys
    obtain ⟨l8, h8, b8⟩ := Pol.isN_der l7
    obtain ⟨l9, h9, b9⟩ := Pol.isN_mul xs xs
    have h6b : IsN l6 (Pol.add (ofL l1) (ofL l2)) := by rw [h1.eq, h2.eq, ← Pol.der_add, ← h5.eq]; exact h6
    have h8b : IsN l8 (Pol.add (ofL l3) (ofL l4)) := by rw [h3.eq, h4.eq, h1.eq, h2.eq, ← Pol.der_mul _ (Pol.ofL_bd xs), ← h7.eq]; exact h8
    have h9b : IsN [] (Pol.der (ofL l9)) := by rw [h9.eq, Pol.der_square (Pol.ofL_bd xs)]; exact Pol.isN_nil
    obtain ⟨n1, e1⟩ : ∃ n1, l1.length = n1 := ⟨_, rfl⟩
    obtain ⟨n2, e2⟩ : ∃ n2, l2.length = n2 := ⟨_, rfl⟩
    obtain ⟨n3, e3⟩ : ∃ n3, l3.length = n3 := ⟨_, rfl⟩
    obtain ⟨n4, e4⟩ : ∃ n4, l4.length = n4 := ⟨_, rfl⟩
    obtain ⟨n5, e5⟩ : ∃ n5, l5.length = n5 := ⟨_, rfl⟩
    obtain ⟨n6, e6⟩ : ∃ n6, l6.length = n6 := ⟨_, rfl⟩
    obtain ⟨n7, e7⟩ : ∃ n7, l7.length = n7 := ⟨_, rfl⟩
    obtain ⟨n8, e8⟩ : ∃ n8, l8.length = n8 := ⟨_, rfl⟩
    obtain ⟨n9, e9⟩ : ∃ n9, l9.length = n9 := ⟨_, rfl⟩
    have HU : Hid (n ≤ 1000 ∧ m ≤ 1000 ∧ n1 ≤ 1000 ∧ n2 ≤ 1000 ∧ n3 ≤ 1000 ∧ n4 ≤ 1000 ∧ n5 ≤ 1000 ∧ n6 ≤ 1000 ∧ n7 ≤ 1000 ∧ n8 ≤ 1000 ∧ n9 ≤ 1000) := by show _ ∧ _; omega
    have HE : Hid (l1.length = n1 ∧ l2.length = n2 ∧ l3.length = n3 ∧ l4.length = n4 ∧ l5.length = n5 ∧ l6.length = n6 ∧ l7.length = n7 ∧ l8.length = n8 ∧ l9.length = n9) := ⟨e1, e2, e3, e4, e5, e6, e7, e8, e9⟩
    have H1 : Hid (IsN l1 (Pol.der (ofL xs))) := h1
    have H2 : Hid (IsN l2 (Pol.der (ofL ys))) := h2
    have H3 : Hid (IsN l3 (Pol.mul (ofL l1) (ofL ys))) := h3
    have H4 : Hid (IsN l4 (Pol.mul (ofL xs) (ofL l2))) := h4
    have H5 : Hid (IsN l5 (Pol.add (ofL xs) (ofL ys))) := h5
    have H6 : Hid (IsN l6 (Pol.der (ofL l5)) ∧ IsN l6 (Pol.add (ofL l1) (ofL l2))) := ⟨h6, h6b⟩
    have H7 : Hid (IsN l7 (Pol.mul (ofL xs) (ofL ys))) := h7
    have H8 : Hid (IsN l8 (Pol.der (ofL l7)) ∧ IsN l8 (Pol.add (ofL l3) (ofL l4))) := ⟨h8, h8b⟩
    have H9 : Hid (IsN l9 (Pol.mul (ofL xs) (ofL xs)) ∧ IsN [] (Pol.der (ofL l9))) := ⟨h9, h9b⟩
    clear hbig lp lq h1 b1 h2 b2 h3 b3 h4 b4 h5 b5 h6 b6 h7 b7 h8 b8 h9 b9 h6b h8b h9b e1 e2 e3 e4 e5 e6 e7 e8 e9
    have hs1 := HW.out
    go_wp2_with fail
    refine (fof_calls k hk1 hk3 _).mono ?_
    rintro e w1 ⟨B_f, T_f, rfl, HF_f, hb, hlB, hlT⟩
    have HL_f : w.heap.size ≤ T_f := Nat.le_trans HB.size hlT
    have Q_p_f := S_p.off hlT
    have Q_q_f := S_q.off hlT
    replace HB := HB.trans (hb.mono HB.size)
    replace S_p := S_p.below hb
    replace S_q := S_q.below hb
    clear hb hlB hlT
    clear hs1 HW hb1 hki
    go_wp2_with fail
    refine (vderive_calls q n c xs l1 H1.out (by have := HU.out; omega) _ S_p).mono ?_
    rintro e w2 ⟨v, rfl, hO, hb⟩
    obtain ⟨q_a, c_a, rfl, S_a, C_a, hQ⟩ := hO.tell (n := n1) H1.out.byt HE.out.1
    clear hO
    have Q_a_f := hQ _ HF_f.lt
    clear hQ
    replace HB := HB.trans (hb.mono HB.size)
    replace HF_f := HF_f.below hb
    replace S_p := S_p.below hb
    replace S_q := S_q.below hb
    clear hb
    go_wp2_with fail
    refine (pmul_calls k B_f T_f n1 c_a m d q_a p l1 ys l3 H3.out (by have := HU.out; omega) (by have := HU.out; omega) C_a Cq _ HF_f S_a S_q Q_a_f Q_q_f).mono ?_
    rintro e w3 ⟨v, rfl, hO, hF, hb⟩
    obtain ⟨q_b, c_b, rfl, S_b, C_b, hQ⟩ := hO.tell (n := n3) H3.out.byt HE.out.2.2.1
    clear hO
    have Q_b_f := hQ _ HF_f.lt
    clear hQ
    replace HB := HB.trans (hb.below HB.size (by rintro k rfl; exact HL_f))
    replace S_p := S_p.but hb Q_p_f
    replace S_q := S_q.but hb Q_q_f
    replace S_a := S_a.but hb Q_a_f
    clear HF_f hb
    have HF_f := hF
    clear hF
    clear S_a
    go_wp2_with fail
    refine (vderive_calls p m d ys l2 H2.out (by have := HU.out; omega) _ S_q).mono ?_
    rintro e w4 ⟨v, rfl, hO, hb⟩
    obtain ⟨q_a, c_a, rfl, S_a, C_a, hQ⟩ := hO.tell (n := n2) H2.out.byt HE.out.2.1
    clear hO
    have Q_a_f := hQ _ HF_f.lt
    clear hQ
    replace HB := HB.trans (hb.mono HB.size)
    replace HF_f := HF_f.below hb
    replace S_p := S_p.below hb
    replace S_q := S_q.below hb
    replace S_b := S_b.below hb
    clear hb
    go_wp2_with fail
    refine (pmul_calls k B_f T_f n c n2 c_a q q_a xs l2 l4 H4.out (by have := HU.out; omega) (by have := HU.out; omega) Cp C_a _ HF_f S_p S_a Q_p_f Q_a_f).mono ?_
    rintro e w5 ⟨v, rfl, hO, hF, hb⟩
    obtain ⟨q_g, c_g, rfl, S_g, C_g, hQ⟩ := hO.tell (n := n4) H4.out.byt HE.out.2.2.2.1
    clear hO
    have Q_g_f := hQ _ HF_f.lt
    clear hQ
    replace HB := HB.trans (hb.below HB.size (by rintro k rfl; exact HL_f))
    replace S_p := S_p.but hb Q_p_f
    replace S_q := S_q.but hb Q_q_f
    replace S_b := S_b.but hb Q_b_f
    replace S_a := S_a.but hb Q_a_f
    clear HF_f hb
    have HF_f := hF
    clear hF
    clear S_a
    go_wp2_with fail
    refine (known07_calls _).mono ?_
    rintro e w6 ⟨rfl, hb⟩
    replace HB := HB.trans (hb.mono HB.size)
    replace HF_f := HF_f.below hb
    replace S_p := S_p.below hb
    replace S_q := S_q.below hb
    replace S_b := S_b.below hb
    replace S_g := S_g.below hb
    clear hb
    go_wp2_with fail
    refine (padd_calls q p n c m d xs ys l5 H5.out (by have := HU.out; omega) (by have := HU.out; omega) _ S_p S_q).mono ?_
    rintro e w7 ⟨v, rfl, hO, hb⟩
    obtain ⟨q_s, c_s, rfl, S_s, C_s, hQ⟩ := hO.tell (n := n5) H5.out.byt HE.out.2.2.2.2.1
    clear hO
    have Q_s_f := hQ _ HF_f.lt
    clear hQ
    replace HB := HB.trans (hb.mono HB.size)
    replace HF_f := HF_f.below hb
    replace S_p := S_p.below hb
    replace S_q := S_q.below hb
    replace S_b := S_b.below hb
    replace S_g := S_g.below hb
    clear hb
    go_wp2_with fail
    refine (vderive_calls q_s n5 c_s l5 l6 H6.out.1 (by have := HU.out; omega) _ S_s).mono ?_
    rintro e w8 ⟨v, rfl, hO, hb⟩
    obtain ⟨q_t, c_t, rfl, S_t, C_t, hQ⟩ := hO.tell (n := n6) H6.out.1.byt HE.out.2.2.2.2.2.1
    clear hO
    have Q_t_f := hQ _ HF_f.lt
    clear hQ
    replace HB := HB.trans (hb.mono HB.size)
    replace HF_f := HF_f.below hb
    replace S_p := S_p.below hb
    replace S_q := S_q.below hb
    replace S_b := S_b.below hb
    replace S_g := S_g.below hb
    replace S_s := S_s.below hb
    clear hb
    clear S_s
    go_wp2_with fail
    refine (vderive_calls q n c xs l1 H1.out (by have := HU.out; omega) _ S_p).mono ?_
    rintro e w9 ⟨v, rfl, hO, hb⟩
    obtain ⟨q_a, c_a, rfl, S_a, C_a, hQ⟩ := hO.tell (n := n1) H1.out.byt HE.out.1
    clear hO
    have Q_a_f := hQ _ HF_f.lt
    clear hQ
    replace HB := HB.trans (hb.mono HB.size)
    replace HF_f := HF_f.below hb
    replace S_p := S_p.below hb
    replace S_q := S_q.below hb
    replace S_b := S_b.below hb
    replace S_g := S_g.below hb
    replace S_t := S_t.below hb
    clear hb
    go_wp2_with fail
    refine (vderive_calls p m d ys l2 H2.out (by have := HU.out; omega) _ S_q).mono ?_
    rintro e w10 ⟨v, rfl, hO, hb⟩
    obtain ⟨q_e, c_e, rfl, S_e, C_e, hQ⟩ := hO.tell (n := n2) H2.out.byt HE.out.2.1
    clear hO
    have Q_e_f := hQ _ HF_f.lt
    clear hQ
    replace HB := HB.trans (hb.mono HB.size)
    replace HF_f := HF_f.below hb
    replace S_p := S_p.below hb
    replace S_q := S_q.below hb
    replace S_b := S_b.below hb
    replace S_g := S_g.below hb
    replace S_t := S_t.below hb
    replace S_a := S_a.below hb
    clear hb
    go_wp2_with fail
    refine (padd_calls q_a q_e n1 c_a n2 c_e l1 l2 l6 H6.out.2 (by have := HU.out; omega) (by have := HU.out; omega) _ S_a S_e).mono ?_
    rintro e w11 ⟨v, rfl, hO, hb⟩
    obtain ⟨q_u, c_u, rfl, S_u, C_u, hQ⟩ := hO.tell (n := n6) H6.out.1.byt HE.out.2.2.2.2.2.1
    clear hO
    have Q_u_f := hQ _ HF_f.lt
    clear hQ
    replace HB := HB.trans (hb.mono HB.size)
    replace HF_f := HF_f.below hb
    replace S_p := S_p.below hb
    replace S_q := S_q.below hb
    replace S_b := S_b.below hb
    replace S_g := S_g.below hb
    replace S_t := S_t.below hb
    replace S_a := S_a.below hb
    replace S_e := S_e.below hb
    clear hb
    clear S_a S_e
    go_wp2_with fail
    refine (psame_calls q_t q_u n6 c_t n6 c_u l6 l6 true (iff_of_true rfl rfl) C_t C_u _ S_t S_u).mono ?_
    rintro e w12 ⟨rfl, hb⟩
    replace HB := HB.trans (hb.mono HB.size)
    replace HF_f := HF_f.below hb
    replace S_p := S_p.below hb
    replace S_q := S_q.below hb
    replace S_b := S_b.below hb
    replace S_g := S_g.below hb
    replace S_t := S_t.below hb
    replace S_u := S_u.below hb
    clear hb
    clear S_t S_u
    go_wp2_with fail
    refine (pmul_calls k B_f T_f n c m d q p xs ys l7 H7.out (by have := HU.out; omega) (by have := HU.out; omega) Cp Cq _ HF_f S_p S_q Q_p_f Q_q_f).mono ?_
    rintro e w13 ⟨v, rfl, hO, hF, hb⟩
    obtain ⟨q_u, c_u, rfl, S_u, C_u, hQ⟩ := hO.tell (n := n7) H7.out.byt HE.out.2.2.2.2.2.2.1
    clear hO
    have Q_u_f := hQ _ HF_f.lt
    clear hQ
    replace HB := HB.trans (hb.below HB.size (by rintro k rfl; exact HL_f))
    replace S_p := S_p.but hb Q_p_f
    replace S_q := S_q.but hb Q_q_f
    replace S_b := S_b.but hb Q_b_f
    replace S_g := S_g.but hb Q_g_f
    clear HF_f hb
    have HF_f := hF
    clear hF
    go_wp2_with fail
    refine (vderive_calls q_u n7 c_u l7 l8 H8.out.1 (by have := HU.out; omega) _ S_u).mono ?_
    rintro e w14 ⟨v, rfl, hO, hb⟩
    obtain ⟨q_t, c_t, rfl, S_t, C_t, hQ⟩ := hO.tell (n := n8) H8.out.1.byt HE.out.2.2.2.2.2.2.2.1
    clear hO
    have Q_t_f := hQ _ HF_f.lt
    clear hQ
    replace HB := HB.trans (hb.mono HB.size)
    replace HF_f := HF_f.below hb
    replace S_p := S_p.below hb
    replace S_q := S_q.below hb
    replace S_b := S_b.below hb
    replace S_g := S_g.below hb
    replace S_u := S_u.below hb
    clear hb
    clear S_u
    go_wp2_with fail
    refine (padd_calls q_b q_g n3 c_b n4 c_g l3 l4 l8 H8.out.2 (by have := HU.out; omega) (by have := HU.out; omega) _ S_b S_g).mono ?_
    rintro e w15 ⟨v, rfl, hO, hb⟩
    obtain ⟨q_u, c_u, rfl, S_u, C_u, hQ⟩ := hO.tell (n := n8) H8.out.1.byt HE.out.2.2.2.2.2.2.2.1
    clear hO
    have Q_u_f := hQ _ HF_f.lt
    clear hQ
    replace HB := HB.trans (hb.mono HB.size)
    replace HF_f := HF_f.below hb
    replace S_p := S_p.below hb
    replace S_q := S_q.below hb
    replace S_b := S_b.below hb
    replace S_g := S_g.below hb
    replace S_t := S_t.below hb
    clear hb
    go_wp2_with fail
    refine (psame_calls q_t q_u n8 c_t n8 c_u l8 l8 true (iff_of_true rfl rfl) C_t C_u _ S_t S_u).mono ?_
    rintro e w16 ⟨rfl, hb⟩
    replace HB := HB.trans (hb.mono HB.size)
    replace HF_f := HF_f.below hb
    replace S_p := S_p.below hb
    replace S_q := S_q.below hb
    replace S_b := S_b.below hb
    replace S_g := S_g.below hb
    replace S_t := S_t.below hb
    replace S_u := S_u.below hb
    clear hb
    clear S_t S_u
    go_wp2_with fail
    refine (pmul_calls k B_f T_f n c n c q q xs xs l9 H9.out.1 (by have := HU.out; omega) (by have := HU.out; omega) Cp Cp _ HF_f S_p S_p Q_p_f Q_p_f).mono ?_
    rintro e w17 ⟨v, rfl, hO, hF, hb⟩
    obtain ⟨q_u, c_u, rfl, S_u, C_u, hQ⟩ := hO.tell (n := n9) H9.out.1.byt HE.out.2.2.2.2.2.2.2.2
    clear hO
    have Q_u_f := hQ _ HF_f.lt
    clear hQ
    replace HB := HB.trans (hb.below HB.size (by rintro k rfl; exact HL_f))
    replace S_p := S_p.but hb Q_p_f
    replace S_q := S_q.but hb Q_q_f
    replace S_b := S_b.but hb Q_b_f
    replace S_g := S_g.but hb Q_g_f
    clear HF_f hb
    have HF_f := hF
    clear hF
    go_wp2_with fail
    refine (vderive_calls q_u n9 c_u l9 [] H9.out.2 (by have := HU.out; omega) _ S_u).mono ?_
    rintro e w18 ⟨v, rfl, hO, hb⟩
    obtain ⟨q_t, c_t, rfl, S_t, C_t, hQ⟩ := hO.tell (n := 0) Pol.byt_nil rfl
    clear hO
    have Q_t_f := hQ _ HF_f.lt
    clear hQ
    replace HB := HB.trans (hb.mono HB.size)
    replace HF_f := HF_f.below hb
    replace S_p := S_p.below hb
    replace S_q := S_q.below hb
    replace S_b := S_b.below hb
    replace S_g := S_g.below hb
    replace S_u := S_u.below hb
    clear hb
    go_wp2
    go_ret
    exact ⟨rfl, HB⟩
theorem own : ownKnob Try.prog.godebug = none := by kernel_rfl
theorem laidOut : laidOutB Try.prog = true := by kernel_rfl
set_option maxRecDepth 100000 in
theorem lifted (os : Os) (started : os.Started) (H : Type) (enc : TypeId × Value → H) :
    ReturnsInHanded {} Try.checked os 4 .any (Rows.valueDeriveSpec.pre6 enc Try.prog Try.f4 Rows.valueDeriveRow.domain false) (Rows.valueDeriveSpec.post enc Try.prog Try.f4 false true false false) := by
  refine returnsInHanded_of_change_sized (C := Try.checked) own started (by kernel_rfl) Try.func4
    (ChangeSpec.witness6 (enc := enc) (C := Try.checked) false ⟨#[], #[.int .u8 0, .slice none 0 0, .slice none 0 0], []⟩ 8 (by kernel_rfl) (by kernel_rfl) (by kernel_rfl) (by kernel_rfl)) ?_
  intro W base args ds gs before hval0 hW _ hz _
  have hval : ∀ (j : Nat) t v, Try.f4.params[j]? = some t → args[j]? = some v → Value.okWide Try.prog W .any base t v := hval0
  have hW' := hW
  obtain ⟨p, q, hA0, hV, rfl, _, _⟩ := hW
  have hA : DataW.TrodAll enc Try.prog W 0 (fun _ => true) true Try.f4.params.toList args.toList ds p := hA0
  rw [Try.params4] at hA hval
  obtain ⟨v0, vs0, d0, ds0, p0, q0, hargs, rfl, rfl, h0, r0⟩ := trodAll_cons hA
  obtain ⟨v1, vs1, d1, ds1, p1, q1, rfl, rfl, rfl, h1, r1⟩ := trodAll_cons r0
  obtain ⟨v2, vs2, d2, ds2, p2, q2, rfl, rfl, rfl, h2, r2⟩ := trodAll_cons r1
  obtain ⟨rfl, rfl, rfl⟩ := trodAll_nil r2
  obtain rfl : args = #[v0, v1, v2] := by cases args; simp_all
  obtain ⟨rfl, rfl⟩ := trodVars_none hV
  obtain ⟨a0, rfl, rfl, rfl, w0⟩ := open_int Try.underlying5 (hval 0 5 v0 rfl rfl) h0
  obtain ⟨n0, b0, rfl⟩ := nat_of_u8 w0
  have k1 := h1
  obtain ⟨q1, n1, c1, xs1, rfl, w1, m1⟩ := open_bytes_sz Try.underlying22 Try.underlying5 (by kernel_rfl) (hval 1 22 v1 rfl rfl) h1
  have y1 : n1 ≤ c1 ∧ c1 ≤ 140737488351232 := ⟨m1.1, m1.2 _ fun el sp hd => by have := sized_slice (j := 1) (t := 22) (e := 5) (elems := el) (spare := sp) hz (by kernel_rfl) (by first | (rw [← hd]; done) | (rw [← hd]; rfl)) Try.underlying22; have hbe : Try.checked.prog.bytesOf 5 = 1 := (by kernel_rfl); have hre : reachBytes = 140737488351232 := rfl; rw [hbe, hre] at this; omega⟩
  have k2 := h2
  obtain ⟨q2, n2, c2, xs2, rfl, w2, m2⟩ := open_bytes_sz Try.underlying22 Try.underlying5 (by kernel_rfl) (hval 2 22 v2 rfl rfl) h2
  have y2 : n2 ≤ c2 ∧ c2 ≤ 140737488351232 := ⟨m2.1, m2.2 _ fun el sp hd => by have := sized_slice (j := 2) (t := 22) (e := 5) (elems := el) (spare := sp) hz (by kernel_rfl) (by first | (rw [← hd]; done) | (rw [← hd]; rfl)) Try.underlying22; have hbe : Try.checked.prog.bytesOf 5 = 1 := (by kernel_rfl); have hre : reachBytes = 140737488351232 := rfl; rw [hbe, hre] at this; omega⟩
  clear hA0 hval0
  simp only [List.append_nil] at hW'
  refine (walk (w := W) n0 q1 n1 c1 xs1 q2 n2 c2 xs2 b0 w1 y1 w2 y2).mono fun e W' ⟨he, bel⟩ => ?_
  subst he
  exact ⟨_, rfl, _, _, _, [], _, [], hW', trodAll_mk1 (shut_bool Try.underlying4 _), (trodAll_cons_mk (shut_int Try.underlying5 w0) (trodAll_cons_mk (shut_same laidOut (by kernel_rfl) (of_decide_eq_true (by kernel_rfl)) k1 bel) (trodAll_cons_mk (shut_same laidOut (by kernel_rfl) (of_decide_eq_true (by kernel_rfl)) k2 bel) trodAll_mk0))), rfl, bel.frame _, fun h => by cases h⟩
theorem over : Rows.valueDeriveRow.holds Try.pinned (OpenSpec.ofChange Rows.valueDeriveSpec) :=
  OpenClaim.holds_of_wide 4 Try.f4 rfl rfl rfl rfl rfl rfl rfl ⟨rfl, rfl, rfl, rfl, rfl⟩ rfl rfl rfl rfl rfl (by kernel_rfl) Try.func4 (by kernel_rfl)
    (of_decide_eq_true (by kernel_rfl)) (by unfold Func.isWrapper; first | (rw [if_pos (by decide +kernel)]; kernel_rfl) | (rw [if_neg (by decide +kernel)]; exact ⟨rfl, rfl⟩))
    (fun os started H enc _ => lifted os started H enc)
theorem proved : Rows.ValueDeriveSaid := over
#print axioms proved
end Go.Proofs.Ytafjlbkcpjkojaa.valueDerive
