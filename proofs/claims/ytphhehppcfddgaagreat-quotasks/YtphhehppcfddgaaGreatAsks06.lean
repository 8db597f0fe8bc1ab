/- The walk of erratumlaw06.asks: whatever two lists, all calls of layer 6 are what the document's answers are. Conditions: lists of at most ten thousand bytes, no longer than their capacities. -/
import Derived.Test.YtphhehppcfddgaaGreatKnown06
import Derived.Test.YtphhehppcfddgaaGreatMT
import Derived.Test.YtphhehppcfddgaaGreatMK
namespace Go.Proofs
open Go.RowKit
open Pol (IsN Dg ofL Byt)
set_option maxRecDepth 100000 in
set_option maxHeartbeats 4000000 in
theorem asks06_calls (k n c m d : Nat) (hk1 : 1 ≤ k) (hk3 : k ≤ 3) (q p : Option Addr) (xs ys : List Nat) (hn : n ≤ 10000) (hm : m ≤ 10000) (Cp : n ≤ c) (Cq : m ≤ d) (w : World) (S_p : Bs w q n xs) (S_q : Bs w p m ys) :
    Calls Tryz.prog 5 #[.int .i64 (k : Int), .slice q n c, .slice p m d] w fun e w' => e = .returned (.bool true) ∧ Below w.heap.size w w' := by
  obtain ⟨zs, rs, b1, hD, bz, br⟩ := isDiv_exists xs ys
  obtain ⟨es, b2, hE, be⟩ := isEx_exists xs ys
  obtain ⟨ms, hM, bm⟩ := isMo_exists xs
  obtain ⟨gs, hG, bg⟩ := isGc_exists xs ys
  obtain ⟨nz, nze⟩ : ∃ nz, zs.length = nz := ⟨_, rfl⟩
  obtain ⟨nr, nre⟩ : ∃ nr, rs.length = nr := ⟨_, rfl⟩
  obtain ⟨ne, nee⟩ : ∃ ne, es.length = ne := ⟨_, rfl⟩
  obtain ⟨nm, nme⟩ : ∃ nm, ms.length = nm := ⟨_, rfl⟩
  obtain ⟨ng, nge⟩ : ∃ ng, gs.length = ng := ⟨_, rfl⟩
  have HH : Hid (IsDiv xs ys zs rs b1 ∧ IsEx xs ys es b2 ∧ IsMo xs ms ∧ IsGc xs ys gs) := ⟨hD, hE, hM, hG⟩
  have HNl : Hid (zs.length = nz ∧ rs.length = nr ∧ es.length = ne ∧ ms.length = nm ∧ gs.length = ng) := ⟨nze, nre, nee, nme, nge⟩
  have HU : Hid (n ≤ 10000 ∧ m ≤ 10000) := ⟨hn, hm⟩
  clear hD hE hM hG bz br be bm bg nze nre nee nme nge hn hm
  have HB : Below w.heap.size w w := Below.refl _ _
  go_enter Tryz.func5, Tryz.ntmps5
  go_wp2_with fail
  refine (fof_calls k hk1 hk3 _).mono ?_
  rintro e w1 ⟨B_f, T_f, rfl, HF_f, hb, hlB, hlT⟩
  have HL_f : w.heap.size ≤ T_f := Nat.le_trans HB.size hlT
  have Q_p_f := S_p.off hlT
  have Q_q_f := S_q.off hlT
  replace HB := HB.trans (hb.mono HB.size)
  replace S_p := S_p.below hb
  replace S_q := S_q.below hb
  clear hb hlB hlT
  go_wp2_with fail
  refine (qdiv_u k B_f T_f n c m d q p xs ys zs rs b1 HH.out.1 (by have := HU.out; omega) (by have := HU.out; omega) Cp Cq _ HF_f S_p S_q Q_p_f Q_q_f).mono ?_
  rintro e w2 ⟨v, v', rfl, hO, hO', hF, hb⟩
  obtain ⟨q_a, c_a, rfl, S_a, C_a, hQ⟩ := hO.tell (n := nz) HH.out.1.byt.1 HNl.out.1
  clear hO
  have Q_a_f := hQ _ HF_f.lt
  clear hQ
  obtain ⟨q_b, c_b, rfl, S_b, C_b, hQ⟩ := hO'.tell (n := nr) HH.out.1.byt.2 HNl.out.2.1
  clear hO'
  have Q_b_f := hQ _ HF_f.lt
  clear hQ
  replace HB := HB.trans (hb.below HB.size (by rintro k rfl; exact HL_f))
  replace S_p := S_p.but hb Q_p_f
  replace S_q := S_q.but hb Q_q_f
  clear HF_f hb
  have HF_f := hF
  clear hF
  go_wp2_with fail
  refine (r6div_u q p n c m d xs ys zs rs b1 HH.out.1 (by have := HU.out; omega) (by have := HU.out; omega) Cp _ S_p S_q).mono ?_
  rintro e w3 ⟨v, v', rfl, hO, hO', hb⟩
  obtain ⟨q_x, c_x, rfl, S_x, C_x, hQ⟩ := hO.tell (n := nz) HH.out.1.byt.1 HNl.out.1
  clear hO
  have Q_x_f := hQ _ HF_f.lt
  clear hQ
  obtain ⟨q_y, c_y, rfl, S_y, C_y, hQ⟩ := hO'.tell (n := nr) HH.out.1.byt.2 HNl.out.2.1
  clear hO'
  have Q_y_f := hQ _ HF_f.lt
  clear hQ
  replace HB := HB.trans (hb.mono HB.size)
  replace HF_f := HF_f.below hb
  replace S_p := S_p.below hb
  replace S_q := S_q.below hb
  replace S_a := S_a.below hb
  replace S_b := S_b.below hb
  clear hb
  go_wp2_with fail
  refine (qmod_u k B_f T_f n c m d q p xs ys zs rs b1 HH.out.1 (by have := HU.out; omega) (by have := HU.out; omega) Cp Cq _ HF_f S_p S_q Q_p_f Q_q_f).mono ?_
  rintro e w4 ⟨v, rfl, hO, hF, hb⟩
  obtain ⟨q_c, c_c, rfl, S_c, C_c, hQ⟩ := hO.tell (n := nr) HH.out.1.byt.2 HNl.out.2.1
  clear hO
  have Q_c_f := hQ _ HF_f.lt
  clear hQ
  replace HB := HB.trans (hb.below HB.size (by rintro k rfl; exact HL_f))
  replace S_p := S_p.but hb Q_p_f
  replace S_q := S_q.but hb Q_q_f
  replace S_a := S_a.but hb Q_a_f
  replace S_b := S_b.but hb Q_b_f
  replace S_x := S_x.but hb Q_x_f
  replace S_y := S_y.but hb Q_y_f
  clear HF_f hb
  have HF_f := hF
  clear hF
  go_wp2_with fail
  refine (qexact_u k B_f T_f n c m d q p xs ys es b2 HH.out.2.1 (by have := HU.out; omega) (by have := HU.out; omega) Cp Cq _ HF_f S_p S_q Q_p_f Q_q_f).mono ?_
  rintro e w5 ⟨v, rfl, hO, hF, hb⟩
  obtain ⟨q_d, c_d, rfl, S_d, C_d, hQ⟩ := hO.tell (n := ne) HH.out.2.1.byt HNl.out.2.2.1
  clear hO
  have Q_d_f := hQ _ HF_f.lt
  clear hQ
  replace HB := HB.trans (hb.below HB.size (by rintro k rfl; exact HL_f))
  replace S_p := S_p.but hb Q_p_f
  replace S_q := S_q.but hb Q_q_f
  replace S_a := S_a.but hb Q_a_f
  replace S_b := S_b.but hb Q_b_f
  replace S_x := S_x.but hb Q_x_f
  replace S_y := S_y.but hb Q_y_f
  replace S_c := S_c.but hb Q_c_f
  clear HF_f hb
  have HF_f := hF
  clear hF
  go_wp2_with fail
  refine (r6exact_u q p n c m d xs ys es b2 HH.out.2.1 (by have := HU.out; omega) (by have := HU.out; omega) Cp _ S_p S_q).mono ?_
  rintro e w6 ⟨v, rfl, hO, hb⟩
  obtain ⟨q_z, c_z, rfl, S_z, C_z, hQ⟩ := hO.tell (n := ne) HH.out.2.1.byt HNl.out.2.2.1
  clear hO
  have Q_z_f := hQ _ HF_f.lt
  clear hQ
  replace HB := HB.trans (hb.mono HB.size)
  replace HF_f := HF_f.below hb
  replace S_p := S_p.below hb
  replace S_q := S_q.below hb
  replace S_a := S_a.below hb
  replace S_b := S_b.below hb
  replace S_x := S_x.below hb
  replace S_y := S_y.below hb
  replace S_c := S_c.below hb
  replace S_d := S_d.below hb
  clear hb
  go_wp2_with fail
  refine (same_calls q_a q_x nz c_a c_x zs _ S_a S_x).mono ?_
  rintro e w7 ⟨rfl, hb⟩
  replace HB := HB.trans (hb.mono HB.size)
  replace HF_f := HF_f.below hb
  replace S_p := S_p.below hb
  replace S_q := S_q.below hb
  replace S_a := S_a.below hb
  replace S_b := S_b.below hb
  replace S_x := S_x.below hb
  replace S_y := S_y.below hb
  replace S_c := S_c.below hb
  replace S_d := S_d.below hb
  replace S_z := S_z.below hb
  clear hb
  go_wp2_with fail
  refine (same_calls q_b q_y nr c_b c_y rs _ S_b S_y).mono ?_
  rintro e w8 ⟨rfl, hb⟩
  replace HB := HB.trans (hb.mono HB.size)
  replace HF_f := HF_f.below hb
  replace S_p := S_p.below hb
  replace S_q := S_q.below hb
  replace S_a := S_a.below hb
  replace S_b := S_b.below hb
  replace S_x := S_x.below hb
  replace S_y := S_y.below hb
  replace S_c := S_c.below hb
  replace S_d := S_d.below hb
  replace S_z := S_z.below hb
  clear hb
  go_wp2_with fail
  refine (same_calls q_c q_y nr c_c c_y rs _ S_c S_y).mono ?_
  rintro e w9 ⟨rfl, hb⟩
  replace HB := HB.trans (hb.mono HB.size)
  replace HF_f := HF_f.below hb
  replace S_p := S_p.below hb
  replace S_q := S_q.below hb
  replace S_a := S_a.below hb
  replace S_b := S_b.below hb
  replace S_x := S_x.below hb
  replace S_y := S_y.below hb
  replace S_c := S_c.below hb
  replace S_d := S_d.below hb
  replace S_z := S_z.below hb
  clear hb
  go_wp2_with fail
  refine (same_calls q_d q_z ne c_d c_z es _ S_d S_z).mono ?_
  rintro e w10 ⟨rfl, hb⟩
  replace HB := HB.trans (hb.mono HB.size)
  replace HF_f := HF_f.below hb
  replace S_p := S_p.below hb
  replace S_q := S_q.below hb
  replace S_a := S_a.below hb
  replace S_b := S_b.below hb
  replace S_x := S_x.below hb
  replace S_y := S_y.below hb
  replace S_c := S_c.below hb
  replace S_d := S_d.below hb
  replace S_z := S_z.below hb
  clear hb
  go_wp2_with fail
  refine (qmonic_u k B_f T_f n c q xs ms HH.out.2.2.1 (by have := HU.out; omega) Cp _ HF_f S_p Q_p_f).mono ?_
  rintro e w11 ⟨v, rfl, hO, hF, hb⟩
  obtain ⟨q_m, c_m, rfl, S_m, C_m, hQ⟩ := hO.tell (n := nm) HH.out.2.2.1.byt HNl.out.2.2.2.1
  clear hO
  have Q_m_f := hQ _ HF_f.lt
  clear hQ
  replace HB := HB.trans (hb.below HB.size (by rintro k rfl; exact HL_f))
  replace S_p := S_p.but hb Q_p_f
  replace S_q := S_q.but hb Q_q_f
  replace S_a := S_a.but hb Q_a_f
  replace S_b := S_b.but hb Q_b_f
  replace S_x := S_x.but hb Q_x_f
  replace S_y := S_y.but hb Q_y_f
  replace S_c := S_c.but hb Q_c_f
  replace S_d := S_d.but hb Q_d_f
  replace S_z := S_z.but hb Q_z_f
  clear HF_f hb
  have HF_f := hF
  clear hF
  go_wp2_with fail
  refine (r6monic_u q n c xs ms HH.out.2.2.1 (by have := HU.out; omega) _ S_p).mono ?_
  rintro e w12 ⟨v, rfl, hO, hb⟩
  obtain ⟨q_n, c_n, rfl, S_n, C_n, hQ⟩ := hO.tell (n := nm) HH.out.2.2.1.byt HNl.out.2.2.2.1
  clear hO
  have Q_n_f := hQ _ HF_f.lt
  clear hQ
  replace HB := HB.trans (hb.mono HB.size)
  replace HF_f := HF_f.below hb
  replace S_p := S_p.below hb
  replace S_q := S_q.below hb
  replace S_a := S_a.below hb
  replace S_b := S_b.below hb
  replace S_x := S_x.below hb
  replace S_y := S_y.below hb
  replace S_c := S_c.below hb
  replace S_d := S_d.below hb
  replace S_z := S_z.below hb
  replace S_m := S_m.below hb
  clear hb
  go_wp2_with fail
  refine (same_calls q_m q_n nm c_m c_n ms _ S_m S_n).mono ?_
  rintro e w13 ⟨rfl, hb⟩
  replace HB := HB.trans (hb.mono HB.size)
  replace HF_f := HF_f.below hb
  replace S_p := S_p.below hb
  replace S_q := S_q.below hb
  replace S_a := S_a.below hb
  replace S_b := S_b.below hb
  replace S_x := S_x.below hb
  replace S_y := S_y.below hb
  replace S_c := S_c.below hb
  replace S_d := S_d.below hb
  replace S_z := S_z.below hb
  replace S_m := S_m.below hb
  replace S_n := S_n.below hb
  clear hb
  go_wp2_with fail
  refine (qgcd_u k B_f T_f n c m d q p xs ys gs HH.out.2.2.2 (by have := HU.out; omega) (by have := HU.out; omega) Cp Cq _ HF_f S_p S_q Q_p_f Q_q_f).mono ?_
  rintro e w14 ⟨v, rfl, hO, hF, hb⟩
  obtain ⟨q_g, c_g, rfl, S_g, C_g, hQ⟩ := hO.tell (n := ng) HH.out.2.2.2.byt HNl.out.2.2.2.2
  clear hO
  have Q_g_f := hQ _ HF_f.lt
  clear hQ
  replace HB := HB.trans (hb.below HB.size (by rintro k rfl; exact HL_f))
  replace S_p := S_p.but hb Q_p_f
  replace S_q := S_q.but hb Q_q_f
  replace S_a := S_a.but hb Q_a_f
  replace S_b := S_b.but hb Q_b_f
  replace S_x := S_x.but hb Q_x_f
  replace S_y := S_y.but hb Q_y_f
  replace S_c := S_c.but hb Q_c_f
  replace S_d := S_d.but hb Q_d_f
  replace S_z := S_z.but hb Q_z_f
  replace S_m := S_m.but hb Q_m_f
  replace S_n := S_n.but hb Q_n_f
  clear HF_f hb
  have HF_f := hF
  clear hF
  go_wp2_with fail
  refine (r6gcd_u q p n c m d xs ys gs HH.out.2.2.2 (by have := HU.out; omega) (by have := HU.out; omega) Cp Cq _ S_p S_q).mono ?_
  rintro e w15 ⟨v, rfl, hO, hb⟩
  obtain ⟨q_h, c_h, rfl, S_h, C_h, hQ⟩ := hO.tell (n := ng) HH.out.2.2.2.byt HNl.out.2.2.2.2
  clear hO
  have Q_h_f := hQ _ HF_f.lt
  clear hQ
  replace HB := HB.trans (hb.mono HB.size)
  replace HF_f := HF_f.below hb
  replace S_p := S_p.below hb
  replace S_q := S_q.below hb
  replace S_a := S_a.below hb
  replace S_b := S_b.below hb
  replace S_x := S_x.below hb
  replace S_y := S_y.below hb
  replace S_c := S_c.below hb
  replace S_d := S_d.below hb
  replace S_z := S_z.below hb
  replace S_m := S_m.below hb
  replace S_n := S_n.below hb
  replace S_g := S_g.below hb
  clear hb
  go_wp2_with fail
  refine (same_calls q_g q_h ng c_g c_h gs _ S_g S_h).mono ?_
  rintro e w16 ⟨rfl, hb⟩
  replace HB := HB.trans (hb.mono HB.size)
  replace HF_f := HF_f.below hb
  replace S_p := S_p.below hb
  replace S_q := S_q.below hb
  replace S_a := S_a.below hb
  replace S_b := S_b.below hb
  replace S_x := S_x.below hb
  replace S_y := S_y.below hb
  replace S_c := S_c.below hb
  replace S_d := S_d.below hb
  replace S_z := S_z.below hb
  replace S_m := S_m.below hb
  replace S_n := S_n.below hb
  replace S_g := S_g.below hb
  replace S_h := S_h.below hb
  clear hb
  go_wp2
  go_ret
  exact ⟨rfl, HB⟩
end Go.Proofs
