/- FieldSame holds for every input: the backend changes nothing: whatever is asked, all three tell the same. No conditions. -/
import Derived.Test.YtgbbnlgleghhlaaRows
import Derived.Test.YtgbbnlgleghhlaaNums
import Derived.Test.YtgbbnlgleghhlaaCaps
import Derived.Test.YtgbbnlgleghhlaaKnown04
import Derived.Test.YtgbbnlgleghhlaaRefSame
import Derived.Test.YtgbbnlgleghhlaaTold
namespace Go.Proofs.Ytgbbnlgleghhlaa.fieldSame
open Go.ChangeShapes Go.WideShapes Go.ChangeAt Go.RowKit

set_option maxRecDepth 100000 in
set_option maxHeartbeats 8000000 in
theorem walk (a b : Nat) (q : Option Addr) (n c : Nat) (xs : List Nat) (p : Option Addr) (m d : Nat) (ys : List Nat) (z : Int) (w : World) (ha : a < 256) (hb0 : b < 256) (S_l : Bs w q n xs) (hc : n ≤ c ∧ c ≤ 140737488351232) (S_m : Bs w p m ys) (hd : m ≤ d ∧ d ≤ 140737488351232) (hz1 : -32768 ≤ z) (hz2 : z < 32768) :
    Calls Try.prog 4 #[.int .u8 a, .int .u8 b, .slice q n c, .slice p m d, .int .i16 z] w fun e w' => e = .returned (.bool true) ∧ Below w.heap.size w w' := by
  have hnot : ∀ (x : Bool) (w : World), (Op.unary .not (.bool x)).run Try.prog w = .ok (.bool (!x)) w := fun _ _ => rfl
  have HE : Hid (∀ i, (xs.map (Gf.mul a)).getD i 0 < 256) := map_byte a xs ha
  have HEn : Hid ((xs.map (Gf.mul a)).length = n) := by
    show (xs.map (Gf.mul a)).length = n
    rw [List.length_map]; exact S_l.len
  obtain ⟨mn, hmn⟩ : ∃ mn, (List.zipWith Gf.mul xs ys).length = mn := ⟨_, rfl⟩
  have HPn : Hid ((List.zipWith Gf.mul xs ys).length = mn) := hmn
  clear hmn
  have HP : Hid (∀ i, (List.zipWith Gf.mul xs ys).getD i 0 < 256) := zip_byte xs ys S_l.byte
  have HB : Below w.heap.size w w := Below.refl _ _
  go_enter Try.func4, Try.ntmps4
  by_cases hbig : 300 < n + m
  · have hbi : (300 : Int) < (n : Int) + (m : Int) := by omega
    go_wp2_with fail
    refine (known04_calls _).mono ?_
    rintro e w1 ⟨rfl, hb⟩
    replace HB := HB.trans (hb.mono HB.size)
    replace S_l := S_l.below hb
    replace S_m := S_m.below hb
    clear hb
    go_wp2
    go_ret
    exact ⟨rfl, HB⟩
  · have hbi : ¬ (300 : Int) < (n : Int) + (m : Int) := by omega
    have hn : n ≤ 1000000000 := by omega
    have hm : m ≤ 1000000000 := by omega
    have hnc := hc.1
    have hmd := hd.1
    go_wp2_with fail
    refine (fof_calls 1 (by decide) (by decide) _).mono ?_
    rintro e w1 ⟨B_f, T_f, rfl, HF_f, hb, hlB, hlT⟩
    have HL_f : w.heap.size ≤ T_f := Nat.le_trans HB.size hlT
    have Q_l_f := S_l.off hlT
    have Q_m_f := S_m.off hlT
    replace HB := HB.trans (hb.mono HB.size)
    replace S_l := S_l.below hb
    replace S_m := S_m.below hb
    clear hb hlB hlT
    have HS : Hid (Below w.heap.size w w1 ∧ Fd 1 B_f T_f w1 ∧ Bs w1 q n xs ∧ Bs w1 p m ys) := ⟨HB, HF_f, S_l, S_m⟩
    clear HB HF_f S_l S_m hbig
    go_wp2
    go_loopw [12] (fun i wr => ∃ k : Nat, 2 ≤ k ∧ k ≤ 4 ∧ i = .int .i64 (k : Int) ∧ Below w.heap.size w wr ∧ Fd 1 B_f T_f wr ∧ Bs wr q n xs ∧ Bs wr p m ys) (fun i _ => 4 - (intOf i).toNat)
    case atStart => exact ⟨2, by omega, by omega, rfl, HS.out⟩
    case round =>
      clear HS
      obtain ⟨k, hk2, hk4, rfl, HB, HF_f, S_l, S_m⟩ := hrel
      by_cases hk : k ≤ 3
      · have hki : (k : Int) ≤ 3 := by omega
        have hk1 : 1 ≤ k := by omega
        go_wp2_with fail
        refine (fof_calls k hk1 hk _).mono ?_
        rintro e w2 ⟨B_g, T_g, rfl, HF_g, hb, hlB, hlT⟩
        have HL_g : w.heap.size ≤ T_g := Nat.le_trans HB.size hlT
        have NB_f_g : ¬ B_f = T_g := by have := HF_f.blt; omega
        have NT_f_g : ¬ T_f = T_g := by have := HF_f.lt; omega
        have NB_g_f : ¬ B_g = T_f := by have := HF_f.lt; omega
        have NT_g_f : ¬ T_g = T_f := by have := HF_f.lt; omega
        have Q_l_g := S_l.off hlT
        have Q_m_g := S_m.off hlT
        replace HB := HB.trans (hb.mono HB.size)
        replace HF_f := HF_f.below hb
        replace S_l := S_l.below hb
        replace S_m := S_m.below hb
        clear hb hlB hlT
        go_wp2_with fail
        refine (finv_e 1 B_f T_f a (Gf.inv a) (a != 0) ha rfl rfl _ HF_f).mono ?_
        rintro e w3 ⟨rfl, hF, hb⟩
        replace HB := HB.trans (hb.below HB.size (by rintro k rfl; exact HL_f))
        replace HF_g := HF_g.but hb NB_g_f NT_g_f
        replace S_l := S_l.but hb Q_l_f
        replace S_m := S_m.but hb Q_m_f
        clear HF_f hb
        have HF_f := hF
        clear hF
        go_wp2_with fail
        refine (finv_e k B_g T_g a (Gf.inv a) (a != 0) ha rfl rfl _ HF_g).mono ?_
        rintro e w4 ⟨rfl, hF, hb⟩
        replace HB := HB.trans (hb.below HB.size (by rintro k rfl; exact HL_g))
        replace HF_f := HF_f.but hb NB_f_g NT_f_g
        replace S_l := S_l.but hb Q_l_g
        replace S_m := S_m.but hb Q_m_g
        clear HF_g hb
        have HF_g := hF
        clear hF
        go_wp2_with fail
        refine (fmul_e 1 B_f T_f a b (Gf.mul a b) ha hb0 rfl _ HF_f).mono ?_
        rintro e w5 ⟨rfl, hF, hb⟩
        replace HB := HB.trans (hb.below HB.size (by rintro k rfl; exact HL_f))
        replace HF_g := HF_g.but hb NB_g_f NT_g_f
        replace S_l := S_l.but hb Q_l_f
        replace S_m := S_m.but hb Q_m_f
        clear HF_f hb
        have HF_f := hF
        clear hF
        go_wp2_with fail
        refine (fmul_e k B_g T_g a b (Gf.mul a b) ha hb0 rfl _ HF_g).mono ?_
        rintro e w6 ⟨rfl, hF, hb⟩
        replace HB := HB.trans (hb.below HB.size (by rintro k rfl; exact HL_g))
        replace HF_f := HF_f.but hb NB_f_g NT_f_g
        replace S_l := S_l.but hb Q_l_g
        replace S_m := S_m.but hb Q_m_g
        clear HF_g hb
        have HF_g := hF
        clear hF
        go_wp2_with fail
        refine (fpow_e 1 B_f T_f a z (Gf.powZ a z) ha (by omega) (by omega) rfl _ HF_f).mono ?_
        rintro e w7 ⟨rfl, hF, hb⟩
        replace HB := HB.trans (hb.below HB.size (by rintro k rfl; exact HL_f))
        replace HF_g := HF_g.but hb NB_g_f NT_g_f
        replace S_l := S_l.but hb Q_l_f
        replace S_m := S_m.but hb Q_m_f
        clear HF_f hb
        have HF_f := hF
        clear hF
        go_wp2_with fail
        refine (fpow_e k B_g T_g a z (Gf.powZ a z) ha (by omega) (by omega) rfl _ HF_g).mono ?_
        rintro e w8 ⟨rfl, hF, hb⟩
        replace HB := HB.trans (hb.below HB.size (by rintro k rfl; exact HL_g))
        replace HF_f := HF_f.but hb NB_f_g NT_f_g
        replace S_l := S_l.but hb Q_l_g
        replace S_m := S_m.but hb Q_m_g
        clear HF_g hb
        have HF_g := hF
        clear hF
        go_wp2_with fail
        refine (fpairs_calls 1 B_f T_f n m c d q p xs ys hn hm hnc hmd _ HF_f S_l S_m Q_l_f Q_m_f).mono ?_
        rintro e w9 ⟨v, rfl, hO, hF, hb⟩
        obtain ⟨q_u, c_u, rfl, S_u, C_u, hQ⟩ := hO.tell HP.out HPn.out
        clear hO
        have Q_u_f := hQ _ HF_f.lt
        have Q_u_g := hQ _ HF_g.lt
        clear hQ
        replace HB := HB.trans (hb.below HB.size (by rintro k rfl; exact HL_f))
        replace HF_g := HF_g.but hb NB_g_f NT_g_f
        replace S_l := S_l.but hb Q_l_f
        replace S_m := S_m.but hb Q_m_f
        clear HF_f hb
        have HF_f := hF
        clear hF
        go_wp2_with fail
        refine (fpairs_calls k B_g T_g n m c d q p xs ys hn hm hnc hmd _ HF_g S_l S_m Q_l_g Q_m_g).mono ?_
        rintro e w10 ⟨v, rfl, hO, hF, hb⟩
        obtain ⟨q_v, c_v, rfl, S_v, C_v, hQ⟩ := hO.tell HP.out HPn.out
        clear hO
        have Q_v_f := hQ _ HF_f.lt
        have Q_v_g := hQ _ HF_g.lt
        clear hQ
        replace HB := HB.trans (hb.below HB.size (by rintro k rfl; exact HL_g))
        replace HF_f := HF_f.but hb NB_f_g NT_f_g
        replace S_l := S_l.but hb Q_l_g
        replace S_m := S_m.but hb Q_m_g
        replace S_u := S_u.but hb Q_u_g
        clear HF_g hb
        have HF_g := hF
        clear hF
        go_wp2_with fail
        refine (same_calls _ _ _ _ _ _ _ S_u S_v).mono ?_
        rintro e w11 ⟨rfl, hb⟩
        replace HB := HB.trans (hb.mono HB.size)
        replace HF_f := HF_f.below hb
        replace HF_g := HF_g.below hb
        replace S_l := S_l.below hb
        replace S_m := S_m.below hb
        replace S_u := S_u.below hb
        replace S_v := S_v.below hb
        clear hb
        go_wp2_with fail
        refine (feach_calls 1 B_f T_f a n c q xs ha hn hnc _ HF_f S_l Q_l_f).mono ?_
        rintro e w12 ⟨v, rfl, hO, hF, hb⟩
        obtain ⟨q_e, c_e, rfl, S_e, C_e, hQ⟩ := hO.tell HE.out HEn.out
        clear hO
        have Q_e_f := hQ _ HF_f.lt
        have Q_e_g := hQ _ HF_g.lt
        clear hQ
        replace HB := HB.trans (hb.below HB.size (by rintro k rfl; exact HL_f))
        replace HF_g := HF_g.but hb NB_g_f NT_g_f
        replace S_l := S_l.but hb Q_l_f
        replace S_m := S_m.but hb Q_m_f
        replace S_u := S_u.but hb Q_u_f
        replace S_v := S_v.but hb Q_v_f
        clear HF_f hb
        have HF_f := hF
        clear hF
        go_wp2_with fail
        refine (feach_calls k B_g T_g a n c q xs ha hn hnc _ HF_g S_l Q_l_g).mono ?_
        rintro e w13 ⟨v, rfl, hO, hF, hb⟩
        obtain ⟨q_h, c_h, rfl, S_h, C_h, hQ⟩ := hO.tell HE.out HEn.out
        clear hO
        have Q_h_f := hQ _ HF_f.lt
        have Q_h_g := hQ _ HF_g.lt
        clear hQ
        replace HB := HB.trans (hb.below HB.size (by rintro k rfl; exact HL_g))
        replace HF_f := HF_f.but hb NB_f_g NT_f_g
        replace S_l := S_l.but hb Q_l_g
        replace S_m := S_m.but hb Q_m_g
        replace S_u := S_u.but hb Q_u_g
        replace S_v := S_v.but hb Q_v_g
        replace S_e := S_e.but hb Q_e_g
        clear HF_g hb
        have HF_g := hF
        clear hF
        go_wp2_with fail
        refine (same_calls _ _ _ _ _ _ _ S_e S_h).mono ?_
        rintro e w14 ⟨rfl, hb⟩
        replace HB := HB.trans (hb.mono HB.size)
        replace HF_f := HF_f.below hb
        replace HF_g := HF_g.below hb
        replace S_l := S_l.below hb
        replace S_m := S_m.below hb
        replace S_u := S_u.below hb
        replace S_v := S_v.below hb
        replace S_e := S_e.below hb
        replace S_h := S_h.below hb
        clear hb
        go_wp2_with fail
        refine (fdot_calls 1 B_f T_f n m c d q p xs ys hn hm hnc hmd _ HF_f S_l S_m Q_l_f Q_m_f).mono ?_
        rintro e w15 ⟨rfl, hF, hb⟩
        replace HB := HB.trans (hb.below HB.size (by rintro k rfl; exact HL_f))
        replace HF_g := HF_g.but hb NB_g_f NT_g_f
        replace S_l := S_l.but hb Q_l_f
        replace S_m := S_m.but hb Q_m_f
        replace S_u := S_u.but hb Q_u_f
        replace S_v := S_v.but hb Q_v_f
        replace S_e := S_e.but hb Q_e_f
        replace S_h := S_h.but hb Q_h_f
        clear HF_f hb
        have HF_f := hF
        clear hF
        go_wp2_with fail
        refine (fdot_calls k B_g T_g n m c d q p xs ys hn hm hnc hmd _ HF_g S_l S_m Q_l_g Q_m_g).mono ?_
        rintro e w16 ⟨rfl, hF, hb⟩
        replace HB := HB.trans (hb.below HB.size (by rintro k rfl; exact HL_g))
        replace HF_f := HF_f.but hb NB_f_g NT_f_g
        replace S_l := S_l.but hb Q_l_g
        replace S_m := S_m.but hb Q_m_g
        replace S_u := S_u.but hb Q_u_g
        replace S_v := S_v.but hb Q_v_g
        replace S_e := S_e.but hb Q_e_g
        replace S_h := S_h.but hb Q_h_g
        clear HF_g hb
        have HF_g := hF
        clear hF
        go_wp2
        go_roundw
        case rel => exact ⟨k + 1, by omega, by omega, by go_num, HB, HF_f, S_l, S_m⟩
        case measure => simp [intOf]; omega
      · have e4 : k = 4 := by omega
        subst e4
        go_wp2_with fail
        refine (known04_calls _).mono ?_
        rintro e w2 ⟨rfl, hb⟩
        replace HB := HB.trans (hb.mono HB.size)
        clear hb
        go_wp2
        go_ret
        exact ⟨rfl, HB⟩

theorem own : ownKnob Try.prog.godebug = none := by kernel_rfl
theorem laidOut : laidOutB Try.prog = true := by kernel_rfl
set_option maxRecDepth 100000 in
theorem lifted (os : Os) (started : os.Started) (H : Type) (enc : TypeId × Value → H) :
    ReturnsInHanded {} Try.checked os 4 .any (Rows.fieldSameSpec.pre6 enc Try.prog Try.f4 Rows.fieldSameRow.domain false) (Rows.fieldSameSpec.post enc Try.prog Try.f4 false true false false) := by
  refine returnsInHanded_of_change_sized (C := Try.checked) own started (by kernel_rfl) Try.func4
    (ChangeSpec.witness6 (enc := enc) (C := Try.checked) false ⟨#[], #[.int .u8 0, .int .u8 0, .slice none 0 0, .slice none 0 0, .int .i16 0], []⟩ 8 (by kernel_rfl) (by kernel_rfl) (by kernel_rfl) (by kernel_rfl)) ?_
  intro W base args ds gs before hval0 hW _ hz _
  have hval : ∀ (j : Nat) t v, Try.f4.params[j]? = some t → args[j]? = some v → Value.okWide Try.prog W .any base t v := hval0
  have hW' := hW
  obtain ⟨p, q, hA0, hV, rfl, _, _⟩ := hW
  have hA : DataW.TrodAll enc Try.prog W 0 (fun _ => true) true Try.f4.params.toList args.toList ds p := hA0
  rw [Try.params4] at hA hval
  obtain ⟨v0, vs0, d0, ds0, p0, q0, hargs, rfl, rfl, h0, r0⟩ := trodAll_cons hA
  obtain ⟨v1, vs1, d1, ds1, p1, q1, rfl, rfl, rfl, h1, r1⟩ := trodAll_cons r0
  obtain ⟨v2, vs2, d2, ds2, p2, q2, rfl, rfl, rfl, h2, r2⟩ := trodAll_cons r1
  obtain ⟨v3, vs3, d3, ds3, p3, q3, rfl, rfl, rfl, h3, r3⟩ := trodAll_cons r2
  obtain ⟨v4, vs4, d4, ds4, p4, q4, rfl, rfl, rfl, h4, r4⟩ := trodAll_cons r3
  obtain ⟨rfl, rfl, rfl⟩ := trodAll_nil r4
  obtain rfl : args = #[v0, v1, v2, v3, v4] := by cases args; simp_all
  obtain ⟨rfl, rfl⟩ := trodVars_none hV
  obtain ⟨a0, rfl, rfl, rfl, w0⟩ := open_int Try.underlying5 (hval 0 5 v0 rfl rfl) h0
  obtain ⟨n0, b0, rfl⟩ := nat_of_u8 w0
  obtain ⟨a1, rfl, rfl, rfl, w1⟩ := open_int Try.underlying5 (hval 1 5 v1 rfl rfl) h1
  obtain ⟨n1, b1, rfl⟩ := nat_of_u8 w1
  have k2 := h2
  obtain ⟨q2, n2, c2, xs2, rfl, w2, m2⟩ := open_bytes_sz Try.underlying22 Try.underlying5 (by kernel_rfl) (hval 2 22 v2 rfl rfl) h2
  have y2 : n2 ≤ c2 ∧ c2 ≤ 140737488351232 := ⟨m2.1, m2.2 _ fun el sp hd => by have := sized_slice (j := 2) (t := 22) (e := 5) (elems := el) (spare := sp) hz (by kernel_rfl) (by first | (rw [← hd]; done) | (rw [← hd]; rfl)) Try.underlying22; have hbe : Try.checked.prog.bytesOf 5 = 1 := (by kernel_rfl); have hre : reachBytes = 140737488351232 := rfl; rw [hbe, hre] at this; omega⟩
  have k3 := h3
  obtain ⟨q3, n3, c3, xs3, rfl, w3, m3⟩ := open_bytes_sz Try.underlying22 Try.underlying5 (by kernel_rfl) (hval 3 22 v3 rfl rfl) h3
  have y3 : n3 ≤ c3 ∧ c3 ≤ 140737488351232 := ⟨m3.1, m3.2 _ fun el sp hd => by have := sized_slice (j := 3) (t := 22) (e := 5) (elems := el) (spare := sp) hz (by kernel_rfl) (by first | (rw [← hd]; done) | (rw [← hd]; rfl)) Try.underlying22; have hbe : Try.checked.prog.bytesOf 5 = 1 := (by kernel_rfl); have hre : reachBytes = 140737488351232 := rfl; rw [hbe, hre] at this; omega⟩
  obtain ⟨a4, rfl, rfl, rfl, w4⟩ := open_int Try.underlying28 (hval 4 28 v4 rfl rfl) h4
  obtain ⟨b4, c4⟩ := int_of_i16 w4
  clear hA0 hval0
  simp only [List.append_nil] at hW'
  refine (walk (w := W) n0 n1 q2 n2 c2 xs2 q3 n3 c3 xs3 a4 b0 b1 w2 y2 w3 y3 b4 c4).mono fun e W' ⟨he, bel⟩ => ?_
  subst he
  exact ⟨_, rfl, _, _, _, [], _, [], hW', trodAll_mk1 (shut_bool Try.underlying4 _), (trodAll_cons_mk (shut_int Try.underlying5 w0) (trodAll_cons_mk (shut_int Try.underlying5 w1) (trodAll_cons_mk (shut_same laidOut (by kernel_rfl) (of_decide_eq_true (by kernel_rfl)) k2 bel) (trodAll_cons_mk (shut_same laidOut (by kernel_rfl) (of_decide_eq_true (by kernel_rfl)) k3 bel) (trodAll_cons_mk (shut_int Try.underlying28 w4) trodAll_mk0))))), rfl, bel.frame _, fun h => by cases h⟩
theorem over : Rows.fieldSameRow.holds Try.pinned (OpenSpec.ofChange Rows.fieldSameSpec) :=
  OpenClaim.holds_of_wide 4 Try.f4 rfl rfl rfl rfl rfl rfl rfl ⟨rfl, rfl, rfl, rfl, rfl⟩ rfl rfl rfl rfl rfl (by kernel_rfl) Try.func4 (by kernel_rfl)
    (of_decide_eq_true (by kernel_rfl)) (by unfold Func.isWrapper; first | (rw [if_pos (by decide +kernel)]; kernel_rfl) | (rw [if_neg (by decide +kernel)]; exact ⟨rfl, rfl⟩))
    (fun os started H enc _ => lifted os started H enc)
theorem proved : Rows.FieldSameSaid := over
#print axioms proved
end Go.Proofs.Ytgbbnlgleghhlaa.fieldSame
