/- ValueThrough holds for every input: through values at unlike places goes one polynomial, of a lower degree than they are many; it has these values. No conditions. -/
import Derived.Test.YtafjlbkcpjkojaaGreatRows
import Derived.Test.YtafjlbkcpjkojaaGreatMB
import Derived.Test.YtafjlbkcpjkojaaGreatKnown07
import Derived.Test.YtafjlbkcpjkojaaGreatMW
import Derived.Test.YtafjlbkcpjkojaaGreatMS
namespace Go.Proofs.YtafjlbkcpjkojaaGreat.valueThrough
open Go.ChangeShapes Go.WideShapes Go.ChangeAt Go.RowKit
attribute [local go_sem ↓ high] builtin_ap
attribute [local go_sem] ap_sem
open Pol (IsN Dg ofL Byt vl frL unl IsTh Thr)
def v1 (ys : List Nat) (i : Nat) : Nat := if i < ys.length then ys.getD i 0 else i
/-- The first t of the values. -/
def vv (ys : List Nat) (t : Nat) : List Nat := (List.range t).map (v1 ys)
theorem vv_length (ys : List Nat) (t : Nat) : (vv ys t).length = t := by simp [vv]
theorem vv_succ (ys : List Nat) (t : Nat) : vv ys (t + 1) = vv ys t ++ [v1 ys t] := by unfold vv; rw [List.range_succ, List.map_append]; rfl
theorem vv_byt {ys : List Nat} (h : Byt ys) (t : Nat) (ht : t ≤ 256) : Byt (vv ys t) := Pol.byt_of_mem fun y hy => by
  unfold vv at hy
  obtain ⟨i, hi, rfl⟩ := List.mem_map.1 hy
  have := List.mem_range.1 hi
  unfold v1
  split
  · exact h i
  · omega

set_option maxRecDepth 100000 in
set_option maxHeartbeats 4000000 in
theorem walk (j : Nat) (q : Option Addr) (n c : Nat) (xs : List Nat) (p : Option Addr) (m d : Nat) (ys : List Nat) (r : Option Addr) (l e : Nat) (ps : List Nat) (w : World) (hj : j < 256) (S_x : Bs w q n xs) (y_x : n ≤ c ∧ c ≤ 140737488351232) (S_y : Bs w p m ys) (y_y : m ≤ d ∧ d ≤ 140737488351232) (S_p : Bs w r l ps) (y_p : l ≤ e ∧ e ≤ 140737488351232) :
    Calls Tryz.prog 6 #[.int .u8 j, .slice q n c, .slice p m d, .slice r l e] w fun e w' => e = .returned (.bool true) ∧ Below w.heap.size w w' := by
  obtain ⟨k, hk⟩ : ∃ k : Nat, 1 + j % 3 = k := ⟨_, rfl⟩
  have hk1 : 1 ≤ k := by omega
  have hk3 : k ≤ 3 := by omega
  have hki : (1 : Int) + (j : Int) % 3 = (k : Int) := by omega
  clear hk
  have HB : Below w.heap.size w w := Below.refl _ _
  have Cp := y_p.1
  obtain ⟨nl, hnl⟩ : ∃ nl, (unl xs 20).length = nl := ⟨_, rfl⟩
  have HNL : Hid ((unl xs 20).length = nl ∧ nl ≤ 20 ∧ (unl xs 20).Nodup) := ⟨hnl, by rw [← hnl]; exact Pol.unl_length _ _, Pol.unl_nodup _ _⟩
  have HBx : Hid (Byt xs ∧ n ≤ c ∧ m ≤ d) := ⟨S_x.byte, y_x.1, y_y.1⟩
  have HBy : Hid (Byt ys ∧ ys.length = m) := ⟨S_y.byte, S_y.len⟩
  clear y_x y_y y_p hnl
  go_enter Tryz.func6, Tryz.ntmps6
  go_wp2_with fail
  refine (fof_calls k hk1 hk3 _).mono ?_
  rintro e w1 ⟨B_f, T_f, rfl, HF_f, hb, hlB, hlT⟩
  have HL_f : w.heap.size ≤ T_f := Nat.le_trans HB.size hlT
  have Q_x_f := S_x.off hlT
  have Q_y_f := S_y.off hlT
  have Q_p_f := S_p.off hlT
  replace HB := HB.trans (hb.mono HB.size)
  replace S_x := S_x.below hb
  replace S_y := S_y.below hb
  replace S_p := S_p.below hb
  clear hb hlB hlT
  clear hki
  go_wp2_with fail
  refine (unlike_calls q n c 20 xs (by decide) _ S_x).mono ?_
  rintro e w2 ⟨v, rfl, hO, hb⟩
  obtain ⟨q_l, c_l, rfl, S_l, C_l, hQ⟩ := hO.tell (n := nl) (Pol.unl_byt HBx.out.1 20) HNL.out.1
  clear hO
  have Q_l_f := hQ _ HF_f.lt
  clear hQ
  replace HB := HB.trans (hb.mono HB.size)
  replace HF_f := HF_f.below hb
  replace S_x := S_x.below hb
  replace S_y := S_y.below hb
  replace S_p := S_p.below hb
  clear hb
  obtain ⟨L, hL⟩ : ∃ L, unl xs 20 = L := ⟨_, rfl⟩
  rw [hL] at S_l HNL
  have HBl : Hid (Byt L) := hL ▸ Pol.unl_byt HBx.out.1 20
  clear hL
  clear S_x
  by_cases hbig : 200 < m
  · have hb1 : (200 : Int) < (m : Int) := by omega
    go_wp2_with fail
    refine (known07_calls _).mono ?_
    rintro e w3 ⟨rfl, hb⟩
    replace HB := HB.trans (hb.mono HB.size)
    replace HF_f := HF_f.below hb
    replace S_y := S_y.below hb
    replace S_p := S_p.below hb
    replace S_l := S_l.below hb
    clear hb
    go_wp2
    go_ret
    exact ⟨rfl, HB⟩
  · have hb1 : ((200 : Int) < (m : Int)) = False := eq_false (by omega)
    by_cases hbig2 : 100 < l
    · have hb2 : (100 : Int) < (l : Int) := by omega
      go_wp2_with fail
      refine (known07_calls _).mono ?_
      rintro e w3 ⟨rfl, hb⟩
      replace HB := HB.trans (hb.mono HB.size)
      replace HF_f := HF_f.below hb
      replace S_y := S_y.below hb
      replace S_p := S_p.below hb
      replace S_l := S_l.below hb
      clear hb
      go_wp2
      go_ret
      exact ⟨rfl, HB⟩
    · have hb2 : ((100 : Int) < (l : Int)) = False := eq_false (by omega)
      obtain ⟨P, hP⟩ := Pol.thr_all (xs := L) (ys := vv ys nl) HBl.out HNL.out.2.2 L.length (Nat.le_refl _)
      obtain ⟨zs, hz, hzl⟩ := Pol.isN_of_bd hP.bd
      obtain ⟨cs, hc, hcl⟩ := Pol.isN_cut nl ps
      obtain ⟨nz, nze⟩ : ∃ nz, zs.length = nz := ⟨_, rfl⟩
      obtain ⟨nc, nce⟩ : ∃ nc, cs.length = nc := ⟨_, rfl⟩
      have hLn := HNL.out.1
      have lp := S_p.len
      have hcb : Pol.Bd L.length (ofL cs) := by
        rw [hc.eq, hLn]
        exact fun i hi => by unfold Pol.cut; rw [if_neg (by omega)]
      have hth : IsTh L (vv ys nl) zs true := .inl ⟨rfl, by rw [hLn, vv_length], P, hz, hP⟩
      have hmap : L.map (vl zs) = vv ys nl := Pol.thr_vals (vv_byt HBy.out.1 nl (by have := HNL.out.2.1; omega)) (by rw [hLn, vv_length]) (by rw [hz.eq]; exact hP)
      have hth2 : IsTh L (L.map (vl cs)) cs true := .inl ⟨rfl, by rw [List.length_map], ofL cs, ⟨hc.nrm, hc.byt, rfl⟩, Pol.thr_of HNL.out.2.2 hcb⟩
      have HU : Hid (m ≤ 200 ∧ l ≤ 100 ∧ nl ≤ 20 ∧ nz ≤ nl ∧ nc ≤ 1000 ∧ zs.length = nz ∧ cs.length = nc ∧ Dg nz (ofL zs) ∧ IsN zs P ∧ IsN cs (Pol.cut nl (ofL ps)) ∧ (L.map (vl cs)).length = nl) := ⟨by omega, by omega, HNL.out.2.1, by omega, by omega, nze, nce, by rw [← nze, hz.eq]; exact hz.dg, hz, hc, by rw [List.length_map]; exact hLn⟩
      have HT : Hid (IsTh L (vv ys nl) zs true ∧ L.map (vl zs) = vv ys nl ∧ IsTh L (L.map (vl cs)) cs true) := ⟨hth, hmap, hth2⟩
      have hnl20 : (nl : Int) ≤ 20 := by have := HNL.out.2.1; omega
      have hdeg : (nz : Int) - 1 < (nl : Int) := by have := HU.out.2.2.2.1; omega
      clear hbig hbig2 hP hz hzl hc hcl nze nce hLn lp hcb hth hmap hth2
      go_wp2
      obtain ⟨R1, hR1⟩ : ∃ R1, w2.heap.size = R1 := ⟨_, rfl⟩
      have HK : Hid (Below w.heap.size w w2 ∧ Fd k B_f T_f w2 ∧ Bs w2 p m ys ∧ Bs w2 r l ps ∧ Bs w2 q_l nl L ∧ T_f < R1) := ⟨HB, HF_f, S_y, S_p, S_l, hR1 ▸ HF_f.lt⟩
      clear HB HF_f S_y S_p S_l hb1 hb2
      go_loopw [11, 12] (fun o i wr => ∃ t : Nat, t ≤ nl ∧ i = .int .i64 (t : Int) ∧ Ow wr R1 o (vv ys t) ∧ Below R1 w2 wr) (fun _ i _ => nl - (intOf i).toNat)
      case atStart => exact ⟨0, by omega, rfl, ow_nil _ _, Below.refl _ _⟩
      case round =>
        obtain ⟨t, ht, rfl, hO, hB⟩ := hrel
        have hR1w : R1 ≤ wr.heap.size := hR1 ▸ hB.size
        by_cases hlt : t < nl
        · have hti : (t : Int) < (nl : Int) := by omega
          have hti0 : (0 : Int) ≤ (t : Int) := by omega
          have hu8 : IntKind.u8.wrap (t : Int) = (t : Int) := by rw [IntKind.wrap_u8]; omega
          have hvs := vv_succ ys t
          have hlu : (vv ys t).length ≤ 1000000000 := by rw [vv_length]; omega
          obtain ⟨us, hus⟩ : ∃ us, vv ys t = us := ⟨_, rfl⟩
          rw [hus] at hO hvs hlu
          unfold v1 at hvs
          rw [HBy.out.2] at hvs
          by_cases htm : t < m
          · have htmi : (t : Int) < (m : Int) := by omega
            rw [if_pos htm] at hvs
            obtain ⟨a, rfl, la, ca⟩ := HK.out.2.2.1.cell t htm
            replace ca := (hB.cell (p := a.add t) (by rw [block_add]; omega)).trans ca
            obtain ⟨y, hy⟩ : ∃ y, ys.getD t 0 = y := ⟨_, rfl⟩
            rw [hy] at ca hvs
            obtain ⟨g, cg, W', hap, hO', hbw⟩ := run_append_one wr R1 _ us y hO hlu hR1w
            obtain ⟨L', hL'⟩ : ∃ L', (us ++ [y]).length = L' := ⟨_, rfl⟩
            rw [hL'] at hap hO'
            have ha1 := ap_ok hap
            have ha2 := ap_v hap
            have ha3 := ap_w hap
            have HZ : Hid (Ow W' R1 (.slice (some ⟨g, 0, none⟩) L' cg) (vv ys (t + 1)) ∧ Below R1 w2 W') := ⟨by rw [hvs]; exact hO', hB.trans (hbw _ (Nat.le_refl _))⟩
            clear hO' hbw hap hL' hO hB hlu hus hvs hy la
            go_wp2
            go_roundw
            case rel => exact ⟨t + 1, by omega, by go_num, HZ.out⟩
            case measure => simp [intOf]; omega
          · have htmi : ((t : Int) < (m : Int)) = False := eq_false (by omega)
            rw [if_neg htm] at hvs
            obtain ⟨g, cg, W', hap, hO', hbw⟩ := run_append_one wr R1 _ us t hO hlu hR1w
            obtain ⟨L', hL'⟩ : ∃ L', (us ++ [t]).length = L' := ⟨_, rfl⟩
            rw [hL'] at hap hO'
            have ha1 := ap_ok hap
            have ha2 := ap_v hap
            have ha3 := ap_w hap
            have HZ : Hid (Ow W' R1 (.slice (some ⟨g, 0, none⟩) L' cg) (vv ys (t + 1)) ∧ Below R1 w2 W') := ⟨by rw [hvs]; exact hO', hB.trans (hbw _ (Nat.le_refl _))⟩
            clear hO' hbw hap hL' hO hB hlu hus hvs
            go_wp2
            go_roundw
            case rel => exact ⟨t + 1, by omega, by go_num, HZ.out⟩
            case measure => simp [intOf]; omega
        · obtain rfl : t = nl := by omega
          have hb : Below w2.heap.size w2 wr := hR1.symm ▸ hB
          obtain ⟨q_v, c_v, rfl, S_v, C_v, hQv⟩ := hO.tell (n := t) (vv_byt HBy.out.1 t (by omega)) (vv_length _ _)
          have Q_v_f := hQv T_f HK.out.2.2.2.2.2
          have HB : Below w.heap.size w wr := HK.out.1.trans (hb.mono HK.out.1.size)
          have HF_f := HK.out.2.1.below hb
          have S_y := HK.out.2.2.1.below hb
          have S_p := HK.out.2.2.2.1.below hb
          have S_l := HK.out.2.2.2.2.1.below hb
          clear hO hB hb hQv HK hR1 hR1w
          go_wp2_with fail
          refine (vthrough_calls k B_f T_f t c_l t c_v q_l q_v L (vv ys t) zs true HT.out.1 (by have := HU.out; omega) _ HF_f S_l S_v Q_l_f Q_v_f).mono ?_
          rintro e w3 ⟨v, rfl, hO, hF, hb⟩
          obtain ⟨q_z, c_z, rfl, S_z, C_z, hQ⟩ := hO.tell (n := nz) HU.out.2.2.2.2.2.2.2.2.1.byt HU.out.2.2.2.2.2.1
          clear hO
          have Q_z_f := hQ _ HF_f.lt
          clear hQ
          replace HB := HB.trans (hb.below HB.size (by rintro k rfl; exact HL_f))
          replace S_y := S_y.but hb Q_y_f
          replace S_p := S_p.but hb Q_p_f
          replace S_l := S_l.but hb Q_l_f
          replace S_v := S_v.but hb Q_v_f
          clear HF_f hb
          have HF_f := hF
          clear hF
          go_wp2_with fail
          refine (rcut_calls r l e ps cs (t : Int) HU.out.2.2.2.2.2.2.2.2.2.1 (by have := HU.out; omega) Cp _ S_p).mono ?_
          rintro e w4 ⟨v, rfl, hO, hb⟩
          obtain ⟨q_c, c_c, rfl, S_c, C_c, hQ⟩ := hO.tell (n := nc) HU.out.2.2.2.2.2.2.2.2.2.1.byt HU.out.2.2.2.2.2.2.1
          clear hO
          have Q_c_f := hQ _ HF_f.lt
          clear hQ
          replace HB := HB.trans (hb.mono HB.size)
          replace HF_f := HF_f.below hb
          replace S_y := S_y.below hb
          replace S_p := S_p.below hb
          replace S_l := S_l.below hb
          replace S_v := S_v.below hb
          replace S_z := S_z.below hb
          clear hb
          go_wp2_with fail
          refine (vall_calls k B_f T_f nc c_c t c_l q_c q_l cs L (by have := HU.out; omega) _ HF_f S_c S_l Q_c_f Q_l_f).mono ?_
          rintro e w5 ⟨v, rfl, hO, hF, hb⟩
          obtain ⟨q_a, c_a, rfl, S_a, C_a, hQ⟩ := hO.tell (n := t) (Pol.map_vl_byt _ _) HU.out.2.2.2.2.2.2.2.2.2.2
          clear hO
          have Q_a_f := hQ _ HF_f.lt
          clear hQ
          replace HB := HB.trans (hb.below HB.size (by rintro k rfl; exact HL_f))
          replace S_y := S_y.but hb Q_y_f
          replace S_p := S_p.but hb Q_p_f
          replace S_l := S_l.but hb Q_l_f
          replace S_v := S_v.but hb Q_v_f
          replace S_z := S_z.but hb Q_z_f
          replace S_c := S_c.but hb Q_c_f
          clear HF_f hb
          have HF_f := hF
          clear hF
          go_wp2_with fail
          refine (vthrough_calls k B_f T_f t c_l t c_a q_l q_a L (L.map (vl cs)) cs true HT.out.2.2 (by have := HU.out; omega) _ HF_f S_l S_a Q_l_f Q_a_f).mono ?_
          rintro e w6 ⟨v, rfl, hO, hF, hb⟩
          obtain ⟨q_b, c_b, rfl, S_b, C_b, hQ⟩ := hO.tell (n := nc) HU.out.2.2.2.2.2.2.2.2.2.1.byt HU.out.2.2.2.2.2.2.1
          clear hO
          have Q_b_f := hQ _ HF_f.lt
          clear hQ
          replace HB := HB.trans (hb.below HB.size (by rintro k rfl; exact HL_f))
          replace S_y := S_y.but hb Q_y_f
          replace S_p := S_p.but hb Q_p_f
          replace S_l := S_l.but hb Q_l_f
          replace S_v := S_v.but hb Q_v_f
          replace S_z := S_z.but hb Q_z_f
          replace S_c := S_c.but hb Q_c_f
          replace S_a := S_a.but hb Q_a_f
          clear HF_f hb
          have HF_f := hF
          clear hF
          clear S_a
          go_wp2_with fail
          refine (known07_calls _).mono ?_
          rintro e w7 ⟨rfl, hb⟩
          replace HB := HB.trans (hb.mono HB.size)
          replace HF_f := HF_f.below hb
          replace S_y := S_y.below hb
          replace S_p := S_p.below hb
          replace S_l := S_l.below hb
          replace S_v := S_v.below hb
          replace S_z := S_z.below hb
          replace S_c := S_c.below hb
          replace S_b := S_b.below hb
          clear hb
          go_wp2_with fail
          refine (pdeg_calls q_z nz c_z zs nz HU.out.2.2.2.2.2.2.2.1 _ S_z).mono ?_
          rintro e w8 ⟨rfl, hb⟩
          replace HB := HB.trans (hb.mono HB.size)
          replace HF_f := HF_f.below hb
          replace S_y := S_y.below hb
          replace S_p := S_p.below hb
          replace S_l := S_l.below hb
          replace S_v := S_v.below hb
          replace S_z := S_z.below hb
          replace S_c := S_c.below hb
          replace S_b := S_b.below hb
          clear hb
          go_wp2_with fail
          refine (vall_calls k B_f T_f nz c_z t c_l q_z q_l zs L (by have := HU.out; omega) _ HF_f S_z S_l Q_z_f Q_l_f).mono ?_
          rintro e w9 ⟨v, rfl, hO, hF, hb⟩
          obtain ⟨q_a, c_a, rfl, S_a, C_a, hQ⟩ := hO.tell (n := t) (Pol.map_vl_byt _ _) (by rw [HT.out.2.1, vv_length])
          clear hO
          have Q_a_f := hQ _ HF_f.lt
          clear hQ
          replace HB := HB.trans (hb.below HB.size (by rintro k rfl; exact HL_f))
          replace S_y := S_y.but hb Q_y_f
          replace S_p := S_p.but hb Q_p_f
          replace S_l := S_l.but hb Q_l_f
          replace S_v := S_v.but hb Q_v_f
          replace S_z := S_z.but hb Q_z_f
          replace S_c := S_c.but hb Q_c_f
          replace S_b := S_b.but hb Q_b_f
          clear HF_f hb
          have HF_f := hF
          clear hF
          rw [HT.out.2.1] at S_a
          go_wp2_with fail
          refine (same_calls q_a q_v t c_a c_v (vv ys t) _ S_a S_v).mono ?_
          rintro e w10 ⟨rfl, hb⟩
          replace HB := HB.trans (hb.mono HB.size)
          replace HF_f := HF_f.below hb
          replace S_y := S_y.below hb
          replace S_p := S_p.below hb
          replace S_l := S_l.below hb
          replace S_v := S_v.below hb
          replace S_z := S_z.below hb
          replace S_c := S_c.below hb
          replace S_b := S_b.below hb
          replace S_a := S_a.below hb
          clear hb
          go_wp2_with fail
          refine (psame_calls q_b q_c nc c_b nc c_c cs cs true (iff_of_true rfl rfl) C_b C_c _ S_b S_c).mono ?_
          rintro e w11 ⟨rfl, hb⟩
          replace HB := HB.trans (hb.mono HB.size)
          replace HF_f := HF_f.below hb
          replace S_y := S_y.below hb
          replace S_p := S_p.below hb
          replace S_l := S_l.below hb
          replace S_v := S_v.below hb
          replace S_z := S_z.below hb
          replace S_c := S_c.below hb
          replace S_b := S_b.below hb
          replace S_a := S_a.below hb
          clear hb
          go_wp2
          go_ret
          exact ⟨rfl, HB⟩
theorem own : ownKnob Tryz.prog.godebug = none := by kernel_rfl
theorem laidOut : laidOutB Tryz.prog = true := by kernel_rfl
set_option maxRecDepth 100000 in
theorem lifted (os : Os) (started : os.Started) (H : Type) (enc : TypeId × Value → H) :
    ReturnsInHanded {} Tryz.checked os 6 .any (Rows.valueThroughSpec.pre6 enc Tryz.prog Tryz.f6 Rows.valueThroughRow.domain false) (Rows.valueThroughSpec.post enc Tryz.prog Tryz.f6 false true false false) := by
  refine returnsInHanded_of_change_sized (C := Tryz.checked) own started (by kernel_rfl) Tryz.func6
    (ChangeSpec.witness6 (enc := enc) (C := Tryz.checked) false ⟨#[], #[.int .u8 0, .slice none 0 0, .slice none 0 0, .slice none 0 0], []⟩ 8 (by kernel_rfl) (by kernel_rfl) (by kernel_rfl) (by kernel_rfl)) ?_
  intro W base args ds gs before hval0 hW _ hz _
  have hval : ∀ (j : Nat) t v, Tryz.f6.params[j]? = some t → args[j]? = some v → Value.okWide Tryz.prog W .any base t v := hval0
  have hW' := hW
  obtain ⟨p, q, hA0, hV, rfl, _, _⟩ := hW
  have hA : DataW.TrodAll enc Tryz.prog W 0 (fun _ => true) true Tryz.f6.params.toList args.toList ds p := hA0
  rw [Tryz.params6] at hA hval
  obtain ⟨v0, vs0, d0, ds0, p0, q0, hargs, rfl, rfl, h0, r0⟩ := trodAll_cons hA
  obtain ⟨v1, vs1, d1, ds1, p1, q1, rfl, rfl, rfl, h1, r1⟩ := trodAll_cons r0
  obtain ⟨v2, vs2, d2, ds2, p2, q2, rfl, rfl, rfl, h2, r2⟩ := trodAll_cons r1
  obtain ⟨v3, vs3, d3, ds3, p3, q3, rfl, rfl, rfl, h3, r3⟩ := trodAll_cons r2
  obtain ⟨rfl, rfl, rfl⟩ := trodAll_nil r3
  obtain rfl : args = #[v0, v1, v2, v3] := by cases args; simp_all
  obtain ⟨rfl, rfl⟩ := trodVars_none hV
  obtain ⟨a0, rfl, rfl, rfl, w0⟩ := open_int Tryz.underlying5 (hval 0 5 v0 rfl rfl) h0
  obtain ⟨n0, b0, rfl⟩ := nat_of_u8 w0
  have k1 := h1
  obtain ⟨q1, n1, c1, xs1, rfl, w1, m1⟩ := open_bytes_sz Tryz.underlying22 Tryz.underlying5 (by kernel_rfl) (hval 1 22 v1 rfl rfl) h1
  have y1 : n1 ≤ c1 ∧ c1 ≤ 140737488351232 := ⟨m1.1, m1.2 _ fun el sp hd => by have := sized_slice (j := 1) (t := 22) (e := 5) (elems := el) (spare := sp) hz (by kernel_rfl) (by first | (rw [← hd]; done) | (rw [← hd]; rfl)) Tryz.underlying22; have hbe : Tryz.checked.prog.bytesOf 5 = 1 := (by kernel_rfl); have hre : reachBytes = 140737488351232 := rfl; rw [hbe, hre] at this; omega⟩
  have k2 := h2
  obtain ⟨q2, n2, c2, xs2, rfl, w2, m2⟩ := open_bytes_sz Tryz.underlying22 Tryz.underlying5 (by kernel_rfl) (hval 2 22 v2 rfl rfl) h2
  have y2 : n2 ≤ c2 ∧ c2 ≤ 140737488351232 := ⟨m2.1, m2.2 _ fun el sp hd => by have := sized_slice (j := 2) (t := 22) (e := 5) (elems := el) (spare := sp) hz (by kernel_rfl) (by first | (rw [← hd]; done) | (rw [← hd]; rfl)) Tryz.underlying22; have hbe : Tryz.checked.prog.bytesOf 5 = 1 := (by kernel_rfl); have hre : reachBytes = 140737488351232 := rfl; rw [hbe, hre] at this; omega⟩
  have k3 := h3
  obtain ⟨q3, n3, c3, xs3, rfl, w3, m3⟩ := open_bytes_sz Tryz.underlying22 Tryz.underlying5 (by kernel_rfl) (hval 3 22 v3 rfl rfl) h3
  have y3 : n3 ≤ c3 ∧ c3 ≤ 140737488351232 := ⟨m3.1, m3.2 _ fun el sp hd => by have := sized_slice (j := 3) (t := 22) (e := 5) (elems := el) (spare := sp) hz (by kernel_rfl) (by first | (rw [← hd]; done) | (rw [← hd]; rfl)) Tryz.underlying22; have hbe : Tryz.checked.prog.bytesOf 5 = 1 := (by kernel_rfl); have hre : reachBytes = 140737488351232 := rfl; rw [hbe, hre] at this; omega⟩
  clear hA0 hval0
  simp only [List.append_nil] at hW'
  refine (walk (w := W) n0 q1 n1 c1 xs1 q2 n2 c2 xs2 q3 n3 c3 xs3 b0 w1 y1 w2 y2 w3 y3).mono fun e W' ⟨he, bel⟩ => ?_
  subst he
  exact ⟨_, rfl, _, _, _, [], _, [], hW', trodAll_mk1 (shut_bool Tryz.underlying4 _), (trodAll_cons_mk (shut_int Tryz.underlying5 w0) (trodAll_cons_mk (shut_same laidOut (by kernel_rfl) (of_decide_eq_true (by kernel_rfl)) k1 bel) (trodAll_cons_mk (shut_same laidOut (by kernel_rfl) (of_decide_eq_true (by kernel_rfl)) k2 bel) (trodAll_cons_mk (shut_same laidOut (by kernel_rfl) (of_decide_eq_true (by kernel_rfl)) k3 bel) trodAll_mk0)))), rfl, bel.frame _, fun h => by cases h⟩
theorem over : Rows.valueThroughRow.holds Tryz.pinned (OpenSpec.ofChange Rows.valueThroughSpec) :=
  OpenClaim.holds_of_wide 6 Tryz.f6 rfl rfl rfl rfl rfl rfl rfl ⟨rfl, rfl, rfl, rfl, rfl⟩ rfl rfl rfl rfl rfl (by kernel_rfl) Tryz.func6 (by kernel_rfl)
    (of_decide_eq_true (by kernel_rfl)) (by unfold Func.isWrapper; first | (rw [if_pos (by decide +kernel)]; kernel_rfl) | (rw [if_neg (by decide +kernel)]; exact ⟨rfl, rfl⟩))
    (fun os started H enc _ => lifted os started H enc)
theorem proved : Rows.ValueThroughSaid := over
#print axioms proved
end Go.Proofs.YtafjlbkcpjkojaaGreat.valueThrough
