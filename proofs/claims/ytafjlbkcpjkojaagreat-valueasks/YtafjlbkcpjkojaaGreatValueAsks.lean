/- ValueAsks holds for every input: all calls of any lists and bytes are what the chapter says. No conditions. -/
import Derived.Test.YtafjlbkcpjkojaaGreatRows
import Derived.Test.YtafjlbkcpjkojaaGreatMB
import Derived.Test.YtafjlbkcpjkojaaGreatKnown07
import Derived.Test.YtafjlbkcpjkojaaGreatMW
namespace Go.Proofs.YtafjlbkcpjkojaaGreat.valueAsks
open Go.ChangeShapes Go.WideShapes Go.ChangeAt Go.RowKit
attribute [local go_sem ↓ high] builtin_ap
attribute [local go_sem] ap_sem
open Pol (IsN Dg ofL Byt vl frL unl IsTh Thr)
/-- The first t of the values. -/
def sq (x t : Nat) : List Nat := (List.range t).map fun i => x ^^^ (i * i)
theorem sq_length (x t : Nat) : (sq x t).length = t := by simp [sq]
theorem sq_succ (x t : Nat) : sq x (t + 1) = sq x t ++ [x ^^^ (t * t)] := by unfold sq; rw [List.range_succ, List.map_append]; rfl
theorem sq_byt {x : Nat} (hx : x < 256) (t : Nat) (ht : t ≤ 12) : Byt (sq x t) := Pol.byt_of_mem fun y hy => by
  unfold sq at hy
  obtain ⟨i, hi, rfl⟩ := List.mem_map.1 hy
  have h1 := List.mem_range.1 hi
  have h2 : i * i ≤ 12 * 12 := Nat.mul_le_mul (by omega) (by omega)
  exact Gf.xor_lt8 hx (by omega)

set_option maxRecDepth 100000 in
set_option maxHeartbeats 4000000 in
theorem walk (j : Nat) (r : Option Addr) (l e : Nat) (ps : List Nat) (q : Option Addr) (n c : Nat) (xs : List Nat) (p : Option Addr) (m d : Nat) (ys : List Nat) (x : Nat) (w : World) (hj : j < 256) (S_p : Bs w r l ps) (y_p : l ≤ e ∧ e ≤ 140737488351232) (S_x : Bs w q n xs) (y_x : n ≤ c ∧ c ≤ 140737488351232) (S_y : Bs w p m ys) (y_y : m ≤ d ∧ d ≤ 140737488351232) (hx : x < 256) :
    Calls Tryz.prog 3 #[.int .u8 j, .slice r l e, .slice q n c, .slice p m d, .int .u8 x] w fun e w' => e = .returned (.bool true) ∧ Below w.heap.size w w' := by
  have hnot : ∀ (x : Bool) (w : World), (Op.unary .not (.bool x)).run Tryz.prog w = .ok (.bool (!x)) w := fun _ _ => rfl
  obtain ⟨k, hk⟩ : ∃ k : Nat, 1 + j % 3 = k := ⟨_, rfl⟩
  have hk1 : 1 ≤ k := by omega
  have hk3 : k ≤ 3 := by omega
  have hki : (1 : Int) + (j : Int) % 3 = (k : Int) := by omega
  clear hk
  have HB : Below w.heap.size w w := Below.refl _ _
  have HW : Hid (wrap64 ((n : Int) + (m : Int)) = (n : Int) + (m : Int) ∧ l ≤ e) := ⟨by unfold wrap64; omega, y_p.1⟩
  clear y_p y_x y_y
  go_enter Tryz.func3, Tryz.ntmps3
  by_cases hbig : 60 < l
  · have hb1 : (60 : Int) < (l : Int) := by omega
    go_wp2_with fail
    refine (known07_calls _).mono ?_
    rintro e w1 ⟨rfl, hb⟩
    replace HB := HB.trans (hb.mono HB.size)
    replace S_p := S_p.below hb
    replace S_x := S_x.below hb
    replace S_y := S_y.below hb
    clear hb
    go_wp2
    go_ret
    exact ⟨rfl, HB⟩
  · have hb1 : ((60 : Int) < (l : Int)) = False := eq_false (by omega)
    by_cases hbig2 : 40 < n + m
    · have hb2 : (40 : Int) < (n : Int) + (m : Int) := by omega
      have hs1 := HW.out.1
      go_wp2_with fail
      refine (known07_calls _).mono ?_
      rintro e w1 ⟨rfl, hb⟩
      replace HB := HB.trans (hb.mono HB.size)
      replace S_p := S_p.below hb
      replace S_x := S_x.below hb
      replace S_y := S_y.below hb
      clear hb
      go_wp2
      go_ret
      exact ⟨rfl, HB⟩
    · have hb2 : ((40 : Int) < (n : Int) + (m : Int)) = False := eq_false (by omega)
      obtain ⟨as', b1, hA, hAl⟩ := Pol.isTh_exists xs ys S_x.byte
      obtain ⟨L, hL⟩ : ∃ L, unl xs 12 = L := ⟨_, rfl⟩
      have hLb : Byt L := hL ▸ Pol.unl_byt S_x.byte 12
      have hLl : L.length ≤ 12 := hL ▸ Pol.unl_length xs 12
      obtain ⟨nl, hnl⟩ : ∃ nl, L.length = nl := ⟨_, rfl⟩
      obtain ⟨cs, b2, hC, hCl⟩ := Pol.isTh_exists L (sq x nl) hLb
      obtain ⟨ds, hD, hDl⟩ := Pol.isN_der ps
      obtain ⟨na, nae⟩ : ∃ na, as'.length = na := ⟨_, rfl⟩
      obtain ⟨nc, nce⟩ : ∃ nc, cs.length = nc := ⟨_, rfl⟩
      obtain ⟨nd, nde⟩ : ∃ nd, ds.length = nd := ⟨_, rfl⟩
      obtain ⟨nf, nfe⟩ : ∃ nf, (frL xs).length = nf := ⟨_, rfl⟩
      obtain ⟨v, hv⟩ : ∃ v, vl ps x = v := ⟨_, rfl⟩
      have HU : Hid (l ≤ 60 ∧ n ≤ 40 ∧ m ≤ 40 ∧ nl ≤ 12) := by show _ ∧ _; omega
      have HE : Hid (as'.length = na ∧ cs.length = nc ∧ ds.length = nd ∧ (frL xs).length = nf ∧ (xs.map (vl ps)).length = n ∧ vl ps x = v ∧ L.length = nl) := ⟨nae, nce, nde, nfe, by rw [List.length_map]; exact S_x.len, hv, hnl⟩
      have HT : Hid (IsTh xs ys as' b1 ∧ IsTh L (sq x nl) cs b2 ∧ IsN ds (Pol.der (ofL ps)) ∧ Byt L ∧ unl xs 12 = L) := ⟨hA, hC, hD, hLb, hL⟩
      have hnl12 : (nl : Int) ≤ 12 := by have := HU.out; omega
      clear hbig hbig2 hA hAl hL hLb hLl hnl hC hCl hD hDl nae nce nde nfe hv
      have hs1 := HW.out.1
      go_wp2_with fail
      refine (known07_calls _).mono ?_
      rintro e w1 ⟨rfl, hb⟩
      replace HB := HB.trans (hb.mono HB.size)
      replace S_p := S_p.below hb
      replace S_x := S_x.below hb
      replace S_y := S_y.below hb
      clear hb
      go_wp2_with fail
      refine (fof_calls k hk1 hk3 _).mono ?_
      rintro e w2 ⟨B_f, T_f, rfl, HF_f, hb, hlB, hlT⟩
      have HL_f : w.heap.size ≤ T_f := Nat.le_trans HB.size hlT
      have Q_p_f := S_p.off hlT
      have Q_x_f := S_x.off hlT
      have Q_y_f := S_y.off hlT
      replace HB := HB.trans (hb.mono HB.size)
      replace S_p := S_p.below hb
      replace S_x := S_x.below hb
      replace S_y := S_y.below hb
      clear hb hlB hlT
      clear hs1 HW hb1 hb2 hki
      go_wp2_with fail
      refine (vthrough_calls k B_f T_f n c m d q p xs ys as' b1 HT.out.1 (by have := HU.out; omega) _ HF_f S_x S_y Q_x_f Q_y_f).mono ?_
      rintro e w3 ⟨v, rfl, hO, hF, hb⟩
      obtain ⟨q_a, c_a, rfl, S_a, C_a, hQ⟩ := hO.tell (n := na) HT.out.1.byt HE.out.1
      clear hO
      have Q_a_f := hQ _ HF_f.lt
      clear hQ
      replace HB := HB.trans (hb.below HB.size (by rintro k rfl; exact HL_f))
      replace S_p := S_p.but hb Q_p_f
      replace S_x := S_x.but hb Q_x_f
      replace S_y := S_y.but hb Q_y_f
      clear HF_f hb
      have HF_f := hF
      clear hF
      go_wp2_with fail
      refine (r7through_calls n c m d q p xs ys as' b1 HT.out.1 (by have := HU.out; omega) _ S_x S_y).mono ?_
      rintro e w4 ⟨v, rfl, hO, hb⟩
      obtain ⟨q_b, c_b, rfl, S_b, C_b, hQ⟩ := hO.tell (n := na) HT.out.1.byt HE.out.1
      clear hO
      have Q_b_f := hQ _ HF_f.lt
      clear hQ
      replace HB := HB.trans (hb.mono HB.size)
      replace HF_f := HF_f.below hb
      replace S_p := S_p.below hb
      replace S_x := S_x.below hb
      replace S_y := S_y.below hb
      replace S_a := S_a.below hb
      clear hb
      go_wp2_with fail
      refine (unlike_calls q n c 12 xs (by decide) _ S_x).mono ?_
      rintro e w5 ⟨v, rfl, hO, hb⟩
      obtain ⟨q_l, c_l, rfl, S_l, C_l, hQ⟩ := hO.tell (n := nl) (by rw [HT.out.2.2.2.2]; exact HT.out.2.2.2.1) (by rw [HT.out.2.2.2.2]; exact HE.out.2.2.2.2.2.2)
      clear hO
      have Q_l_f := hQ _ HF_f.lt
      clear hQ
      replace HB := HB.trans (hb.mono HB.size)
      replace HF_f := HF_f.below hb
      replace S_p := S_p.below hb
      replace S_x := S_x.below hb
      replace S_y := S_y.below hb
      replace S_a := S_a.below hb
      replace S_b := S_b.below hb
      clear hb
      rw [HT.out.2.2.2.2] at S_l
      go_wp2
      obtain ⟨W1, hW1⟩ : ∃ W1, W1 = w5 := ⟨_, rfl⟩
      subst hW1
      obtain ⟨R1, hR1⟩ : ∃ R1, W1.heap.size = R1 := ⟨_, rfl⟩
      have HK : Hid (Below w.heap.size w W1 ∧ Fd k B_f T_f W1 ∧ Bs W1 r l ps ∧ Bs W1 q n xs ∧ Bs W1 q_a na as' ∧ Bs W1 q_b na as' ∧ Bs W1 q_l nl L ∧ T_f < R1) := ⟨HB, HF_f, S_p, S_x, S_a, S_b, S_l, hR1 ▸ HF_f.lt⟩
      clear HB HF_f S_y S_p S_x S_a S_b S_l
      go_loopw [17, 18] (fun o i wr => ∃ t : Nat, t ≤ nl ∧ i = .int .i64 (t : Int) ∧ Ow wr R1 o (sq x t) ∧ Below R1 W1 wr) (fun _ i _ => nl - (intOf i).toNat)
      case atStart => exact ⟨0, by omega, rfl, ow_nil _ _, Below.refl _ _⟩
      case round =>
        obtain ⟨t, ht, rfl, hO, hB⟩ := hrel
        have hR1w : R1 ≤ wr.heap.size := hR1 ▸ hB.size
        by_cases hlt : t < nl
        · have hti : (t : Int) < (nl : Int) := by omega
          have ht2 : t * t ≤ 12 * 12 := Nat.mul_le_mul (by omega) (by omega)
          have hss := sq_succ x t
          obtain ⟨s, hse⟩ : ∃ s, t * t = s := ⟨_, rfl⟩
          have hsi : (t : Int) * (t : Int) = (s : Int) := by rw [← hse]; simp
          rw [hse] at hss ht2
          have hs144 : (s : Int) ≤ 144 := by omega
          have hu8 : IntKind.u8.wrap (s : Int) = (s : Int) := by rw [IntKind.wrap_u8]; omega
          have hxo := u8_xor_nat x s hx (by omega)
          have hlu : (sq x t).length ≤ 1000000000 := by rw [sq_length]; omega
          obtain ⟨us, hus⟩ : ∃ us, sq x t = us := ⟨_, rfl⟩
          rw [hus] at hO hss hlu
          obtain ⟨g, cg, W', hap, hO', hbw⟩ := run_append_one wr R1 _ us (x ^^^ s) hO hlu hR1w
          obtain ⟨L', hL'⟩ : ∃ L', (us ++ [x ^^^ s]).length = L' := ⟨_, rfl⟩
          rw [hL'] at hap hO'
          have ha1 := ap_ok hap
          have ha2 := ap_v hap
          have ha3 := ap_w hap
          have HZ : Hid (Ow W' R1 (.slice (some ⟨g, 0, none⟩) L' cg) (sq x (t + 1)) ∧ Below R1 W1 W') := ⟨by rw [hss]; exact hO', hB.trans (hbw _ (Nat.le_refl _))⟩
          clear hO' hbw hap hL' hO hB hlu hus hss hse
          go_wp2
          clear hsi
          go_roundw
          case rel => exact ⟨t + 1, by omega, by go_num, HZ.out⟩
          case measure => simp [intOf]; omega
        · obtain rfl : t = nl := by omega
          have hb : Below W1.heap.size W1 wr := hR1.symm ▸ hB
          obtain ⟨q_s, c_s, rfl, S_s, C_s, hQs⟩ := hO.tell (n := t) (sq_byt hx t (by omega)) (sq_length _ _)
          have Q_s_f := hQs T_f HK.out.2.2.2.2.2.2.2
          have HB : Below w.heap.size w wr := HK.out.1.trans (hb.mono HK.out.1.size)
          have HF_f := HK.out.2.1.below hb
          have S_p := HK.out.2.2.1.below hb
          have S_x := HK.out.2.2.2.1.below hb
          have S_a := HK.out.2.2.2.2.1.below hb
          have S_b := HK.out.2.2.2.2.2.1.below hb
          have S_l := HK.out.2.2.2.2.2.2.1.below hb
          clear hO hB hb hQs HK hR1 hR1w
          go_wp2_with fail
          refine (vthrough_calls k B_f T_f t c_l t c_s q_l q_s L (sq x t) cs b2 HT.out.2.1 (by have := HU.out; omega) _ HF_f S_l S_s Q_l_f Q_s_f).mono ?_
          rintro e w6 ⟨v, rfl, hO, hF, hb⟩
          obtain ⟨q_g, c_g, rfl, S_g, C_g, hQ⟩ := hO.tell (n := nc) HT.out.2.1.byt HE.out.2.1
          clear hO
          have Q_g_f := hQ _ HF_f.lt
          clear hQ
          replace HB := HB.trans (hb.below HB.size (by rintro k rfl; exact HL_f))
          replace S_p := S_p.but hb Q_p_f
          replace S_x := S_x.but hb Q_x_f
          replace S_a := S_a.but hb Q_a_f
          replace S_b := S_b.but hb Q_b_f
          replace S_l := S_l.but hb Q_l_f
          replace S_s := S_s.but hb Q_s_f
          clear HF_f hb
          have HF_f := hF
          clear hF
          go_wp2_with fail
          refine (r7through_calls t c_l t c_s q_l q_s L (sq x t) cs b2 HT.out.2.1 (by have := HU.out; omega) _ S_l S_s).mono ?_
          rintro e w7 ⟨v, rfl, hO, hb⟩
          obtain ⟨q_h, c_h, rfl, S_h, C_h, hQ⟩ := hO.tell (n := nc) HT.out.2.1.byt HE.out.2.1
          clear hO
          have Q_h_f := hQ _ HF_f.lt
          clear hQ
          replace HB := HB.trans (hb.mono HB.size)
          replace HF_f := HF_f.below hb
          replace S_p := S_p.below hb
          replace S_x := S_x.below hb
          replace S_a := S_a.below hb
          replace S_b := S_b.below hb
          replace S_l := S_l.below hb
          replace S_s := S_s.below hb
          replace S_g := S_g.below hb
          clear hb
          clear S_s S_l
          go_wp2_with fail
          refine (vat_e k B_f T_f l e x v r ps hx HE.out.2.2.2.2.2.1 _ HF_f S_p Q_p_f).mono ?_
          rintro e w8 ⟨rfl, hF, hb⟩
          replace HB := HB.trans (hb.below HB.size (by rintro k rfl; exact HL_f))
          replace S_p := S_p.but hb Q_p_f
          replace S_x := S_x.but hb Q_x_f
          replace S_a := S_a.but hb Q_a_f
          replace S_b := S_b.but hb Q_b_f
          replace S_g := S_g.but hb Q_g_f
          replace S_h := S_h.but hb Q_h_f
          clear HF_f hb
          have HF_f := hF
          clear hF
          go_wp2_with fail
          refine (r7at_calls r l e x ps hx (by have := HU.out; omega) _ S_p).mono ?_
          rw [HE.out.2.2.2.2.2.1]
          rintro e' w9 ⟨rfl, hb⟩
          replace HB := HB.trans (hb.mono HB.size)
          replace HF_f := HF_f.below hb
          replace S_p := S_p.below hb
          replace S_x := S_x.below hb
          replace S_a := S_a.below hb
          replace S_b := S_b.below hb
          replace S_g := S_g.below hb
          replace S_h := S_h.below hb
          clear hb
          go_wp2_with fail
          refine (vall_calls k B_f T_f l e n c r q ps xs (by have := HU.out; omega) _ HF_f S_p S_x Q_p_f Q_x_f).mono ?_
          rintro e w9 ⟨v, rfl, hO, hF, hb⟩
          obtain ⟨q_u, c_u, rfl, S_u, C_u, hQ⟩ := hO.tell (n := n) (Pol.map_vl_byt _ _) HE.out.2.2.2.2.1
          clear hO
          have Q_u_f := hQ _ HF_f.lt
          clear hQ
          replace HB := HB.trans (hb.below HB.size (by rintro k rfl; exact HL_f))
          replace S_p := S_p.but hb Q_p_f
          replace S_x := S_x.but hb Q_x_f
          replace S_a := S_a.but hb Q_a_f
          replace S_b := S_b.but hb Q_b_f
          replace S_g := S_g.but hb Q_g_f
          replace S_h := S_h.but hb Q_h_f
          clear HF_f hb
          have HF_f := hF
          clear hF
          go_wp2_with fail
          refine (r7all_calls r q l e n c ps xs (by have := HU.out; omega) (by have := HU.out; omega) _ S_p S_x).mono ?_
          rintro e w10 ⟨v, rfl, hO, hb⟩
          obtain ⟨q_o, c_o, rfl, S_o, C_o, hQ⟩ := hO.tell (n := n) (Pol.map_vl_byt _ _) HE.out.2.2.2.2.1
          clear hO
          have Q_o_f := hQ _ HF_f.lt
          clear hQ
          replace HB := HB.trans (hb.mono HB.size)
          replace HF_f := HF_f.below hb
          replace S_p := S_p.below hb
          replace S_x := S_x.below hb
          replace S_a := S_a.below hb
          replace S_b := S_b.below hb
          replace S_g := S_g.below hb
          replace S_h := S_h.below hb
          replace S_u := S_u.below hb
          clear hb
          go_wp2_with fail
          refine (same_calls q_u q_o n c_u c_o (xs.map (vl ps)) _ S_u S_o).mono ?_
          rintro e w11 ⟨rfl, hb⟩
          replace HB := HB.trans (hb.mono HB.size)
          replace HF_f := HF_f.below hb
          replace S_p := S_p.below hb
          replace S_x := S_x.below hb
          replace S_a := S_a.below hb
          replace S_b := S_b.below hb
          replace S_g := S_g.below hb
          replace S_h := S_h.below hb
          replace S_u := S_u.below hb
          replace S_o := S_o.below hb
          clear hb
          clear S_u S_o
          go_wp2_with fail
          refine (vderive_calls r l e ps ds HT.out.2.2.1 (by have := HU.out; omega) _ S_p).mono ?_
          rintro e w12 ⟨v, rfl, hO, hb⟩
          obtain ⟨q_u, c_u, rfl, S_u, C_u, hQ⟩ := hO.tell (n := nd) HT.out.2.2.1.byt HE.out.2.2.1
          clear hO
          have Q_u_f := hQ _ HF_f.lt
          clear hQ
          replace HB := HB.trans (hb.mono HB.size)
          replace HF_f := HF_f.below hb
          replace S_p := S_p.below hb
          replace S_x := S_x.below hb
          replace S_a := S_a.below hb
          replace S_b := S_b.below hb
          replace S_g := S_g.below hb
          replace S_h := S_h.below hb
          clear hb
          go_wp2_with fail
          refine (r7derive_calls r l e ps ds HT.out.2.2.1 (by have := HU.out; omega) _ S_p).mono ?_
          rintro e w13 ⟨v, rfl, hO, hb⟩
          obtain ⟨q_o, c_o, rfl, S_o, C_o, hQ⟩ := hO.tell (n := nd) HT.out.2.2.1.byt HE.out.2.2.1
          clear hO
          have Q_o_f := hQ _ HF_f.lt
          clear hQ
          replace HB := HB.trans (hb.mono HB.size)
          replace HF_f := HF_f.below hb
          replace S_p := S_p.below hb
          replace S_x := S_x.below hb
          replace S_a := S_a.below hb
          replace S_b := S_b.below hb
          replace S_g := S_g.below hb
          replace S_h := S_h.below hb
          replace S_u := S_u.below hb
          clear hb
          go_wp2_with fail
          refine (same_calls q_u q_o nd c_u c_o ds _ S_u S_o).mono ?_
          rintro e w14 ⟨rfl, hb⟩
          replace HB := HB.trans (hb.mono HB.size)
          replace HF_f := HF_f.below hb
          replace S_p := S_p.below hb
          replace S_x := S_x.below hb
          replace S_a := S_a.below hb
          replace S_b := S_b.below hb
          replace S_g := S_g.below hb
          replace S_h := S_h.below hb
          replace S_u := S_u.below hb
          replace S_o := S_o.below hb
          clear hb
          clear S_u S_o
          go_wp2_with fail
          refine (vfrom_calls k B_f T_f n c q xs (by have := HU.out; omega) _ HF_f S_x Q_x_f).mono ?_
          rintro e w15 ⟨v, rfl, hO, hF, hb⟩
          obtain ⟨q_u, c_u, rfl, S_u, C_u, hQ⟩ := hO.tell (n := nf) (Pol.frL_isN _).byt HE.out.2.2.2.1
          clear hO
          have Q_u_f := hQ _ HF_f.lt
          clear hQ
          replace HB := HB.trans (hb.below HB.size (by rintro k rfl; exact HL_f))
          replace S_p := S_p.but hb Q_p_f
          replace S_x := S_x.but hb Q_x_f
          replace S_a := S_a.but hb Q_a_f
          replace S_b := S_b.but hb Q_b_f
          replace S_g := S_g.but hb Q_g_f
          replace S_h := S_h.but hb Q_h_f
          clear HF_f hb
          have HF_f := hF
          clear hF
          go_wp2_with fail
          refine (r7from_calls q n c xs (by have := HU.out; omega) _ S_x).mono ?_
          rintro e w16 ⟨v, rfl, hO, hb⟩
          obtain ⟨q_o, c_o, rfl, S_o, C_o, hQ⟩ := hO.tell (n := nf) (Pol.frL_isN _).byt HE.out.2.2.2.1
          clear hO
          have Q_o_f := hQ _ HF_f.lt
          clear hQ
          replace HB := HB.trans (hb.mono HB.size)
          replace HF_f := HF_f.below hb
          replace S_p := S_p.below hb
          replace S_x := S_x.below hb
          replace S_a := S_a.below hb
          replace S_b := S_b.below hb
          replace S_g := S_g.below hb
          replace S_h := S_h.below hb
          replace S_u := S_u.below hb
          clear hb
          go_wp2_with fail
          refine (same_calls q_u q_o nf c_u c_o (frL xs) _ S_u S_o).mono ?_
          rintro e w17 ⟨rfl, hb⟩
          replace HB := HB.trans (hb.mono HB.size)
          replace HF_f := HF_f.below hb
          replace S_p := S_p.below hb
          replace S_x := S_x.below hb
          replace S_a := S_a.below hb
          replace S_b := S_b.below hb
          replace S_g := S_g.below hb
          replace S_h := S_h.below hb
          replace S_u := S_u.below hb
          replace S_o := S_o.below hb
          clear hb
          clear S_u S_o
          go_wp2_with fail
          refine (same_calls q_a q_b na c_a c_b as' _ S_a S_b).mono ?_
          rintro e w18 ⟨rfl, hb⟩
          replace HB := HB.trans (hb.mono HB.size)
          replace HF_f := HF_f.below hb
          replace S_p := S_p.below hb
          replace S_x := S_x.below hb
          replace S_a := S_a.below hb
          replace S_b := S_b.below hb
          replace S_g := S_g.below hb
          replace S_h := S_h.below hb
          clear hb
          go_wp2_with fail
          refine (same_calls q_g q_h nc c_g c_h cs _ S_g S_h).mono ?_
          rintro e w19 ⟨rfl, hb⟩
          replace HB := HB.trans (hb.mono HB.size)
          replace HF_f := HF_f.below hb
          replace S_p := S_p.below hb
          replace S_x := S_x.below hb
          replace S_a := S_a.below hb
          replace S_b := S_b.below hb
          replace S_g := S_g.below hb
          replace S_h := S_h.below hb
          clear hb
          go_wp2
          go_ret
          exact ⟨rfl, HB⟩
theorem own : ownKnob Tryz.prog.godebug = none := by kernel_rfl
theorem laidOut : laidOutB Tryz.prog = true := by kernel_rfl
set_option maxRecDepth 100000 in
theorem lifted (os : Os) (started : os.Started) (H : Type) (enc : TypeId × Value → H) :
    ReturnsInHanded {} Tryz.checked os 3 .any (Rows.valueAsksSpec.pre6 enc Tryz.prog Tryz.f3 Rows.valueAsksRow.domain false) (Rows.valueAsksSpec.post enc Tryz.prog Tryz.f3 false true false false) := by
  refine returnsInHanded_of_change_sized (C := Tryz.checked) own started (by kernel_rfl) Tryz.func3
    (ChangeSpec.witness6 (enc := enc) (C := Tryz.checked) false ⟨#[], #[.int .u8 0, .slice none 0 0, .slice none 0 0, .slice none 0 0, .int .u8 0], []⟩ 8 (by kernel_rfl) (by kernel_rfl) (by kernel_rfl) (by kernel_rfl)) ?_
  intro W base args ds gs before hval0 hW _ hz _
  have hval : ∀ (j : Nat) t v, Tryz.f3.params[j]? = some t → args[j]? = some v → Value.okWide Tryz.prog W .any base t v := hval0
  have hW' := hW
  obtain ⟨p, q, hA0, hV, rfl, _, _⟩ := hW
  have hA : DataW.TrodAll enc Tryz.prog W 0 (fun _ => true) true Tryz.f3.params.toList args.toList ds p := hA0
  rw [Tryz.params3] at hA hval
  obtain ⟨v0, vs0, d0, ds0, p0, q0, hargs, rfl, rfl, h0, r0⟩ := trodAll_cons hA
  obtain ⟨v1, vs1, d1, ds1, p1, q1, rfl, rfl, rfl, h1, r1⟩ := trodAll_cons r0
  obtain ⟨v2, vs2, d2, ds2, p2, q2, rfl, rfl, rfl, h2, r2⟩ := trodAll_cons r1
  obtain ⟨v3, vs3, d3, ds3, p3, q3, rfl, rfl, rfl, h3, r3⟩ := trodAll_cons r2
  obtain ⟨v4, vs4, d4, ds4, p4, q4, rfl, rfl, rfl, h4, r4⟩ := trodAll_cons r3
  obtain ⟨rfl, rfl, rfl⟩ := trodAll_nil r4
  obtain rfl : args = #[v0, v1, v2, v3, v4] := by cases args; simp_all
  obtain ⟨rfl, rfl⟩ := trodVars_none hV
  obtain ⟨a0, rfl, rfl, rfl, w0⟩ := open_int Tryz.underlying5 (hval 0 5 v0 rfl rfl) h0
  obtain ⟨n0, b0, rfl⟩ := nat_of_u8 w0
  have k1 := h1
  obtain ⟨q1, n1, c1, xs1, rfl, w1, m1⟩ := open_bytes_sz Tryz.underlying22 Tryz.underlying5 (by kernel_rfl) (hval 1 22 v1 rfl rfl) h1
  have y1 : n1 ≤ c1 ∧ c1 ≤ 140737488351232 := ⟨m1.1, m1.2 _ fun el sp hd => by have := sized_slice (j := 1) (t := 22) (e := 5) (elems := el) (spare := sp) hz (by kernel_rfl) (by first | (rw [← hd]; done) | (rw [← hd]; rfl)) Tryz.underlying22; have hbe : Tryz.checked.prog.bytesOf 5 = 1 := (by kernel_rfl); have hre : reachBytes = 140737488351232 := rfl; rw [hbe, hre] at this; omega⟩
  have k2 := h2
  obtain ⟨q2, n2, c2, xs2, rfl, w2, m2⟩ := open_bytes_sz Tryz.underlying22 Tryz.underlying5 (by kernel_rfl) (hval 2 22 v2 rfl rfl) h2
  have y2 : n2 ≤ c2 ∧ c2 ≤ 140737488351232 := ⟨m2.1, m2.2 _ fun el sp hd => by have := sized_slice (j := 2) (t := 22) (e := 5) (elems := el) (spare := sp) hz (by kernel_rfl) (by first | (rw [← hd]; done) | (rw [← hd]; rfl)) Tryz.underlying22; have hbe : Tryz.checked.prog.bytesOf 5 = 1 := (by kernel_rfl); have hre : reachBytes = 140737488351232 := rfl; rw [hbe, hre] at this; omega⟩
  have k3 := h3
  obtain ⟨q3, n3, c3, xs3, rfl, w3, m3⟩ := open_bytes_sz Tryz.underlying22 Tryz.underlying5 (by kernel_rfl) (hval 3 22 v3 rfl rfl) h3
  have y3 : n3 ≤ c3 ∧ c3 ≤ 140737488351232 := ⟨m3.1, m3.2 _ fun el sp hd => by have := sized_slice (j := 3) (t := 22) (e := 5) (elems := el) (spare := sp) hz (by kernel_rfl) (by first | (rw [← hd]; done) | (rw [← hd]; rfl)) Tryz.underlying22; have hbe : Tryz.checked.prog.bytesOf 5 = 1 := (by kernel_rfl); have hre : reachBytes = 140737488351232 := rfl; rw [hbe, hre] at this; omega⟩
  obtain ⟨a4, rfl, rfl, rfl, w4⟩ := open_int Tryz.underlying5 (hval 4 5 v4 rfl rfl) h4
  obtain ⟨n4, b4, rfl⟩ := nat_of_u8 w4
  clear hA0 hval0
  simp only [List.append_nil] at hW'
  refine (walk (w := W) n0 q1 n1 c1 xs1 q2 n2 c2 xs2 q3 n3 c3 xs3 n4 b0 w1 y1 w2 y2 w3 y3 b4).mono fun e W' ⟨he, bel⟩ => ?_
  subst he
  exact ⟨_, rfl, _, _, _, [], _, [], hW', trodAll_mk1 (shut_bool Tryz.underlying4 _), (trodAll_cons_mk (shut_int Tryz.underlying5 w0) (trodAll_cons_mk (shut_same laidOut (by kernel_rfl) (of_decide_eq_true (by kernel_rfl)) k1 bel) (trodAll_cons_mk (shut_same laidOut (by kernel_rfl) (of_decide_eq_true (by kernel_rfl)) k2 bel) (trodAll_cons_mk (shut_same laidOut (by kernel_rfl) (of_decide_eq_true (by kernel_rfl)) k3 bel) (trodAll_cons_mk (shut_int Tryz.underlying5 w4) trodAll_mk0))))), rfl, bel.frame _, fun h => by cases h⟩
theorem over : Rows.valueAsksRow.holds Tryz.pinned (OpenSpec.ofChange Rows.valueAsksSpec) :=
  OpenClaim.holds_of_wide 3 Tryz.f3 rfl rfl rfl rfl rfl rfl rfl ⟨rfl, rfl, rfl, rfl, rfl⟩ rfl rfl rfl rfl rfl (by kernel_rfl) Tryz.func3 (by kernel_rfl)
    (of_decide_eq_true (by kernel_rfl)) (by unfold Func.isWrapper; first | (rw [if_pos (by decide +kernel)]; kernel_rfl) | (rw [if_neg (by decide +kernel)]; exact ⟨rfl, rfl⟩))
    (fun os started H enc _ => lifted os started H enc)
theorem proved : Rows.ValueAsksSaid := over
#print axioms proved
end Go.Proofs.YtafjlbkcpjkojaaGreat.valueAsks
