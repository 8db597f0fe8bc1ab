/- PolyScale holds for every input: to scale is to multiply by a polynomial without x; by a byte that is not 0 it is taken back. No conditions. -/
import Derived.Test.YtddgakaidlclcaaRows
import Derived.Test.YtddgakaidlclcaaNums
import Derived.Test.YtddgakaidlclcaaCaps
import Derived.Test.YtddgakaidlclcaaKnown05
namespace Go.Proofs.Ytddgakaidlclcaa.polyScale
open Go.ChangeShapes Go.WideShapes Go.ChangeAt Go.RowKit
open Pol (IsN Dg ofL Byt)

theorem ofL_one (a : Nat) : ofL [a] = Pol.mono 0 (GF.of a) := by
  funext i
  cases i with
  | zero => rfl
  | succ i => show GF.of ([a].getD (i + 1) 0) = Pol.mono 0 (GF.of a) (i + 1); simp [List.getD, Pol.mono]; rfl
set_option maxRecDepth 100000 in
set_option maxHeartbeats 4000000 in
theorem walk (j : Nat) (q : Option Addr) (n c : Nat) (xs : List Nat) (a b : Nat) (w : World) (hj : j < 256) (S_p : Bs w q n xs) (y_p : n ≤ c ∧ c ≤ 140737488351232) (ha : a < 256) (hb : b < 256) :
    Calls Try.prog 7 #[.int .u8 j, .slice q n c, .int .u8 a, .int .u8 b] w fun e w' => e = .returned (.bool true) ∧ Below w.heap.size w w' := by
  have hnot : ∀ (x : Bool) (w : World), (Op.unary .not (.bool x)).run Try.prog w = .ok (.bool (!x)) w := fun _ _ => rfl
  obtain ⟨k, hk⟩ : ∃ k : Nat, 1 + j % 3 = k := ⟨_, rfl⟩
  have hk1 : 1 ≤ k := by omega
  have hk3 : k ≤ 3 := by omega
  have hki : (1 : Int) + (j : Int) % 3 = (k : Int) := by omega
  clear hk
  have HB : Below w.heap.size w w := Below.refl _ _
  have Cp := y_p.1
  clear y_p
  go_enter Try.func7, Try.ntmps7
  by_cases hbig : 200 < n
  · have hb1 : (200 : Int) < (n : Int) := by omega
    go_wp2_with fail
    refine (known05_calls _).mono ?_
    rintro e w1 ⟨rfl, hb⟩
    replace HB := HB.trans (hb.mono HB.size)
    replace S_p := S_p.below hb
    clear hb
    go_wp2
    go_ret
    exact ⟨rfl, HB⟩
  · have hb1 : ((200 : Int) < (n : Int)) = False := eq_false (by omega)
    have lp := S_p.len
    have bp := S_p.byt
    obtain ⟨dp, hdp, gp⟩ := Pol.dg_list xs
    obtain ⟨lq, hq, bq⟩ := Pol.isN_smul (GF.of a) xs
    obtain ⟨lb, hlb, bb⟩ := Pol.isN_smul (GF.of b) lq
    obtain ⟨lc, hlc, bc⟩ := Pol.isN_smul (GF.of b) xs
    obtain ⟨ld, hld, bd⟩ := Pol.isN_add lq lc
    obtain ⟨l1, h1, b1⟩ := Pol.isN_norm xs
    have hq2 : IsN lq (Pol.mul (ofL [a]) (ofL xs)) := by rw [ofL_one, Pol.const_mul]; exact hq
    obtain ⟨mm, hmm⟩ : ∃ mm, Gf.mul a b = mm := ⟨_, rfl⟩
    have hm8 : mm < 256 := by rw [← hmm]; exact Gf.mul_lt _ _ ha
    have hx8 : a ^^^ b < 256 := Gf.xor_lt8 ha hb
    have hxor := u8_xor_nat a b ha hb
    have hlb2 : IsN lb (Pol.smul (GF.of mm) (ofL xs)) := by
      have e : GF.of mm = GF.of b * GF.of a := by rw [← hmm, GF.of_mul a b ha hb, GF.mul_comm]
      rw [e, ← Pol.smul_smul, ← hq.eq]; exact hlb
    have hld2 : IsN ld (Pol.smul (GF.of (a ^^^ b)) (ofL xs)) := by
      rw [GF.of_xor a b ha hb, Pol.add_smul, ← hq.eq, ← hlc.eq]; exact hld
    obtain ⟨nq, nqe⟩ : ∃ nq, lq.length = nq := ⟨_, rfl⟩
    obtain ⟨nb, nbe⟩ : ∃ nb, lb.length = nb := ⟨_, rfl⟩
    obtain ⟨nc, nce⟩ : ∃ nc, lc.length = nc := ⟨_, rfl⟩
    obtain ⟨nd, nde⟩ : ∃ nd, ld.length = nd := ⟨_, rfl⟩
    obtain ⟨n1, n1e⟩ : ∃ n1, l1.length = n1 := ⟨_, rfl⟩
    have HU : Hid (nq ≤ 1000 ∧ nb ≤ 1000 ∧ nc ≤ 1000 ∧ nd ≤ 1000 ∧ n1 ≤ 1000 ∧ n ≤ 1000) := by show _ ∧ _; omega
    have HH : Hid (IsN lq (Pol.smul (GF.of a) (ofL xs)) ∧ IsN lq (Pol.mul (ofL [a]) (ofL xs)) ∧ Dg dp (ofL xs) ∧ IsN lb (Pol.smul (GF.of b) (ofL lq)) ∧ IsN lb (Pol.smul (GF.of mm) (ofL xs)) ∧ IsN lc (Pol.smul (GF.of b) (ofL xs)) ∧ IsN ld (Pol.add (ofL lq) (ofL lc)) ∧ IsN ld (Pol.smul (GF.of (a ^^^ b)) (ofL xs))) := ⟨hq, hq2, gp, hlb, hlb2, hlc, hld, hld2⟩
    have H1 : Hid (IsN l1 (ofL xs) ∧ l1.length = n1) := ⟨h1, n1e⟩
    have HNl : Hid (lq.length = nq ∧ lb.length = nb ∧ lc.length = nc ∧ ld.length = nd) := ⟨nqe, nbe, nce, nde⟩
    have Hmm : Hid (Gf.mul a b = mm) := hmm
    have Hm8 : Hid (mm < 256) := hm8
    have Hx8 : Hid (a ^^^ b < 256) := hx8
    clear hq hq2 gp hlb hlb2 hlc hld hld2 h1 nqe nbe nce nde n1e hmm hm8 bq bb bc bd b1 hdp lp bp hbig hx8
    go_wp2_with fail
    refine (fof_calls k hk1 hk3 _).mono ?_
    rintro e w1 ⟨B_f, T_f, rfl, HF_f, hb, hlB, hlT⟩
    have HL_f : w.heap.size ≤ T_f := Nat.le_trans HB.size hlT
    have Q_p_f := S_p.off hlT
    replace HB := HB.trans (hb.mono HB.size)
    replace S_p := S_p.below hb
    clear hb hlB hlT
    clear hb1 hki
    obtain ⟨iv, hiv⟩ : ∃ iv, Gf.inv a = iv := ⟨_, rfl⟩
    have Hiv : Hid (Gf.inv a = iv) := hiv
    obtain ⟨is, his⟩ : ∃ is, (a != 0) = is := ⟨_, rfl⟩
    have His : Hid ((a != 0) = is) := his
    clear hiv his
    go_wp2_with fail
    refine (finv_e k B_f T_f a iv is ha Hiv.out His.out _ HF_f).mono ?_
    rintro e w2 ⟨rfl, hF, hb⟩
    replace HB := HB.trans (hb.below HB.size (by rintro k rfl; exact HL_f))
    replace S_p := S_p.but hb Q_p_f
    clear HF_f hb
    have HF_f := hF
    clear hF
    go_wp2_with fail
    refine (pscale_calls k B_f T_f a n c q xs lq ha HH.out.1 (by have := HU.out; omega) Cp _ HF_f S_p Q_p_f).mono ?_
    rintro e w3 ⟨v, rfl, hO, hF, hb⟩
    obtain ⟨q_q, c_q, rfl, S_q, C_q, hQ⟩ := hO.tell (n := nq) HH.out.1.byt HNl.out.1
    clear hO
    have Q_q_f := hQ _ HF_f.lt
    clear hQ
    replace HB := HB.trans (hb.below HB.size (by rintro k rfl; exact HL_f))
    replace S_p := S_p.but hb Q_p_f
    clear HF_f hb
    have HF_f := hF
    clear hF
    go_wp2_with fail
    refine (known05_calls _).mono ?_
    rintro e w4 ⟨rfl, hb⟩
    replace HB := HB.trans (hb.mono HB.size)
    replace HF_f := HF_f.below hb
    replace S_p := S_p.below hb
    replace S_q := S_q.below hb
    clear hb
    go_wp2_with fail
    have S_o : Bs (w4.alloc (.cells #[.int .u8 (a : Int)] 5)) (some ⟨w4.heap.size, 0, none⟩) 1 [a] := bs_lits w4 _ [a] _ 1 rfl (by first | rfl | simp) rfl (by simp; exact ha) (by simp)
    have Q_o_f : Off T_f 1 (some ⟨w4.heap.size, 0, none⟩) := off_at (by have := HF_f.lt; (try simp at this); omega)
    replace HF_f := HF_f.alloc (.cells #[.int .u8 (a : Int)] 5)
    replace S_p := S_p.alloc (.cells #[.int .u8 (a : Int)] 5)
    replace S_q := S_q.alloc (.cells #[.int .u8 (a : Int)] 5)
    replace HB := HB.alloc HB.size (.cells #[.int .u8 (a : Int)] 5)
    go_wp2_with fail
    refine (pmul_calls k B_f T_f 1 1 n c _ q [a] xs lq HH.out.2.1 (by decide) (by have := HU.out; omega) (by decide) Cp _ HF_f S_o S_p Q_o_f Q_p_f).mono ?_
    rintro e w5 ⟨v, rfl, hO, hF, hb⟩
    obtain ⟨q_x, c_x, rfl, S_x, C_x, hQ⟩ := hO.tell (n := nq) HH.out.2.1.byt HNl.out.1
    clear hO
    have Q_x_f := hQ _ HF_f.lt
    clear hQ
    replace HB := HB.trans (hb.below HB.size (by rintro k rfl; exact HL_f))
    replace S_p := S_p.but hb Q_p_f
    replace S_q := S_q.but hb Q_q_f
    replace S_o := S_o.but hb Q_o_f
    clear HF_f hb
    have HF_f := hF
    clear hF
    go_wp2_with fail
    refine (psame_calls q_q q_x nq c_q nq c_x lq lq true (iff_of_true rfl rfl) C_q C_x _ S_q S_x).mono ?_
    rintro e w6 ⟨rfl, hb⟩
    replace HB := HB.trans (hb.mono HB.size)
    replace HF_f := HF_f.below hb
    replace S_p := S_p.below hb
    replace S_q := S_q.below hb
    replace S_o := S_o.below hb
    replace S_x := S_x.below hb
    clear hb
    clear S_o S_x
    by_cases h0 : a = 0
    · have e0 : is = false := by rw [← His.out]; simp [h0]
      subst e0
      clear h0
      go_wp2_with fail
      refine (pscale_calls k B_f T_f b nq c_q q_q lq lb hb HH.out.2.2.2.1 (by have := HU.out; omega) C_q _ HF_f S_q Q_q_f).mono ?_
      rintro e w7 ⟨v, rfl, hO, hF, hb⟩
      obtain ⟨q_b, c_b, rfl, S_b, C_b, hQ⟩ := hO.tell (n := nb) HH.out.2.2.2.1.byt HNl.out.2.1
      clear hO
      have Q_b_f := hQ _ HF_f.lt
      clear hQ
      replace HB := HB.trans (hb.below HB.size (by rintro k rfl; exact HL_f))
      replace S_p := S_p.but hb Q_p_f
      replace S_q := S_q.but hb Q_q_f
      clear HF_f hb
      have HF_f := hF
      clear hF
      go_wp2_with fail
      refine (fmul_e k B_f T_f a b mm ha hb Hmm.out _ HF_f).mono ?_
      rintro e w8 ⟨rfl, hF, hb⟩
      replace HB := HB.trans (hb.below HB.size (by rintro k rfl; exact HL_f))
      replace S_p := S_p.but hb Q_p_f
      replace S_q := S_q.but hb Q_q_f
      replace S_b := S_b.but hb Q_b_f
      clear HF_f hb
      have HF_f := hF
      clear hF
      go_wp2_with fail
      refine (pscale_calls k B_f T_f mm n c q xs lb Hm8.out HH.out.2.2.2.2.1 (by have := HU.out; omega) Cp _ HF_f S_p Q_p_f).mono ?_
      rintro e w9 ⟨v, rfl, hO, hF, hb⟩
      obtain ⟨q_d, c_d, rfl, S_d, C_d, hQ⟩ := hO.tell (n := nb) HH.out.2.2.2.2.1.byt HNl.out.2.1
      clear hO
      have Q_d_f := hQ _ HF_f.lt
      clear hQ
      replace HB := HB.trans (hb.below HB.size (by rintro k rfl; exact HL_f))
      replace S_p := S_p.but hb Q_p_f
      replace S_q := S_q.but hb Q_q_f
      replace S_b := S_b.but hb Q_b_f
      clear HF_f hb
      have HF_f := hF
      clear hF
      go_wp2_with fail
      refine (psame_calls q_b q_d nb c_b nb c_d lb lb true (iff_of_true rfl rfl) C_b C_d _ S_b S_d).mono ?_
      rintro e w10 ⟨rfl, hb⟩
      replace HB := HB.trans (hb.mono HB.size)
      replace HF_f := HF_f.below hb
      replace S_p := S_p.below hb
      replace S_q := S_q.below hb
      replace S_b := S_b.below hb
      replace S_d := S_d.below hb
      clear hb
      clear S_b S_d
      go_wp2_with fail
      refine (pscale_calls k B_f T_f b n c q xs lc hb HH.out.2.2.2.2.2.1 (by have := HU.out; omega) Cp _ HF_f S_p Q_p_f).mono ?_
      rintro e w11 ⟨v, rfl, hO, hF, hb⟩
      obtain ⟨q_e, c_e, rfl, S_e, C_e, hQ⟩ := hO.tell (n := nc) HH.out.2.2.2.2.2.1.byt HNl.out.2.2.1
      clear hO
      have Q_e_f := hQ _ HF_f.lt
      clear hQ
      replace HB := HB.trans (hb.below HB.size (by rintro k rfl; exact HL_f))
      replace S_p := S_p.but hb Q_p_f
      replace S_q := S_q.but hb Q_q_f
      clear HF_f hb
      have HF_f := hF
      clear hF
      go_wp2_with fail
      refine (padd_calls q_q q_e nq c_q nc c_e lq lc ld HH.out.2.2.2.2.2.2.1 (by have := HU.out; omega) (by have := HU.out; omega) _ S_q S_e).mono ?_
      rintro e w12 ⟨v, rfl, hO, hb⟩
      obtain ⟨q_g, c_g, rfl, S_g, C_g, hQ⟩ := hO.tell (n := nd) HH.out.2.2.2.2.2.2.1.byt HNl.out.2.2.2
      clear hO
      have Q_g_f := hQ _ HF_f.lt
      clear hQ
      replace HB := HB.trans (hb.mono HB.size)
      replace HF_f := HF_f.below hb
      replace S_p := S_p.below hb
      replace S_q := S_q.below hb
      replace S_e := S_e.below hb
      clear hb
      go_wp2_with fail
      refine (pscale_calls k B_f T_f (a ^^^ b) n c q xs ld Hx8.out HH.out.2.2.2.2.2.2.2 (by have := HU.out; omega) Cp _ HF_f S_p Q_p_f).mono ?_
      rintro e w13 ⟨v, rfl, hO, hF, hb⟩
      obtain ⟨q_h, c_h, rfl, S_h, C_h, hQ⟩ := hO.tell (n := nd) HH.out.2.2.2.2.2.2.2.byt HNl.out.2.2.2
      clear hO
      have Q_h_f := hQ _ HF_f.lt
      clear hQ
      replace HB := HB.trans (hb.below HB.size (by rintro k rfl; exact HL_f))
      replace S_p := S_p.but hb Q_p_f
      replace S_q := S_q.but hb Q_q_f
      replace S_e := S_e.but hb Q_e_f
      replace S_g := S_g.but hb Q_g_f
      clear HF_f hb
      have HF_f := hF
      clear hF
      go_wp2_with fail
      refine (psame_calls q_g q_h nd c_g nd c_h ld ld true (iff_of_true rfl rfl) C_g C_h _ S_g S_h).mono ?_
      rintro e w14 ⟨rfl, hb⟩
      replace HB := HB.trans (hb.mono HB.size)
      replace HF_f := HF_f.below hb
      replace S_p := S_p.below hb
      replace S_q := S_q.below hb
      replace S_e := S_e.below hb
      replace S_g := S_g.below hb
      replace S_h := S_h.below hb
      clear hb
      go_wp2
      go_ret
      exact ⟨rfl, HB⟩
    · have e0 : is = true := by rw [← His.out]; simp [h0]
      subst e0
      have hA : GF.of a ≠ 0 := fun e => h0 ((GF.of_eq_zero a ha).1 e)
      have hiv8 : iv < 256 := by rw [← Hiv.out]; exact Gf.inv_lt a ha
      have hsc : IsN l1 (Pol.smul (GF.of iv) (ofL lq)) := by
        rw [HH.out.1.eq, Pol.smul_smul, ← Hiv.out, GF.of_inv a ha, GF.inv_mul _ hA, Pol.one_smul]; exact H1.out.1
      have Hsc : Hid (IsN l1 (Pol.smul (GF.of iv) (ofL lq)) ∧ Dg dp (ofL lq)) := ⟨hsc, by rw [HH.out.1.eq]; exact HH.out.2.2.1.smul _ hA⟩
      clear hsc hA h0
      go_wp2_with fail
      refine (pscale_calls k B_f T_f iv nq c_q q_q lq l1 hiv8 Hsc.out.1 (by have := HU.out; omega) C_q _ HF_f S_q Q_q_f).mono ?_
      rintro e w7 ⟨v, rfl, hO, hF, hb⟩
      obtain ⟨q_i, c_i, rfl, S_i, C_i, hQ⟩ := hO.tell (n := n1) Hsc.out.1.byt H1.out.2
      clear hO
      have Q_i_f := hQ _ HF_f.lt
      clear hQ
      replace HB := HB.trans (hb.below HB.size (by rintro k rfl; exact HL_f))
      replace S_p := S_p.but hb Q_p_f
      replace S_q := S_q.but hb Q_q_f
      clear HF_f hb
      have HF_f := hF
      clear hF
      go_wp2_with fail
      refine (psame_calls q_i q n1 c_i n c l1 xs true (iff_of_true rfl H1.out.1.eq) C_i Cp _ S_i S_p).mono ?_
      rintro e w8 ⟨rfl, hb⟩
      replace HB := HB.trans (hb.mono HB.size)
      replace HF_f := HF_f.below hb
      replace S_p := S_p.below hb
      replace S_q := S_q.below hb
      replace S_i := S_i.below hb
      clear hb
      clear S_i
      go_wp2_with fail
      refine (pdeg_calls q_q nq c_q lq dp Hsc.out.2 _ S_q).mono ?_
      rintro e w9 ⟨rfl, hb⟩
      replace HB := HB.trans (hb.mono HB.size)
      replace HF_f := HF_f.below hb
      replace S_p := S_p.below hb
      replace S_q := S_q.below hb
      clear hb
      go_wp2_with fail
      refine (pdeg_calls q n c xs dp HH.out.2.2.1 _ S_p).mono ?_
      rintro e w10 ⟨rfl, hb⟩
      replace HB := HB.trans (hb.mono HB.size)
      replace HF_f := HF_f.below hb
      replace S_p := S_p.below hb
      replace S_q := S_q.below hb
      clear hb
      go_wp2_with fail
      refine (pscale_calls k B_f T_f b nq c_q q_q lq lb hb HH.out.2.2.2.1 (by have := HU.out; omega) C_q _ HF_f S_q Q_q_f).mono ?_
      rintro e w11 ⟨v, rfl, hO, hF, hb⟩
      obtain ⟨q_b, c_b, rfl, S_b, C_b, hQ⟩ := hO.tell (n := nb) HH.out.2.2.2.1.byt HNl.out.2.1
      clear hO
      have Q_b_f := hQ _ HF_f.lt
      clear hQ
      replace HB := HB.trans (hb.below HB.size (by rintro k rfl; exact HL_f))
      replace S_p := S_p.but hb Q_p_f
      replace S_q := S_q.but hb Q_q_f
      clear HF_f hb
      have HF_f := hF
      clear hF
      go_wp2_with fail
      refine (fmul_e k B_f T_f a b mm ha hb Hmm.out _ HF_f).mono ?_
      rintro e w12 ⟨rfl, hF, hb⟩
      replace HB := HB.trans (hb.below HB.size (by rintro k rfl; exact HL_f))
      replace S_p := S_p.but hb Q_p_f
      replace S_q := S_q.but hb Q_q_f
      replace S_b := S_b.but hb Q_b_f
      clear HF_f hb
      have HF_f := hF
      clear hF
      go_wp2_with fail
      refine (pscale_calls k B_f T_f mm n c q xs lb Hm8.out HH.out.2.2.2.2.1 (by have := HU.out; omega) Cp _ HF_f S_p Q_p_f).mono ?_
      rintro e w13 ⟨v, rfl, hO, hF, hb⟩
      obtain ⟨q_d, c_d, rfl, S_d, C_d, hQ⟩ := hO.tell (n := nb) HH.out.2.2.2.2.1.byt HNl.out.2.1
      clear hO
      have Q_d_f := hQ _ HF_f.lt
      clear hQ
      replace HB := HB.trans (hb.below HB.size (by rintro k rfl; exact HL_f))
      replace S_p := S_p.but hb Q_p_f
      replace S_q := S_q.but hb Q_q_f
      replace S_b := S_b.but hb Q_b_f
      clear HF_f hb
      have HF_f := hF
      clear hF
      go_wp2_with fail
      refine (psame_calls q_b q_d nb c_b nb c_d lb lb true (iff_of_true rfl rfl) C_b C_d _ S_b S_d).mono ?_
      rintro e w14 ⟨rfl, hb⟩
      replace HB := HB.trans (hb.mono HB.size)
      replace HF_f := HF_f.below hb
      replace S_p := S_p.below hb
      replace S_q := S_q.below hb
      replace S_b := S_b.below hb
      replace S_d := S_d.below hb
      clear hb
      clear S_b S_d
      go_wp2_with fail
      refine (pscale_calls k B_f T_f b n c q xs lc hb HH.out.2.2.2.2.2.1 (by have := HU.out; omega) Cp _ HF_f S_p Q_p_f).mono ?_
      rintro e w15 ⟨v, rfl, hO, hF, hb⟩
      obtain ⟨q_e, c_e, rfl, S_e, C_e, hQ⟩ := hO.tell (n := nc) HH.out.2.2.2.2.2.1.byt HNl.out.2.2.1
      clear hO
      have Q_e_f := hQ _ HF_f.lt
      clear hQ
      replace HB := HB.trans (hb.below HB.size (by rintro k rfl; exact HL_f))
      replace S_p := S_p.but hb Q_p_f
      replace S_q := S_q.but hb Q_q_f
      clear HF_f hb
      have HF_f := hF
      clear hF
      go_wp2_with fail
      refine (padd_calls q_q q_e nq c_q nc c_e lq lc ld HH.out.2.2.2.2.2.2.1 (by have := HU.out; omega) (by have := HU.out; omega) _ S_q S_e).mono ?_
      rintro e w16 ⟨v, rfl, hO, hb⟩
      obtain ⟨q_g, c_g, rfl, S_g, C_g, hQ⟩ := hO.tell (n := nd) HH.out.2.2.2.2.2.2.1.byt HNl.out.2.2.2
      clear hO
      have Q_g_f := hQ _ HF_f.lt
      clear hQ
      replace HB := HB.trans (hb.mono HB.size)
      replace HF_f := HF_f.below hb
      replace S_p := S_p.below hb
      replace S_q := S_q.below hb
      replace S_e := S_e.below hb
      clear hb
      go_wp2_with fail
      refine (pscale_calls k B_f T_f (a ^^^ b) n c q xs ld Hx8.out HH.out.2.2.2.2.2.2.2 (by have := HU.out; omega) Cp _ HF_f S_p Q_p_f).mono ?_
      rintro e w17 ⟨v, rfl, hO, hF, hb⟩
      obtain ⟨q_h, c_h, rfl, S_h, C_h, hQ⟩ := hO.tell (n := nd) HH.out.2.2.2.2.2.2.2.byt HNl.out.2.2.2
      clear hO
      have Q_h_f := hQ _ HF_f.lt
      clear hQ
      replace HB := HB.trans (hb.below HB.size (by rintro k rfl; exact HL_f))
      replace S_p := S_p.but hb Q_p_f
      replace S_q := S_q.but hb Q_q_f
      replace S_e := S_e.but hb Q_e_f
      replace S_g := S_g.but hb Q_g_f
      clear HF_f hb
      have HF_f := hF
      clear hF
      go_wp2_with fail
      refine (psame_calls q_g q_h nd c_g nd c_h ld ld true (iff_of_true rfl rfl) C_g C_h _ S_g S_h).mono ?_
      rintro e w18 ⟨rfl, hb⟩
      replace HB := HB.trans (hb.mono HB.size)
      replace HF_f := HF_f.below hb
      replace S_p := S_p.below hb
      replace S_q := S_q.below hb
      replace S_e := S_e.below hb
      replace S_g := S_g.below hb
      replace S_h := S_h.below hb
      clear hb
      go_wp2
      go_ret
      exact ⟨rfl, HB⟩
theorem own : ownKnob Try.prog.godebug = none := by kernel_rfl
theorem laidOut : laidOutB Try.prog = true := by kernel_rfl
set_option maxRecDepth 100000 in
theorem lifted (os : Os) (started : os.Started) (H : Type) (enc : TypeId × Value → H) :
    ReturnsInHanded {} Try.checked os 7 .any (Rows.polyScaleSpec.pre6 enc Try.prog Try.f7 Rows.polyScaleRow.domain false) (Rows.polyScaleSpec.post enc Try.prog Try.f7 false true false false) := by
  refine returnsInHanded_of_change_sized (C := Try.checked) own started (by kernel_rfl) Try.func7
    (ChangeSpec.witness6 (enc := enc) (C := Try.checked) false ⟨#[], #[.int .u8 0, .slice none 0 0, .int .u8 0, .int .u8 0], []⟩ 8 (by kernel_rfl) (by kernel_rfl) (by kernel_rfl) (by kernel_rfl)) ?_
  intro W base args ds gs before hval0 hW _ hz _
  have hval : ∀ (j : Nat) t v, Try.f7.params[j]? = some t → args[j]? = some v → Value.okWide Try.prog W .any base t v := hval0
  have hW' := hW
  obtain ⟨p, q, hA0, hV, rfl, _, _⟩ := hW
  have hA : DataW.TrodAll enc Try.prog W 0 (fun _ => true) true Try.f7.params.toList args.toList ds p := hA0
  rw [Try.params7] at hA hval
  obtain ⟨v0, vs0, d0, ds0, p0, q0, hargs, rfl, rfl, h0, r0⟩ := trodAll_cons hA
  obtain ⟨v1, vs1, d1, ds1, p1, q1, rfl, rfl, rfl, h1, r1⟩ := trodAll_cons r0
  obtain ⟨v2, vs2, d2, ds2, p2, q2, rfl, rfl, rfl, h2, r2⟩ := trodAll_cons r1
  obtain ⟨v3, vs3, d3, ds3, p3, q3, rfl, rfl, rfl, h3, r3⟩ := trodAll_cons r2
  obtain ⟨rfl, rfl, rfl⟩ := trodAll_nil r3
  obtain rfl : args = #[v0, v1, v2, v3] := by cases args; simp_all
  obtain ⟨rfl, rfl⟩ := trodVars_none hV
  obtain ⟨a0, rfl, rfl, rfl, w0⟩ := open_int Try.underlying5 (hval 0 5 v0 rfl rfl) h0
  obtain ⟨n0, b0, rfl⟩ := nat_of_u8 w0
  have k1 := h1
  obtain ⟨q1, n1, c1, xs1, rfl, w1, m1⟩ := open_bytes_sz Try.underlying22 Try.underlying5 (by kernel_rfl) (hval 1 22 v1 rfl rfl) h1
  have y1 : n1 ≤ c1 ∧ c1 ≤ 140737488351232 := ⟨m1.1, m1.2 _ fun el sp hd => by have := sized_slice (j := 1) (t := 22) (e := 5) (elems := el) (spare := sp) hz (by kernel_rfl) (by first | (rw [← hd]; done) | (rw [← hd]; rfl)) Try.underlying22; have hbe : Try.checked.prog.bytesOf 5 = 1 := (by kernel_rfl); have hre : reachBytes = 140737488351232 := rfl; rw [hbe, hre] at this; omega⟩
  obtain ⟨a2, rfl, rfl, rfl, w2⟩ := open_int Try.underlying5 (hval 2 5 v2 rfl rfl) h2
  obtain ⟨n2, b2, rfl⟩ := nat_of_u8 w2
  obtain ⟨a3, rfl, rfl, rfl, w3⟩ := open_int Try.underlying5 (hval 3 5 v3 rfl rfl) h3
  obtain ⟨n3, b3, rfl⟩ := nat_of_u8 w3
  clear hA0 hval0
  simp only [List.append_nil] at hW'
  refine (walk (w := W) n0 q1 n1 c1 xs1 n2 n3 b0 w1 y1 b2 b3).mono fun e W' ⟨he, bel⟩ => ?_
  subst he
  exact ⟨_, rfl, _, _, _, [], _, [], hW', trodAll_mk1 (shut_bool Try.underlying4 _), (trodAll_cons_mk (shut_int Try.underlying5 w0) (trodAll_cons_mk (shut_same laidOut (by kernel_rfl) (of_decide_eq_true (by kernel_rfl)) k1 bel) (trodAll_cons_mk (shut_int Try.underlying5 w2) (trodAll_cons_mk (shut_int Try.underlying5 w3) trodAll_mk0)))), rfl, bel.frame _, fun h => by cases h⟩
theorem over : Rows.polyScaleRow.holds Try.pinned (OpenSpec.ofChange Rows.polyScaleSpec) :=
  OpenClaim.holds_of_wide 7 Try.f7 rfl rfl rfl rfl rfl rfl rfl ⟨rfl, rfl, rfl, rfl, rfl⟩ rfl rfl rfl rfl rfl (by kernel_rfl) Try.func7 (by kernel_rfl)
    (of_decide_eq_true (by kernel_rfl)) (by unfold Func.isWrapper; first | (rw [if_pos (by decide +kernel)]; kernel_rfl) | (rw [if_neg (by decide +kernel)]; exact ⟨rfl, rfl⟩))
    (fun os started H enc _ => lifted os started H enc)
theorem proved : Rows.PolyScaleSaid := over
#print axioms proved
end Go.Proofs.Ytddgakaidlclcaa.polyScale
