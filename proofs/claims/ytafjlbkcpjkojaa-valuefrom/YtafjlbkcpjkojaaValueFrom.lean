/- ValueFrom holds for every input: the polynomial of zeros is 0 at each of them, and nowhere else; of as many as there are its degree is; in whatever order they come it is the same. No conditions. -/
import Derived.Test.YtafjlbkcpjkojaaRows
import Derived.Test.YtafjlbkcpjkojaaMB
import Derived.Test.YtafjlbkcpjkojaaKnown07
import Derived.Test.YtafjlbkcpjkojaaMO
namespace Go.Proofs.Ytafjlbkcpjkojaa.valueFrom
open Go.ChangeShapes Go.WideShapes Go.ChangeAt Go.RowKit
attribute [local go_sem ↓ high] builtin_ap
attribute [local go_sem] ap_sem
open Pol (IsN Dg ofL Byt vl frL)
theorem drop_cons (xs : List Nat) (t : Nat) (h : t < xs.length) : xs.drop t = xs.getD t 0 :: xs.drop (t + 1) := by
  rw [List.drop_eq_getElem_cons h]; simp [List.getD, h]
/-- What stands from place t on, the last first; and whether x is among it. -/
def bk (xs : List Nat) (t : Nat) : List Nat := (xs.drop t).reverse
def isin (xs : List Nat) (x t : Nat) : Bool := (xs.drop t).any fun y => y == x
theorem bk_step (xs : List Nat) (t : Nat) (h : t < xs.length) : bk xs t = bk xs (t + 1) ++ [xs.getD t 0] := by unfold bk; rw [drop_cons xs t h, List.reverse_cons]
theorem isin_step (xs : List Nat) (x t : Nat) (h : t < xs.length) : isin xs x t = (isin xs x (t + 1) || (xs.getD t 0 == x)) := by unfold isin; rw [drop_cons xs t h, List.any_cons, Bool.or_comm]
theorem bk_length (xs : List Nat) (t : Nat) : (bk xs t).length = xs.length - t := by unfold bk; rw [List.length_reverse, List.length_drop]
theorem bk_top (xs : List Nat) (t : Nat) (h : xs.length ≤ t) : bk xs t = [] := by unfold bk; rw [List.drop_eq_nil_of_le h]; rfl
theorem isin_top (xs : List Nat) (x t : Nat) (h : xs.length ≤ t) : isin xs x t = false := by unfold isin; rw [List.drop_eq_nil_of_le h]; rfl
theorem bk_byt {xs : List Nat} (h : Byt xs) (t : Nat) : Byt (bk xs t) := Pol.byt_of_mem fun y hy => by
  unfold bk at hy
  exact h.mem y (List.mem_of_mem_drop (List.mem_reverse.1 hy))
theorem frL_bk (xs : List Nat) : frL (bk xs 0) = frL xs := Pol.frL_perm (by unfold bk; rw [List.drop_zero]; exact List.reverse_perm xs)
theorem isin_all (xs : List Nat) (x : Nat) : isin xs x 0 = true ↔ x ∈ xs := by
  unfold isin
  rw [List.drop_zero, List.any_eq_true]
  constructor
  · rintro ⟨y, h1, h2⟩
    have e : y = x := by simpa using h2
    exact e ▸ h1
  · exact fun h => ⟨x, h, by simp⟩

set_option maxRecDepth 100000 in
set_option maxHeartbeats 4000000 in
theorem walk (j : Nat) (q : Option Addr) (n c : Nat) (xs : List Nat) (x : Nat) (w : World) (hj : j < 256) (S_p : Bs w q n xs) (hx : x < 256) :
    Calls Try.prog 5 #[.int .u8 j, .slice q n c, .int .u8 x] w fun e w' => e = .returned (.bool true) ∧ Below w.heap.size w w' := by
  obtain ⟨k, hk⟩ : ∃ k : Nat, 1 + j % 3 = k := ⟨_, rfl⟩
  have hk1 : 1 ≤ k := by omega
  have hk3 : k ≤ 3 := by omega
  have hki : (1 : Int) + (j : Int) % 3 = (k : Int) := by omega
  clear hk
  have HB : Below w.heap.size w w := Below.refl _ _
  go_enter Try.func5, Try.ntmps5
  by_cases hbig : 40 < n
  · have hb1 : (40 : Int) < (n : Int) := by omega
    go_wp2_with fail
    refine (known07_calls _).mono ?_
    rintro e w1 ⟨rfl, hb⟩
    replace HB := HB.trans (hb.mono HB.size)
    replace S_p := S_p.below hb
    clear hb
    go_wp2
    go_ret
    exact ⟨rfl, HB⟩
  · have hb1 : ((40 : Int) < (n : Int)) = False := eq_false (by omega)
    have lp := S_p.len
    obtain ⟨n1, hn1⟩ : ∃ n1, n + 1 = n1 := ⟨_, rfl⟩
    have hn1i : (n : Int) + 1 = (n1 : Int) := by omega
    obtain ⟨v, hv⟩ : ∃ v, vl (frL xs) x = v := ⟨_, rfl⟩
    obtain ⟨ib, hib⟩ : ∃ ib, isin xs x 0 = ib := ⟨_, rfl⟩
    have hvi : ((v : Int) == 0) = ib := by
      rw [← hib, Bool.eq_iff_iff, isin_all, ← Pol.vl_frL xs S_p.byte x hx, hv]
      simp
    have HU : Hid (n ≤ 40 ∧ (frL xs).length = n1 ∧ vl (frL xs) x = v ∧ isin xs x 0 = ib ∧ n + 1 = n1 ∧ xs.length = n ∧ ((v : Int) == 0) = ib) := ⟨by omega, by rw [Pol.frL_length, lp]; exact hn1, hv, hib, hn1, lp, hvi⟩
    have HBq : Hid (Byt xs) := S_p.byte
    have hn40 : (n : Int) ≤ 40 := by omega
    clear hbig lp hn1 hv hib hvi
    go_wp2_with fail
    refine (fof_calls k hk1 hk3 _).mono ?_
    rintro e w1 ⟨B_f, T_f, rfl, HF_f, hb, hlB, hlT⟩
    have HL_f : w.heap.size ≤ T_f := Nat.le_trans HB.size hlT
    have Q_p_f := S_p.off hlT
    replace HB := HB.trans (hb.mono HB.size)
    replace S_p := S_p.below hb
    clear hb hlB hlT
    clear hb1 hki
    go_wp2_with fail
    refine (vfrom_calls k B_f T_f n c q xs (by have := HU.out; omega) _ HF_f S_p Q_p_f).mono ?_
    rintro e w2 ⟨v, rfl, hO, hF, hb⟩
    obtain ⟨q_g, c_g, rfl, S_g, C_g, hQ⟩ := hO.tell (n := n1) (Pol.frL_isN _).byt HU.out.2.1
    clear hO
    have Q_g_f := hQ _ HF_f.lt
    clear hQ
    replace HB := HB.trans (hb.below HB.size (by rintro k rfl; exact HL_f))
    replace S_p := S_p.but hb Q_p_f
    clear HF_f hb
    have HF_f := hF
    clear hF
    go_wp2
    obtain ⟨R1, hR1⟩ : ∃ R1, w2.heap.size = R1 := ⟨_, rfl⟩
    have HK : Hid (Below w.heap.size w w2 ∧ Fd k B_f T_f w2 ∧ Bs w2 q n xs ∧ Bs w2 q_g n1 (frL xs) ∧ T_f < R1) := ⟨HB, HF_f, S_p, S_g, hR1 ▸ HF_f.lt⟩
    clear HB HF_f S_p S_g
    go_loopw [9, 10, 11] (fun o ii i wr => ∃ t : Nat, t ≤ n ∧ i = .int .i64 ((t : Int) - 1) ∧ ii = .bool (isin xs x t) ∧ Ow wr R1 o (bk xs t) ∧ Below R1 w2 wr) (fun _ _ i _ => (intOf i + 1).toNat)
    case atStart => exact ⟨n, Nat.le_refl _, rfl, by rw [isin_top _ _ _ (by rw [HU.out.2.2.2.2.2.1]; exact Nat.le_refl _)], by rw [bk_top _ _ (by rw [HU.out.2.2.2.2.2.1]; exact Nat.le_refl _)]; exact ow_nil _ _, Below.refl _ _⟩
    case round =>
      obtain ⟨t, ht, rfl, rfl, hO, hB⟩ := hrel
      have hR1w : R1 ≤ wr.heap.size := hR1 ▸ hB.size
      cases t with
      | zero =>
        have e0 : ((0 : Nat) : Int) - 1 = -1 := by omega
        rw [e0, HU.out.2.2.2.1]
        have hb : Below w2.heap.size w2 wr := hR1.symm ▸ hB
        obtain ⟨q_b, c_b, rfl, S_b, C_b, hQb⟩ := hO.tell (n := n) (bk_byt HBq.out 0) (by rw [bk_length, HU.out.2.2.2.2.2.1]; omega)
        have Q_b_f := hQb T_f HK.out.2.2.2.2
        have HB : Below w.heap.size w wr := HK.out.1.trans (hb.mono HK.out.1.size)
        have HF_f := HK.out.2.1.below hb
        have S_p := HK.out.2.2.1.below hb
        have S_g := HK.out.2.2.2.1.below hb
        have hvi := HU.out.2.2.2.2.2.2
        clear hO hB hb hQb HK hR1 hR1w
        go_wp2_with fail
        refine (known07_calls _).mono ?_
        rintro e w3 ⟨rfl, hb⟩
        replace HB := HB.trans (hb.mono HB.size)
        replace HF_f := HF_f.below hb
        replace S_p := S_p.below hb
        replace S_g := S_g.below hb
        replace S_b := S_b.below hb
        clear hb
        obtain ⟨ag, rfl, _, cg⟩ := S_g.cell n (by have := HU.out.2.2.2.2.1; omega)
        have e1 := Pol.frL_top xs
        rw [HU.out.2.2.2.2.2.1] at e1
        rw [e1] at cg
        have hlt1 : (n : Int) < (n1 : Int) := by omega
        go_wp2_with fail
        refine (vat_e k B_f T_f n1 c_g x v _ (frL xs) hx HU.out.2.2.1 _ HF_f S_g Q_g_f).mono ?_
        rintro e w4 ⟨rfl, hF, hb⟩
        replace HB := HB.trans (hb.below HB.size (by rintro k rfl; exact HL_f))
        replace S_p := S_p.but hb Q_p_f
        replace S_g := S_g.but hb Q_g_f
        replace S_b := S_b.but hb Q_b_f
        clear HF_f hb
        have HF_f := hF
        clear hF
        go_wp2_with fail
        refine (vfrom_calls k B_f T_f n c_b q_b (bk xs 0) (by have := HU.out; omega) _ HF_f S_b Q_b_f).mono ?_
        rintro e w5 ⟨v, rfl, hO, hF, hb⟩
        obtain ⟨q_e, c_e, rfl, S_e, C_e, hQ⟩ := hO.tell (n := n1) (Pol.frL_isN _).byt (by rw [frL_bk]; exact HU.out.2.1)
        clear hO
        have Q_e_f := hQ _ HF_f.lt
        clear hQ
        replace HB := HB.trans (hb.below HB.size (by rintro k rfl; exact HL_f))
        replace S_p := S_p.but hb Q_p_f
        replace S_g := S_g.but hb Q_g_f
        replace S_b := S_b.but hb Q_b_f
        clear HF_f hb
        have HF_f := hF
        clear hF
        rw [frL_bk] at S_e
        go_wp2_with fail
        refine (same_calls _ q_e n1 c_g c_e (frL xs) _ S_g S_e).mono ?_
        rintro e w6 ⟨rfl, hb⟩
        replace HB := HB.trans (hb.mono HB.size)
        replace HF_f := HF_f.below hb
        replace S_p := S_p.below hb
        replace S_g := S_g.below hb
        replace S_b := S_b.below hb
        replace S_e := S_e.below hb
        clear hb
        go_wp2
        go_ret
        exact ⟨rfl, HB⟩
      | succ u =>
        have e0 : ((u + 1 : Nat) : Int) - 1 = (u : Int) := by omega
        rw [e0]
        have hlt : u < n := by omega
        have hui : (u : Int) < (n : Int) := by omega
        have hu0 : (0 : Int) ≤ (u : Int) := by omega
        obtain ⟨a, rfl, la, ca⟩ := HK.out.2.2.1.cell u hlt
        replace ca := (hB.cell (p := a.add u) (by rw [block_add]; omega)).trans ca
        have hbs := bk_step xs u (by rw [HU.out.2.2.2.2.2.1]; exact hlt)
        have his := isin_step xs x u (by rw [HU.out.2.2.2.2.2.1]; exact hlt)
        have hlu : (bk xs (u + 1)).length ≤ 1000000000 := by rw [bk_length, HU.out.2.2.2.2.2.1]; omega
        obtain ⟨y, hy⟩ : ∃ y, xs.getD u 0 = y := ⟨_, rfl⟩
        rw [hy] at ca hbs his
        obtain ⟨us, hus⟩ : ∃ us, bk xs (u + 1) = us := ⟨_, rfl⟩
        obtain ⟨b, hb⟩ : ∃ b, isin xs x (u + 1) = b := ⟨_, rfl⟩
        rw [hus] at hO hbs hlu
        rw [hb] at his ⊢
        obtain ⟨g, cg, W', hap, hO', hbw⟩ := run_append_one wr R1 _ us y hO hlu hR1w
        obtain ⟨L, hL⟩ : ∃ L, (us ++ [y]).length = L := ⟨_, rfl⟩
        rw [hL] at hap hO'
        have ha1 := ap_ok hap
        have ha2 := ap_v hap
        have ha3 := ap_w hap
        have HZ : Hid (Ow W' R1 (.slice (some ⟨g, 0, none⟩) L cg) (bk xs u) ∧ Below R1 w2 W' ∧ isin xs x u = (b || (y == x))) := ⟨by rw [hbs]; exact hO', hB.trans (hbw _ (Nat.le_refl _)), his⟩
        have hcW : W'.cell? (a.add u) = some (.int .u8 (y : Nat)) := ((hbw R1 (Nat.le_refl _)).cell (p := a.add u) (by rw [block_add]; omega)).trans ca
        have hyx : ((y : Int) == (x : Int)) = (y == x) := by rw [Bool.eq_iff_iff]; simp; omega
        clear hO' hbw hap hL hO hB hlu hus hbs his hy hb la
        cases b
        · go_wp2
          go_roundw
          case rel => exact ⟨u, by omega, rfl, by rw [HZ.out.2.2]; rfl, HZ.out.1, HZ.out.2.1⟩
          case measure => simp [intOf]
        · go_wp2
          go_roundw
          case rel => exact ⟨u, by omega, rfl, by rw [HZ.out.2.2]; rfl, HZ.out.1, HZ.out.2.1⟩
          case measure => simp [intOf]
theorem own : ownKnob Try.prog.godebug = none := by kernel_rfl
theorem laidOut : laidOutB Try.prog = true := by kernel_rfl
set_option maxRecDepth 100000 in
theorem lifted (os : Os) (started : os.Started) (H : Type) (enc : TypeId × Value → H) :
    ReturnsInHanded {} Try.checked os 5 .any (Rows.valueFromSpec.pre6 enc Try.prog Try.f5 Rows.valueFromRow.domain false) (Rows.valueFromSpec.post enc Try.prog Try.f5 false true false false) := by
  refine returnsInHanded_of_change (C := Try.checked) own started (by kernel_rfl) Try.func5
    (ChangeSpec.witness6 (enc := enc) (C := Try.checked) false ⟨#[], #[.int .u8 0, .slice none 0 0, .int .u8 0], []⟩ 8 (by kernel_rfl) (by kernel_rfl) (by kernel_rfl) (by kernel_rfl)) ?_
  intro W base args ds gs before hval0 hW _ _
  have hval : ∀ (j : Nat) t v, Try.f5.params[j]? = some t → args[j]? = some v → Value.okWide Try.prog W .any base t v := hval0
  have hW' := hW
  obtain ⟨p, q, hA0, hV, rfl, _, _⟩ := hW
  have hA : DataW.TrodAll enc Try.prog W 0 (fun _ => true) true Try.f5.params.toList args.toList ds p := hA0
  rw [Try.params5] at hA hval
  obtain ⟨v0, vs0, d0, ds0, p0, q0, hargs, rfl, rfl, h0, r0⟩ := trodAll_cons hA
  obtain ⟨v1, vs1, d1, ds1, p1, q1, rfl, rfl, rfl, h1, r1⟩ := trodAll_cons r0
  obtain ⟨v2, vs2, d2, ds2, p2, q2, rfl, rfl, rfl, h2, r2⟩ := trodAll_cons r1
  obtain ⟨rfl, rfl, rfl⟩ := trodAll_nil r2
  obtain rfl : args = #[v0, v1, v2] := by cases args; simp_all
  obtain ⟨rfl, rfl⟩ := trodVars_none hV
  obtain ⟨a0, rfl, rfl, rfl, w0⟩ := open_int Try.underlying5 (hval 0 5 v0 rfl rfl) h0
  obtain ⟨n0, b0, rfl⟩ := nat_of_u8 w0
  have k1 := h1
  obtain ⟨q1, n1, c1, xs1, rfl, w1⟩ := open_bytes Try.underlying22 Try.underlying5 (by kernel_rfl) (hval 1 22 v1 rfl rfl) h1
  obtain ⟨a2, rfl, rfl, rfl, w2⟩ := open_int Try.underlying5 (hval 2 5 v2 rfl rfl) h2
  obtain ⟨n2, b2, rfl⟩ := nat_of_u8 w2
  clear hA0 hval0
  simp only [List.append_nil] at hW'
  refine (walk (w := W) n0 q1 n1 c1 xs1 n2 b0 w1 b2).mono fun e W' ⟨he, bel⟩ => ?_
  subst he
  exact ⟨_, rfl, _, _, _, [], _, [], hW', trodAll_mk1 (shut_bool Try.underlying4 _), (trodAll_cons_mk (shut_int Try.underlying5 w0) (trodAll_cons_mk (shut_same laidOut (by kernel_rfl) (of_decide_eq_true (by kernel_rfl)) k1 bel) (trodAll_cons_mk (shut_int Try.underlying5 w2) trodAll_mk0))), rfl, bel.frame _, fun h => by cases h⟩
theorem over : Rows.valueFromRow.holds Try.pinned (OpenSpec.ofChange Rows.valueFromSpec) :=
  OpenClaim.holds_of_wide 5 Try.f5 rfl rfl rfl rfl rfl rfl rfl ⟨rfl, rfl, rfl, rfl, rfl⟩ rfl rfl rfl rfl rfl (by kernel_rfl) Try.func5 (by kernel_rfl)
    (of_decide_eq_true (by kernel_rfl)) (by unfold Func.isWrapper; first | (rw [if_pos (by decide +kernel)]; kernel_rfl) | (rw [if_neg (by decide +kernel)]; exact ⟨rfl, rfl⟩))
    (fun os started H enc _ => lifted os started H enc)
theorem proved : Rows.ValueFromSaid := over
#print axioms proved
end Go.Proofs.Ytafjlbkcpjkojaa.valueFrom
