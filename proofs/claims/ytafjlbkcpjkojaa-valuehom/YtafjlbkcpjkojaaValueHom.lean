/- ValueHom holds for every input: values of sums and products are sums and products of values. No conditions. -/
import Derived.Test.YtafjlbkcpjkojaaRows
import Derived.Test.YtafjlbkcpjkojaaMB
import Derived.Test.YtafjlbkcpjkojaaKnown07
namespace Go.Proofs.Ytafjlbkcpjkojaa.valueHom
open Go.ChangeShapes Go.WideShapes Go.ChangeAt Go.RowKit
open Pol (IsN Dg ofL Byt vl)
theorem vl_one (x y : Nat) (hx : x < 256) (hy : y < 256) : vl [x] y = x := by rw [Pol.vl_cons _ _ _ hx hy, Pol.vl_nil, Gf.zero_mul, Nat.zero_xor]
theorem vl_x (x : Nat) (hx : x < 256) : vl [0, 1] x = x := by rw [Pol.vl_cons _ _ _ (by decide) hx, vl_one 1 x (by decide) hx, Gf.one_mul x hx, Nat.xor_zero]

set_option maxRecDepth 100000 in
set_option maxHeartbeats 4000000 in
theorem walk (j : Nat) (q : Option Addr) (n c : Nat) (xs : List Nat) (p : Option Addr) (m d : Nat) (ys : List Nat) (x : Nat) (w : World) (hj : j < 256) (S_p : Bs w q n xs) (y_p : n ≤ c ∧ c ≤ 140737488351232) (S_q : Bs w p m ys) (y_q : m ≤ d ∧ d ≤ 140737488351232) (hx : x < 256) :
    Calls Try.prog 3 #[.int .u8 j, .slice q n c, .slice p m d, .int .u8 x] w fun e w' => e = .returned (.bool true) ∧ Below w.heap.size w w' := by
  obtain ⟨k, hk⟩ : ∃ k : Nat, 1 + j % 3 = k := ⟨_, rfl⟩
  have hk1 : 1 ≤ k := by omega
  have hk3 : k ≤ 3 := by omega
  have hki : (1 : Int) + (j : Int) % 3 = (k : Int) := by omega
  clear hk
  have HB : Below w.heap.size w w := Below.refl _ _
  have Cp := y_p.1
  have Cq := y_q.1
  have HW : Hid (wrap64 ((n : Int) + (m : Int)) = (n : Int) + (m : Int)) := by show _ = _; unfold wrap64; omega
  clear y_p y_q
  go_enter Try.func3, Try.ntmps3
  by_cases hbig : 120 < n + m
  · have hb1 : (120 : Int) < (n : Int) + (m : Int) := by omega
    have hs1 := HW.out
    go_wp2_with fail
    refine (known07_calls _).mono ?_
    rintro e w1 ⟨rfl, hb⟩
    replace HB := HB.trans (hb.mono HB.size)
    replace S_p := S_p.below hb
    replace S_q := S_q.below hb
    clear hb
    go_wp2
    go_ret
    exact ⟨rfl, HB⟩
  · have hb1 : ((120 : Int) < (n : Int) + (m : Int)) = False := eq_false (by omega)
    obtain ⟨ls, hs, bs⟩ := Pol.isN_add xs ys
    obtain ⟨lm, hm, bm⟩ := Pol.isN_mul xs ys
    obtain ⟨ns, nse⟩ : ∃ ns, ls.length = ns := ⟨_, rfl⟩
    obtain ⟨nm, nme⟩ : ∃ nm, lm.length = nm := ⟨_, rfl⟩
    have hva := Pol.vl_add x hs
    have hvm := Pol.vl_mul x hm
    obtain ⟨a, hae⟩ : ∃ a, vl xs x = a := ⟨_, rfl⟩
    obtain ⟨b, hbe⟩ : ∃ b, vl ys x = b := ⟨_, rfl⟩
    have ha8 : a < 256 := hae ▸ Pol.vl_lt _ _
    have hb8 : b < 256 := hbe ▸ Pol.vl_lt _ _
    rw [hae, hbe] at hva hvm
    have HU : Hid (n ≤ 1000 ∧ m ≤ 1000 ∧ IsN ls (Pol.add (ofL xs) (ofL ys)) ∧ IsN lm (Pol.mul (ofL xs) (ofL ys)) ∧ ls.length = ns ∧ lm.length = nm ∧ vl ls x = a ^^^ b ∧ vl lm x = Gf.mul a b ∧ vl xs x = a ∧ vl ys x = b) := ⟨by omega, by omega, hs, hm, nse, nme, hva, hvm, hae, hbe⟩
    have hxo := u8_xor_nat a b ha8 hb8
    clear hbig hs bs hm bm nse nme hva hvm hae hbe
    have hs1 := HW.out
    go_wp2_with fail
    refine (fof_calls k hk1 hk3 _).mono ?_
    rintro e w1 ⟨B_f, T_f, rfl, HF_f, hb, hlB, hlT⟩
    have HL_f : w.heap.size ≤ T_f := Nat.le_trans HB.size hlT
    have Q_p_f := S_p.off hlT
    have Q_q_f := S_q.off hlT
    replace HB := HB.trans (hb.mono HB.size)
    replace S_p := S_p.below hb
    replace S_q := S_q.below hb
    clear hb hlB hlT
    clear hs1 HW hb1 hki
    go_wp2_with fail
    refine (known07_calls _).mono ?_
    rintro e w2 ⟨rfl, hb⟩
    replace HB := HB.trans (hb.mono HB.size)
    replace HF_f := HF_f.below hb
    replace S_p := S_p.below hb
    replace S_q := S_q.below hb
    clear hb
    go_wp2_with fail
    refine (padd_calls q p n c m d xs ys ls HU.out.2.2.1 (by have := HU.out.1; omega) (by have := HU.out.2.1; omega) _ S_p S_q).mono ?_
    rintro e w3 ⟨v, rfl, hO, hb⟩
    obtain ⟨q_s, c_s, rfl, S_s, C_s, hQ⟩ := hO.tell (n := ns) HU.out.2.2.1.byt HU.out.2.2.2.2.1
    clear hO
    have Q_s_f := hQ _ HF_f.lt
    clear hQ
    replace HB := HB.trans (hb.mono HB.size)
    replace HF_f := HF_f.below hb
    replace S_p := S_p.below hb
    replace S_q := S_q.below hb
    clear hb
    go_wp2_with fail
    refine (vat_e k B_f T_f ns c_s x (a ^^^ b) q_s ls hx HU.out.2.2.2.2.2.2.1 _ HF_f S_s Q_s_f).mono ?_
    rintro e w4 ⟨rfl, hF, hb⟩
    replace HB := HB.trans (hb.below HB.size (by rintro k rfl; exact HL_f))
    replace S_p := S_p.but hb Q_p_f
    replace S_q := S_q.but hb Q_q_f
    replace S_s := S_s.but hb Q_s_f
    clear HF_f hb
    have HF_f := hF
    clear hF
    go_wp2_with fail
    refine (vat_e k B_f T_f n c x a q xs hx HU.out.2.2.2.2.2.2.2.2.1 _ HF_f S_p Q_p_f).mono ?_
    rintro e w5 ⟨rfl, hF, hb⟩
    replace HB := HB.trans (hb.below HB.size (by rintro k rfl; exact HL_f))
    replace S_p := S_p.but hb Q_p_f
    replace S_q := S_q.but hb Q_q_f
    replace S_s := S_s.but hb Q_s_f
    clear HF_f hb
    have HF_f := hF
    clear hF
    go_wp2_with fail
    refine (vat_e k B_f T_f m d x b p ys hx HU.out.2.2.2.2.2.2.2.2.2 _ HF_f S_q Q_q_f).mono ?_
    rintro e w6 ⟨rfl, hF, hb⟩
    replace HB := HB.trans (hb.below HB.size (by rintro k rfl; exact HL_f))
    replace S_p := S_p.but hb Q_p_f
    replace S_q := S_q.but hb Q_q_f
    replace S_s := S_s.but hb Q_s_f
    clear HF_f hb
    have HF_f := hF
    clear hF
    go_wp2_with fail
    refine (pmul_calls k B_f T_f n c m d q p xs ys lm HU.out.2.2.2.1 (by have := HU.out.1; omega) (by have := HU.out.2.1; omega) Cp Cq _ HF_f S_p S_q Q_p_f Q_q_f).mono ?_
    rintro e w7 ⟨v, rfl, hO, hF, hb⟩
    obtain ⟨q_u, c_u, rfl, S_u, C_u, hQ⟩ := hO.tell (n := nm) HU.out.2.2.2.1.byt HU.out.2.2.2.2.2.1
    clear hO
    have Q_u_f := hQ _ HF_f.lt
    clear hQ
    replace HB := HB.trans (hb.below HB.size (by rintro k rfl; exact HL_f))
    replace S_p := S_p.but hb Q_p_f
    replace S_q := S_q.but hb Q_q_f
    replace S_s := S_s.but hb Q_s_f
    clear HF_f hb
    have HF_f := hF
    clear hF
    go_wp2_with fail
    refine (vat_e k B_f T_f nm c_u x (Gf.mul a b) q_u lm hx HU.out.2.2.2.2.2.2.2.1 _ HF_f S_u Q_u_f).mono ?_
    rintro e w8 ⟨rfl, hF, hb⟩
    replace HB := HB.trans (hb.below HB.size (by rintro k rfl; exact HL_f))
    replace S_p := S_p.but hb Q_p_f
    replace S_q := S_q.but hb Q_q_f
    replace S_s := S_s.but hb Q_s_f
    replace S_u := S_u.but hb Q_u_f
    clear HF_f hb
    have HF_f := hF
    clear hF
    go_wp2_with fail
    refine (vat_e k B_f T_f n c x a q xs hx HU.out.2.2.2.2.2.2.2.2.1 _ HF_f S_p Q_p_f).mono ?_
    rintro e w9 ⟨rfl, hF, hb⟩
    replace HB := HB.trans (hb.below HB.size (by rintro k rfl; exact HL_f))
    replace S_p := S_p.but hb Q_p_f
    replace S_q := S_q.but hb Q_q_f
    replace S_s := S_s.but hb Q_s_f
    replace S_u := S_u.but hb Q_u_f
    clear HF_f hb
    have HF_f := hF
    clear hF
    go_wp2_with fail
    refine (vat_e k B_f T_f m d x b p ys hx HU.out.2.2.2.2.2.2.2.2.2 _ HF_f S_q Q_q_f).mono ?_
    rintro e w10 ⟨rfl, hF, hb⟩
    replace HB := HB.trans (hb.below HB.size (by rintro k rfl; exact HL_f))
    replace S_p := S_p.but hb Q_p_f
    replace S_q := S_q.but hb Q_q_f
    replace S_s := S_s.but hb Q_s_f
    replace S_u := S_u.but hb Q_u_f
    clear HF_f hb
    have HF_f := hF
    clear hF
    go_wp2_with fail
    refine (fmul_e k B_f T_f a b (Gf.mul a b) ha8 hb8 rfl _ HF_f).mono ?_
    rintro e w11 ⟨rfl, hF, hb⟩
    replace HB := HB.trans (hb.below HB.size (by rintro k rfl; exact HL_f))
    replace S_p := S_p.but hb Q_p_f
    replace S_q := S_q.but hb Q_q_f
    replace S_s := S_s.but hb Q_s_f
    replace S_u := S_u.but hb Q_u_f
    clear HF_f hb
    have HF_f := hF
    clear hF
    go_wp2_with fail
    have S_x : Bs (w11.alloc (.cells #[.int .u8 (x : Int)] 5)) (some ⟨w11.heap.size, 0, none⟩) 1 [x] := bs_lits w11 _ [x] _ 1 rfl (by first | rfl | simp) rfl (by simp [hx]) (by simp)
    have Q_x_f : Off T_f 1 (some ⟨w11.heap.size, 0, none⟩) := off_at (by have := HF_f.lt; (try simp at this); omega)
    replace HF_f := HF_f.alloc (.cells #[.int .u8 (x : Int)] 5)
    replace S_p := S_p.alloc (.cells #[.int .u8 (x : Int)] 5)
    replace S_q := S_q.alloc (.cells #[.int .u8 (x : Int)] 5)
    replace S_s := S_s.alloc (.cells #[.int .u8 (x : Int)] 5)
    replace S_u := S_u.alloc (.cells #[.int .u8 (x : Int)] 5)
    replace HB := HB.alloc HB.size (.cells #[.int .u8 (x : Int)] 5)
    go_wp2_with fail
    refine (vat_e k B_f T_f 1 1 7 x _ [x] (by decide) (vl_one x 7 hx (by decide)) _ HF_f S_x Q_x_f).mono ?_
    rintro e w12 ⟨rfl, hF, hb⟩
    replace HB := HB.trans (hb.below HB.size (by rintro k rfl; exact HL_f))
    replace S_p := S_p.but hb Q_p_f
    replace S_q := S_q.but hb Q_q_f
    replace S_s := S_s.but hb Q_s_f
    replace S_u := S_u.but hb Q_u_f
    replace S_x := S_x.but hb Q_x_f
    clear HF_f hb
    have HF_f := hF
    clear hF
    go_wp2_with fail
    have S_y : Bs (w12.alloc (.cells #[.int .u8 0, .int .u8 1] 5)) (some ⟨w12.heap.size, 0, none⟩) 2 [0, 1] := bs_lits w12 _ [0, 1] _ 2 rfl (by first | rfl | simp) rfl rfl (by simp)
    have Q_y_f : Off T_f 2 (some ⟨w12.heap.size, 0, none⟩) := off_at (by have := HF_f.lt; (try simp at this); omega)
    replace HF_f := HF_f.alloc (.cells #[.int .u8 0, .int .u8 1] 5)
    replace S_p := S_p.alloc (.cells #[.int .u8 0, .int .u8 1] 5)
    replace S_q := S_q.alloc (.cells #[.int .u8 0, .int .u8 1] 5)
    replace S_s := S_s.alloc (.cells #[.int .u8 0, .int .u8 1] 5)
    replace S_u := S_u.alloc (.cells #[.int .u8 0, .int .u8 1] 5)
    replace S_x := S_x.alloc (.cells #[.int .u8 0, .int .u8 1] 5)
    replace HB := HB.alloc HB.size (.cells #[.int .u8 0, .int .u8 1] 5)
    go_wp2_with fail
    refine (vat_e k B_f T_f 2 2 x x _ [0, 1] hx (vl_x x hx) _ HF_f S_y Q_y_f).mono ?_
    rintro e w13 ⟨rfl, hF, hb⟩
    replace HB := HB.trans (hb.below HB.size (by rintro k rfl; exact HL_f))
    replace S_p := S_p.but hb Q_p_f
    replace S_q := S_q.but hb Q_q_f
    replace S_s := S_s.but hb Q_s_f
    replace S_u := S_u.but hb Q_u_f
    replace S_x := S_x.but hb Q_x_f
    replace S_y := S_y.but hb Q_y_f
    clear HF_f hb
    have HF_f := hF
    clear hF
    go_wp2
    go_ret
    exact ⟨rfl, HB⟩
theorem own : ownKnob Try.prog.godebug = none := by kernel_rfl
theorem laidOut : laidOutB Try.prog = true := by kernel_rfl
set_option maxRecDepth 100000 in
theorem lifted (os : Os) (started : os.Started) (H : Type) (enc : TypeId × Value → H) :
    ReturnsInHanded {} Try.checked os 3 .any (Rows.valueHomSpec.pre6 enc Try.prog Try.f3 Rows.valueHomRow.domain false) (Rows.valueHomSpec.post enc Try.prog Try.f3 false true false false) := by
  refine returnsInHanded_of_change_sized (C := Try.checked) own started (by kernel_rfl) Try.func3
    (ChangeSpec.witness6 (enc := enc) (C := Try.checked) false ⟨#[], #[.int .u8 0, .slice none 0 0, .slice none 0 0, .int .u8 0], []⟩ 8 (by kernel_rfl) (by kernel_rfl) (by kernel_rfl) (by kernel_rfl)) ?_
  intro W base args ds gs before hval0 hW _ hz _
  have hval : ∀ (j : Nat) t v, Try.f3.params[j]? = some t → args[j]? = some v → Value.okWide Try.prog W .any base t v := hval0
  have hW' := hW
  obtain ⟨p, q, hA0, hV, rfl, _, _⟩ := hW
  have hA : DataW.TrodAll enc Try.prog W 0 (fun _ => true) true Try.f3.params.toList args.toList ds p := hA0
  rw [Try.params3] at hA hval
  obtain ⟨v0, vs0, d0, ds0, p0, q0, hargs, rfl, rfl, h0, r0⟩ := trodAll_cons hA
  obtain ⟨v1, vs1, d1, ds1, p1, q1, rfl, rfl, rfl, h1, r1⟩ := trodAll_cons r0
  obtain ⟨v2, vs2, d2, ds2, p2, q2, rfl, rfl, rfl, h2, r2⟩ := trodAll_cons r1
  obtain ⟨v3, vs3, d3, ds3, p3, q3, rfl, rfl, rfl, h3, r3⟩ := trodAll_cons r2
  obtain ⟨rfl, rfl, rfl⟩ := trodAll_nil r3
  obtain rfl : args = #[v0, v1, v2, v3] := by cases args; simp_all
  obtain ⟨rfl, rfl⟩ := trodVars_none hV
  obtain ⟨a0, rfl, rfl, rfl, w0⟩ := open_int Try.underlying5 (hval 0 5 v0 rfl rfl) h0
  obtain ⟨n0, b0, rfl⟩ := nat_of_u8 w0
  have k1 := h1
  obtain ⟨q1, n1, c1, xs1, rfl, w1, m1⟩ := open_bytes_sz Try.underlying22 Try.underlying5 (by kernel_rfl) (hval 1 22 v1 rfl rfl) h1
  have y1 : n1 ≤ c1 ∧ c1 ≤ 140737488351232 := ⟨m1.1, m1.2 _ fun el sp hd => by have := sized_slice (j := 1) (t := 22) (e := 5) (elems := el) (spare := sp) hz (by kernel_rfl) (by first | (rw [← hd]; done) | (rw [← hd]; rfl)) Try.underlying22; have hbe : Try.checked.prog.bytesOf 5 = 1 := (by kernel_rfl); have hre : reachBytes = 140737488351232 := rfl; rw [hbe, hre] at this; omega⟩
  have k2 := h2
  obtain ⟨q2, n2, c2, xs2, rfl, w2, m2⟩ := open_bytes_sz Try.underlying22 Try.underlying5 (by kernel_rfl) (hval 2 22 v2 rfl rfl) h2
  have y2 : n2 ≤ c2 ∧ c2 ≤ 140737488351232 := ⟨m2.1, m2.2 _ fun el sp hd => by have := sized_slice (j := 2) (t := 22) (e := 5) (elems := el) (spare := sp) hz (by kernel_rfl) (by first | (rw [← hd]; done) | (rw [← hd]; rfl)) Try.underlying22; have hbe : Try.checked.prog.bytesOf 5 = 1 := (by kernel_rfl); have hre : reachBytes = 140737488351232 := rfl; rw [hbe, hre] at this; omega⟩
  obtain ⟨a3, rfl, rfl, rfl, w3⟩ := open_int Try.underlying5 (hval 3 5 v3 rfl rfl) h3
  obtain ⟨n3, b3, rfl⟩ := nat_of_u8 w3
  clear hA0 hval0
  simp only [List.append_nil] at hW'
  refine (walk (w := W) n0 q1 n1 c1 xs1 q2 n2 c2 xs2 n3 b0 w1 y1 w2 y2 b3).mono fun e W' ⟨he, bel⟩ => ?_
  subst he
  exact ⟨_, rfl, _, _, _, [], _, [], hW', trodAll_mk1 (shut_bool Try.underlying4 _), (trodAll_cons_mk (shut_int Try.underlying5 w0) (trodAll_cons_mk (shut_same laidOut (by kernel_rfl) (of_decide_eq_true (by kernel_rfl)) k1 bel) (trodAll_cons_mk (shut_same laidOut (by kernel_rfl) (of_decide_eq_true (by kernel_rfl)) k2 bel) (trodAll_cons_mk (shut_int Try.underlying5 w3) trodAll_mk0)))), rfl, bel.frame _, fun h => by cases h⟩
theorem over : Rows.valueHomRow.holds Try.pinned (OpenSpec.ofChange Rows.valueHomSpec) :=
  OpenClaim.holds_of_wide 3 Try.f3 rfl rfl rfl rfl rfl rfl rfl ⟨rfl, rfl, rfl, rfl, rfl⟩ rfl rfl rfl rfl rfl (by kernel_rfl) Try.func3 (by kernel_rfl)
    (of_decide_eq_true (by kernel_rfl)) (by unfold Func.isWrapper; first | (rw [if_pos (by decide +kernel)]; kernel_rfl) | (rw [if_neg (by decide +kernel)]; exact ⟨rfl, rfl⟩))
    (fun os started H enc _ => lifted os started H enc)
theorem proved : Rows.ValueHomSaid := over
#print axioms proved
end Go.Proofs.Ytafjlbkcpjkojaa.valueHom
