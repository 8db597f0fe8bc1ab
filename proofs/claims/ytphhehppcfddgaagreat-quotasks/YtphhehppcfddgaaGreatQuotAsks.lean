/- QuotAsks holds for every input: all calls of any polynomials are what the chapter says. No conditions. -/
import Derived.Test.YtphhehppcfddgaaGreatRows
import Derived.Test.YtphhehppcfddgaaGreatMB
import Derived.Test.YtphhehppcfddgaaGreatAsks06
namespace Go.Proofs.YtphhehppcfddgaaGreat.quotAsks
open Go.ChangeShapes Go.WideShapes Go.ChangeAt Go.RowKit
open Pol (IsN Dg ofL Byt)

set_option maxRecDepth 100000 in
set_option maxHeartbeats 4000000 in
theorem walk (j : Nat) (q : Option Addr) (n c : Nat) (xs : List Nat) (p : Option Addr) (m d : Nat) (ys : List Nat) (r : Option Addr) (l e : Nat) (zs : List Nat) (w : World) (hj : j < 256) (S_p : Bs w q n xs) (y_p : n ≤ c ∧ c ≤ 140737488351232) (S_q : Bs w p m ys) (y_q : m ≤ d ∧ d ≤ 140737488351232) (S_r : Bs w r l zs) (y_r : l ≤ e ∧ e ≤ 140737488351232) :
    Calls Tryz.prog 3 #[.int .u8 j, .slice q n c, .slice p m d, .slice r l e] w fun e w' => e = .returned (.bool true) ∧ Below w.heap.size w w' := by
  obtain ⟨k, hk⟩ : ∃ k : Nat, 1 + j % 3 = k := ⟨_, rfl⟩
  have hk1 : 1 ≤ k := by omega
  have hk3 : k ≤ 3 := by omega
  have hki : (1 : Int) + (j : Int) % 3 = (k : Int) := by omega
  clear hk
  have HB : Below w.heap.size w w := Below.refl _ _
  have Cp := y_p.1
  have Cq := y_q.1
  have Cr := y_r.1
  have HW : Hid (wrap64 ((n : Int) + (m : Int)) = (n : Int) + (m : Int)) := by show _ = _; unfold wrap64; omega
  have HW2 : Hid (wrap64 ((n : Int) + (m : Int) + (l : Int)) = (n : Int) + (m : Int) + (l : Int)) := by show _ = _; unfold wrap64; omega
  clear y_p y_q y_r
  go_enter Tryz.func3, Tryz.ntmps3
  by_cases hbig : 120 < n + m + l
  · have hb1 : (120 : Int) < (n : Int) + (m : Int) + (l : Int) := by omega
    have hs1 := HW.out
    have hs2 := HW2.out
    go_wp2_with fail
    refine (known06_calls _).mono ?_
    rintro e w1 ⟨rfl, hb⟩
    replace HB := HB.trans (hb.mono HB.size)
    replace S_p := S_p.below hb
    replace S_q := S_q.below hb
    replace S_r := S_r.below hb
    clear hb
    go_wp2
    go_ret
    exact ⟨rfl, HB⟩
  · have hb1 : ((120 : Int) < (n : Int) + (m : Int) + (l : Int)) = False := eq_false (by omega)
    have HU0 : Hid (n ≤ 120 ∧ m ≤ 120 ∧ l ≤ 120) := by show _ ∧ _; omega
    clear hbig
    obtain ⟨la, hla, ba⟩ := Pol.isN_mul xs zs
    obtain ⟨lb, hlb, bb⟩ := Pol.isN_mul ys zs
    obtain ⟨lc, hlc, bc⟩ := Pol.isN_mul xs ys
    obtain ⟨na, nae⟩ : ∃ na, la.length = na := ⟨_, rfl⟩
    obtain ⟨nb, nbe⟩ : ∃ nb, lb.length = nb := ⟨_, rfl⟩
    obtain ⟨nc, nce⟩ : ∃ nc, lc.length = nc := ⟨_, rfl⟩
    have HM : Hid (IsN la (Pol.mul (ofL xs) (ofL zs)) ∧ IsN lb (Pol.mul (ofL ys) (ofL zs)) ∧ IsN lc (Pol.mul (ofL xs) (ofL ys))) := ⟨hla, hlb, hlc⟩
    have HNl : Hid (la.length = na ∧ lb.length = nb ∧ lc.length = nc) := ⟨nae, nbe, nce⟩
    have HU : Hid (na ≤ 1000 ∧ nb ≤ 1000 ∧ nc ≤ 1000 ∧ n ≤ 1000 ∧ m ≤ 1000 ∧ l ≤ 1000) := by
      have := S_p.len; have := S_q.len; have := S_r.len; have := HU0.out
      exact ⟨by omega, by omega, by omega, by omega, by omega, by omega⟩
    clear hla ba hlb bb hlc bc nae nbe nce HU0
    have hs1 := HW.out
    have hs2 := HW2.out
    go_wp2_with fail
    refine (known06_calls _).mono ?_
    rintro e w1 ⟨rfl, hb⟩
    replace HB := HB.trans (hb.mono HB.size)
    replace S_p := S_p.below hb
    replace S_q := S_q.below hb
    replace S_r := S_r.below hb
    clear hb
    clear hs1 hs2 HW HW2 hb1
    go_wp2_with fail
    refine (asks06_calls k n c m d hk1 hk3 q p xs ys (by have := HU.out; omega) (by have := HU.out; omega) Cp Cq _ S_p S_q).mono ?_
    rintro e w2 ⟨rfl, hb⟩
    replace HB := HB.trans (hb.mono HB.size)
    replace S_p := S_p.below hb
    replace S_q := S_q.below hb
    replace S_r := S_r.below hb
    clear hb
    go_wp2_with fail
    refine (rpmul_calls q r n c l e xs zs la HM.out.1 (by have := HU.out; omega) (by have := HU.out; omega) _ S_p S_r).mono ?_
    rintro e w3 ⟨v, rfl, hO, hb⟩
    obtain ⟨q_a, c_a, rfl, S_a, C_a, hQ⟩ := hO.tell (n := na) HM.out.1.byt HNl.out.1
    clear hO
    clear hQ
    replace HB := HB.trans (hb.mono HB.size)
    replace S_p := S_p.below hb
    replace S_q := S_q.below hb
    replace S_r := S_r.below hb
    clear hb
    go_wp2_with fail
    refine (rpmul_calls p r m d l e ys zs lb HM.out.2.1 (by have := HU.out; omega) (by have := HU.out; omega) _ S_q S_r).mono ?_
    rintro e w4 ⟨v, rfl, hO, hb⟩
    obtain ⟨q_b, c_b, rfl, S_b, C_b, hQ⟩ := hO.tell (n := nb) HM.out.2.1.byt HNl.out.2.1
    clear hO
    clear hQ
    replace HB := HB.trans (hb.mono HB.size)
    replace S_p := S_p.below hb
    replace S_q := S_q.below hb
    replace S_r := S_r.below hb
    replace S_a := S_a.below hb
    clear hb
    go_wp2_with fail
    refine (asks06_calls k na c_a nb c_b hk1 hk3 q_a q_b la lb (by have := HU.out; omega) (by have := HU.out; omega) C_a C_b _ S_a S_b).mono ?_
    rintro e w5 ⟨rfl, hb⟩
    replace HB := HB.trans (hb.mono HB.size)
    replace S_p := S_p.below hb
    replace S_q := S_q.below hb
    replace S_r := S_r.below hb
    replace S_a := S_a.below hb
    replace S_b := S_b.below hb
    clear hb
    go_wp2_with fail
    refine (rpmul_calls q p n c m d xs ys lc HM.out.2.2 (by have := HU.out; omega) (by have := HU.out; omega) _ S_p S_q).mono ?_
    rintro e w6 ⟨v, rfl, hO, hb⟩
    obtain ⟨q_c, c_c, rfl, S_c, C_c, hQ⟩ := hO.tell (n := nc) HM.out.2.2.byt HNl.out.2.2
    clear hO
    clear hQ
    replace HB := HB.trans (hb.mono HB.size)
    replace S_p := S_p.below hb
    replace S_q := S_q.below hb
    replace S_r := S_r.below hb
    replace S_a := S_a.below hb
    replace S_b := S_b.below hb
    clear hb
    go_wp2_with fail
    refine (asks06_calls k nc c_c m d hk1 hk3 q_c p lc ys (by have := HU.out; omega) (by have := HU.out; omega) C_c Cq _ S_c S_q).mono ?_
    rintro e w7 ⟨rfl, hb⟩
    replace HB := HB.trans (hb.mono HB.size)
    replace S_p := S_p.below hb
    replace S_q := S_q.below hb
    replace S_r := S_r.below hb
    replace S_a := S_a.below hb
    replace S_b := S_b.below hb
    replace S_c := S_c.below hb
    clear hb
    go_wp2
    go_ret
    exact ⟨rfl, HB⟩
theorem own : ownKnob Tryz.prog.godebug = none := by kernel_rfl
theorem laidOut : laidOutB Tryz.prog = true := by kernel_rfl
set_option maxRecDepth 100000 in
theorem lifted (os : Os) (started : os.Started) (H : Type) (enc : TypeId × Value → H) :
    ReturnsInHanded {} Tryz.checked os 3 .any (Rows.quotAsksSpec.pre6 enc Tryz.prog Tryz.f3 Rows.quotAsksRow.domain false) (Rows.quotAsksSpec.post enc Tryz.prog Tryz.f3 false true false false) := by
  refine returnsInHanded_of_change_sized (C := Tryz.checked) own started (by kernel_rfl) Tryz.func3
    (ChangeSpec.witness6 (enc := enc) (C := Tryz.checked) false ⟨#[], #[.int .u8 0, .slice none 0 0, .slice none 0 0, .slice none 0 0], []⟩ 8 (by kernel_rfl) (by kernel_rfl) (by kernel_rfl) (by kernel_rfl)) ?_
  intro W base args ds gs before hval0 hW _ hz _
  have hval : ∀ (j : Nat) t v, Tryz.f3.params[j]? = some t → args[j]? = some v → Value.okWide Tryz.prog W .any base t v := hval0
  have hW' := hW
  obtain ⟨p, q, hA0, hV, rfl, _, _⟩ := hW
  have hA : DataW.TrodAll enc Tryz.prog W 0 (fun _ => true) true Tryz.f3.params.toList args.toList ds p := hA0
  rw [Tryz.params3] at hA hval
  obtain ⟨v0, vs0, d0, ds0, p0, q0, hargs, rfl, rfl, h0, r0⟩ := trodAll_cons hA
  obtain ⟨v1, vs1, d1, ds1, p1, q1, rfl, rfl, rfl, h1, r1⟩ := trodAll_cons r0
  obtain ⟨v2, vs2, d2, ds2, p2, q2, rfl, rfl, rfl, h2, r2⟩ := trodAll_cons r1
  obtain ⟨v3, vs3, d3, ds3, p3, q3, rfl, rfl, rfl, h3, r3⟩ := trodAll_cons r2
  obtain ⟨rfl, rfl, rfl⟩ := trodAll_nil r3
  obtain rfl : args = #[v0, v1, v2, v3] := by cases args; simp_all
  obtain ⟨rfl, rfl⟩ := trodVars_none hV
  obtain ⟨a0, rfl, rfl, rfl, w0⟩ := open_int Tryz.underlying5 (hval 0 5 v0 rfl rfl) h0
  obtain ⟨n0, b0, rfl⟩ := nat_of_u8 w0
  have k1 := h1
  obtain ⟨q1, n1, c1, xs1, rfl, w1, m1⟩ := open_bytes_sz Tryz.underlying22 Tryz.underlying5 (by kernel_rfl) (hval 1 22 v1 rfl rfl) h1
  have y1 : n1 ≤ c1 ∧ c1 ≤ 140737488351232 := ⟨m1.1, m1.2 _ fun el sp hd => by have := sized_slice (j := 1) (t := 22) (e := 5) (elems := el) (spare := sp) hz (by kernel_rfl) (by first | (rw [← hd]; done) | (rw [← hd]; rfl)) Tryz.underlying22; have hbe : Tryz.checked.prog.bytesOf 5 = 1 := (by kernel_rfl); have hre : reachBytes = 140737488351232 := rfl; rw [hbe, hre] at this; omega⟩
  have k2 := h2
  obtain ⟨q2, n2, c2, xs2, rfl, w2, m2⟩ := open_bytes_sz Tryz.underlying22 Tryz.underlying5 (by kernel_rfl) (hval 2 22 v2 rfl rfl) h2
  have y2 : n2 ≤ c2 ∧ c2 ≤ 140737488351232 := ⟨m2.1, m2.2 _ fun el sp hd => by have := sized_slice (j := 2) (t := 22) (e := 5) (elems := el) (spare := sp) hz (by kernel_rfl) (by first | (rw [← hd]; done) | (rw [← hd]; rfl)) Tryz.underlying22; have hbe : Tryz.checked.prog.bytesOf 5 = 1 := (by kernel_rfl); have hre : reachBytes = 140737488351232 := rfl; rw [hbe, hre] at this; omega⟩
  have k3 := h3
  obtain ⟨q3, n3, c3, xs3, rfl, w3, m3⟩ := open_bytes_sz Tryz.underlying22 Tryz.underlying5 (by kernel_rfl) (hval 3 22 v3 rfl rfl) h3
  have y3 : n3 ≤ c3 ∧ c3 ≤ 140737488351232 := ⟨m3.1, m3.2 _ fun el sp hd => by have := sized_slice (j := 3) (t := 22) (e := 5) (elems := el) (spare := sp) hz (by kernel_rfl) (by first | (rw [← hd]; done) | (rw [← hd]; rfl)) Tryz.underlying22; have hbe : Tryz.checked.prog.bytesOf 5 = 1 := (by kernel_rfl); have hre : reachBytes = 140737488351232 := rfl; rw [hbe, hre] at this; omega⟩
  clear hA0 hval0
  simp only [List.append_nil] at hW'
  refine (walk (w := W) n0 q1 n1 c1 xs1 q2 n2 c2 xs2 q3 n3 c3 xs3 b0 w1 y1 w2 y2 w3 y3).mono fun e W' ⟨he, bel⟩ => ?_
  subst he
  exact ⟨_, rfl, _, _, _, [], _, [], hW', trodAll_mk1 (shut_bool Tryz.underlying4 _), (trodAll_cons_mk (shut_int Tryz.underlying5 w0) (trodAll_cons_mk (shut_same laidOut (by kernel_rfl) (of_decide_eq_true (by kernel_rfl)) k1 bel) (trodAll_cons_mk (shut_same laidOut (by kernel_rfl) (of_decide_eq_true (by kernel_rfl)) k2 bel) (trodAll_cons_mk (shut_same laidOut (by kernel_rfl) (of_decide_eq_true (by kernel_rfl)) k3 bel) trodAll_mk0)))), rfl, bel.frame _, fun h => by cases h⟩
theorem over : Rows.quotAsksRow.holds Tryz.pinned (OpenSpec.ofChange Rows.quotAsksSpec) :=
  OpenClaim.holds_of_wide 3 Tryz.f3 rfl rfl rfl rfl rfl rfl rfl ⟨rfl, rfl, rfl, rfl, rfl⟩ rfl rfl rfl rfl rfl (by kernel_rfl) Tryz.func3 (by kernel_rfl)
    (of_decide_eq_true (by kernel_rfl)) (by unfold Func.isWrapper; first | (rw [if_pos (by decide +kernel)]; kernel_rfl) | (rw [if_neg (by decide +kernel)]; exact ⟨rfl, rfl⟩))
    (fun os started H enc _ => lifted os started H enc)
theorem proved : Rows.QuotAsksSaid := over
#print axioms proved
end Go.Proofs.YtphhehppcfddgaaGreat.quotAsks
