/- ValueRoot holds for every input: what is left of a polynomial divided by x and a byte is its value there. No conditions. -/
import Derived.Test.YtafjlbkcpjkojaaGreatRows
import Derived.Test.YtafjlbkcpjkojaaGreatMB
import Derived.Test.YtafjlbkcpjkojaaGreatKnown07
import Derived.Test.YtafjlbkcpjkojaaGreatMK
namespace Go.Proofs.YtafjlbkcpjkojaaGreat.valueRoot
open Go.ChangeShapes Go.WideShapes Go.ChangeAt Go.RowKit
open Pol (IsN Dg ofL Byt vl)
theorem ofL_const (v : Nat) : ofL [v] = Pol.mono 0 (GF.of v) := by
  funext i
  match i with
  | 0 => rfl
  | n + 1 => show GF.of ([v].getD (n + 1) 0) = if n + 1 = 0 then GF.of v else 0; rw [if_neg (by omega)]; simp [List.getD]; rfl
theorem left (xs : List Nat) (x : Nat) : ∃ A R la lr, IsN la A ∧ IsN lr R ∧ Pol.Bd 1 R ∧ ofL xs = Pol.add (Pol.mul A (ofL [x, 1])) R ∧ ofL lr = ofL [vl xs x] ∧ lr.length ≤ 1 := by
  obtain ⟨a, ha, he⟩ := Pol.root_split (GF.of x) (Pol.ofL_bd xs)
  obtain ⟨la, hla, -⟩ := Pol.isN_of_bd ha
  have hR : Pol.Bd 1 (Pol.mono 0 (Pol.ev xs.length (ofL xs) (GF.of x))) := fun i hi => by show (if i = 0 then _ else 0) = (0 : GF); rw [if_neg (by omega)]
  obtain ⟨lr, hlr, hl⟩ := Pol.isN_of_bd hR
  refine ⟨a, _, la, lr, hla, hlr, hR, ?_, ?_, hl⟩
  · rw [Pol.ofL_lin, Pol.mul_comm a]; exact he
  · rw [hlr.eq, ofL_const, Pol.of_vl]

set_option maxRecDepth 100000 in
set_option maxHeartbeats 4000000 in
theorem walk (j : Nat) (q : Option Addr) (n c : Nat) (xs : List Nat) (x : Nat) (w : World) (hj : j < 256) (S_p : Bs w q n xs) (y_p : n ≤ c ∧ c ≤ 140737488351232) (hx : x < 256) :
    Calls Tryz.prog 5 #[.int .u8 j, .slice q n c, .int .u8 x] w fun e w' => e = .returned (.bool true) ∧ Below w.heap.size w w' := by
  obtain ⟨k, hk⟩ : ∃ k : Nat, 1 + j % 3 = k := ⟨_, rfl⟩
  have hk1 : 1 ≤ k := by omega
  have hk3 : k ≤ 3 := by omega
  have hki : (1 : Int) + (j : Int) % 3 = (k : Int) := by omega
  clear hk
  have HB : Below w.heap.size w w := Below.refl _ _
  have Cp := y_p.1
  clear y_p
  go_enter Tryz.func5, Tryz.ntmps5
  by_cases hbig : 120 < n
  · have hb1 : (120 : Int) < (n : Int) := by omega
    go_wp2_with fail
    refine (known07_calls _).mono ?_
    rintro e w1 ⟨rfl, hb⟩
    replace HB := HB.trans (hb.mono HB.size)
    replace S_p := S_p.below hb
    clear hb
    go_wp2
    go_ret
    exact ⟨rfl, HB⟩
  · have hb1 : ((120 : Int) < (n : Int)) = False := eq_false (by omega)
    obtain ⟨A, R, la, lr, hA, hR, hB, he, hv, hl⟩ := left xs x
    obtain ⟨nr, nre⟩ : ∃ nr, lr.length = nr := ⟨_, rfl⟩
    obtain ⟨v, hve⟩ : ∃ v, vl xs x = v := ⟨_, rfl⟩
    have hv8 : v < 256 := hve ▸ Pol.vl_lt _ _
    rw [hve] at hv
    have hdg : Dg 2 (ofL [x, 1]) := by rw [Pol.ofL_lin]; exact (Pol.lin_mon _).dg
    have HU : Hid (n ≤ 1000 ∧ IsN la A ∧ IsN lr R ∧ Pol.Bd 1 R ∧ ofL xs = Pol.add (Pol.mul A (ofL [x, 1])) R ∧ ofL lr = ofL [v] ∧ lr.length = nr ∧ vl xs x = v ∧ Dg 2 (ofL [x, 1])) := ⟨by omega, hA, hR, hB, he, hv, nre, hve, hdg⟩
    clear hbig hA hR hB he hv hl nre hve hdg
    go_wp2_with fail
    refine (fof_calls k hk1 hk3 _).mono ?_
    rintro e w1 ⟨B_f, T_f, rfl, HF_f, hb, hlB, hlT⟩
    have HL_f : w.heap.size ≤ T_f := Nat.le_trans HB.size hlT
    have Q_p_f := S_p.off hlT
    replace HB := HB.trans (hb.mono HB.size)
    replace S_p := S_p.below hb
    clear hb hlB hlT
    clear hb1 hki
    go_wp2_with fail
    have S_y : Bs (w1.alloc (.cells #[.int .u8 (x : Int), .int .u8 1] 5)) (some ⟨w1.heap.size, 0, none⟩) 2 [x, 1] := bs_lits w1 _ [x, 1] _ 2 rfl (by first | rfl | simp) rfl (by simp [hx]) (by simp)
    have Q_y_f : Off T_f 2 (some ⟨w1.heap.size, 0, none⟩) := off_at (by have := HF_f.lt; (try simp at this); omega)
    replace HF_f := HF_f.alloc (.cells #[.int .u8 (x : Int), .int .u8 1] 5)
    replace S_p := S_p.alloc (.cells #[.int .u8 (x : Int), .int .u8 1] 5)
    replace HB := HB.alloc HB.size (.cells #[.int .u8 (x : Int), .int .u8 1] 5)
    go_wp2_with fail
    refine (qmod_calls k B_f T_f n c 2 2 1 q _ xs [x, 1] la lr A R HU.out.2.2.2.2.2.2.2.2 HU.out.2.1 HU.out.2.2.1 HU.out.2.2.2.1 HU.out.2.2.2.2.1 (by have := HU.out.1; omega) (by decide) Cp (by decide) _ HF_f S_p S_y Q_p_f Q_y_f).mono ?_
    rintro e w2 ⟨v, rfl, hO, hF, hb⟩
    obtain ⟨q_r, c_r, rfl, S_r, C_r, hQ⟩ := hO.tell (n := nr) HU.out.2.2.1.byt HU.out.2.2.2.2.2.2.1
    clear hO
    have Q_r_f := hQ _ HF_f.lt
    clear hQ
    replace HB := HB.trans (hb.below HB.size (by rintro k rfl; exact HL_f))
    replace S_p := S_p.but hb Q_p_f
    replace S_y := S_y.but hb Q_y_f
    clear HF_f hb
    have HF_f := hF
    clear hF
    clear S_y
    go_wp2_with fail
    refine (vat_e k B_f T_f n c x v q xs hx HU.out.2.2.2.2.2.2.2.1 _ HF_f S_p Q_p_f).mono ?_
    rintro e w3 ⟨rfl, hF, hb⟩
    replace HB := HB.trans (hb.below HB.size (by rintro k rfl; exact HL_f))
    replace S_p := S_p.but hb Q_p_f
    replace S_r := S_r.but hb Q_r_f
    clear HF_f hb
    have HF_f := hF
    clear hF
    go_wp2_with fail
    refine (known07_calls _).mono ?_
    rintro e w4 ⟨rfl, hb⟩
    replace HB := HB.trans (hb.mono HB.size)
    replace HF_f := HF_f.below hb
    replace S_p := S_p.below hb
    replace S_r := S_r.below hb
    clear hb
    go_wp2_with fail
    have S_z : Bs (w4.alloc (.cells #[.int .u8 (v : Int)] 5)) (some ⟨w4.heap.size, 0, none⟩) 1 [v] := bs_lits w4 _ [v] _ 1 rfl (by first | rfl | simp) rfl (by simp [hv8]) (by simp)
    have Q_z_f : Off T_f 1 (some ⟨w4.heap.size, 0, none⟩) := off_at (by have := HF_f.lt; (try simp at this); omega)
    replace HF_f := HF_f.alloc (.cells #[.int .u8 (v : Int)] 5)
    replace S_p := S_p.alloc (.cells #[.int .u8 (v : Int)] 5)
    replace S_r := S_r.alloc (.cells #[.int .u8 (v : Int)] 5)
    replace HB := HB.alloc HB.size (.cells #[.int .u8 (v : Int)] 5)
    go_wp2_with fail
    refine (psame_calls q_r _ nr c_r 1 1 lr [v] true (iff_of_true rfl HU.out.2.2.2.2.2.1) C_r (Nat.le_refl 1) _ S_r S_z).mono ?_
    rintro e w5 ⟨rfl, hb⟩
    replace HB := HB.trans (hb.mono HB.size)
    replace HF_f := HF_f.below hb
    replace S_p := S_p.below hb
    replace S_r := S_r.below hb
    replace S_z := S_z.below hb
    clear hb
    go_wp2
    go_ret
    exact ⟨rfl, HB⟩
theorem own : ownKnob Tryz.prog.godebug = none := by kernel_rfl
theorem laidOut : laidOutB Tryz.prog = true := by kernel_rfl
set_option maxRecDepth 100000 in
theorem lifted (os : Os) (started : os.Started) (H : Type) (enc : TypeId × Value → H) :
    ReturnsInHanded {} Tryz.checked os 5 .any (Rows.valueRootSpec.pre6 enc Tryz.prog Tryz.f5 Rows.valueRootRow.domain false) (Rows.valueRootSpec.post enc Tryz.prog Tryz.f5 false true false false) := by
  refine returnsInHanded_of_change_sized (C := Tryz.checked) own started (by kernel_rfl) Tryz.func5
    (ChangeSpec.witness6 (enc := enc) (C := Tryz.checked) false ⟨#[], #[.int .u8 0, .slice none 0 0, .int .u8 0], []⟩ 8 (by kernel_rfl) (by kernel_rfl) (by kernel_rfl) (by kernel_rfl)) ?_
  intro W base args ds gs before hval0 hW _ hz _
  have hval : ∀ (j : Nat) t v, Tryz.f5.params[j]? = some t → args[j]? = some v → Value.okWide Tryz.prog W .any base t v := hval0
  have hW' := hW
  obtain ⟨p, q, hA0, hV, rfl, _, _⟩ := hW
  have hA : DataW.TrodAll enc Tryz.prog W 0 (fun _ => true) true Tryz.f5.params.toList args.toList ds p := hA0
  rw [Tryz.params5] at hA hval
  obtain ⟨v0, vs0, d0, ds0, p0, q0, hargs, rfl, rfl, h0, r0⟩ := trodAll_cons hA
  obtain ⟨v1, vs1, d1, ds1, p1, q1, rfl, rfl, rfl, h1, r1⟩ := trodAll_cons r0
  obtain ⟨v2, vs2, d2, ds2, p2, q2, rfl, rfl, rfl, h2, r2⟩ := trodAll_cons r1
  obtain ⟨rfl, rfl, rfl⟩ := trodAll_nil r2
  obtain rfl : args = #[v0, v1, v2] := by cases args; simp_all
  obtain ⟨rfl, rfl⟩ := trodVars_none hV
  obtain ⟨a0, rfl, rfl, rfl, w0⟩ := open_int Tryz.underlying5 (hval 0 5 v0 rfl rfl) h0
  obtain ⟨n0, b0, rfl⟩ := nat_of_u8 w0
  have k1 := h1
  obtain ⟨q1, n1, c1, xs1, rfl, w1, m1⟩ := open_bytes_sz Tryz.underlying22 Tryz.underlying5 (by kernel_rfl) (hval 1 22 v1 rfl rfl) h1
  have y1 : n1 ≤ c1 ∧ c1 ≤ 140737488351232 := ⟨m1.1, m1.2 _ fun el sp hd => by have := sized_slice (j := 1) (t := 22) (e := 5) (elems := el) (spare := sp) hz (by kernel_rfl) (by first | (rw [← hd]; done) | (rw [← hd]; rfl)) Tryz.underlying22; have hbe : Tryz.checked.prog.bytesOf 5 = 1 := (by kernel_rfl); have hre : reachBytes = 140737488351232 := rfl; rw [hbe, hre] at this; omega⟩
  obtain ⟨a2, rfl, rfl, rfl, w2⟩ := open_int Tryz.underlying5 (hval 2 5 v2 rfl rfl) h2
  obtain ⟨n2, b2, rfl⟩ := nat_of_u8 w2
  clear hA0 hval0
  simp only [List.append_nil] at hW'
  refine (walk (w := W) n0 q1 n1 c1 xs1 n2 b0 w1 y1 b2).mono fun e W' ⟨he, bel⟩ => ?_
  subst he
  exact ⟨_, rfl, _, _, _, [], _, [], hW', trodAll_mk1 (shut_bool Tryz.underlying4 _), (trodAll_cons_mk (shut_int Tryz.underlying5 w0) (trodAll_cons_mk (shut_same laidOut (by kernel_rfl) (of_decide_eq_true (by kernel_rfl)) k1 bel) (trodAll_cons_mk (shut_int Tryz.underlying5 w2) trodAll_mk0))), rfl, bel.frame _, fun h => by cases h⟩
theorem over : Rows.valueRootRow.holds Tryz.pinned (OpenSpec.ofChange Rows.valueRootSpec) :=
  OpenClaim.holds_of_wide 5 Tryz.f5 rfl rfl rfl rfl rfl rfl rfl ⟨rfl, rfl, rfl, rfl, rfl⟩ rfl rfl rfl rfl rfl (by kernel_rfl) Tryz.func5 (by kernel_rfl)
    (of_decide_eq_true (by kernel_rfl)) (by unfold Func.isWrapper; first | (rw [if_pos (by decide +kernel)]; kernel_rfl) | (rw [if_neg (by decide +kernel)]; exact ⟨rfl, rfl⟩))
    (fun os started H enc _ => lifted os started H enc)
theorem proved : Rows.ValueRootSaid := over
#print axioms proved
end Go.Proofs.YtafjlbkcpjkojaaGreat.valueRoot
