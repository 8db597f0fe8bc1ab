/- MasseyMade holds for every input: what a register of a length makes has none that is longer told; what is told makes it, and goes on as it does. No conditions. -/
import Derived.Test.YtfbbphddakjhhaaRows
import Derived.Test.YtfbbphddakjhhaaMB
import Derived.Test.YtfbbphddakjhhaaQI
namespace Go.Proofs.Ytfbbphddakjhhaa.masseyMade
open Go.ChangeShapes Go.WideShapes Go.ChangeAt Go.RowKit
open Pol (IsN Dg ofL Byt)
attribute [local go_sem ↓ high] builtin_ap
attribute [local go_sem] ap_sem

set_option maxRecDepth 100000 in
set_option maxHeartbeats 8000000 in
theorem walk (j : Nat) (q : Option Addr) (n c : Nat) (xs : List Nat) (p : Option Addr) (m d : Nat) (fs : List Nat) (e : Nat) (w : World) (_hj : j < 256) (hs : Bs w q n xs) (hc : n ≤ c ∧ c ≤ 140737488351232) (hf : Bs w p m fs) (hd : m ≤ d ∧ d ≤ 140737488351232) (he : e < 256) :
    Calls Try.prog 3 #[.int .u8 j, .slice q n c, .slice p m d, .int .u8 e] w fun e w' => e = .returned (.bool true) ∧ Below w.heap.size w w' := by
  have hwnm : IntKind.i64.wrap ((n : Int) + (m : Int)) = (n : Int) + (m : Int) := by rw [IntKind.wrap_i64]; omega
  by_cases hbig : n + m ≤ 200
  · have hbi : ¬ (200 : Int) < (n : Int) + (m : Int) := by omega
    obtain ⟨f, hfe⟩ : ∃ f : Nat, 1 + j % 3 = f := ⟨_, rfl⟩
    have hf1 : 1 ≤ f := by omega
    have hf3 : f ≤ 3 := by omega
    have hfi : (1 : Int) + (j : Int) % 3 = (f : Int) := by omega
    have K0 := fof_calls f hf1 hf3 w
    have HX : Hid (Bs w q n xs ∧ n ≤ c ∧ Bs w p m fs ∧ m ≤ d ∧ n ≤ 200 ∧ m ≤ 200) := ⟨hs, hc.1, hf, hd.1, by omega, by omega⟩
    clear hs hc hf hd hbig hf1 hf3 hfe
    go_enter Try.func3, Try.ntmps3
    go_wp2_with fail
    refine K0.mono ?_
    rintro e_ w1 ⟨B, T, rfl, hF, hb, hlB, hlT⟩
    clear K0 hwnm hbi hfi
    have HT : Hid (w.heap.size ≤ T) := hlT
    have hT1 : Tw f B T w w1 := ⟨hF, But.of_below hb⟩
    obtain ⟨k, hk⟩ : ∃ k, min n 8 = k := ⟨_, rfl⟩
    have hki : (if (8 : Int) < (n : Int) then 8 else (n : Int)) = (k : Int) := by split <;> omega
    have hkc : (k : Int) ≤ (c : Int) := by have := HX.out.2.1; omega
    obtain ⟨own, how⟩ : ∃ own, xs.take k = own := ⟨_, rfl⟩
    obtain ⟨N, hN⟩ : ∃ N, 2 * k + e % 9 = N := ⟨_, rfl⟩
    have hNi : (2 : Int) * (k : Int) + (e : Int) % 9 = (N : Int) := by omega
    have hk8 : (k : Int) ≤ 8 := by omega
    have hN6 : (N : Int) ≤ 24 := by omega
    have l1 : Tl w1 T q k c own := by
      rw [← how]
      exact ⟨bs_take (HX.out.1.below hb) k (by omega), by have := HX.out.2.1; omega, (bs_take HX.out.1 k (by omega)).off hlT⟩
    have lf : Tl w1 T p m d fs := ⟨HX.out.2.2.1.below hb, HX.out.2.2.2.1, HX.out.2.2.1.off hlT⟩
    obtain ⟨ss, hss⟩ : ∃ ss, Ms.mdL own fs N = ss := ⟨_, rfl⟩
    obtain ⟨L, hL⟩ := Ms.least_exists (ofL ss) N
    have HM : Hid (own.length = k ∧ 2 * k + e % 9 = N ∧ Ms.mdL own fs N = ss ∧ Ms.Least (ofL ss) N L ∧ Byt own ∧ Byt fs ∧ k ≤ 8 ∧ N ≤ 24 ∧ ss.length = N) := ⟨l1.bs.len, hN, hss, hL, l1.bs.byte, lf.bs.byte, by omega, by omega, hss ▸ Ms.mdL_length own fs N⟩
    have K := kmade f B T w q p k c m d N own fs (by omega) (by omega) w1 hT1 l1 lf
    rw [hss] at K
    have HLs : Hid (Tl w1 T q k c own ∧ Tl w1 T p m d fs) := ⟨l1, lf⟩
    clear hF hb hlB hlT l1 lf hk how hN hss hL hT1
    go_wp2_with fail
    refine K.mono ?_
    rintro e_ w2 ⟨q2, c2, rfl, l2, hT2, hb2⟩
    clear K
    have K := kmassey f B T w q2 N c2 L ss (by omega) HM.out.2.2.2.1 w2 hT2 l2
    have HL2 : Hid (Tl w2 T q k c own ∧ Tl w2 T p m d fs ∧ Tl w2 T q2 N c2 ss) := ⟨HLs.out.1.but hb2, HLs.out.2.but hb2, l2⟩
    clear HLs hb2 l2 hT2
    go_wp2_with fail
    refine K.mono ?_
    rintro e_ w3 ⟨q3, n3, c3, rfl, ⟨rs, hl3, hrs, l3⟩, hT3, hb3⟩
    clear K
    obtain ⟨M, hM⟩ : ∃ M, N + 1 = M := ⟨_, rfl⟩
    have hMi : (N : Int) + 1 = (M : Int) := by omega
    have hM6 : (M : Int) ≤ 25 := by omega
    have K := kmade f B T w q p k c m d M own fs (by omega) (by omega) w3 hT3 (HL2.out.1.but hb3) (HL2.out.2.1.but hb3)
    have hnx := Ms.next_made (N := N) (own := own) (rs := rs) (L := L) HM.out.2.2.2.2.2.1 (by have := HM.out; omega) (by rw [HM.out.2.2.1]; exact hrs)
    rw [HM.out.2.2.1, HM.out.1, hM] at hnx
    obtain ⟨v, hv⟩ : ∃ v, Ms.nxv rs ss = v := ⟨_, rfl⟩
    rw [hv] at hnx
    have HR : Hid (rs.length = n3 ∧ Ms.IsMas ss rs L ∧ L ≤ k ∧ Ms.nxv rs ss = v ∧ v = (Ms.mdL own fs M).getD N 0 ∧ N < M ∧ n3 ≤ 1000) := by
      refine ⟨hl3, hrs, hnx.1, hv, hnx.2, by omega, ?_⟩
      have h1 := hrs.nrm.dg.le hrs.reg.bd
      have h2 := hnx.1
      omega
    have HL3 : Hid (Tl w3 T q k c own ∧ Tl w3 T q2 N c2 ss ∧ Tl w3 T q3 n3 c3 rs) := ⟨HL2.out.1.but hb3, HL2.out.2.2.but hb3, l3⟩
    clear HL2 hb3 l3 hT3 hl3 hrs hM hnx hv
    go_wp2_with fail
    refine K.mono ?_
    rintro e_ w4 ⟨q4, c4, rfl, l4, hT4, hb4⟩
    clear K
    have K := knext f B T w q3 q2 n3 c3 N c2 rs ss (L : Int) true v ⟨fun _ => HR.out.2.1.mkZ, fun _ => rfl⟩ (by rw [if_pos rfl]; exact HR.out.2.2.2.1.symm) (by have := HR.out; omega) (by omega) w4 hT4 (HL3.out.2.2.but hb4) (HL3.out.2.1.but hb4)
    have HL4 : Hid (Tl w4 T q k c own ∧ Tl w4 T q2 N c2 ss ∧ Tl w4 T q3 n3 c3 rs ∧ Tl w4 T q4 M c4 (Ms.mdL own fs M)) := ⟨HL3.out.1.but hb4, HL3.out.2.1.but hb4, HL3.out.2.2.but hb4, l4⟩
    clear HL3 hb4 l4 hT4
    go_wp2_with fail
    refine K.mono ?_
    rintro e_ w5 ⟨rfl, hT5, hb5⟩
    clear K
    -- the register of choices
    obtain ⟨W6, hW6⟩ : ∃ W6, w5.alloc (.cells #[.int .u8 1] 5) = W6 := ⟨_, rfl⟩
    have hb6 : Below w5.heap.size w5 W6 := hW6 ▸ (Below.refl _ w5).alloc (Nat.le_refl _) _
    have hO6 : Ow W6 w5.heap.size (.slice (some ⟨w5.heap.size, 0, none⟩) 1 1) [1] := by rw [← hW6]; exact ow_one w5 (Nat.le_refl _) 1
    obtain ⟨v7, W7, hap, hO7, hg7⟩ := run_append_list W6 w5.heap.size _ [1] q k c own hO6 ((HL4.out.1.but hb5).below hb6).bs (by have := HM.out; simp; omega) hb6.size
    have hb7 : Below w5.heap.size w5 W7 := hb6.grown hg7 hb6.size (fun k hk => (hO6.lt k hk).1)
    have hbz : Byt (1 :: own) := fun i => by
      cases i with
      | zero => exact (by decide : (1 : Nat) < 256)
      | succ i => exact HM.out.2.2.2.2.1 i
    obtain ⟨g, hg⟩ : ∃ g, k + 1 = g := ⟨_, rfl⟩
    obtain ⟨q7, c7, rfl, l7⟩ := hO7.tl (T := T) (n := g) hT5.lt hbz (by show (1 :: own).length = _; rw [List.length_cons, HM.out.1, hg])
    have H7 : Hid (Tw f B T w W7 ∧ Tl W7 T q2 N c2 ss ∧ Tl W7 T q3 n3 c3 rs ∧ Tl W7 T q4 M c4 (Ms.mdL own fs M) ∧ Tl W7 T q7 g c7 (1 :: own) ∧ g ≤ 9) := ⟨hT5.below hb7, (HL4.out.2.1.but hb5).below hb7, (HL4.out.2.2.1.but hb5).below hb7, (HL4.out.2.2.2.but hb5).below hb7, l7, by omega⟩
    have ha1 := ap_ok hap
    have ha2 := ap_v hap
    have ha3 := ap_w hap
    have KN := known14_calls W7
    clear HL4 hb5 hT5 hb6 hO6 hap hO7 hg7 hb7 hbz hg l7
    go_wp2_with fail
    refine KN.mono ?_
    rintro e_ w8 ⟨rfl, hb8⟩
    clear KN ha1 ha2 ha3 hW6
    have hLk : (L : Int) ≤ (k : Int) := by have := HR.out.2.2.1; omega
    have K := kmakes f B T w q3 q2 n3 c3 N c2 rs ss (L : Int) true ⟨fun _ => HR.out.2.1.mkZ, fun _ => rfl⟩ (by have := HR.out; omega) (by omega) w8 (H7.out.1.below hb8) (H7.out.2.2.1.below hb8) (H7.out.2.1.below hb8)
    have H8 : Hid (Tl w8 T q2 N c2 ss ∧ Tl w8 T q4 M c4 (Ms.mdL own fs M) ∧ Tl w8 T q7 g c7 (1 :: own)) := ⟨H7.out.2.1.below hb8, H7.out.2.2.2.1.below hb8, H7.out.2.2.2.2.1.below hb8⟩
    clear hb8
    go_wp2_with fail
    refine K.mono ?_
    rintro e_ w9 ⟨rfl, hT9, hb9⟩
    clear K
    have K := kmakes f B T w q7 q2 g c7 N c2 (1 :: own) ss (k : Int) true ⟨fun _ => by
      have h := (Ms.mkZ_made (own := own) (fs := fs) (N := N)).2 (by have := HM.out; omega)
      rw [HM.out.2.2.1, HM.out.1] at h
      exact h, fun _ => rfl⟩ (by have := H7.out.2.2.2.2.2; omega) (by omega) w9 hT9 (H8.out.2.2.but hb9) (H8.out.1.but hb9)
    have H9 : Hid (Tl w9 T q4 M c4 (Ms.mdL own fs M)) := H8.out.2.1.but hb9
    clear hT9 hb9
    go_wp2_with fail
    refine K.mono ?_
    rintro e_ w10 ⟨rfl, hT10, hb10⟩
    clear K
    have HZ : Hid (Below w.heap.size w w10) := hT10.but.below (Nat.le_refl _) (by rintro k rfl; exact HT.out)
    obtain ⟨a, rfl, -, ca⟩ := (H9.out.but hb10).bs.cell N HR.out.2.2.2.2.2.1
    rw [← HR.out.2.2.2.2.1] at ca
    have hNM : (N : Int) < (M : Int) := by have := HR.out.2.2.2.2.2.1; omega
    have hN0 : (0 : Int) ≤ (N : Int) := by omega
    clear hT10 hb10 H9 H8
    go_wp2
    go_ret
    exact ⟨rfl, HZ.out⟩
  · have hbi : (200 : Int) < (n : Int) + (m : Int) := by omega
    have KN := known14_calls w
    clear hs hc hf hd hbig
    go_enter Try.func3, Try.ntmps3
    go_wp2_with fail
    refine KN.mono ?_
    rintro e_ w1 ⟨rfl, hb⟩
    clear KN
    go_wp2
    go_ret
    exact ⟨rfl, hb⟩
theorem own : ownKnob Try.prog.godebug = none := by kernel_rfl
theorem laidOut : laidOutB Try.prog = true := by kernel_rfl
set_option maxRecDepth 100000 in
theorem lifted (os : Os) (started : os.Started) (H : Type) (enc : TypeId × Value → H) :
    ReturnsInHanded {} Try.checked os 3 .any (Rows.masseyMadeSpec.pre6 enc Try.prog Try.f3 Rows.masseyMadeRow.domain false) (Rows.masseyMadeSpec.post enc Try.prog Try.f3 false true false false) := by
  refine returnsInHanded_of_change_sized (C := Try.checked) own started (by kernel_rfl) Try.func3
    (ChangeSpec.witness6 (enc := enc) (C := Try.checked) false ⟨#[], #[.int .u8 0, .slice none 0 0, .slice none 0 0, .int .u8 0], []⟩ 8 (by kernel_rfl) (by kernel_rfl) (by kernel_rfl) (by kernel_rfl)) ?_
  intro W base args ds gs before hval0 hW _ hz _
  have hval : ∀ (j : Nat) t v, Try.f3.params[j]? = some t → args[j]? = some v → Value.okWide Try.prog W .any base t v := hval0
  have hW' := hW
  obtain ⟨p, q, hA0, hV, rfl, _, _⟩ := hW
  have hA : DataW.TrodAll enc Try.prog W 0 (fun _ => true) true Try.f3.params.toList args.toList ds p := hA0
  rw [Try.params3] at hA hval
  obtain ⟨v0, vs0, d0, ds0, p0, q0, hargs, rfl, rfl, h0, r0⟩ := trodAll_cons hA
  obtain ⟨v1, vs1, d1, ds1, p1, q1, rfl, rfl, rfl, h1, r1⟩ := trodAll_cons r0
  obtain ⟨v2, vs2, d2, ds2, p2, q2, rfl, rfl, rfl, h2, r2⟩ := trodAll_cons r1
  obtain ⟨v3, vs3, d3, ds3, p3, q3, rfl, rfl, rfl, h3, r3⟩ := trodAll_cons r2
  obtain ⟨rfl, rfl, rfl⟩ := trodAll_nil r3
  obtain rfl : args = #[v0, v1, v2, v3] := by cases args; simp_all
  obtain ⟨rfl, rfl⟩ := trodVars_none hV
  obtain ⟨a0, rfl, rfl, rfl, w0⟩ := open_int Try.underlying5 (hval 0 5 v0 rfl rfl) h0
  obtain ⟨n0, b0, rfl⟩ := nat_of_u8 w0
  have k1 := h1
  obtain ⟨q1, n1, c1, xs1, rfl, w1, m1⟩ := open_bytes_sz Try.underlying22 Try.underlying5 (by kernel_rfl) (hval 1 22 v1 rfl rfl) h1
  have y1 : n1 ≤ c1 ∧ c1 ≤ 140737488351232 := ⟨m1.1, m1.2 _ fun el sp hd => by have := sized_slice (j := 1) (t := 22) (e := 5) (elems := el) (spare := sp) hz (by kernel_rfl) (by first | (rw [← hd]; done) | (rw [← hd]; rfl)) Try.underlying22; have hbe : Try.checked.prog.bytesOf 5 = 1 := (by kernel_rfl); have hre : reachBytes = 140737488351232 := rfl; rw [hbe, hre] at this; omega⟩
  have k2 := h2
  obtain ⟨q2, n2, c2, xs2, rfl, w2, m2⟩ := open_bytes_sz Try.underlying22 Try.underlying5 (by kernel_rfl) (hval 2 22 v2 rfl rfl) h2
  have y2 : n2 ≤ c2 ∧ c2 ≤ 140737488351232 := ⟨m2.1, m2.2 _ fun el sp hd => by have := sized_slice (j := 2) (t := 22) (e := 5) (elems := el) (spare := sp) hz (by kernel_rfl) (by first | (rw [← hd]; done) | (rw [← hd]; rfl)) Try.underlying22; have hbe : Try.checked.prog.bytesOf 5 = 1 := (by kernel_rfl); have hre : reachBytes = 140737488351232 := rfl; rw [hbe, hre] at this; omega⟩
  obtain ⟨a3, rfl, rfl, rfl, w3⟩ := open_int Try.underlying5 (hval 3 5 v3 rfl rfl) h3
  obtain ⟨n3, b3, rfl⟩ := nat_of_u8 w3
  clear hA0 hval0
  simp only [List.append_nil] at hW'
  refine (walk (w := W) n0 q1 n1 c1 xs1 q2 n2 c2 xs2 n3 b0 w1 y1 w2 y2 b3).mono fun e W' ⟨he, bel⟩ => ?_
  subst he
  exact ⟨_, rfl, _, _, _, [], _, [], hW', trodAll_mk1 (shut_bool Try.underlying4 _), (trodAll_cons_mk (shut_int Try.underlying5 w0) (trodAll_cons_mk (shut_same laidOut (by kernel_rfl) (of_decide_eq_true (by kernel_rfl)) k1 bel) (trodAll_cons_mk (shut_same laidOut (by kernel_rfl) (of_decide_eq_true (by kernel_rfl)) k2 bel) (trodAll_cons_mk (shut_int Try.underlying5 w3) trodAll_mk0)))), rfl, bel.frame _, fun h => by cases h⟩
theorem over : Rows.masseyMadeRow.holds Try.pinned (OpenSpec.ofChange Rows.masseyMadeSpec) :=
  OpenClaim.holds_of_wide 3 Try.f3 rfl rfl rfl rfl rfl rfl rfl ⟨rfl, rfl, rfl, rfl, rfl⟩ rfl rfl rfl rfl rfl (by kernel_rfl) Try.func3 (by kernel_rfl)
    (of_decide_eq_true (by kernel_rfl)) (by unfold Func.isWrapper; first | (rw [if_pos (by decide +kernel)]; kernel_rfl) | (rw [if_neg (by decide +kernel)]; exact ⟨rfl, rfl⟩))
    (fun os started H enc _ => lifted os started H enc)
theorem proved : Rows.MasseyMadeSaid := over
#print axioms proved
end Go.Proofs.Ytfbbphddakjhhaa.masseyMade
