/- MasseyLeast holds for every input: the length of the shortest register of any list, and of what a register makes, is what the chapter says; where there is one alone it is told. No conditions. -/
import Derived.Test.YtfbbphddakjhhaaGreatRows
import Derived.Test.YtfbbphddakjhhaaGreatMB
import Derived.Test.YtfbbphddakjhhaaGreatQJ
namespace Go.Proofs.YtfbbphddakjhhaaGreat.masseyLeast
open Go.ChangeShapes Go.WideShapes Go.ChangeAt Go.RowKit
open Pol (IsN Dg ofL Byt)

set_option maxRecDepth 100000 in
set_option maxHeartbeats 8000000 in
theorem walk (j : Nat) (q : Option Addr) (n c : Nat) (xs : List Nat) (p : Option Addr) (m d : Nat) (ys : List Nat) (r : Option Addr) (l g : Nat) (fs : List Nat) (e : Nat) (w : World) (_hj : j < 256) (hs : Bs w q n xs) (hc : n ≤ c ∧ c ≤ 140737488351232) (hf : Bs w p m ys) (hd : m ≤ d ∧ d ≤ 140737488351232) (hg : Bs w r l fs) (hl : l ≤ g ∧ g ≤ 140737488351232) (he : e < 256) :
    Calls Tryz.prog 4 #[.int .u8 j, .slice q n c, .slice p m d, .slice r l g, .int .u8 e] w fun e w' => e = .returned (.bool true) ∧ Below w.heap.size w w' := by
  have hwnm : IntKind.i64.wrap ((n : Int) + (m : Int)) = (n : Int) + (m : Int) := by rw [IntKind.wrap_i64]; omega
  have hwnl : IntKind.i64.wrap ((n : Int) + (m : Int) + (l : Int)) = (n : Int) + (m : Int) + (l : Int) := by rw [IntKind.wrap_i64]; omega
  have hnot : ∀ (x : Bool) (w : World), (Op.unary .not (.bool x)).run Tryz.prog w = .ok (.bool (!x)) w := fun _ _ => rfl
  have KN := known14_calls w
  by_cases hbig : n + m + l ≤ 200
  · have hbi : ¬ (200 : Int) < (n : Int) + (m : Int) + (l : Int) := by omega
    have HX : Hid (Bs w q n xs ∧ n ≤ c ∧ Bs w p m ys ∧ m ≤ d ∧ Bs w r l fs ∧ l ≤ g ∧ n ≤ 200 ∧ m ≤ 200 ∧ l ≤ 200) := ⟨hs, hc.1, hf, hd.1, hg, hl.1, by omega, by omega, by omega⟩
    clear hs hc hf hd hg hl hbig
    go_enter Tryz.func4, Tryz.ntmps4
    go_wp2_with fail
    refine KN.mono ?_
    rintro e_ w1 ⟨rfl, hb1⟩
    clear KN hwnm hwnl hbi
    obtain ⟨k, hk⟩ : ∃ k, min n 16 = k := ⟨_, rfl⟩
    have hki : (if (16 : Int) < (n : Int) then 16 else (n : Int)) = (k : Int) := by split <;> omega
    have hkc : (k : Int) ≤ (c : Int) := by have := HX.out.2.1; omega
    have K := lleast_calls j q k c (xs.take k) (by omega) (by have := HX.out.2.1; omega) w1 (bs_take (HX.out.1.below hb1) k (by omega))
    have H1 : Hid (Below w.heap.size w w1) := hb1
    clear hb1 hk
    go_wp2_with fail
    refine K.mono ?_
    rintro e_ w2 ⟨rfl, hb2⟩
    clear K hki hkc
    have H2 : Hid (Below w.heap.size w w2) := H1.out.trans (hb2.mono H1.out.size)
    clear hb2 H1
    obtain ⟨k2, hk2⟩ : ∃ k2, min m 5 = k2 := ⟨_, rfl⟩
    have hki : (if (5 : Int) < (m : Int) then 5 else (m : Int)) = (k2 : Int) := by split <;> omega
    have hkc : (k2 : Int) ≤ (d : Int) := by have := HX.out.2.2.2.1; omega
    obtain ⟨N, hN⟩ : ∃ N, e % 16 = N := ⟨_, rfl⟩
    have hNi : (e : Int) % 16 = (N : Int) := by omega
    have K := lmade_calls p r k2 d l g N (ys.take k2) fs (by omega) (by omega) w2 (bs_take (HX.out.2.2.1.below H2.out) k2 (by omega)) (HX.out.2.2.2.2.1.below H2.out)
    have HN : Hid (N ≤ 15 ∧ Byt fs) := ⟨by omega, HX.out.2.2.2.2.1.byte⟩
    clear hk2 hN
    go_wp2_with fail
    refine K.mono ?_
    rintro e_ w3 ⟨v, rfl, hO, hb3⟩
    clear K
    obtain ⟨q3, c3, rfl, S3, C3, -⟩ := hO.tell (n := N) (Ms.mdL_byt HN.out.2 N) (Ms.mdL_length _ fs N)
    have K := lleast_calls j q3 N c3 _ (by have := HN.out.1; omega) C3 w3 S3
    have H3 : Hid (Below w.heap.size w w3) := H2.out.trans (hb3.mono H2.out.size)
    clear hO hb3 S3 C3 H2
    go_wp2_with fail
    refine K.mono ?_
    rintro e_ w4 ⟨rfl, hb4⟩
    clear K
    have HZ : Hid (Below w.heap.size w w4) := H3.out.trans (hb4.mono H3.out.size)
    clear hb4
    go_wp2
    go_ret
    exact ⟨rfl, HZ.out⟩
  · have hbi : (200 : Int) < (n : Int) + (m : Int) + (l : Int) := by omega
    clear hs hc hf hd hg hl hbig
    go_enter Tryz.func4, Tryz.ntmps4
    go_wp2_with fail
    refine KN.mono ?_
    rintro e_ w1 ⟨rfl, hb⟩
    clear KN
    go_wp2
    go_ret
    exact ⟨rfl, hb⟩
theorem own : ownKnob Tryz.prog.godebug = none := by kernel_rfl
theorem laidOut : laidOutB Tryz.prog = true := by kernel_rfl
set_option maxRecDepth 100000 in
theorem lifted (os : Os) (started : os.Started) (H : Type) (enc : TypeId × Value → H) :
    ReturnsInHanded {} Tryz.checked os 4 .any (Rows.masseyLeastSpec.pre6 enc Tryz.prog Tryz.f4 Rows.masseyLeastRow.domain false) (Rows.masseyLeastSpec.post enc Tryz.prog Tryz.f4 false true false false) := by
  refine returnsInHanded_of_change_sized (C := Tryz.checked) own started (by kernel_rfl) Tryz.func4
    (ChangeSpec.witness6 (enc := enc) (C := Tryz.checked) false ⟨#[], #[.int .u8 0, .slice none 0 0, .slice none 0 0, .slice none 0 0, .int .u8 0], []⟩ 8 (by kernel_rfl) (by kernel_rfl) (by kernel_rfl) (by kernel_rfl)) ?_
  intro W base args ds gs before hval0 hW _ hz _
  have hval : ∀ (j : Nat) t v, Tryz.f4.params[j]? = some t → args[j]? = some v → Value.okWide Tryz.prog W .any base t v := hval0
  have hW' := hW
  obtain ⟨p, q, hA0, hV, rfl, _, _⟩ := hW
  have hA : DataW.TrodAll enc Tryz.prog W 0 (fun _ => true) true Tryz.f4.params.toList args.toList ds p := hA0
  rw [Tryz.params4] at hA hval
  obtain ⟨v0, vs0, d0, ds0, p0, q0, hargs, rfl, rfl, h0, r0⟩ := trodAll_cons hA
  obtain ⟨v1, vs1, d1, ds1, p1, q1, rfl, rfl, rfl, h1, r1⟩ := trodAll_cons r0
  obtain ⟨v2, vs2, d2, ds2, p2, q2, rfl, rfl, rfl, h2, r2⟩ := trodAll_cons r1
  obtain ⟨v3, vs3, d3, ds3, p3, q3, rfl, rfl, rfl, h3, r3⟩ := trodAll_cons r2
  obtain ⟨v4, vs4, d4, ds4, p4, q4, rfl, rfl, rfl, h4, r4⟩ := trodAll_cons r3
  obtain ⟨rfl, rfl, rfl⟩ := trodAll_nil r4
  obtain rfl : args = #[v0, v1, v2, v3, v4] := by cases args; simp_all
  obtain ⟨rfl, rfl⟩ := trodVars_none hV
  obtain ⟨a0, rfl, rfl, rfl, w0⟩ := open_int Tryz.underlying5 (hval 0 5 v0 rfl rfl) h0
  obtain ⟨n0, b0, rfl⟩ := nat_of_u8 w0
  have k1 := h1
  obtain ⟨q1, n1, c1, xs1, rfl, w1, m1⟩ := open_bytes_sz Tryz.underlying22 Tryz.underlying5 (by kernel_rfl) (hval 1 22 v1 rfl rfl) h1
  have y1 : n1 ≤ c1 ∧ c1 ≤ 140737488351232 := ⟨m1.1, m1.2 _ fun el sp hd => by have := sized_slice (j := 1) (t := 22) (e := 5) (elems := el) (spare := sp) hz (by kernel_rfl) (by first | (rw [← hd]; done) | (rw [← hd]; rfl)) Tryz.underlying22; have hbe : Tryz.checked.prog.bytesOf 5 = 1 := (by kernel_rfl); have hre : reachBytes = 140737488351232 := rfl; rw [hbe, hre] at this; omega⟩
  have k2 := h2
  obtain ⟨q2, n2, c2, xs2, rfl, w2, m2⟩ := open_bytes_sz Tryz.underlying22 Tryz.underlying5 (by kernel_rfl) (hval 2 22 v2 rfl rfl) h2
  have y2 : n2 ≤ c2 ∧ c2 ≤ 140737488351232 := ⟨m2.1, m2.2 _ fun el sp hd => by have := sized_slice (j := 2) (t := 22) (e := 5) (elems := el) (spare := sp) hz (by kernel_rfl) (by first | (rw [← hd]; done) | (rw [← hd]; rfl)) Tryz.underlying22; have hbe : Tryz.checked.prog.bytesOf 5 = 1 := (by kernel_rfl); have hre : reachBytes = 140737488351232 := rfl; rw [hbe, hre] at this; omega⟩
  have k3 := h3
  obtain ⟨q3, n3, c3, xs3, rfl, w3, m3⟩ := open_bytes_sz Tryz.underlying22 Tryz.underlying5 (by kernel_rfl) (hval 3 22 v3 rfl rfl) h3
  have y3 : n3 ≤ c3 ∧ c3 ≤ 140737488351232 := ⟨m3.1, m3.2 _ fun el sp hd => by have := sized_slice (j := 3) (t := 22) (e := 5) (elems := el) (spare := sp) hz (by kernel_rfl) (by first | (rw [← hd]; done) | (rw [← hd]; rfl)) Tryz.underlying22; have hbe : Tryz.checked.prog.bytesOf 5 = 1 := (by kernel_rfl); have hre : reachBytes = 140737488351232 := rfl; rw [hbe, hre] at this; omega⟩
  obtain ⟨a4, rfl, rfl, rfl, w4⟩ := open_int Tryz.underlying5 (hval 4 5 v4 rfl rfl) h4
  obtain ⟨n4, b4, rfl⟩ := nat_of_u8 w4
  clear hA0 hval0
  simp only [List.append_nil] at hW'
  refine (walk (w := W) n0 q1 n1 c1 xs1 q2 n2 c2 xs2 q3 n3 c3 xs3 n4 b0 w1 y1 w2 y2 w3 y3 b4).mono fun e W' ⟨he, bel⟩ => ?_
  subst he
  exact ⟨_, rfl, _, _, _, [], _, [], hW', trodAll_mk1 (shut_bool Tryz.underlying4 _), (trodAll_cons_mk (shut_int Tryz.underlying5 w0) (trodAll_cons_mk (shut_same laidOut (by kernel_rfl) (of_decide_eq_true (by kernel_rfl)) k1 bel) (trodAll_cons_mk (shut_same laidOut (by kernel_rfl) (of_decide_eq_true (by kernel_rfl)) k2 bel) (trodAll_cons_mk (shut_same laidOut (by kernel_rfl) (of_decide_eq_true (by kernel_rfl)) k3 bel) (trodAll_cons_mk (shut_int Tryz.underlying5 w4) trodAll_mk0))))), rfl, bel.frame _, fun h => by cases h⟩
theorem over : Rows.masseyLeastRow.holds Tryz.pinned (OpenSpec.ofChange Rows.masseyLeastSpec) :=
  OpenClaim.holds_of_wide 4 Tryz.f4 rfl rfl rfl rfl rfl rfl rfl ⟨rfl, rfl, rfl, rfl, rfl⟩ rfl rfl rfl rfl rfl (by kernel_rfl) Tryz.func4 (by kernel_rfl)
    (of_decide_eq_true (by kernel_rfl)) (by unfold Func.isWrapper; first | (rw [if_pos (by decide +kernel)]; kernel_rfl) | (rw [if_neg (by decide +kernel)]; exact ⟨rfl, rfl⟩))
    (fun os started H enc _ => lifted os started H enc)
theorem proved : Rows.MasseyLeastSaid := over
#print axioms proved
end Go.Proofs.YtfbbphddakjhhaaGreat.masseyLeast
