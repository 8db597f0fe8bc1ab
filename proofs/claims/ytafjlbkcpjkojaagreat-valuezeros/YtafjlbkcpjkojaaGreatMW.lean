/- Texts laid together: VUn, Ref07, Ref07b. Each says its own conditions. -/
import Derived.BigQuiet
import Derived.Test.YtafjlbkcpjkojaaGreatMA
import Derived.Test.YtafjlbkcpjkojaaGreatMO
import Derived.Test.YtafjlbkcpjkojaaGreatMG
import Derived.Test.YtafjlbkcpjkojaaGreatMV
import Derived.Test.YtafjlbkcpjkojaaGreatMS
import Derived.Test.YtafjlbkcpjkojaaGreatMC
/- The walk of erratumlaw07.Unlike: some bytes of a list, each once. Conditions: a list that is read; at most a thousand are asked for. -/
namespace Go.Proofs
open Go.RowKit Go.ChangeShapes Go.WideShapes
attribute [local go_sem ↓ high] builtin_ap
attribute [local go_sem] ap_sem
open Pol (Byt unl unK)

theorem Ow.drewN {W : World} {base : Nat} {v : Value} {xs : List Nat} (h : Ow W base v xs) (n : Nat) : Ow (W.drewN n) base v xs := h.block fun _ _ => rfl
theorem below_drewN {b : Nat} {W W' : World} (h : Below b W W') (n : Nat) : Below b W (W'.drewN n) := ⟨h.os, h.tape, h.output, h.size, h.block⟩
/-- None of the first j is x. -/
def nin (out : List Nat) (x j : Nat) : Bool := (out.take j).all fun y => y != x
theorem nin_zero (out : List Nat) (x : Nat) : nin out x 0 = true := by simp [nin]
theorem nin_succ (out : List Nat) (x j : Nat) (hj : j < out.length) : nin out x (j + 1) = (nin out x j && (out.getD j 0 != x)) := by
  have e : out.take (j + 1) = out.take j ++ [out.getD j 0] := by rw [List.take_add_one]; simp [List.getD, hj]
  unfold nin
  rw [e, List.all_append]; simp
theorem nin_all (out : List Nat) (x : Nat) : nin out x out.length = true ↔ x ∉ out := by
  unfold nin
  rw [List.take_length, List.all_eq_true]
  constructor
  · intro h hx
    have := h x hx
    simp at this
  · intro h y hy
    simp
    exact fun e => h (e ▸ hy)
theorem unS_yes {most : Nat} {out : List Nat} {x : Nat} (h1 : out.length < most) (h2 : x ∉ out) : Pol.unS most out x = out ++ [x] := by unfold Pol.unS; rw [if_pos ⟨h1, h2⟩]
theorem unS_no {most : Nat} {out : List Nat} {x : Nat} (h2 : ¬ x ∉ out) : Pol.unS most out x = out := by unfold Pol.unS; rw [if_neg (fun h => h2 h.2)]

set_option maxRecDepth 100000 in
set_option maxHeartbeats 2000000 in
theorem unlike_calls (q : Option Addr) (n c most : Nat) (xs : List Nat) (hm : most ≤ 1000) (w : World) (hs : Bs w q n xs) :
    Calls Tryz.prog 12 #[.slice q n c, .int .i64 (most : Int)] w fun e w' => ∃ v, e = .returned v ∧ Ow w' w.heap.size v (unl xs most) ∧ Below w.heap.size w w' := by
  obtain ⟨R, hR⟩ : ∃ R, w.heap.size = R := ⟨_, rfl⟩
  have HS : Hid (Bs w q n xs) := hs
  have HM : Hid (n ≤ 9223372036854775807) := hs.max
  clear hs
  go_enter Tryz.func12, Tryz.ntmps12
  go_wp2
  go_loopw [5, 6] (fun v i wr => ∃ k : Nat, k ≤ n ∧ i = .int .i64 (k : Int) ∧ Ow wr R v (unK xs most k) ∧ Below R w wr) (fun _ i _ => n - (intOf i).toNat)
  case atStart => exact ⟨0, by omega, rfl, by rw [Pol.unK_zero]; exact ow_nil _ _, Below.refl _ _⟩
  case round =>
    obtain ⟨k, hk, rfl, hO, hB⟩ := hrel
    have hul := Pol.unK_length xs most k
    have hub := Pol.unK_byt HS.out.byte most k
    have hus := Pol.unK_succ xs most k
    have hfull := Pol.unK_full xs most k
    have hall := Pol.unK_all xs most k
    rw [HS.out.len] at hus hall
    obtain ⟨us, huse⟩ : ∃ us, unK xs most k = us := ⟨_, rfl⟩
    obtain ⟨l, hle⟩ : ∃ l, us.length = l := ⟨_, rfl⟩
    rw [huse] at hO hul hub hus hfull hall
    rw [hle] at hul hfull
    obtain ⟨qu, cu, rfl, Su, Cu, -⟩ := hO.tell (n := l) hub hle
    by_cases hgo : k < n ∧ l < most
    · have hi : (k : Int) < (n : Int) := by omega
      have hi0 : (0 : Int) ≤ (k : Int) := by omega
      have hlm : (l : Int) < (most : Int) := by omega
      have hkw : wrap64 ((k : Int) + 1) = (k : Int) + 1 := by have := HM.out; unfold wrap64; omega
      have HKW : Hid (wrap64 ((k : Int) + 1) = (k : Int) + 1) := hkw
      have HG : Hid (k < n ∧ l < most ∧ unK xs most (k + 1) = Pol.unS most us (xs.getD k 0) ∧ us.length = l ∧ Ow wr R (.slice qu l cu) us ∧ Below R w wr ∧ Byt us ∧ Bs wr qu l us ∧ Bs wr q n xs ∧ l ≤ 1000) := ⟨hgo.1, hgo.2, hus hgo.1, hle, hO, hB, hub, Su, HS.out.below (hR ▸ hB), by omega⟩
      clear hgo hus hle hO hB hub Su Cu hfull hall huse hkw hul hm
      obtain ⟨W1, hW1⟩ : ∃ W1, W1 = wr := ⟨_, rfl⟩
      subst hW1
      go_wp2
      go_loopw [7, 8] (fun is j wr => ∃ t : Nat, t ≤ l ∧ j = .int .i64 (t : Int) ∧ is = .bool (nin us (xs.getD k 0) t) ∧ But (fun _ => False) W1 wr) (fun _ j _ => l - (intOf j).toNat)
      case atStart => exact ⟨0, by omega, rfl, by rw [nin_zero], But.refl _ _⟩
      case round =>
        obtain ⟨t, ht, rfl, rfl, hw⟩ := hrel
        by_cases hlt : t < l
        · have hti : (t : Int) < (l : Int) := by omega
          have hti0 : (0 : Int) ≤ (t : Int) := by omega
          have ht1 : (t : Int) ≤ 1000 := by have := HG.out.2.2.2.2.2.2.2.2.2; omega
          obtain ⟨a1, rfl, l1, ca⟩ := HG.out.2.2.2.2.2.2.2.1.cell t hlt
          obtain ⟨a2, rfl, l2, cb⟩ := HG.out.2.2.2.2.2.2.2.2.1.cell k HG.out.1
          replace ca := (hw.cell (p := a1.add t) (by rw [block_add]; exact l1) id).trans ca
          replace cb := (hw.cell (p := a2.add k) (by rw [block_add]; exact l2) id).trans cb
          have hn := nin_succ us (xs.getD k 0) t (by rw [HG.out.2.2.2.1]; exact hlt)
          obtain ⟨x, hx⟩ : ∃ x, xs.getD k 0 = x := ⟨_, rfl⟩
          obtain ⟨y, hy⟩ : ∃ y, us.getD t 0 = y := ⟨_, rfl⟩
          rw [hx] at cb hn ⊢
          rw [hy] at ca hn
          obtain ⟨b, hb⟩ : ∃ b, nin us x t = b := ⟨_, rfl⟩
          rw [hb] at hn ⊢
          have Hn : Hid (nin us x (t + 1) = (b && (y != x))) := hn
          have HWr : Hid (But (fun _ => False) W1 wr) := hw
          clear hn hx hy hb hw l1 l2
          cases b
          · clear ca cb
            go_wp2
            go_quiet (fail)
            go_wp2
            go_roundw
            case rel => exact ⟨t + 1, by omega, by go_num, by rw [Hn.out]; rfl, HWr.out.trans (But.drewN _ _ _)⟩
            case measure => simp [intOf]; omega
          · have hne : ((y : Int) != (x : Int)) = (y != x) := by
              rw [Bool.eq_iff_iff]; simp; omega
            go_wp2
            go_quiet (fail)
            go_wp2
            go_roundw
            case rel => exact ⟨t + 1, by omega, by go_num, by rw [Hn.out]; rfl, HWr.out.trans (But.drewN _ _ _)⟩
            case measure => simp [intOf]; omega
        · obtain rfl : t = l := by omega
          obtain ⟨a2, rfl, l2, cb⟩ := HG.out.2.2.2.2.2.2.2.2.1.cell k HG.out.1
          replace cb := (hw.cell (p := a2.add k) (by rw [block_add]; exact l2) id).trans cb
          have hna := nin_all us (xs.getD k 0)
          rw [HG.out.2.2.2.1] at hna
          have hus := HG.out.2.2.1
          obtain ⟨x, hx⟩ : ∃ x, xs.getD k 0 = x := ⟨_, rfl⟩
          rw [hx] at cb hna hus ⊢
          have hO1 := HG.out.2.2.2.2.1.but hw (fun _ _ h => h)
          have hRs : R ≤ W1.heap.size := hR ▸ HG.out.2.2.2.2.2.1.size
          have hB1 := HG.out.2.2.2.2.2.1.trans (hw.below hRs (fun _ h => h.elim))
          have hRw : R ≤ wr.heap.size := by have := hw.size; omega
          have hkn : k + 1 ≤ n := HG.out.1
          by_cases hin : x ∈ us
          · have hb : nin us x t = false := by
              cases hc : nin us x t with
              | false => rfl
              | true => exact absurd hin (hna.1 hc)
            rw [hb]
            have HZ : Hid (Ow wr R (.slice qu t cu) (unK xs most (k + 1)) ∧ Below R w wr) := ⟨by rw [hus, unS_no (fun h => h hin)]; exact hO1, hB1⟩
            clear hO1 hB1 hus hna hx hw cb l2 hb hin HG
            go_wp2
            go_roundw
            case rel => exact ⟨k + 1, hkn, by rw [HKW.out]; rfl, HZ.out⟩
            case measure => rw [HKW.out]; simp [intOf]; omega
          · have hb : nin us x t = true := hna.2 hin
            rw [hb]
            obtain ⟨g, cg, W', hap, hO', hbw⟩ := run_append_one wr R _ us x hO1 (by have := HG.out.2.2.2.2.2.2.2.2.2; have := HG.out.2.2.2.1; omega) hRw
            obtain ⟨L, hL⟩ : ∃ L, (us ++ [x]).length = L := ⟨_, rfl⟩
            rw [hL] at hap hO'
            have ha1 := ap_ok hap
            have ha2 := ap_v hap
            have ha3 := ap_w hap
            have HZ : Hid (Ow W' R (.slice (some ⟨g, 0, none⟩) L cg) (unK xs most (k + 1)) ∧ Below R w W') := ⟨by rw [hus, unS_yes (by rw [HG.out.2.2.2.1]; exact HG.out.2.1) hin]; exact hO', hB1.trans (hbw _ (Nat.le_refl _))⟩
            have hki : (k : Int) < (n : Int) := by omega
            clear hO1 hB1 hus hna hx hw l2 hb hin HG hO' hbw hap hL
            go_wp2
            go_roundw
            case rel => exact ⟨k + 1, hkn, by rw [HKW.out]; rfl, HZ.out⟩
            case measure => rw [HKW.out]; simp [intOf]; omega
    · have hfin : us = unl xs most := by
        by_cases h1 : k < n
        · exact hfull (by omega)
        · exact hall (by omega)
      have HZ : Hid (Ow wr R (.slice qu l cu) (unl xs most) ∧ Below R w wr) := ⟨hfin ▸ hO, hB⟩
      clear hfin hO hB hus hfull hall huse hub Su Cu hle hul
      by_cases h1 : k < n
      · have h1' : (k : Int) < (n : Int) := by omega
        have h2' : ¬ (l : Int) < (most : Int) := by omega
        go_wp2
        go_ret
        exact ⟨_, rfl, hR.symm ▸ HZ.out.1, hR.symm ▸ HZ.out.2⟩
      · have h1' : ¬ (k : Int) < (n : Int) := by omega
        go_wp2
        go_ret
        exact ⟨_, rfl, hR.symm ▸ HZ.out.1, hR.symm ▸ HZ.out.2⟩
end Go.Proofs
/- The walks of the document's values (erratumref07): At, All, Derive, Zeros, From. Conditions: lists of at most a million bytes. -/
namespace Go.Proofs
open Go.RowKit Go.ChangeShapes Go.WideShapes
attribute [local go_sem ↓ high] builtin_ap
attribute [local go_sem] ap_sem
open Pol (IsN Dg ofL Byt vl vlK zl zlK frL deK)

set_option maxRecDepth 100000 in
set_option maxHeartbeats 1000000 in
theorem r7at_calls (q : Option Addr) (n c x : Nat) (xs : List Nat) (hx : x < 256) (hn : n ≤ 1000000) (w : World) (hs : Bs w q n xs) :
    Calls Tryz.prog 14 #[.slice q n c, .int .u8 x] w fun e w' => e = .returned (.int .u8 (vl xs x : Nat)) ∧ Below w.heap.size w w' := by
  have HS : Hid (Bs w q n xs) := hs
  clear hs
  go_enter Tryz.func14, Tryz.ntmps14
  go_wp2
  go_loopw [5, 6] (fun s i wr => ∃ k : Nat, k ≤ n ∧ i = .int .i64 (k : Int) ∧ s = .int .u8 (vlK xs x k : Nat) ∧ But (fun _ => False) w wr) (fun _ i _ => n - (intOf i).toNat)
  case atStart => exact ⟨0, by omega, rfl, rfl, But.refl _ _⟩
  case round =>
    obtain ⟨k, hk, rfl, rfl, hB⟩ := hrel
    by_cases hlt : k < n
    · have hi : (k : Int) < (n : Int) := by omega
      have hi0 : (0 : Int) ≤ (k : Int) := by omega
      have hk6 : (k : Int) ≤ 1000000 := by omega
      obtain ⟨a, rfl, la, ca⟩ := HS.out.cell k hlt
      replace ca := (hB.cell (p := a.add k) (by rw [block_add]; exact la) id).trans ca
      have hbx := HS.out.byte k
      have hst := Pol.vlK_succ xs x k HS.out.byte hx
      have hpl := Gf.powZ_lt x (k : Int) hx
      have C1 : Hid (∀ W, Calls Tryz.prog 39 #[.int .u8 x, .int .i64 (k : Int)] W fun e w' => e = .returned (.int .u8 (Gf.powZ x (k : Int) : Nat)) ∧ w' = W) := fun W => rpow_calls x (k : Int) hx W
      obtain ⟨b, hb⟩ : ∃ b, Gf.powZ x (k : Int) = b := ⟨_, rfl⟩
      obtain ⟨y, hy⟩ : ∃ y, xs.getD k 0 = y := ⟨_, rfl⟩
      rw [hb] at C1 hst hpl
      rw [hy] at ca hbx hst
      have C2 : Hid (∀ W, Calls Tryz.prog 38 #[.int .u8 y, .int .u8 b] W fun e w' => e = .returned (.int .u8 (Gf.mul y b : Nat)) ∧ w' = W) := fun W => rmul_calls y b hbx W
      have hsl := Pol.vlK_lt xs x k
      obtain ⟨s, hse⟩ : ∃ s, vlK xs x k = s := ⟨_, rfl⟩
      rw [hse] at hst hsl ⊢
      have hxo := u8_xor_nat s (Gf.mul y b) hsl (Gf.mul_lt _ _ hbx)
      have HW : Hid (vlK xs x (k + 1) = s ^^^ Gf.mul y b ∧ But (fun _ => False) w wr) := ⟨hst, hB⟩
      clear hst hB hb hy hse la hbx hsl hpl
      go_wp2
      go_quiet ((first | (go_at_call 39; with_reducible refine Calls.quiet_of_same (C1.out _)) | (go_at_call 38; with_reducible refine Calls.quiet_of_same (C2.out _))))
      go_wp2
      go_roundw
      case rel => exact ⟨k + 1, by omega, by go_num, by rw [HW.out.1], HW.out.2.trans (But.drewN _ _ _)⟩
      case measure => simp [intOf]; omega
    · obtain rfl : k = n := by omega
      have e0 : vlK xs x k = vl xs x := by rw [← HS.out.len]; rfl
      rw [e0]
      have HB : Hid (Below w.heap.size w wr) := hB.below (Nat.le_refl _) (fun _ h => h.elim)
      clear hB e0
      go_wp2
      go_ret
      exact ⟨rfl, HB.out⟩

set_option maxRecDepth 100000 in
set_option maxHeartbeats 1000000 in
theorem r7all_calls (q p : Option Addr) (n c m d : Nat) (xs ys : List Nat) (hn : n ≤ 1000000) (hm : m ≤ 1000000) (w : World) (hs : Bs w q n xs) (hy : Bs w p m ys) :
    Calls Tryz.prog 17 #[.slice q n c, .slice p m d] w fun e w' => ∃ v, e = .returned v ∧ Ow w' w.heap.size v (ys.map (vl xs)) ∧ Below w.heap.size w w' := by
  have HS : Hid (Bs w q n xs ∧ Bs w p m ys) := ⟨hs, hy⟩
  obtain ⟨R, hR⟩ : ∃ R, w.heap.size = R := ⟨_, rfl⟩
  clear hs hy
  go_enter Tryz.func17, Tryz.ntmps17
  go_wp2
  go_loopw [5, 6] (fun o i wr => ∃ k : Nat, k ≤ m ∧ i = .int .i64 (k : Int) ∧ Ow wr R o ((ys.take k).map (vl xs)) ∧ Below R w wr) (fun _ i _ => m - (intOf i).toNat)
  case atStart => exact ⟨0, by omega, rfl, ow_nil _ _, Below.refl _ _⟩
  case round =>
    obtain ⟨k, hk, rfl, hO, hB⟩ := hrel
    by_cases hlt : k < m
    · have hi : (k : Int) < (m : Int) := by omega
      have hi0 : (0 : Int) ≤ (k : Int) := by omega
      have hk6 : (k : Int) ≤ 1000000 := by omega
      obtain ⟨a, rfl, la, ca⟩ := (HS.out.2.below (hR.symm ▸ hB)).cell k hlt
      have hbx := HS.out.2.byte k
      have hts := Pol.take_snoc' ys k (by rw [HS.out.2.len]; exact hlt)
      obtain ⟨x, hx⟩ : ∃ x, ys.getD k 0 = x := ⟨_, rfl⟩
      rw [hx] at ca hbx hts
      have K := r7at_calls q n c x xs hbx hn wr (HS.out.1.below (hR.symm ▸ hB))
      have hlu : ((ys.take k).map (vl xs)).length ≤ 1000000000 := by rw [List.length_map, List.length_take]; omega
      have hmp : (ys.take (k + 1)).map (vl xs) = (ys.take k).map (vl xs) ++ [vl xs x] := by rw [hts, List.map_append]; rfl
      obtain ⟨us, hus⟩ : ∃ us, (ys.take k).map (vl xs) = us := ⟨_, rfl⟩
      rw [hus] at hO hlu hmp
      have hRw : R ≤ wr.heap.size := hR ▸ hB.size
      have HO : Hid (Ow wr R u5 us ∧ Below R w wr ∧ us.length ≤ 1000000000) := ⟨hO, hB, hlu⟩
      clear hO hB hlu hx hts hus la
      go_wp2_with fail
      refine K.mono ?_
      rintro e w1 ⟨rfl, hb⟩
      clear K
      obtain ⟨y, hye⟩ : ∃ y, vl xs x = y := ⟨_, rfl⟩
      rw [hye] at hmp ⊢
      have hO1 := HO.out.1.below hb
      have hRw1 : R ≤ w1.heap.size := Nat.le_trans hRw hb.size
      obtain ⟨g, cg, W', hap, hO', hbw⟩ := run_append_one w1 R _ us y hO1 HO.out.2.2 hRw1
      obtain ⟨L, hL⟩ : ∃ L, (us ++ [y]).length = L := ⟨_, rfl⟩
      rw [hL] at hap hO'
      have ha1 := ap_ok hap
      have ha2 := ap_v hap
      have ha3 := ap_w hap
      have HZ : Hid (Ow W' R (.slice (some ⟨g, 0, none⟩) L cg) ((ys.take (k + 1)).map (vl xs)) ∧ Below R w W') := ⟨by rw [hmp]; exact hO', (HO.out.2.1.trans (hb.mono hRw)).trans (hbw _ (Nat.le_refl _))⟩
      clear hO' hbw hap hL hO1 hb hmp hye HO ca
      go_wp2
      go_roundw
      case rel => exact ⟨k + 1, by omega, by go_num, HZ.out⟩
      case measure => simp [intOf]; omega
    · obtain rfl : k = m := by omega
      have e0 : ys.take k = ys := List.take_of_length_le (by rw [HS.out.2.len]; exact Nat.le_refl _)
      rw [e0] at hO
      go_wp2
      go_ret
      exact ⟨_, rfl, hR.symm ▸ hO, hR.symm ▸ hB⟩

set_option maxRecDepth 100000 in
set_option maxHeartbeats 1000000 in
theorem r7derive_calls (q : Option Addr) (n c : Nat) (xs zs : List Nat) (hz : IsN zs (Pol.der (ofL xs))) (hn : n ≤ 1000000) (w : World) (hs : Bs w q n xs) :
    Calls Tryz.prog 19 #[.slice q n c] w fun e w' => ∃ v, e = .returned v ∧ Ow w' w.heap.size v zs ∧ Below w.heap.size w w' := by
  obtain ⟨R, hR⟩ : ∃ R, w.heap.size = R := ⟨_, rfl⟩
  have HS : Hid (Bs w q n xs ∧ IsN zs (ofL (deK xs (n - 1)))) := ⟨hs, by rw [← hs.len, Pol.deK_der]; exact hz⟩
  clear hs hz
  go_enter Tryz.func19, Tryz.ntmps19
  go_wp2
  go_loopw [3, 4] (fun o i wr => ∃ k : Nat, k ≤ n - 1 ∧ i = .int .i64 ((k + 1 : Nat) : Int) ∧ Ow wr R o (deK xs k) ∧ Below R w wr) (fun _ i _ => n + 1 - (intOf i).toNat)
  case atStart => exact ⟨0, by omega, rfl, ow_nil _ _, Below.refl _ _⟩
  case round =>
    obtain ⟨k, hk, rfl, hO, hB⟩ := hrel
    obtain ⟨i, hie⟩ : ∃ i, k + 1 = i := ⟨_, rfl⟩
    rw [hie]
    by_cases hlt : i < n
    · have hi : (i : Int) < (n : Int) := by omega
      have hi0 : (0 : Int) ≤ (i : Int) := by omega
      have hi6 : (i : Int) ≤ 1000000 := by omega
      have hRw : R ≤ wr.heap.size := hR ▸ hB.size
      have hds := Pol.deK_succ xs k
      have hlu : (deK xs k).length ≤ 1000000000 := by rw [Pol.deK_length]; omega
      unfold Pol.de1 at hds
      rw [hie] at hds
      obtain ⟨us, hus⟩ : ∃ us, deK xs k = us := ⟨_, rfl⟩
      rw [hus] at hO hlu hds
      by_cases hev : k % 2 = 0
      · rw [if_pos hev] at hds
        have hm1 : (i : Int).tmod 2 = 1 := by rw [Int.tmod_eq_emod_of_nonneg hi0]; omega
        obtain ⟨a, rfl, la, ca⟩ := (HS.out.1.below (hR.symm ▸ hB)).cell i hlt
        obtain ⟨x, hx⟩ : ∃ x, xs.getD i 0 = x := ⟨_, rfl⟩
        rw [hx] at ca hds
        obtain ⟨g, cg, W', hap, hO', hbw⟩ := run_append_one wr R _ us x hO hlu hRw
        obtain ⟨L, hL⟩ : ∃ L, (us ++ [x]).length = L := ⟨_, rfl⟩
        rw [hL] at hap hO'
        have ha1 := ap_ok hap
        have ha2 := ap_v hap
        have ha3 := ap_w hap
        have HZ : Hid (Ow W' R (.slice (some ⟨g, 0, none⟩) L cg) (deK xs (k + 1)) ∧ Below R w W') := ⟨by rw [hie, hds]; exact hO', hB.trans (hbw _ (Nat.le_refl _))⟩
        clear hO' hbw hap hL hO hB hlu hus hds hx la
        go_wp2
        go_roundw
        case rel => exact ⟨k + 1, by omega, by go_num, HZ.out⟩
        case measure => simp [intOf]; omega
      · rw [if_neg hev] at hds
        have hm1 : (i : Int).tmod 2 = 0 := by rw [Int.tmod_eq_emod_of_nonneg hi0]; omega
        obtain ⟨g, cg, W', hap, hO', hbw⟩ := run_append_one wr R _ us 0 hO hlu hRw
        obtain ⟨L, hL⟩ : ∃ L, (us ++ [0]).length = L := ⟨_, rfl⟩
        rw [hL] at hap hO'
        rw [show ((0 : Nat) : Int) = 0 from rfl] at hap
        have ha1 := ap_ok hap
        have ha2 := ap_v hap
        have ha3 := ap_w hap
        have HZ : Hid (Ow W' R (.slice (some ⟨g, 0, none⟩) L cg) (deK xs (k + 1)) ∧ Below R w W') := ⟨by rw [hie, hds]; exact hO', hB.trans (hbw _ (Nat.le_refl _))⟩
        clear hO' hbw hap hL hO hB hlu hus hds
        go_wp2
        go_roundw
        case rel => exact ⟨k + 1, by omega, by go_num, HZ.out⟩
        case measure => simp [intOf]; omega
    · have hlt' : ¬ (i : Int) < (n : Int) := by omega
      have hkn : n - 1 = k := by omega
      have h1 := HS.out.2
      rw [hkn] at h1
      obtain ⟨q2, c2, rfl, S2, C2, -⟩ := hO.tell (n := k) (Pol.deK_byt HS.out.1.byte k) (Pol.deK_length _ _)
      have K := rnorm_calls q2 k c2 _ zs h1 (by omega) C2 wr S2
      have HB : Hid (Below R w wr) := hB
      have hRw : R ≤ wr.heap.size := hR ▸ hB.size
      clear hO hB S2 HS h1
      go_wp2_with fail
      refine K.mono ?_
      rintro e w1 ⟨v, rfl, hO, hb⟩
      go_wp2
      go_ret
      subst hR
      exact ⟨_, rfl, hO.mono hRw, HB.out.trans (hb.mono hRw)⟩

set_option maxRecDepth 100000 in
set_option maxHeartbeats 1000000 in
theorem r7zeros_calls (q : Option Addr) (n c : Nat) (xs : List Nat) (hn : n ≤ 1000000) (w : World) (hs : Bs w q n xs) :
    Calls Tryz.prog 23 #[.slice q n c] w fun e w' => ∃ v, e = .returned v ∧ Ow w' w.heap.size v (zl xs) ∧ Below w.heap.size w w' := by
  obtain ⟨R, hR⟩ : ∃ R, w.heap.size = R := ⟨_, rfl⟩
  have HS : Hid (Bs w q n xs) := hs
  clear hs
  go_enter Tryz.func23, Tryz.ntmps23
  go_wp2
  go_loopw [3, 4] (fun o i wr => ∃ t : Nat, t ≤ 256 ∧ i = .int .i64 (t : Int) ∧ Ow wr R o (zlK xs t) ∧ Below R w wr) (fun _ i _ => 256 - (intOf i).toNat)
  case atStart => exact ⟨0, by omega, rfl, ow_nil _ _, Below.refl _ _⟩
  case round =>
    obtain ⟨t, ht, rfl, hO, hB⟩ := hrel
    by_cases hlt : t < 256
    · have hi : (t : Int) < 256 := by omega
      have hu8 : IntKind.u8.wrap (t : Int) = (t : Int) := by rw [IntKind.wrap_u8]; omega
      have K := r7at_calls q n c t xs hlt hn wr (HS.out.below (hR.symm ▸ hB))
      have hRw : R ≤ wr.heap.size := hR ▸ hB.size
      have HO : Hid (Ow wr R u3 (zlK xs t) ∧ Below R w wr) := ⟨hO, hB⟩
      clear hO hB
      go_wp2_with fail
      refine K.mono ?_
      rintro e w1 ⟨rfl, hb⟩
      clear K
      have hO1 := HO.out.1.below hb
      have hB1 := HO.out.2.trans (hb.mono hRw)
      have hRw1 : R ≤ w1.heap.size := Nat.le_trans hRw hb.size
      have hy1 := Pol.zlK_yes xs t
      have hy2 := Pol.zlK_no xs t
      obtain ⟨y, hy⟩ : ∃ y, vl xs t = y := ⟨_, rfl⟩
      rw [hy] at hy1 hy2 ⊢
      have hlu : (zlK xs t).length ≤ 1000000000 := by have := Pol.zlK_length xs t; omega
      obtain ⟨us, hus⟩ : ∃ us, zlK xs t = us := ⟨_, rfl⟩
      rw [hus] at hO1 hlu hy1 hy2
      by_cases h0 : y = 0
      · subst h0
        have HU : Hid (zlK xs (t + 1) = us ++ [t]) := hy1 rfl
        obtain ⟨g, cg, W', hap, hO', hbw⟩ := run_append_one w1 R _ us t hO1 hlu hRw1
        obtain ⟨L, hL⟩ : ∃ L, (us ++ [t]).length = L := ⟨_, rfl⟩
        rw [hL] at hap hO'
        have ha1 := ap_ok hap
        have ha2 := ap_v hap
        have ha3 := ap_w hap
        have HZ' : Hid (Ow W' R (.slice (some ⟨g, 0, none⟩) L cg) (us ++ [t]) ∧ Below R w W') := ⟨hO', hB1.trans (hbw _ (Nat.le_refl _))⟩
        clear hO' hbw hap hL hlu hus hy1 hy2 hy hO1 hB1 hb HO
        go_wp2
        go_roundw
        case rel => exact ⟨t + 1, by omega, by go_num, by rw [HU.out]; exact HZ'.out.1, HZ'.out.2⟩
        case measure => simp [intOf]; omega
      · have h0' : ((y : Int) == 0) = false := by simp; omega
        have HZ' : Hid (Ow w1 R u3 (zlK xs (t + 1)) ∧ Below R w w1) := ⟨by rw [hy2 h0]; exact hO1, hB1⟩
        clear hlu hus hy1 hy2 hy hO1 hB1 hb HO
        go_wp2
        go_roundw
        case rel => exact ⟨t + 1, by omega, by go_num, HZ'.out⟩
        case measure => simp [intOf]; omega
    · obtain rfl : t = 256 := by omega
      go_wp2
      go_ret
      exact ⟨_, rfl, hR.symm ▸ hO, hR.symm ▸ hB⟩

set_option maxRecDepth 100000 in
set_option maxHeartbeats 1000000 in
theorem r7from_calls (q : Option Addr) (n c : Nat) (xs : List Nat) (hn : n ≤ 1000000) (w : World) (hs : Bs w q n xs) :
    Calls Tryz.prog 21 #[.slice q n c] w fun e w' => ∃ v, e = .returned v ∧ Ow w' w.heap.size v (frL xs) ∧ Below w.heap.size w w' := by
  obtain ⟨R, hR⟩ : ∃ R, w.heap.size = R := ⟨_, rfl⟩
  have HS : Hid (Bs w q n xs) := hs
  have HI : Hid (Ow (w.alloc (.cells #[.int .u8 1] 5)) R (.slice (some ⟨R, 0, none⟩) 1 1) [1] ∧ Below R w (w.alloc (.cells #[.int .u8 1] 5))) := ⟨hR ▸ ow_one w (Nat.le_refl _) 1, hR ▸ (Below.refl _ w).alloc (Nat.le_refl _) _⟩
  clear hs
  go_enter Tryz.func21, Tryz.ntmps21
  go_wp2
  go_loopw [3, 4] (fun o i wr => ∃ t : Nat, t ≤ n ∧ i = .int .i64 (t : Int) ∧ Ow wr R o (frL (xs.take t)) ∧ Below R w wr) (fun _ i _ => n - (intOf i).toNat)
  case atStart => exact ⟨0, by omega, rfl, by rw [List.take_zero, Pol.frL_nil]; exact HI.out.1, HI.out.2⟩
  case round =>
    clear HI
    obtain ⟨t, ht, rfl, hO, hB⟩ := hrel
    by_cases hlt : t < n
    · have hi : (t : Int) < (n : Int) := by omega
      have hi0 : (0 : Int) ≤ (t : Int) := by omega
      have hk6 : (t : Int) ≤ 1000000 := by omega
      have hRw : R ≤ wr.heap.size := hR ▸ hB.size
      obtain ⟨a, rfl, la, ca⟩ := (HS.out.below (hR.symm ▸ hB)).cell t hlt
      have hbx := HS.out.byte t
      have hN := Pol.frL_snoc (xs.take t) (xs.getD t 0)
      rw [← Pol.take_snoc' xs t (by rw [HS.out.len]; exact hlt)] at hN
      obtain ⟨z, hze⟩ : ∃ z, xs.getD t 0 = z := ⟨_, rfl⟩
      rw [hze] at ca hbx hN
      obtain ⟨q2, c2, rfl, S2, C2, -⟩ := hO.tell (n := t + 1) (Pol.frL_isN _).byt (by rw [Pol.frL_length, List.length_take, HS.out.len]; omega)
      have S : Bs (wr.alloc (.cells #[.int .u8 (z : Nat), .int .u8 1] 5)) (some ⟨wr.heap.size, 0, none⟩) 2 [z, 1] := bs_lits wr _ [z, 1] _ 2 rfl rfl rfl (by simp [hbx]) (by simp)
      have K := rpmul_calls q2 (some ⟨wr.heap.size, 0, none⟩) (t + 1) c2 2 2 _ [z, 1] _ hN (by omega) (by omega) _ (S2.alloc _) S
      have HB : Hid (Below R w (wr.alloc (.cells #[.int .u8 (z : Nat), .int .u8 1] 5))) := hB.alloc hRw _
      clear hO hB S2 S hN hze hbx la
      go_wp2_with fail
      refine K.mono ?_
      rintro e w1 ⟨v, rfl, hO, hb⟩
      clear K
      have HZ : Hid (Ow w1 R v (frL (xs.take (t + 1))) ∧ Below R w w1) := ⟨hO.mono (by simp; omega), HB.out.trans (hb.mono (by simp; omega))⟩
      clear hO hb HB
      go_wp2
      go_roundw
      case rel => exact ⟨t + 1, by omega, by go_num, HZ.out⟩
      case measure => simp [intOf]; omega
    · obtain rfl : t = n := by omega
      have e0 : xs.take t = xs := List.take_of_length_le (by rw [HS.out.len]; exact Nat.le_refl _)
      rw [e0] at hO
      go_wp2
      go_ret
      exact ⟨_, rfl, hR.symm ▸ hO, hR.symm ▸ hB⟩
end Go.Proofs
/- The walk of the document's Through (erratumref07.Through): term by term. Conditions: lists of at most a million bytes. -/
namespace Go.Proofs
open Go.RowKit Go.ChangeShapes Go.WideShapes
attribute [local go_sem ↓ high] builtin_ap
attribute [local go_sem] ap_sem
open Pol (IsN Dg ofL Byt vl frL IsTh Thr oth Lag)

set_option maxRecDepth 100000 in
set_option maxHeartbeats 2000000 in
theorem r7through_calls (n c m d : Nat) (q p : Option Addr) (xs ys zs : List Nat) (b : Bool) (hT : IsTh xs ys zs b) (hn : n ≤ 100000) (w : World) (hx : Bs w q n xs) (hy : Bs w p m ys) :
    Calls Tryz.prog 11 #[.slice q n c, .slice p m d] w fun r w' => ∃ v, r = .returned (.tuple #[v, .bool b]) ∧ Ow w' w.heap.size v zs ∧ Below w.heap.size w w' := by
  have hlx := hx.len
  have hly := hy.len
  by_cases hnm : n = m
  · subst hnm
    obtain ⟨R, hR⟩ : ∃ R, w.heap.size = R := ⟨_, rfl⟩
    have HS : Hid (Bs w q n xs ∧ Bs w p n ys ∧ IsTh xs ys zs b ∧ xs.length = n ∧ ys.length = n) := ⟨hx, hy, hT, hlx, hly⟩
    clear hx hy hT hlx hly
    go_enter Tryz.func11, Tryz.ntmps11
    go_wp2
    go_loopw [6, 7] (fun o i wr => ∃ (k : Nat) (ss : List Nat), k ≤ n ∧ i = .int .i64 (k : Int) ∧ Ow wr R o ss ∧ IsN ss (ofL ss) ∧ Lag xs ys n k (ofL ss) ∧ Below R w wr) (fun _ i _ => n - (intOf i).toNat)
    case atStart => exact ⟨0, [], by omega, rfl, ow_nil _ _, by rw [Pol.ofL_nil]; exact Pol.isN_nil, by rw [Pol.ofL_nil]; exact Pol.lag_zero xs ys n, Below.refl _ _⟩
    case round =>
      obtain ⟨k, ss, hk, rfl, hO6, hN6, hLg, hB⟩ := hrel
      by_cases hlt : k < n
      · have hi : (k : Int) < (n : Int) := by omega
        have hi0 : (0 : Int) ≤ (k : Int) := by omega
        have hk6 : (k : Int) ≤ 1000000 := by omega
        have hRw : R ≤ wr.heap.size := hR ▸ hB.size
        have hl6 : ss.length ≤ n := hN6.dg.le hLg.bd
        obtain ⟨n6, hn6⟩ : ∃ n6, ss.length = n6 := ⟨_, rfl⟩
        rw [hn6] at hl6
        obtain ⟨q6, c6, rfl, S6, C6, -⟩ := hO6.tell (n := n6) hN6.byt hn6
        obtain ⟨a, hqa, la, ca⟩ := (HS.out.1.below (hR.symm ▸ hB)).cell k hlt
        obtain ⟨x, hxe⟩ : ∃ x, xs.getD k 0 = x := ⟨_, rfl⟩
        have HG : Hid (IsN ss (ofL ss) ∧ Lag xs ys n k (ofL ss) ∧ Below R w wr ∧ Bs wr q6 n6 ss ∧ Bs wr q n xs ∧ Bs wr p n ys ∧ n6 ≤ n ∧ xs.getD k 0 = x ∧ ss.length = n6) := ⟨hN6, hLg, hB, S6, HS.out.1.below (hR.symm ▸ hB), HS.out.2.1.below (hR.symm ▸ hB), hl6, hxe, hn6⟩
        obtain ⟨W1, hW1⟩ : ∃ W1, W1 = wr := ⟨_, rfl⟩
        subst hW1
        obtain ⟨R2, hR2⟩ : ∃ R2, W1.heap.size = R2 := ⟨_, rfl⟩
        subst hqa
        clear hO6 hN6 hLg hB S6 C6 hl6 hn6 hxe ca la
        go_wp2
        go_loopw [8, 9] (fun o j wr => ∃ t : Nat, t ≤ n ∧ j = .int .i64 (t : Int) ∧ Ow wr R2 o (oth xs k t) ∧ (∀ i, i < t → i ≠ k → xs.getD i 0 ≠ xs.getD k 0) ∧ Below R2 W1 wr) (fun _ j _ => n - (intOf j).toNat)
        case atStart => exact ⟨0, by omega, rfl, ow_nil _ _, fun i hi => absurd hi (Nat.not_lt_zero i), Below.refl _ _⟩
        case round =>
          obtain ⟨t, ht, rfl, hO8, hne, hB⟩ := hrel
          have hR2w : R2 ≤ wr.heap.size := hR2 ▸ hB.size
          by_cases htl : t < n
          · have hti : (t : Int) < (n : Int) := by omega
            have hti0 : (0 : Int) ≤ (t : Int) := by omega
            have ht6 : (t : Int) ≤ 1000000 := by omega
            obtain ⟨a', ea, l1, ca⟩ := (HG.out.2.2.2.2.1.below (hR2.symm ▸ hB)).cell t htl
            obtain rfl : a = a' := Option.some.inj ea
            obtain ⟨a', ea2, l2, cb⟩ := (HG.out.2.2.2.2.1.below (hR2.symm ▸ hB)).cell k hlt
            obtain rfl : a = a' := Option.some.inj ea2
            by_cases htk : t = k
            · subst htk
              have HZ : Hid (Ow wr R2 u8 (oth xs t (t + 1)) ∧ (∀ i, i < t + 1 → i ≠ t → xs.getD i 0 ≠ xs.getD t 0) ∧ Below R2 W1 wr) := ⟨by rw [Pol.oth_same]; exact hO8, fun i h1 h2 => hne i (by omega) h2, hB⟩
              clear ca cb ea ea2 l1 l2 hO8 hne hB
              go_wp2
              go_quiet (fail)
              go_wp2
              go_roundw
              case rel => exact ⟨t + 1, by omega, by go_num, HZ.out.1.drewN _, HZ.out.2.1, below_drewN HZ.out.2.2 _⟩
              case measure => simp [intOf]; omega
            · have htk' : ((t : Int) != (k : Int)) = true := by simp; omega
              have hoo := Pol.oth_other xs k t htk
              have hlo : (oth xs k t).length ≤ 1000000000 := by have := Pol.oth_le xs k t; omega
              obtain ⟨y, hye⟩ : ∃ y, xs.getD t 0 = y := ⟨_, rfl⟩
              rw [hye] at ca hoo
              rw [HG.out.2.2.2.2.2.2.2.1] at cb
              obtain ⟨us, hus⟩ : ∃ us, oth xs k t = us := ⟨_, rfl⟩
              rw [hus] at hO8 hoo hlo
              by_cases hxy : y = x
              · subst hxy
                have HT : Hid (¬ xs.Nodup ∧ Below R w wr) := ⟨fun hnd => Pol.ne_of_nodup hnd k t (by rw [HS.out.2.2.2.1]; exact hlt) (by rw [HS.out.2.2.2.1]; exact htl) htk (by rw [hye, HG.out.2.2.2.2.2.2.2.1]), HG.out.2.2.1.trans (hB.mono (by omega))⟩
                clear hO8 hne hB hoo hlo hus hye ea ea2 l1 l2
                go_wp2
                go_quiet (fail)
                go_wp2
                go_ret2
                have hno : IsTh xs ys [] false := .inr ⟨rfl, rfl, fun hc => HT.out.1 hc.2⟩
                obtain ⟨rfl, rfl⟩ := HS.out.2.2.1.unique HS.out.1.byte hno
                exact ⟨_, rfl, ow_nil _ _, hR.symm ▸ below_drewN HT.out.2 _⟩
              · have hxy' : ((y : Int) == (x : Int)) = false := by simp; omega
                have HQ : Hid (Ow wr R2 u8 us ∧ us.length ≤ 1000000000 ∧ oth xs k (t + 1) = us ++ [y] ∧ (∀ i, i < t + 1 → i ≠ k → xs.getD i 0 ≠ xs.getD k 0) ∧ Below R2 W1 wr ∧ wr.cell? (a.add t) = some (.int .u8 (y : Nat))) := ⟨hO8, hlo, hoo, fun i h1 h2 => by
                  rcases Nat.lt_or_ge i t with h3 | h3
                  · exact hne i h3 h2
                  · obtain rfl : i = t := by omega
                    rw [hye, HG.out.2.2.2.2.2.2.2.1]; exact hxy, hB, ca⟩
                clear hO8 hne hB hoo hlo hus hye ea ea2 l1 l2
                go_wp2
                go_quiet (fail)
                have hcd : (wr.drewN nq).cell? (a.add t) = some (.int .u8 (y : Nat)) := HQ.out.2.2.2.2.2
                obtain ⟨g, cg, W', hap, hO', hbw⟩ := run_append_one (wr.drewN nq) R2 _ us y (HQ.out.1.drewN _) HQ.out.2.1 hR2w
                obtain ⟨L, hL⟩ : ∃ L, (us ++ [y]).length = L := ⟨_, rfl⟩
                rw [hL] at hap hO'
                have ha1 := ap_ok hap
                have ha2 := ap_v hap
                have ha3 := ap_w hap
                have HZ : Hid (Ow W' R2 (.slice (some ⟨g, 0, none⟩) L cg) (oth xs k (t + 1)) ∧ (∀ i, i < t + 1 → i ≠ k → xs.getD i 0 ≠ xs.getD k 0) ∧ Below R2 W1 W') := ⟨by rw [HQ.out.2.2.1]; exact hO', HQ.out.2.2.2.1, (below_drewN HQ.out.2.2.2.2.1 _).trans (hbw _ (Nat.le_refl _))⟩
                obtain ⟨wd, hwd⟩ : ∃ wd, wr.drewN nq = wd := ⟨_, rfl⟩
                rw [hwd] at hcd ha1 ha2 ha3 ⊢
                clear hO' hbw hap hL HQ hwd ca cb
                go_wp2
                go_roundw
                case rel => exact ⟨t + 1, by omega, by go_num, HZ.out⟩
                case measure => simp [intOf]; omega
          · obtain rfl : t = n := by omega
            have hl8 : (oth xs k t).length ≤ 1000000 := by have := Pol.oth_le xs k t; omega
            obtain ⟨n8, hn8⟩ : ∃ n8, (oth xs k t).length = n8 := ⟨_, rfl⟩
            rw [hn8] at hl8
            obtain ⟨q8, c8, rfl, S8, C8, -⟩ := hO8.tell (n := n8) (Pol.oth_byt HS.out.1.byte k t) hn8
            have K := r7from_calls q8 n8 c8 (oth xs k t) hl8 wr S8
            have HQ : Hid ((∀ i, i < t → i ≠ k → xs.getD i 0 ≠ xs.getD k 0) ∧ Below R2 W1 wr ∧ n8 ≤ t ∧ (oth xs k t).length = n8) := ⟨hne, hB, by have := Pol.oth_le xs k t; omega, hn8⟩
            clear hO8 hne hB S8 C8 hn8
            go_wp2_with fail
            refine K.mono ?_
            rintro e w2 ⟨v, rfl, hO, hb⟩
            clear K
            obtain ⟨ps, hps⟩ : ∃ ps, frL (oth xs k t) = ps := ⟨_, rfl⟩
            rw [hps] at hO
            have hpb : Byt ps := hps ▸ (Pol.frL_isN _).byt
            have hpl : ps.length = n8 + 1 := by rw [← hps, Pol.frL_length, HQ.out.2.2.2]
            obtain ⟨qp, cp, rfl, Sp, Cp, -⟩ := hO.tell (n := n8 + 1) hpb hpl
            have hR2w : R2 ≤ wr.heap.size := hR2 ▸ HQ.out.2.1.size
            have hB2 : Below R2 W1 w2 := HQ.out.2.1.trans (hb.mono hR2w)
            obtain ⟨R3, hR3⟩ : ∃ R3, w2.heap.size = R3 := ⟨_, rfl⟩
            obtain ⟨a2, rfl, l2, cb⟩ := (HG.out.2.2.2.2.2.1.below (hR2.symm ▸ hB2)).cell k hlt
            obtain ⟨a', ea, l1, ca⟩ := (HG.out.2.2.2.2.1.below (hR2.symm ▸ hB2)).cell k hlt
            obtain rfl : a = a' := Option.some.inj ea
            have hxe := HG.out.2.2.2.2.2.2.2.1
            have hbx := HS.out.1.byte k
            have hby := HS.out.2.1.byte k
            obtain ⟨y, hye⟩ : ∃ y, ys.getD k 0 = y := ⟨_, rfl⟩
            rw [hxe] at ca hbx
            rw [hye] at cb hby
            have HC : Hid (∀ W, Below R3 w2 W → W.cell? (a2.add k) = some (.int .u8 (y : Nat)) ∧ W.cell? (a.add k) = some (.int .u8 (x : Nat))) := fun W hW => ⟨(hW.cell (p := a2.add k) (by rw [block_add]; omega)).trans cb, (hW.cell (p := a.add k) (by rw [block_add]; omega)).trans ca⟩
            obtain ⟨v1, hv1⟩ : ∃ v1, vl ps x = v1 := ⟨_, rfl⟩
            have hv1l : v1 < 256 := hv1 ▸ Pol.vl_lt _ _
            obtain ⟨r, hr⟩ : ∃ r, Gf.div y v1 = r := ⟨_, rfl⟩
            have hrl : r < 256 := hr ▸ Pol.div_lt _ _ hby
            obtain ⟨ls, hls, bls⟩ := Pol.isN_smul (GF.of r) ps
            obtain ⟨us, hus, bus⟩ := Pol.isN_add ss ls
            obtain ⟨ns, hns⟩ : ∃ ns, ls.length = ns := ⟨_, rfl⟩
            have hnsl : ns ≤ t + 1 := by have := HQ.out.2.2.1; omega
            have HN : Hid (IsN us (ofL us) ∧ Lag xs ys t (k + 1) (ofL us)) := by
              refine ⟨isN_self hus, ?_⟩
              rw [hus.eq]
              exact Pol.lag_next HS.out.1.byte HS.out.2.1.byte hlt hxe HG.out.2.1 HQ.out.1 (by rw [hps, hye, hv1, hr]; exact hls)
            have S6' : Bs w2 q6 n6 ss := HG.out.2.2.2.1.below (hR2.symm ▸ hB2)
            have K1 : Hid (∀ W, Below R3 w2 W → Calls Tryz.prog 14 #[.slice qp (n8 + 1) cp, .int .u8 x] W fun e w' => e = .returned (.int .u8 (v1 : Nat)) ∧ Below R3 w2 w') := fun W hW => by
              refine (r7at_calls qp (n8 + 1) cp x ps hbx (by have := HQ.out.2.2.1; omega) W (Sp.below (hR3.symm ▸ hW))).mono ?_
              rintro e w' ⟨rfl, h1⟩
              exact ⟨by rw [hv1], hW.trans (h1.mono (hR3 ▸ hW.size))⟩
            have K2 : Hid (∀ W, Below R3 w2 W → Calls Tryz.prog 36 #[.int .u8 y, .int .u8 v1] W fun e w' => e = .returned (.int .u8 (r : Nat)) ∧ Below R3 w2 w') := fun W hW => by
              refine (rdiv_calls y v1 hby hv1l W).mono ?_
              rintro e w' ⟨rfl, rfl⟩
              exact ⟨by rw [hr], hW⟩
            have K3 : Hid (∀ W, Below R3 w2 W → Calls Tryz.prog 35 #[.int .u8 r, .slice qp (n8 + 1) cp] W fun e w' => ∃ qs cs, e = .returned (.slice qs ns cs) ∧ Bs w' qs ns ls ∧ Below R3 w2 w') := fun W hW => by
              refine (rscale_calls r (n8 + 1) cp qp ps ls hrl hls (by have := HQ.out.2.2.1; omega) W (Sp.below (hR3.symm ▸ hW))).mono ?_
              rintro e w' ⟨v, rfl, h1, h2⟩
              obtain ⟨qs, cs, rfl, Ss, -, -⟩ := h1.tell hls.byt hns
              exact ⟨qs, cs, rfl, Ss, hW.trans (h2.mono (hR3 ▸ hW.size))⟩
            have K4 : Hid (∀ W qs cs, Below R3 w2 W → Bs W qs ns ls → Calls Tryz.prog 34 #[.slice q6 n6 c6, .slice qs ns cs] W fun e w' => ∃ v, e = .returned v ∧ Ow w' R v us ∧ Below R3 w2 w') := fun W qs cs hW hS => by
              refine (radd_calls q6 qs n6 c6 ns cs ss ls us hus (by have := HG.out.2.2.2.2.2.2.1; omega) (by omega) W (S6'.below (hR3.symm ▸ hW)) hS).mono ?_
              rintro e w' ⟨v, rfl, h1, h2⟩
              exact ⟨v, rfl, h1.mono (by have := hW.size; have := hB2.size; omega), hW.trans (h2.mono (hR3 ▸ hW.size))⟩
            have hT0 : Below R3 w2 w2.drew := (Below.refl _ w2).drew
            have HB2 : Hid (Below R w w2 ∧ R ≤ R3) := ⟨HG.out.2.2.1.trans (hB2.mono (by omega)), by have := hB2.size; omega⟩
            clear hO hb hpb hpl Sp Cp hR2w hB2 l2 l1 ea hxe hye hby hps hv1 hv1l hr hls bls hus bus hns hnsl S6' HQ
            go_wp2
            go_region_held3 (fun w' => w'.cell? (a2.add k) = some (.int .u8 (y : Nat)) ∧ w'.cell? (a.add k) = some (.int .u8 (x : Nat)))
              (first | exact HC.out _ hT1 | exact HC.out _ hT2 | exact HC.out _ hT3 | exact HC.out _ hT4 | (go_keep; done))
              (first
                | (go_at_call 14; refine (K1.out _ hT0).mono ?_; rintro e w3 ⟨rfl, hT1⟩)
                | (go_at_call 36; refine (K2.out _ hT1).mono ?_; rintro e w4 ⟨rfl, hT2⟩)
                | (go_at_call 35; refine (K3.out _ hT2).mono ?_; rintro e w5 ⟨qs, cs, rfl, Ss, hT3⟩)
                | (go_at_call 34; refine (K4.out _ _ _ hT3 Ss).mono ?_; rintro e w6 ⟨v6, rfl, hO6, hT4⟩))
            have HZ : Hid (Ow w6 R v6 us ∧ IsN us (ofL us) ∧ Lag xs ys t (k + 1) (ofL us) ∧ Below R w w6) := ⟨hO6, HN.out.1, HN.out.2, HB2.out.1.trans (hT4.mono HB2.out.2)⟩
            clear hT0 hT1 hT2 hT3 hT4 hO6 Ss K1 K2 K3 K4 HC HN HB2 ca cb
            go_wp2
            go_roundw
            case rel => exact ⟨k + 1, us, by omega, by go_num, HZ.out⟩
            case measure => simp [intOf]; omega
      · obtain rfl : k = n := by omega
        have hyes : IsTh xs ys ss true := .inl ⟨rfl, by rw [HS.out.2.2.2.1, HS.out.2.2.2.2], _, hN6, by
          have h1 := HS.out.2.2.2.1
          have h2 : Lag xs ys xs.length xs.length (ofL ss) := by rw [h1]; exact hLg
          exact Pol.lag_end h2⟩
        obtain ⟨rfl, rfl⟩ := HS.out.2.2.1.unique HS.out.1.byte hyes
        have HO : Hid (Ow wr R u6 zs ∧ Below R w wr) := ⟨hO6, hB⟩
        clear hO6 hN6 hLg hB hyes
        go_wp2
        go_ret2
        exact ⟨_, rfl, hR.symm ▸ HO.out.1, hR.symm ▸ HO.out.2⟩
  · have hnm' : ((n : Int) != (m : Int)) = true := by simp; omega
    have hno : IsTh xs ys [] false := .inr ⟨rfl, rfl, fun hc => hnm (by rw [← hlx, ← hly]; exact hc.1)⟩
    obtain ⟨rfl, rfl⟩ := hT.unique hx.byte hno
    clear hx hy hno hT hlx hly
    go_enter Tryz.func11, Tryz.ntmps11
    go_wp2
    go_ret2
    exact ⟨_, rfl, ow_nil _ _, Below.refl _ _⟩
end Go.Proofs
