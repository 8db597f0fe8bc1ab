/- Texts laid together: Ref05, Ref05b, Ref05c, RDivB. Each says its own conditions. -/
import Derived.Deep.RegionWith
import Derived.Test.YthnlcdfonbnjcaaGreatMG
import Derived.Test.YthnlcdfonbnjcaaGreatMO
import Derived.Test.YthnlcdfonbnjcaaGreatMC
import Derived.Test.YthnlcdfonbnjcaaGreatMF
/- The walks of the document's answers of layer 5 (erratumref05): Deg, Norm, Coef, Same, Cut, Scale, Add. Conditions: lists of at most a thousand million bytes, no longer than their capacities. -/
namespace Go.Proofs
open Go.RowKit Go.ChangeShapes Go.WideShapes
attribute [local go_sem ↓ high] builtin_ap
attribute [local go_sem] ap_sem
open Pol (IsN Dg ofL Byt)

set_option maxHeartbeats 1000000 in
theorem rnorm_calls (q : Option Addr) (n c : Nat) (xs zs : List Nat) (hz : IsN zs (ofL xs)) (hn : n ≤ 1000000000) (hnc : n ≤ c) (w : World) (hs : Bs w q n xs) :
    Calls Tryz.prog 44 #[.slice q n c] w fun e w' => ∃ v, e = .returned v ∧ Ow w' w.heap.size v zs ∧ Below w.heap.size w w' := by
  obtain ⟨d, hd, hg⟩ := Pol.dg_list xs
  rw [hs.len] at hd
  have K := rdeg_calls q n c xs d hg hn w hs
  obtain rfl := hz.unique (Pol.isN_take hs.byt hg)
  have HS : Hid (Bs w q d (xs.take d)) := bs_take hs d hd
  have hi : (d : Int) ≤ (c : Int) := by omega
  have h0 : wrap64 ((d : Int) - 1 + 1) = (d : Int) := by unfold wrap64; omega
  clear hs hz hg
  obtain ⟨zs, hzs⟩ : ∃ zs, xs.take d = zs := ⟨_, rfl⟩
  rw [hzs] at HS ⊢
  clear hzs
  obtain ⟨v1, W1, hap, hO, hg⟩ := run_append_list w w.heap.size (.slice none 0 0) [] q d c zs (ow_nil _ _) HS.out (by simp; omega) (Nat.le_refl _)
  have ha1 := ap_ok hap
  have ha2 := ap_v hap
  have ha3 := ap_w hap
  have HZ : Hid (Ow W1 w.heap.size v1 zs ∧ Below w.heap.size w W1) := ⟨hO, (Below.refl _ w).grown hg (Nat.le_refl _) (fun k hk => by cases hk)⟩
  clear hap hO hg HS
  go_enter Tryz.func44, Tryz.ntmps44
  go_wp2_with (go_at_call 10; refine K.mono ?_; rintro e w1 ⟨rfl, rfl⟩)
  go_ret
  exact ⟨_, rfl, HZ.out⟩

set_option maxHeartbeats 1000000 in
theorem rcoef_calls (q : Option Addr) (n c : Nat) (xs : List Nat) (i : Int) (w : World) (hs : Bs w q n xs) :
    Calls Tryz.prog 50 #[.slice q n c, .int .i64 i] w fun e w' => e = .returned (.int .u8 (cof xs i : Nat)) ∧ w' = w := by
  have hmax := hs.max
  rcases Int.lt_or_le i 0 with h | h
  · have e : cof xs i = 0 := by unfold cof; rw [if_neg (by omega)]
    rw [e]
    go_enter Tryz.func50, Tryz.ntmps50
    go_wp2
    go_ret
    exact ⟨rfl, rfl⟩
  · obtain ⟨k, rfl⟩ := Int.eq_ofNat_of_zero_le h
    have e : cof xs (k : Int) = xs.getD k 0 := by unfold cof; rw [if_pos (by omega)]; rfl
    rw [e]
    by_cases hk : k < n
    · obtain ⟨a, rfl, _, hc⟩ := hs.cell k hk
      obtain ⟨x, hx⟩ : ∃ x, xs.getD k 0 = x := ⟨_, rfl⟩
      rw [hx] at hc ⊢
      clear hs
      have h1 : ¬ (k : Int) < 0 := by omega
      have h2 : ¬ (n : Int) ≤ (k : Int) := by omega
      have h3 : (k : Int) < (n : Int) := by omega
      go_enter Tryz.func50, Tryz.ntmps50
      go_wp2
      go_ret
      exact ⟨rfl, rfl⟩
    · have hl := hs.len
      have e2 : xs.getD k 0 = 0 := by simp [List.getD, List.getElem?_eq_none (show xs.length ≤ k by omega)]
      rw [e2]
      have h1 : ¬ (k : Int) < 0 := by omega
      have h2 : (n : Int) ≤ (k : Int) := by omega
      clear hs
      go_enter Tryz.func50, Tryz.ntmps50
      go_wp2
      go_ret
      exact ⟨rfl, rfl⟩


end Go.Proofs
/- The walks of the document's answers of layer 5 (erratumref05): Scale, Add. Conditions: lists of at most a hundred million bytes, no longer than their capacities. -/
namespace Go.Proofs
open Go.RowKit Go.ChangeShapes Go.WideShapes
attribute [local go_sem ↓ high] builtin_ap
attribute [local go_sem] ap_sem
open Pol (IsN Dg ofL Byt)

set_option maxRecDepth 100000 in
set_option maxHeartbeats 1000000 in
theorem rscale_calls (a n c : Nat) (q : Option Addr) (xs zs : List Nat) (ha : a < 256) (hz : IsN zs (Pol.smul (GF.of a) (ofL xs))) (hn : n ≤ 100000000) (w : World) (hs : Bs w q n xs) :
    Calls Tryz.prog 51 #[.int .u8 a, .slice q n c] w fun e w' => ∃ v, e = .returned v ∧ Ow w' w.heap.size v zs ∧ Below w.heap.size w w' := by
  have HS : Hid (Bs w q n xs) := hs
  have hz2 : IsN zs (ofL (xs.map (Gf.mul a))) := by rw [Pol.ofL_map a ha hs.byt]; exact hz
  have HZ : Hid (IsN zs (ofL (xs.map (Gf.mul a))) ∧ Byt (xs.map (Gf.mul a)) ∧ (xs.map (Gf.mul a)).length = n) := ⟨hz2, map_byte a xs ha, by rw [List.length_map]; exact hs.len⟩
  clear hs hz hz2
  go_enter Tryz.func51, Tryz.ntmps51
  go_wp2
  go_loopw [5, 6] (fun o i wr => ∃ k : Nat, k ≤ n ∧ i = .int .i64 (k : Int) ∧ Ow wr w.heap.size o ((xs.take k).map (Gf.mul a)) ∧ Below w.heap.size w wr) (fun _ i _ => n - (intOf i).toNat)
  case atStart => exact ⟨0, by omega, rfl, ow_nil _ _, Below.refl _ _⟩
  case round =>
    obtain ⟨k, hk, rfl, hO, hB⟩ := hrel
    by_cases hlt : k < n
    · have hi : (k : Int) < (n : Int) := by omega
      obtain ⟨ad, rfl, la, ca⟩ := HS.out.cell k hlt
      replace ca := (hB.cell (p := ad.add k) (by rw [block_add]; exact la)).trans ca
      have hby := HS.out.byte k
      have HT := take_snoc xs k (by rw [HS.out.len]; exact hlt)
      obtain ⟨x, hx⟩ : ∃ x, xs.getD k 0 = x := ⟨_, rfl⟩
      rw [hx] at ca hby HT
      obtain ⟨us, hus⟩ : ∃ us, (xs.take k).map (Gf.mul a) = us := ⟨_, rfl⟩
      have HU : Hid ((xs.take (k + 1)).map (Gf.mul a) = us ++ [Gf.mul a x]) := by
        show (xs.take (k + 1)).map (Gf.mul a) = _
        rw [HT, List.map_append, hus]; rfl
      rw [hus] at hO
      have hlu : us.length ≤ 1000000000 := by rw [← hus]; simp; omega
      obtain ⟨g, cg, W', hap, hO', hbw⟩ := run_append_one wr w.heap.size _ us (Gf.mul a x) hO hlu hB.size
      obtain ⟨L, hL⟩ : ∃ L, (us ++ [Gf.mul a x]).length = L := ⟨_, rfl⟩
      rw [hL] at hap hO'
      have ha1 := ap_ok hap
      have ha2 := ap_v hap
      have ha3 := ap_w hap
      have HZ' : Hid (Ow W' w.heap.size (.slice (some ⟨g, 0, none⟩) L cg) (us ++ [Gf.mul a x]) ∧ Below w.heap.size w W') := ⟨hO', hB.trans (hbw _ (Nat.le_refl _))⟩
      clear hO' hbw hap hL hlu hus HT hx la hO hB
      go_wp2_with fail
      refine (rmul_calls a x ha _).mono ?_
      rintro e w1 ⟨rfl, rfl⟩
      go_wp2
      go_roundw
      case rel =>
        refine ⟨k + 1, by omega, by go_num, ?_, HZ'.out.2⟩
        rw [HU.out]; exact HZ'.out.1
      case measure => simp [intOf]; omega
    · have e8 : k = n := by omega
      subst e8
      rw [List.take_of_length_le (by rw [HS.out.len]; exact Nat.le_refl _)] at hO
      obtain ⟨q2, c2, rfl, S2, C2, -⟩ := hO.tell (n := k) HZ.out.2.1 HZ.out.2.2
      have K := rnorm_calls q2 k c2 _ zs HZ.out.1 (by omega) C2 wr S2
      have HB : Hid (Below w.heap.size w wr) := hB
      clear hO hB S2 HS HZ
      go_wp2_with fail
      refine K.mono ?_
      rintro e w1 ⟨v, rfl, hO, hb⟩
      go_wp2
      go_ret
      exact ⟨_, rfl, hO.mono HB.out.size, HB.out.trans (hb.mono HB.out.size)⟩

/-- The first k coefficients of a sum. -/
def adK (xs ys : List Nat) (k : Nat) : List Nat := (List.range k).map fun i => xs.getD i 0 ^^^ ys.getD i 0
theorem adK_succ (xs ys : List Nat) (k : Nat) : adK xs ys (k + 1) = adK xs ys k ++ [xs.getD k 0 ^^^ ys.getD k 0] := by simp [adK, List.range_succ]
theorem adK_length (xs ys : List Nat) (k : Nat) : (adK xs ys k).length = k := by simp [adK]
theorem adK_at (xs ys : List Nat) (k i : Nat) : (adK xs ys k).getD i 0 = if i < k then xs.getD i 0 ^^^ ys.getD i 0 else 0 := by
  unfold adK
  by_cases h : i < k
  · simp [List.getD, h]
  · simp [List.getD, h]
theorem adK_byt {xs ys : List Nat} (hx : Byt xs) (hy : Byt ys) (k : Nat) : Byt (adK xs ys k) := fun i => by
  rw [adK_at]; split; exact Gf.xor_lt8 (hx i) (hy i); decide
theorem adK_ofL {xs ys : List Nat} (hx : Byt xs) (hy : Byt ys) {k : Nat} (h1 : xs.length ≤ k) (h2 : ys.length ≤ k) : ofL (adK xs ys k) = Pol.add (ofL xs) (ofL ys) := by
  funext i
  show GF.of _ = GF.of _ + GF.of _
  rw [adK_at]
  split
  · exact GF.of_xor _ _ (hx i) (hy i)
  · simp [List.getD, List.getElem?_eq_none (show xs.length ≤ i by omega), List.getElem?_eq_none (show ys.length ≤ i by omega)]
    exact (GF.add_zero _).symm
theorem cof_nat5 (xs : List Nat) (k : Nat) : cof xs (k : Int) = xs.getD k 0 := by unfold cof; rw [if_pos (by omega)]; rfl
set_option maxRecDepth 100000 in
set_option maxHeartbeats 1000000 in
theorem radd_calls (q p : Option Addr) (n c m d : Nat) (xs ys zs : List Nat) (hz : IsN zs (Pol.add (ofL xs) (ofL ys))) (hn : n ≤ 100000000) (hm : m ≤ 100000000) (w : World) (hx : Bs w q n xs) (hy : Bs w p m ys) :
    Calls Tryz.prog 46 #[.slice q n c, .slice p m d] w fun e w' => ∃ v, e = .returned v ∧ Ow w' w.heap.size v zs ∧ Below w.heap.size w w' := by
  have HS : Hid (Bs w q n xs ∧ Bs w p m ys) := ⟨hx, hy⟩
  obtain ⟨N, hN⟩ : ∃ N : Nat, max n m = N := ⟨_, rfl⟩
  have hlx := hx.len
  have hly := hy.len
  have HZ : Hid (IsN zs (ofL (adK xs ys N)) ∧ Byt (adK xs ys N) ∧ (adK xs ys N).length = N) := ⟨by rw [adK_ofL hx.byt hy.byt (by omega) (by omega)]; exact hz, adK_byt hx.byt hy.byt N, adK_length _ _ _⟩
  have hcase : (N = n ∧ (m : Int) ≤ (n : Int)) ∨ (N = m ∧ (n : Int) < (m : Int)) := by omega
  clear hx hy hz hN hlx hly
  go_enter Tryz.func46, Tryz.ntmps46
  go_wp2
  go_loopw [5, 6] (fun o i wr => ∃ k : Nat, k ≤ N ∧ i = .int .i64 (k : Int) ∧ Ow wr w.heap.size o (adK xs ys k) ∧ Below w.heap.size w wr) (fun _ i _ => N - (intOf i).toNat)
  case atStart => exact ⟨0, by omega, rfl, ow_nil _ _, Below.refl _ _⟩
  case round =>
    obtain ⟨k, hk, rfl, hO, hB⟩ := hrel
    by_cases hlt : k < N
    · have HSr : Hid (Bs wr q n xs ∧ Bs wr p m ys) := ⟨HS.out.1.below hB, HS.out.2.below hB⟩
      have hbx := HS.out.1.byte k
      have hby := HS.out.2.byte k
      have HA := adK_succ xs ys k
      have C1 := rcoef_calls q n c xs (k : Int) wr HSr.out.1
      have C2 := rcoef_calls p m d ys (k : Int) wr HSr.out.2
      rw [cof_nat5] at C1 C2
      obtain ⟨x, hx⟩ : ∃ x, xs.getD k 0 = x := ⟨_, rfl⟩
      obtain ⟨y, hy⟩ : ∃ y, ys.getD k 0 = y := ⟨_, rfl⟩
      rw [hx] at C1 hbx HA
      rw [hy] at C2 hby HA
      have hxor := u8_xor_nat x y hbx hby
      have hlu : (adK xs ys k).length ≤ 1000000000 := by rw [adK_length]; omega
      obtain ⟨us, hus⟩ : ∃ us, adK xs ys k = us := ⟨_, rfl⟩
      rw [hus] at hO HA hlu
      have HU : Hid (adK xs ys (k + 1) = us ++ [x ^^^ y]) := HA
      obtain ⟨g, cg, W', hap, hO', hbw⟩ := run_append_one wr w.heap.size _ us (x ^^^ y) hO hlu hB.size
      obtain ⟨L, hL⟩ : ∃ L, (us ++ [x ^^^ y]).length = L := ⟨_, rfl⟩
      rw [hL] at hap hO'
      have ha1 := ap_ok hap
      have ha2 := ap_v hap
      have ha3 := ap_w hap
      have HZ' : Hid (Ow W' w.heap.size (.slice (some ⟨g, 0, none⟩) L cg) (us ++ [x ^^^ y]) ∧ Below w.heap.size w W') := ⟨hO', hB.trans (hbw _ (Nat.le_refl _))⟩
      have hkm : k ≤ 1000000000 := by omega
      clear hO' hbw hap hL hlu hus HA hx hy hO hB HSr
      rcases hcase with ⟨rfl, hc⟩ | ⟨rfl, hc⟩
      all_goals
        have hi : (k : Int) < (N : Int) := by omega
        go_wp2_with fail
        refine C1.mono ?_
        rintro e w1 ⟨rfl, hw⟩
        subst hw
        go_wp2_with fail
        refine C2.mono ?_
        rintro e w1 ⟨rfl, hw⟩
        subst hw
        go_wp2
        go_roundw
        case rel =>
          refine ⟨k + 1, by omega, by go_num, ?_, HZ'.out.2⟩
          rw [HU.out]; exact HZ'.out.1
        case measure => simp [intOf]; omega
    · have e8 : k = N := by omega
      subst e8
      obtain ⟨q2, c2, rfl, S2, C2, -⟩ := hO.tell (n := k) HZ.out.2.1 HZ.out.2.2
      have K := rnorm_calls q2 k c2 _ zs HZ.out.1 (by omega) C2 wr S2
      have HB : Hid (Below w.heap.size w wr) := hB
      clear hO hB S2 HS HZ
      rcases hcase with ⟨rfl, hc⟩ | ⟨rfl, hc⟩
      all_goals
        go_wp2_with fail
        refine K.mono ?_
        rintro e w1 ⟨v, rfl, hO, hb⟩
        go_wp2
        go_ret
        exact ⟨_, rfl, hO.mono HB.out.size, HB.out.trans (hb.mono HB.out.size)⟩
end Go.Proofs
/- The walk of the document's answer of layer 5 (erratumref05): Mul. Conditions: lists of at most a hundred million bytes. -/
namespace Go.Proofs
open Go.RowKit Go.ChangeShapes Go.WideShapes
open Pol (IsN Dg ofL Byt)

theorem ofL_xset {s : List Nat} (hs : Byt s) {k v : Nat} (hk : k < s.length) (hv : v < 256) : ofL (s.set k (s.getD k 0 ^^^ v)) = Pol.add (ofL s) (Pol.mono k (GF.of v)) := by
  funext i
  show GF.of _ = GF.of _ + (if i = k then GF.of v else 0)
  rw [getD_set]
  by_cases h : i = k
  · subst h
    rw [if_pos ⟨rfl, hk⟩, if_pos rfl, GF.of_xor _ _ (hs i) hv]
  · rw [if_neg (fun c => h c.1.symm), if_neg h, GF.add_zero]
theorem byt_xset {s : List Nat} (hs : Byt s) {k v : Nat} (hv : v < 256) : Byt (s.set k (s.getD k 0 ^^^ v)) := fun i => by
  rw [getD_set]
  split
  · exact Gf.xor_lt8 (hs k) hv
  · exact hs i
theorem row_succ (i j : Nat) (p : GF) (Q : Pol) : Pol.up i (Pol.smul p (Pol.cut (j + 1) Q)) = Pol.add (Pol.up i (Pol.smul p (Pol.cut j Q))) (Pol.mono (i + j) (p * Q j)) := by
  funext k
  show (if i ≤ k then p * (if k - i < j + 1 then Q (k - i) else 0) else 0) = (if i ≤ k then p * (if k - i < j then Q (k - i) else 0) else 0) + (if k = i + j then p * Q j else 0)
  by_cases h : i ≤ k
  · rw [if_pos h, if_pos h]
    by_cases h1 : k = i + j
    · subst h1
      rw [if_pos (by omega), if_neg (by omega), if_pos rfl, show i + j - i = j by omega, GF.mul_zero, GF.zero_add]
    · rw [if_neg h1, GF.add_zero]
      by_cases h2 : k - i < j
      · rw [if_pos (by omega), if_pos h2]
      · rw [if_neg (by omega), if_neg h2]
  · rw [if_neg h, if_neg h, if_neg (by omega), GF.add_zero]
theorem row_zero (i : Nat) (p : GF) (Q : Pol) : Pol.up i (Pol.smul p (Pol.cut 0 Q)) = Pol.zero := by
  rw [Pol.cut_zero]
  funext k
  show (if i ≤ k then p * 0 else 0) = 0
  rw [GF.mul_zero]
  split <;> rfl
set_option maxRecDepth 100000 in
set_option maxHeartbeats 2000000 in
theorem rpmul_calls (q p : Option Addr) (n c m d : Nat) (xs ys zs : List Nat) (hz : IsN zs (Pol.mul (ofL xs) (ofL ys))) (hn : n ≤ 100000000) (hm : m ≤ 100000000) (w : World) (hx : Bs w q n xs) (hy : Bs w p m ys) :
    Calls Tryz.prog 47 #[.slice q n c, .slice p m d] w fun e w' => ∃ v, e = .returned v ∧ Ow w' w.heap.size v zs ∧ Below w.heap.size w w' := by
  have HS : Hid (Bs w q n xs ∧ Bs w p m ys) := ⟨hx, hy⟩
  obtain ⟨N, hN⟩ : ∃ N : Nat, n + m = N := ⟨_, rfl⟩
  have hNi : (n : Int) + (m : Int) = (N : Int) := by omega
  have hmk := make_bytes N (by omega)
  have HB : Hid (Pol.Bd n (ofL xs) ∧ Pol.Bd m (ofL ys)) := ⟨hx.len ▸ Pol.ofL_bd xs, hy.len ▸ Pol.ofL_bd ys⟩
  have HZ : Hid (IsN zs (Pol.mul (ofL xs) (ofL ys))) := hz
  obtain ⟨R, hR⟩ : ∃ R, w.heap.size = R := ⟨_, rfl⟩
  have i0 : Ow (w.alloc (.cells (madeCells #[.int .u8 0] N) 5)) R (.slice (some ⟨R, 0, none⟩) N N) (List.replicate N 0) := by rw [← hR]; exact ow_made w (Nat.le_refl _) N (by omega)
  have HI : Hid (Ow (w.alloc (.cells (madeCells #[.int .u8 0] N) 5)) R (.slice (some ⟨R, 0, none⟩) N N) (List.replicate N 0) ∧ Below R w (w.alloc (.cells (madeCells #[.int .u8 0] N) 5))) := ⟨i0, hR ▸ (Below.refl _ w).alloc (Nat.le_refl _) _⟩
  clear hx hy hz i0
  have hNb : (N : Int) ≤ 1000000000 := by omega
  go_enter Tryz.func47, Tryz.ntmps47
  go_wp2
  clear hmk hNi
  go_loopw [6] (fun ii wr => ∃ (i : Nat) (s : List Nat), i ≤ n ∧ ii = .int .i64 (i : Int) ∧ Byt s ∧ s.length = N ∧ ofL s = Pol.mul (Pol.cut i (ofL xs)) (ofL ys) ∧ Ow wr R (.slice (some ⟨R, 0, none⟩) N N) s ∧ Below R w wr) (fun ii _ => n - (intOf ii).toNat)
  case atStart => exact ⟨0, _, by omega, rfl, Pol.byt_rep N, by simp, by rw [Pol.ofL_rep, Pol.cut_zero, Pol.zero_mul], HI.out⟩
  case round =>
    obtain ⟨i, s0, hi, rfl, hs0, hl0, he0, hO0, hB0⟩ := hrel
    by_cases hlt : i < n
    · have hii : (i : Int) < (n : Int) := by omega
      have HJ : Hid (Byt s0 ∧ s0.length = N ∧ ofL s0 = Pol.mul (Pol.cut i (ofL xs)) (ofL ys) ∧ Ow wr R (.slice (some ⟨R, 0, none⟩) N N) s0 ∧ Below R w wr) := ⟨hs0, hl0, he0, hO0, hB0⟩
      clear hs0 hl0 he0 hO0 hB0
      go_wp2
      go_loopw [7] (fun jj wr => ∃ (j : Nat) (s : List Nat), j ≤ m ∧ jj = .int .i64 (j : Int) ∧ Byt s ∧ s.length = N ∧ ofL s = Pol.add (Pol.mul (Pol.cut i (ofL xs)) (ofL ys)) (Pol.up i (Pol.smul (ofL xs i) (Pol.cut j (ofL ys)))) ∧ Ow wr R (.slice (some ⟨R, 0, none⟩) N N) s ∧ Below R w wr) (fun jj _ => m - (intOf jj).toNat)
      case atStart => exact ⟨0, s0, by omega, rfl, HJ.out.1, HJ.out.2.1, by rw [row_zero, Pol.add_zero]; exact HJ.out.2.2.1, HJ.out.2.2.2⟩
      case round =>
        obtain ⟨j, s, hj, rfl, hs, hl, he, hO, hB⟩ := hrel
        by_cases hjt : j < m
        · have hjj : (j : Int) < (m : Int) := by omega
          obtain ⟨a1, rfl, l1, ca⟩ := HS.out.1.cell i hlt
          obtain ⟨a2, rfl, l2, cb⟩ := HS.out.2.cell j hjt
          replace ca := (hB.cell (p := a1.add i) (by rw [block_add]; omega)).trans ca
          replace cb := (hB.cell (p := a2.add j) (by rw [block_add]; omega)).trans cb
          have hbx := HS.out.1.byte i
          have hby := HS.out.2.byte j
          obtain ⟨k, hk⟩ : ∃ k, i + j = k := ⟨_, rfl⟩
          have hk0 : (0 : Int) ≤ (k : Int) := by omega
          have hkN : k < N := by omega
          have hkN' : (k : Int) < (N : Int) := by omega
          have Hwk : Hid (IntKind.i64.wrap ((i : Int) + (j : Int)) = (k : Int)) := by show _ = _; rw [IntKind.wrap_i64]; omega
          obtain ⟨hc, hf⟩ := hO.at hl.symm k hkN
          have hsb := hs k
          have HSt : Hid (ofL (s.set k (s.getD k 0 ^^^ Gf.mul (xs.getD i 0) (ys.getD j 0))) = Pol.add (Pol.mul (Pol.cut i (ofL xs)) (ofL ys)) (Pol.up i (Pol.smul (ofL xs i) (Pol.cut (j + 1) (ofL ys)))) ∧ Byt (s.set k (s.getD k 0 ^^^ Gf.mul (xs.getD i 0) (ys.getD j 0)))) := by
            refine ⟨?_, byt_xset hs (Gf.mul_lt _ _ hbx)⟩
            rw [ofL_xset hs (by omega) (Gf.mul_lt _ _ hbx), he, row_succ, Pol.add_assoc, ← hk, GF.of_mul _ _ hbx hby]; rfl
          obtain ⟨x, hx⟩ : ∃ x, xs.getD i 0 = x := ⟨_, rfl⟩
          obtain ⟨y, hy⟩ : ∃ y, ys.getD j 0 = y := ⟨_, rfl⟩
          obtain ⟨z, hz⟩ : ∃ z, s.getD k 0 = z := ⟨_, rfl⟩
          rw [hx] at ca hbx HSt
          rw [hy] at cb hby HSt
          rw [hz] at hc hsb HSt
          have hm8 := Gf.mul_lt x y hbx
          have hxor := u8_xor_nat z (Gf.mul x y) hsb hm8
          have HW : Hid (s.length = N ∧ Ow wr R (.slice (some ⟨R, 0, none⟩) N N) s ∧ Below R w wr) := ⟨hl, hO, hB⟩
          clear hx hy hz hs hl he hO hB hk l1 l2 HJ
          have hwk := Hwk.out
          go_wp2
          go_region_with (go_at_call 24; refine (rmul_calls x y hbx _).mono ?_; rintro e w1 ⟨rfl, rfl⟩)
          all_goals
            clear hwk
            go_wp2
            go_roundw
            case rel => exact ⟨j + 1, s.set k (z ^^^ Gf.mul x y), by omega, by go_num, HSt.out.2, by rw [List.length_set]; exact HW.out.1, HSt.out.1, ((HW.out.2.1.set HW.out.1.symm k _).drew), (HW.out.2.2.setCell (p := ⟨R, k, none⟩) (Nat.le_refl _) _).drew⟩
            case measure => simp [intOf]; omega
        · have e8 : j = m := by omega
          subst e8
          have HK : Hid (Byt s ∧ s.length = N ∧ ofL s = Pol.mul (Pol.cut (i + 1) (ofL xs)) (ofL ys) ∧ Ow wr R (.slice (some ⟨R, 0, none⟩) N N) s ∧ Below R w wr) := ⟨hs, hl, by rw [he, Pol.cut_bd HB.out.2, Pol.mul_cut_succ], hO, hB⟩
          clear hs hl he hO hB HJ
          go_wp2
          go_roundw
          case rel => exact ⟨i + 1, s, by omega, by go_num, HK.out⟩
          case measure => simp [intOf]; omega
    · have e8 : i = n := by omega
      subst e8
      rw [Pol.cut_bd HB.out.1] at he0
      obtain ⟨q2, c2, e2, S2, C2, -⟩ := hO0.tell (n := N) hs0 hl0
      cases e2
      have K := rnorm_calls _ N N s0 zs (he0 ▸ HZ.out) (by omega) (Nat.le_refl _) wr S2
      have HBw : Hid (Below R w wr) := hB0
      have hRw : R ≤ wr.heap.size := hR ▸ hB0.size
      clear hs0 hl0 he0 hO0 hB0 S2 HS HZ HB HI
      go_wp2_with fail
      refine K.mono ?_
      rintro e w1 ⟨v, rfl, hO, hb⟩
      go_wp2
      go_ret
      subst hR
      exact ⟨_, rfl, hO.mono hRw, HBw.out.trans (hb.mono hRw)⟩
end Go.Proofs
/- The walk of erratumref01.Div. Condition: bytes. -/
namespace Go.Proofs
open Go.RowKit Go.ChangeShapes Go.WideShapes

set_option maxRecDepth 100000 in
set_option maxHeartbeats 1000000 in
theorem rdiv_calls (a b : Nat) (ha : a < 256) (hb : b < 256) (w : World) :
    Calls Tryz.prog 60 #[.int .u8 a, .int .u8 b] w fun e w' => e = .returned (.int .u8 (Gf.div a b : Nat)) ∧ w' = w := by
  have K : Hid (∀ w, Calls Tryz.prog 24 #[.int .u8 a, .int .u8 (Gf.inv b : Nat)] w fun e w' => e = .returned (.int .u8 (Gf.div a b : Nat)) ∧ w' = w) := fun w => rmul_calls a (Gf.inv b) ha w
  go_enter Tryz.func60, Tryz.ntmps60
  go_wp2_with (first | (go_at_call 49; refine (rinv_calls b hb _).mono ?_; rintro e w1 ⟨rfl, rfl⟩) | (go_at_call 24; refine (K.out _).mono ?_; rintro e w1 ⟨rfl, rfl⟩))
  go_ret
  exact ⟨rfl, rfl⟩
end Go.Proofs
