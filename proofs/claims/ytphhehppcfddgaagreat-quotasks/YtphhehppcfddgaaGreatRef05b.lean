/- The walks of the document's answers of layer 5 (erratumref05): Scale, Add. Conditions: lists of at most a hundred million bytes, no longer than their capacities. -/
import Derived.Test.YtphhehppcfddgaaGreatRef05
import Derived.Test.YtphhehppcfddgaaGreatPolyX
namespace Go.Proofs
open Go.RowKit Go.ChangeShapes Go.WideShapes
attribute [local go_sem ↓ high] builtin_ap
attribute [local go_sem] ap_sem
open Pol (IsN Dg ofL Byt)

set_option maxRecDepth 100000 in
set_option maxHeartbeats 1000000 in
theorem rscale_calls (a n c : Nat) (q : Option Addr) (xs zs : List Nat) (ha : a < 256) (hz : IsN zs (Pol.smul (GF.of a) (ofL xs))) (hn : n ≤ 100000000) (w : World) (hs : Bs w q n xs) :
    Calls Tryz.prog 30 #[.int .u8 a, .slice q n c] w fun e w' => ∃ v, e = .returned v ∧ Ow w' w.heap.size v zs ∧ Below w.heap.size w w' := by
  have HS : Hid (Bs w q n xs) := hs
  have hz2 : IsN zs (ofL (xs.map (Gf.mul a))) := by rw [Pol.ofL_map a ha hs.byt]; exact hz
  have HZ : Hid (IsN zs (ofL (xs.map (Gf.mul a))) ∧ Byt (xs.map (Gf.mul a)) ∧ (xs.map (Gf.mul a)).length = n) := ⟨hz2, map_byte a xs ha, by rw [List.length_map]; exact hs.len⟩
  clear hs hz hz2
  go_enter Tryz.func30, Tryz.ntmps30
  go_wp2
  go_loopw [5, 6] (fun o i wr => ∃ k : Nat, k ≤ n ∧ i = .int .i64 (k : Int) ∧ Ow wr w.heap.size o ((xs.take k).map (Gf.mul a)) ∧ Below w.heap.size w wr) (fun _ i _ => n - (intOf i).toNat)
  case atStart => exact ⟨0, by omega, rfl, ow_nil _ _, Below.refl _ _⟩
  case round =>
    obtain ⟨k, hk, rfl, hO, hB⟩ := hrel
    by_cases hlt : k < n
    · have hi : (k : Int) < (n : Int) := by omega
      obtain ⟨ad, rfl, la, ca⟩ := HS.out.cell k hlt
      replace ca := (hB.cell (p := ad.add k) (by rw [block_add]; exact la)).trans ca
      have hby := HS.out.byte k
      have HT := take_snoc xs k (by rw [HS.out.len]; exact hlt)
      obtain ⟨x, hx⟩ : ∃ x, xs.getD k 0 = x := ⟨_, rfl⟩
      rw [hx] at ca hby HT
      obtain ⟨us, hus⟩ : ∃ us, (xs.take k).map (Gf.mul a) = us := ⟨_, rfl⟩
      have HU : Hid ((xs.take (k + 1)).map (Gf.mul a) = us ++ [Gf.mul a x]) := by
        show (xs.take (k + 1)).map (Gf.mul a) = _
        rw [HT, List.map_append, hus]; rfl
      rw [hus] at hO
      have hlu : us.length ≤ 1000000000 := by rw [← hus]; simp; omega
      obtain ⟨g, cg, W', hap, hO', hbw⟩ := run_append_one wr w.heap.size _ us (Gf.mul a x) hO hlu hB.size
      obtain ⟨L, hL⟩ : ∃ L, (us ++ [Gf.mul a x]).length = L := ⟨_, rfl⟩
      rw [hL] at hap hO'
      have ha1 := ap_ok hap
      have ha2 := ap_v hap
      have ha3 := ap_w hap
      have HZ' : Hid (Ow W' w.heap.size (.slice (some ⟨g, 0, none⟩) L cg) (us ++ [Gf.mul a x]) ∧ Below w.heap.size w W') := ⟨hO', hB.trans (hbw _ (Nat.le_refl _))⟩
      clear hO' hbw hap hL hlu hus HT hx la hO hB
      go_wp2_with fail
      refine (rmul_calls a x ha _).mono ?_
      rintro e w1 ⟨rfl, rfl⟩
      go_wp2
      go_roundw
      case rel =>
        refine ⟨k + 1, by omega, by go_num, ?_, HZ'.out.2⟩
        rw [HU.out]; exact HZ'.out.1
      case measure => simp [intOf]; omega
    · have e8 : k = n := by omega
      subst e8
      rw [List.take_of_length_le (by rw [HS.out.len]; exact Nat.le_refl _)] at hO
      obtain ⟨q2, c2, rfl, S2, C2, -⟩ := hO.tell (n := k) HZ.out.2.1 HZ.out.2.2
      have K := rnorm_calls q2 k c2 _ zs HZ.out.1 (by omega) C2 wr S2
      have HB : Hid (Below w.heap.size w wr) := hB
      clear hO hB S2 HS HZ
      go_wp2_with fail
      refine K.mono ?_
      rintro e w1 ⟨v, rfl, hO, hb⟩
      go_wp2
      go_ret
      exact ⟨_, rfl, hO.mono HB.out.size, HB.out.trans (hb.mono HB.out.size)⟩

/-- The first k coefficients of a sum. -/
def adK (xs ys : List Nat) (k : Nat) : List Nat := (List.range k).map fun i => xs.getD i 0 ^^^ ys.getD i 0
theorem adK_succ (xs ys : List Nat) (k : Nat) : adK xs ys (k + 1) = adK xs ys k ++ [xs.getD k 0 ^^^ ys.getD k 0] := by simp [adK, List.range_succ]
theorem adK_length (xs ys : List Nat) (k : Nat) : (adK xs ys k).length = k := by simp [adK]
theorem adK_at (xs ys : List Nat) (k i : Nat) : (adK xs ys k).getD i 0 = if i < k then xs.getD i 0 ^^^ ys.getD i 0 else 0 := by
  unfold adK
  by_cases h : i < k
  · simp [List.getD, h]
  · simp [List.getD, h]
theorem adK_byt {xs ys : List Nat} (hx : Byt xs) (hy : Byt ys) (k : Nat) : Byt (adK xs ys k) := fun i => by
  rw [adK_at]; split; exact Gf.xor_lt8 (hx i) (hy i); decide
theorem adK_ofL {xs ys : List Nat} (hx : Byt xs) (hy : Byt ys) {k : Nat} (h1 : xs.length ≤ k) (h2 : ys.length ≤ k) : ofL (adK xs ys k) = Pol.add (ofL xs) (ofL ys) := by
  funext i
  show GF.of _ = GF.of _ + GF.of _
  rw [adK_at]
  split
  · exact GF.of_xor _ _ (hx i) (hy i)
  · simp [List.getD, List.getElem?_eq_none (show xs.length ≤ i by omega), List.getElem?_eq_none (show ys.length ≤ i by omega)]
    exact (GF.add_zero _).symm
theorem cof_nat5 (xs : List Nat) (k : Nat) : cof xs (k : Int) = xs.getD k 0 := by unfold cof; rw [if_pos (by omega)]; rfl
set_option maxRecDepth 100000 in
set_option maxHeartbeats 1000000 in
theorem radd_calls (q p : Option Addr) (n c m d : Nat) (xs ys zs : List Nat) (hz : IsN zs (Pol.add (ofL xs) (ofL ys))) (hn : n ≤ 100000000) (hm : m ≤ 100000000) (w : World) (hx : Bs w q n xs) (hy : Bs w p m ys) :
    Calls Tryz.prog 28 #[.slice q n c, .slice p m d] w fun e w' => ∃ v, e = .returned v ∧ Ow w' w.heap.size v zs ∧ Below w.heap.size w w' := by
  have HS : Hid (Bs w q n xs ∧ Bs w p m ys) := ⟨hx, hy⟩
  obtain ⟨N, hN⟩ : ∃ N : Nat, max n m = N := ⟨_, rfl⟩
  have hlx := hx.len
  have hly := hy.len
  have HZ : Hid (IsN zs (ofL (adK xs ys N)) ∧ Byt (adK xs ys N) ∧ (adK xs ys N).length = N) := ⟨by rw [adK_ofL hx.byt hy.byt (by omega) (by omega)]; exact hz, adK_byt hx.byt hy.byt N, adK_length _ _ _⟩
  have hcase : (N = n ∧ (m : Int) ≤ (n : Int)) ∨ (N = m ∧ (n : Int) < (m : Int)) := by omega
  clear hx hy hz hN hlx hly
  go_enter Tryz.func28, Tryz.ntmps28
  go_wp2
  go_loopw [5, 6] (fun o i wr => ∃ k : Nat, k ≤ N ∧ i = .int .i64 (k : Int) ∧ Ow wr w.heap.size o (adK xs ys k) ∧ Below w.heap.size w wr) (fun _ i _ => N - (intOf i).toNat)
  case atStart => exact ⟨0, by omega, rfl, ow_nil _ _, Below.refl _ _⟩
  case round =>
    obtain ⟨k, hk, rfl, hO, hB⟩ := hrel
    by_cases hlt : k < N
    · have HSr : Hid (Bs wr q n xs ∧ Bs wr p m ys) := ⟨HS.out.1.below hB, HS.out.2.below hB⟩
      have hbx := HS.out.1.byte k
      have hby := HS.out.2.byte k
      have HA := adK_succ xs ys k
      have C1 := rcoef_calls q n c xs (k : Int) wr HSr.out.1
      have C2 := rcoef_calls p m d ys (k : Int) wr HSr.out.2
      rw [cof_nat5] at C1 C2
      obtain ⟨x, hx⟩ : ∃ x, xs.getD k 0 = x := ⟨_, rfl⟩
      obtain ⟨y, hy⟩ : ∃ y, ys.getD k 0 = y := ⟨_, rfl⟩
      rw [hx] at C1 hbx HA
      rw [hy] at C2 hby HA
      have hxor := u8_xor_nat x y hbx hby
      have hlu : (adK xs ys k).length ≤ 1000000000 := by rw [adK_length]; omega
      obtain ⟨us, hus⟩ : ∃ us, adK xs ys k = us := ⟨_, rfl⟩
      rw [hus] at hO HA hlu
      have HU : Hid (adK xs ys (k + 1) = us ++ [x ^^^ y]) := HA
      obtain ⟨g, cg, W', hap, hO', hbw⟩ := run_append_one wr w.heap.size _ us (x ^^^ y) hO hlu hB.size
      obtain ⟨L, hL⟩ : ∃ L, (us ++ [x ^^^ y]).length = L := ⟨_, rfl⟩
      rw [hL] at hap hO'
      have ha1 := ap_ok hap
      have ha2 := ap_v hap
      have ha3 := ap_w hap
      have HZ' : Hid (Ow W' w.heap.size (.slice (some ⟨g, 0, none⟩) L cg) (us ++ [x ^^^ y]) ∧ Below w.heap.size w W') := ⟨hO', hB.trans (hbw _ (Nat.le_refl _))⟩
      have hkm : k ≤ 1000000000 := by omega
      clear hO' hbw hap hL hlu hus HA hx hy hO hB HSr
      rcases hcase with ⟨rfl, hc⟩ | ⟨rfl, hc⟩
      all_goals
        have hi : (k : Int) < (N : Int) := by omega
        go_wp2_with fail
        refine C1.mono ?_
        rintro e w1 ⟨rfl, hw⟩
        subst hw
        go_wp2_with fail
        refine C2.mono ?_
        rintro e w1 ⟨rfl, hw⟩
        subst hw
        go_wp2
        go_roundw
        case rel =>
          refine ⟨k + 1, by omega, by go_num, ?_, HZ'.out.2⟩
          rw [HU.out]; exact HZ'.out.1
        case measure => simp [intOf]; omega
    · have e8 : k = N := by omega
      subst e8
      obtain ⟨q2, c2, rfl, S2, C2, -⟩ := hO.tell (n := k) HZ.out.2.1 HZ.out.2.2
      have K := rnorm_calls q2 k c2 _ zs HZ.out.1 (by omega) C2 wr S2
      have HB : Hid (Below w.heap.size w wr) := hB
      clear hO hB S2 HS HZ
      rcases hcase with ⟨rfl, hc⟩ | ⟨rfl, hc⟩
      all_goals
        go_wp2_with fail
        refine K.mono ?_
        rintro e w1 ⟨v, rfl, hO, hb⟩
        go_wp2
        go_ret
        exact ⟨_, rfl, hO.mono HB.out.size, HB.out.trans (hb.mono HB.out.size)⟩
end Go.Proofs
