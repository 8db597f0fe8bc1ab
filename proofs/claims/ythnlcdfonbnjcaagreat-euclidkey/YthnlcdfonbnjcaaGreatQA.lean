/- The walks of slices.Grow (of a slice without memory) and slices.Concat of two lists of bytes. Condition: bounds on lengths. -/
import Derived.Test.YthnlcdfonbnjcaaGreatMG
import Derived.Test.YthnlcdfonbnjcaaGreatNA
import Derived.Test.YthnlcdfonbnjcaaGreatMO
namespace Go.Proofs
open Go.RowKit Go.ChangeShapes Go.WideShapes
attribute [local go_sem ↓ high] builtin_ap
attribute [local go_sem] ap_sem
open Pol (Byt)

theorem info_grow (W : World) (z : Nat) (hz : z ≤ 1000000000) (h0 : 0 < z) :
    (Builtin.append_ #[22, 3] 22 #[.slice none 0 0, .int .i64 (z : Int)]).run Tryz.prog W = (Builtin.append_ #[22, 9] 22 #[.slice none 0 0, .string (strB (List.replicate z 0))]).run Tryz.prog W := by
  obtain ⟨i, hi, hzz, hsz, hby⟩ := info_parts info_u8
  have ht := Tryz.underlying22
  have hu := Tryz.underlying3
  have hstr := Tryz.underlying9
  have hs := strB_size (List.replicate z 0)
  rw [List.length_replicate] at hs
  have hw : IntKind.i64.wrap (z : Int) = (z : Int) := by rw [IntKind.wrap_i64]; omega
  have h1 : ¬ (z : Int) < 0 := by omega
  have h48 : ¬ (281474976710656 : Int) < (z : Int) := by omega
  have h63 : ¬ (9223372036854775807 < (z : Int)) := by omega
  have hcz := zeroCells_ob z
  have hai : ∀ W, (asInt (.int .i64 (z : Int))).run Tryz.prog W = .ok (z : Int) W := fun W => by simp [asInt, asIntOf]
  have hf : ∀ W, (Builtin.firstCells 1 z (.string (strB (List.replicate z 0)))).run Tryz.prog W = .ok (ob (List.replicate z 0)).toArray W := fun W => by
    have := Lib.run_firstCells_string (P := Tryz.prog) W 1 (strB (List.replicate z 0))
    rw [hs, strB_cells (Pol.byt_rep z)] at this
    exact this
  have h4 : ¬ (281474976710656 < Builtin.nextslicecap z 0) := by
    have := growslice_fits (need := z) (old := 0) (bytes := 1) (by omega) (by omega)
    omega
  have hz0 : ¬ z = 0 := by omega
  simp [Builtin.append_, run_underlying ht, run_underlying hu, run_underlying hstr, sizeOf, typeInfo, zeroValue, hi, hzz, hsz, hby, Builtin.lenOf, hai, hw, h1, h48, hs, hf, hcz, hz0, h63, h4]
theorem run_grow (W : World) (z : Nat) (h0 : 0 < z) (hz : z ≤ 1000000000) :
    ∃ q c W', (Builtin.append_ #[22, 3] 22 #[.slice none 0 0, .int .i64 (z : Int)]).run Tryz.prog W = .ok (.slice q z c) W' ∧ z ≤ c ∧ Ow W' W.heap.size (.slice q z c) (List.replicate z 0) ∧ Below W.heap.size W W' := by
  obtain ⟨i, hi, hzz, hsz, hby⟩ := info_parts info_u8
  have hs : (strB (List.replicate z 0)).size = z := by rw [strB_size, List.length_replicate]
  obtain ⟨v', W', h1, h2, h3, _⟩ := Lib.run_append_own_string (P := Tryz.prog) W W.heap.size 22 9 22 5 i Tryz.underlying22 Tryz.underlying9 hi hzz hsz hby (.slice none 0 0) 0 (ob []) (ow_nil W _) (strB (List.replicate z 0)) (by rw [hs]; unfold maxLen; omega) (by rw [hs]; omega) (Nat.le_refl _)
  have hO : Ow W' W.heap.size v' (List.replicate z 0) := by
    unfold Ow
    rw [hs, strB_cells (Pol.byt_rep z)] at h2
    rw [List.length_replicate]
    rw [Nat.zero_add] at h2
    exact h2
  rcases hO.shape with ⟨_, e⟩ | ⟨g, cap, rfl, _, _, hle, _⟩
  · have := congrArg List.length e
    rw [List.length_replicate] at this
    exact absurd this (by simp; omega)
  · rw [List.length_replicate] at hle hO h1
    exact ⟨_, _, W', (info_grow W z hz h0).trans h1, hle, hO, (Below.refl _ W).grown h3 (Nat.le_refl _) (fun k hk => by cases hk)⟩

set_option maxHeartbeats 1000000 in
theorem grow0_calls (s : Nat) (hs : s ≤ 1000000000) (w : World) :
    Calls Tryz.prog 62 #[.slice none 0 0, .int .i64 (s : Nat)] w fun e w' => ∃ q c, e = .returned (.slice q 0 c) ∧ Ow w' w.heap.size (.slice q 0 c) [] ∧ Below w.heap.size w w' := by
  by_cases h0 : 0 < s
  · obtain ⟨q, c, W', hap, hc, hO, hb⟩ := run_grow w s h0 hs
    have ha1 := ap_ok hap
    have ha2 := ap_v hap
    have ha3 := ap_w hap
    have hO2 := hO.front rfl (Nat.zero_le s)
    rw [List.take_zero] at hO2
    have h1 : ¬ (s : Int) < 0 := by omega
    have h2 : (0 : Int) < (s : Int) := by omega
    have hws := wrap_nat s (by omega)
    have HZ : Hid (Ow W' w.heap.size (.slice q 0 c) [] ∧ Below w.heap.size w W') := ⟨hO2, hb⟩
    clear hap hO hb hO2
    go_enter Tryz.func62, Tryz.ntmps62
    go_wp2
    go_ret
    exact ⟨_, _, rfl, HZ.out⟩
  · obtain rfl : s = 0 := by omega
    go_enter Tryz.func62, Tryz.ntmps62
    go_wp2
    go_ret
    exact ⟨_, _, rfl, ow_nil _ _, Below.refl _ _⟩
set_option maxRecDepth 100000 in
set_option maxHeartbeats 2000000 in
/-- Two lists, one behind the other, in new memory. -/
theorem cat_calls (h : Nat) (q p : Option Addr) (n c m d C : Nat) (xs ys : List Nat) (hn : n ≤ 100000000) (hm : m ≤ 100000000) (w : World) (hx : Bs w q n xs) (hy : Bs w p m ys) (c0 : w.cell? ⟨h, 0, none⟩ = some (.slice q n c)) (c1 : w.cell? ⟨h, 1, none⟩ = some (.slice p m d)) :
    Calls Tryz.prog 59 #[.slice (some ⟨h, 0, none⟩) 2 C] w fun e w' => ∃ v, e = .returned v ∧ Ow w' w.heap.size v (xs ++ ys) ∧ Below w.heap.size w w' := by
  obtain ⟨s, hs⟩ : ∃ s, n + m = s := ⟨_, rfl⟩
  have hhw : h < w.heap.size := World.block_lt_of_cell? _ _ c0
  have HS : Hid (Bs w q n xs ∧ Bs w p m ys ∧ n + m = s ∧ s ≤ 200000000 ∧ h < w.heap.size) := ⟨hx, hy, hs, by omega, hhw⟩
  have HC : Hid (∀ W, Below w.heap.size w W → W.cell? ⟨h, 0, none⟩ = some (.slice q n c) ∧ W.cell? ⟨h, 1, none⟩ = some (.slice p m d)) := fun W hW => ⟨(hW.cell (p := ⟨h, 0, none⟩) HS.out.2.2.2.2).trans c0, (hW.cell (p := ⟨h, 1, none⟩) HS.out.2.2.2.2).trans c1⟩
  have hwn := wrap_nat n (by omega)
  have hws := wrap_nat s (by omega)
  have hnm : (n : Int) + (m : Int) = (s : Int) := by omega
  have hn0 : ¬ (n : Int) < 0 := by omega
  have hs0 : ¬ (s : Int) < 0 := by omega
  clear hx hy hs hn hm c0 c1 hhw
  go_enter Tryz.func59, Tryz.ntmps59
  go_wp2
  go_loopw [3, 11] (fun S jj wr => ∃ j : Nat, wr = w ∧ jj = .int .i64 (j : Int) ∧ ((j = 0 ∧ S = .int .i64 0) ∨ (j = 1 ∧ S = .int .i64 (n : Int)) ∨ (j = 2 ∧ S = .int .i64 (s : Int)))) (fun _ jj _ => 2 - (intOf jj).toNat)
  case atStart => exact ⟨0, rfl, rfl, .inl ⟨rfl, rfl⟩⟩
  case round =>
    obtain ⟨j, rfl, rfl, hj⟩ := hrel
    obtain ⟨ca, cb⟩ := HC.out wr (Below.refl _ _)
    rcases hj with ⟨rfl, rfl⟩ | ⟨rfl, rfl⟩ | ⟨rfl, rfl⟩
    · go_wp2
      go_roundw
      case rel => exact ⟨1, trivial, by go_num, .inr (.inl ⟨rfl, rfl⟩)⟩
      case measure => simp [intOf]
    · go_wp2
      go_roundw
      case rel => exact ⟨2, trivial, by go_num, .inr (.inr ⟨rfl, rfl⟩)⟩
      case measure => simp [intOf]
    · obtain ⟨Wa, hWa⟩ : ∃ Wa, Wa = wr := ⟨_, rfl⟩
      subst hWa
      have KG := grow0_calls s (by have := HS.out.2.2.2.1; omega) Wa
      go_wp2_with fail
      refine KG.mono ?_
      rintro e w1 ⟨q1, k1, rfl, hO, hb⟩
      have H1 : Hid (Below Wa.heap.size Wa w1 ∧ Ow w1 Wa.heap.size (.slice q1 0 k1) []) := ⟨hb, hO⟩
      clear KG hO hb ca cb
      go_wp2
      go_loopw [6, 27] (fun S jj wr => ∃ (j : Nat) (q2 : Option Addr) (n2 c2 : Nat) (zs : List Nat), jj = .int .i64 (j : Int) ∧ S = .slice q2 n2 c2 ∧ ((j = 0 ∧ zs = []) ∨ (j = 1 ∧ zs = xs) ∨ (j = 2 ∧ zs = xs ++ ys)) ∧ Hid (Below Wa.heap.size Wa wr ∧ Ow wr Wa.heap.size (.slice q2 n2 c2) zs)) (fun _ jj _ => 2 - (intOf jj).toNat)
      case atStart => exact ⟨0, q1, 0, k1, [], rfl, rfl, .inl ⟨rfl, rfl⟩, H1⟩
      case round =>
        obtain ⟨j, q2, n2, c2, zs, rfl, rfl, hj, HO⟩ := hrel
        obtain ⟨ca, cb⟩ := HC.out wr HO.out.1
        rcases hj with ⟨rfl, rfl⟩ | ⟨rfl, rfl⟩ | ⟨rfl, rfl⟩
        · obtain ⟨v3, W3, hap, hO3, hg⟩ := run_append_list wr Wa.heap.size _ [] q n c xs HO.out.2 (HS.out.1.below HO.out.1) (by have := HS.out.2.2.2.1; have := HS.out.2.2.1; simp; omega) HO.out.1.size
          have HZ : Hid (Below Wa.heap.size Wa W3 ∧ Ow W3 Wa.heap.size v3 xs) := ⟨HO.out.1.grown hg HO.out.1.size (fun k hk => (HO.out.2.lt k hk).1), hO3⟩
          obtain ⟨q3, n3, c3, rfl⟩ := hO3.isSlice
          have ha1 := ap_ok hap
          have ha2 := ap_v hap
          have ha3 := ap_w hap
          clear hap hO3 hg
          go_wp2
          go_roundw
          case rel => exact ⟨1, q3, n3, c3, xs, by go_num, rfl, .inr (.inl ⟨rfl, rfl⟩), HZ⟩
          case measure => simp [intOf]
        · obtain ⟨v3, W3, hap, hO3, hg⟩ := run_append_list wr Wa.heap.size _ zs p m d ys HO.out.2 (HS.out.2.1.below HO.out.1) (by have := HS.out.2.2.2.1; have := HS.out.2.2.1; have := HS.out.1.len; omega) HO.out.1.size
          have HZ : Hid (Below Wa.heap.size Wa W3 ∧ Ow W3 Wa.heap.size v3 (zs ++ ys)) := ⟨HO.out.1.grown hg HO.out.1.size (fun k hk => (HO.out.2.lt k hk).1), hO3⟩
          obtain ⟨q3, n3, c3, rfl⟩ := hO3.isSlice
          have ha1 := ap_ok hap
          have ha2 := ap_v hap
          have ha3 := ap_w hap
          clear hap hO3 hg
          go_wp2
          go_roundw
          case rel => exact ⟨2, q3, n3, c3, _, by go_num, rfl, .inr (.inr ⟨rfl, rfl⟩), HZ⟩
          case measure => simp [intOf]
        · clear ca cb
          go_wp2
          go_ret
          exact ⟨_, rfl, HO.out.2, HO.out.1⟩
end Go.Proofs
