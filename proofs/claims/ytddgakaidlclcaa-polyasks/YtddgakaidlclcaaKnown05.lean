/- The walk of the example of chapter 5 (known). No conditions. -/
import Derived.Test.YtddgakaidlclcaaPMul
import Derived.Test.YtddgakaidlclcaaPolyX
import Derived.Test.YtddgakaidlclcaaRefSame
namespace Go.Proofs
open Go.RowKit
open Pol (IsN Dg ofL Byt)
theorem square_11 : IsN [1, 0, 1] (Pol.mul (ofL [1, 1]) (ofL [1, 1])) := by
  have e1 : ofL [1, 1] = Pol.add Pol.one (Pol.up 1 Pol.one) := by
    funext i
    match i with
    | 0 => rfl
    | 1 => rfl
    | n + 2 =>
      show GF.of ([1, 1].getD (n + 2) 0) = _ + _
      simp [List.getD, Pol.one, Pol.mono, Pol.up]
      rfl
  have e2 : Pol.mul (ofL [1, 1]) (ofL [1, 1]) = Pol.add (ofL [1, 1]) (Pol.up 1 (ofL [1, 1])) := by
    conv => lhs; arg 1; rw [e1]
    rw [Pol.add_mul, Pol.up_mul, Pol.one_mul]
  refine ⟨fun _ => by decide, byt_lit rfl, ?_⟩
  rw [e2]
  funext i
  match i with
  | 0 => rfl
  | 1 => rfl
  | 2 => rfl
  | n + 3 =>
    show GF.of ([1, 0, 1].getD (n + 3) 0) = GF.of ([1, 1].getD (n + 3) 0) + (if 1 ≤ n + 3 then GF.of ([1, 1].getD (n + 3 - 1) 0) else 0)
    simp [List.getD]
    rfl
theorem dg_050 : Dg 2 (ofL [0, 5, 0]) := by
  refine ⟨fun i hi => ?_, fun _ e => ?_⟩
  · match i, hi with
    | 2, _ => rfl
    | n + 3, _ => show GF.of ([0, 5, 0].getD (n + 3) 0) = 0; simp [List.getD]; rfl
  · have := congrArg GF.val e
    revert this
    decide
theorem isN_00 : IsN [] (ofL [0, 0]) := by
  have : ofL [0, 0] = Pol.zero := Pol.ofL_rep 2
  rw [this]
  exact Pol.isN_nil
theorem dg_nil : Dg 0 (ofL []) := by rw [Pol.ofL_nil]; exact Pol.dg_zero
theorem bs_nil (W : World) : Bs W none 0 [] := ⟨rfl, by omega, fun i hi => absurd hi (Nat.not_lt_zero i), Pol.byt_nil⟩
set_option maxRecDepth 100000 in
set_option maxHeartbeats 1000000 in
theorem known05_calls (w : World) : Calls Try.prog 9 #[] w fun e w' => e = .returned (.bool true) ∧ Below w.heap.size w w' := by
  go_enter Try.func9, Try.ntmps9
  go_wp2_with fail
  refine (fof_calls 2 (by decide) (by decide) _).mono ?_
  rintro e w1 ⟨B, T, rfl, HF, hb, hlB, hlT⟩
  have HT := HF.lt
  have K1 := pmul_calls 2 B T 2 2 2 2 (some ⟨w1.heap.size, 0, none⟩) (some ⟨w1.heap.size + 1, 0, none⟩) [1, 1] [1, 1] [1, 0, 1] square_11 (by decide) (by decide) (by decide) (by decide) ((w1.alloc (.cells #[.int .u8 1, .int .u8 1] 5)).alloc (.cells #[.int .u8 1, .int .u8 1] 5)) ((HF.alloc _).alloc _) ((bs_lits w1 #[.int .u8 1, .int .u8 1] [1, 1] _ 2 rfl rfl rfl rfl (by decide)).alloc _) (bs_lits _ #[.int .u8 1, .int .u8 1] [1, 1] _ 2 rfl (by simp) rfl rfl (by decide)) (off_at (by omega)) (off_at (by omega))
  go_wp2_with fail
  refine K1.mono ?_
  rintro e w2 ⟨v, rfl, hO, hF, hb2⟩
  obtain ⟨q, c, rfl, S, C, -⟩ := hO.tell (n := 3) (byt_lit rfl) rfl
  have HB : Below w.heap.size w w2 := hb.trans (But.below (((But.refl (· = T) w1).alloc _).alloc _ |>.trans hb2) hb.size (by rintro k rfl; exact hlT))
  clear hO hF hb2 HF hb K1
  have K2 := same_calls q (some ⟨w2.heap.size, 0, none⟩) 3 c 3 [1, 0, 1] (w2.alloc (.cells #[.int .u8 1, .int .u8 0, .int .u8 1] 5)) (S.alloc _) (bs_lits w2 #[.int .u8 1, .int .u8 0, .int .u8 1] [1, 0, 1] _ 3 rfl rfl rfl rfl (by decide))
  go_wp2_with fail
  refine K2.mono ?_
  rintro e w3 ⟨rfl, hb⟩
  replace HB := (HB.alloc HB.size _).trans (hb.mono (HB.alloc HB.size _).size)
  clear hb S K2
  have K3 := pdeg_calls (some ⟨w3.heap.size, 0, none⟩) 3 3 [0, 5, 0] 2 dg_050 (w3.alloc (.cells #[.int .u8 0, .int .u8 5, .int .u8 0] 5)) (bs_lits w3 #[.int .u8 0, .int .u8 5, .int .u8 0] [0, 5, 0] _ 3 rfl rfl rfl rfl (by decide))
  go_wp2_with fail
  refine K3.mono ?_
  rintro e w4 ⟨rfl, hb⟩
  replace HB := (HB.alloc HB.size _).trans (hb.mono (HB.alloc HB.size _).size)
  clear hb K3
  have K4 := pdeg_calls none 0 0 [] 0 dg_nil w4 (bs_nil _)
  go_wp2_with fail
  refine K4.mono ?_
  rintro e w5 ⟨rfl, hb⟩
  replace HB := HB.trans (hb.mono HB.size)
  clear hb K4
  have K5 := pnorm_calls (some ⟨w5.heap.size, 0, none⟩) 2 2 [0, 0] [] isN_00 (by decide) (by decide) (w5.alloc (.cells #[.int .u8 0, .int .u8 0] 5)) (bs_lits w5 #[.int .u8 0, .int .u8 0] [0, 0] _ 2 rfl rfl rfl rfl (by decide))
  go_wp2_with fail
  refine K5.mono ?_
  rintro e w6 ⟨v, rfl, hO, hb⟩
  obtain ⟨q6, c6, rfl, -, -, -⟩ := hO.tell (n := 0) Pol.byt_nil rfl
  replace HB := (HB.alloc HB.size _).trans (hb.mono (HB.alloc HB.size _).size)
  clear hb hO K5
  go_wp2
  go_ret
  exact ⟨rfl, HB⟩
end Go.Proofs
