/- The walk of the example of chapter 6 (known). No conditions. -/
import Derived.Test.YtphhehppcfddgaaMK
import Derived.Test.YtphhehppcfddgaaMH
import Derived.Test.YtphhehppcfddgaaMR
namespace Go.Proofs
open Go.RowKit
open Pol (IsN Dg ofL Byt)
theorem div_101 : ofL [1, 0, 1] = Pol.add (Pol.mul (ofL [1, 1]) (ofL [1, 1])) Pol.zero := by rw [Pol.add_zero, ← square_11.eq]
set_option maxRecDepth 100000 in
set_option maxHeartbeats 1000000 in
theorem known06_calls (w : World) : Calls Try.prog 8 #[] w fun e w' => e = .returned (.bool true) ∧ Below w.heap.size w w' := by
  have HB : Below w.heap.size w w := Below.refl _ _
  go_enter Try.func8, Try.ntmps8
  go_wp2_with fail
  refine (fof_calls 2 (by decide) (by decide) _).mono ?_
  rintro e w1 ⟨B_f, T_f, rfl, HF_f, hb, hlB, hlT⟩
  have HL_f : w.heap.size ≤ T_f := Nat.le_trans HB.size hlT
  replace HB := HB.trans (hb.mono HB.size)
  clear hb hlB hlT
  go_wp2_with fail
  have S_x : Bs (w1.alloc (.cells #[.int .u8 1, .int .u8 0, .int .u8 1] 5)) (some ⟨w1.heap.size, 0, none⟩) 3 [1, 0, 1] := bs_lits w1 _ [1, 0, 1] _ 3 rfl (by first | rfl | simp) rfl rfl (by simp)
  have Q_x_f : Off T_f 3 (some ⟨w1.heap.size, 0, none⟩) := off_at (by have := HF_f.lt; (try simp at this); omega)
  replace HF_f := HF_f.alloc (.cells #[.int .u8 1, .int .u8 0, .int .u8 1] 5)
  replace HB := HB.alloc HB.size (.cells #[.int .u8 1, .int .u8 0, .int .u8 1] 5)
  have S_y : Bs ((w1.alloc (.cells #[.int .u8 1, .int .u8 0, .int .u8 1] 5)).alloc (.cells #[.int .u8 1, .int .u8 1] 5)) (some ⟨w1.heap.size + 1, 0, none⟩) 2 [1, 1] := bs_lits (w1.alloc (.cells #[.int .u8 1, .int .u8 0, .int .u8 1] 5)) _ [1, 1] _ 2 rfl (by first | rfl | simp) rfl rfl (by simp)
  have Q_y_f : Off T_f 2 (some ⟨w1.heap.size + 1, 0, none⟩) := off_at (by have := HF_f.lt; (try simp at this); omega)
  replace HF_f := HF_f.alloc (.cells #[.int .u8 1, .int .u8 1] 5)
  replace S_x := S_x.alloc (.cells #[.int .u8 1, .int .u8 1] 5)
  replace HB := HB.alloc HB.size (.cells #[.int .u8 1, .int .u8 1] 5)
  go_wp2_with fail
  refine (qdiv_calls 2 B_f T_f 3 3 2 2 1 _ _ [1, 0, 1] [1, 1] [1, 1] [] (ofL [1, 1]) Pol.zero dg_11 isN_11 Pol.isN_nil (Pol.Bd.zero _) div_101 (by decide) (by decide) (by decide) (by decide) _ HF_f S_x S_y Q_x_f Q_y_f).mono ?_
  rintro e w2 ⟨v, v', rfl, hO, hO', hF, hb⟩
  obtain ⟨q_q, c_q, rfl, S_q, C_q, hQ⟩ := hO.tell (n := 2) (byt_lit rfl) rfl
  clear hO
  have Q_q_f := hQ _ HF_f.lt
  clear hQ
  obtain ⟨q_r, c_r, rfl, S_r, C_r, hQ⟩ := hO'.tell (n := 0) Pol.byt_nil rfl
  clear hO'
  have Q_r_f := hQ _ HF_f.lt
  clear hQ
  replace HB := HB.trans (hb.below HB.size (by rintro k rfl; exact HL_f))
  replace S_x := S_x.but hb Q_x_f
  replace S_y := S_y.but hb Q_y_f
  clear HF_f hb
  have HF_f := hF
  clear hF
  clear S_x S_y
  go_wp2_with fail
  have S_x : Bs (w2.alloc (.cells #[.int .u8 1] 5)) (some ⟨w2.heap.size, 0, none⟩) 1 [1] := bs_lits w2 _ [1] _ 1 rfl (by first | rfl | simp) rfl rfl (by simp)
  have Q_x_f : Off T_f 1 (some ⟨w2.heap.size, 0, none⟩) := off_at (by have := HF_f.lt; (try simp at this); omega)
  replace HF_f := HF_f.alloc (.cells #[.int .u8 1] 5)
  replace S_q := S_q.alloc (.cells #[.int .u8 1] 5)
  replace S_r := S_r.alloc (.cells #[.int .u8 1] 5)
  replace HB := HB.alloc HB.size (.cells #[.int .u8 1] 5)
  have S_y : Bs ((w2.alloc (.cells #[.int .u8 1] 5)).alloc (.cells #[.int .u8 0] 5)) (some ⟨w2.heap.size + 1, 0, none⟩) 1 [0] := bs_lits (w2.alloc (.cells #[.int .u8 1] 5)) _ [0] _ 1 rfl (by first | rfl | simp) rfl rfl (by simp)
  have Q_y_f : Off T_f 1 (some ⟨w2.heap.size + 1, 0, none⟩) := off_at (by have := HF_f.lt; (try simp at this); omega)
  replace HF_f := HF_f.alloc (.cells #[.int .u8 0] 5)
  replace S_q := S_q.alloc (.cells #[.int .u8 0] 5)
  replace S_r := S_r.alloc (.cells #[.int .u8 0] 5)
  replace S_x := S_x.alloc (.cells #[.int .u8 0] 5)
  replace HB := HB.alloc HB.size (.cells #[.int .u8 0] 5)
  go_wp2_with fail
  refine (qdiv_zero 2 B_f T_f 1 1 1 1 _ _ [0] dg_0 _ HF_f S_y).mono ?_
  rintro e w3 ⟨rfl, hF, hb⟩
  replace HB := HB.trans (hb.below HB.size (by rintro k rfl; exact HL_f))
  replace S_q := S_q.but hb Q_q_f
  replace S_r := S_r.but hb Q_r_f
  replace S_x := S_x.but hb Q_x_f
  replace S_y := S_y.but hb Q_y_f
  clear HF_f hb
  have HF_f := hF
  clear hF
  clear S_x S_y
  go_wp2_with fail
  have S_z : Bs (w3.alloc (.cells #[.int .u8 1, .int .u8 1] 5)) (some ⟨w3.heap.size, 0, none⟩) 2 [1, 1] := bs_lits w3 _ [1, 1] _ 2 rfl (by first | rfl | simp) rfl rfl (by simp)
  have Q_z_f : Off T_f 2 (some ⟨w3.heap.size, 0, none⟩) := off_at (by have := HF_f.lt; (try simp at this); omega)
  replace HF_f := HF_f.alloc (.cells #[.int .u8 1, .int .u8 1] 5)
  replace S_q := S_q.alloc (.cells #[.int .u8 1, .int .u8 1] 5)
  replace S_r := S_r.alloc (.cells #[.int .u8 1, .int .u8 1] 5)
  replace HB := HB.alloc HB.size (.cells #[.int .u8 1, .int .u8 1] 5)
  go_wp2_with fail
  refine (same_calls q_q _ 2 c_q 2 [1, 1] _ S_q S_z).mono ?_
  rintro e w4 ⟨rfl, hb⟩
  replace HB := HB.trans (hb.mono HB.size)
  replace HF_f := HF_f.below hb
  replace S_q := S_q.below hb
  replace S_r := S_r.below hb
  replace S_z := S_z.below hb
  clear hb
  go_wp2
  go_ret
  exact ⟨rfl, HB⟩
end Go.Proofs
