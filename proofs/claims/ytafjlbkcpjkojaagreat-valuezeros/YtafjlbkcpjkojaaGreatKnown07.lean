/- The walk of the examples of chapter 7 (known). No conditions. -/
import Derived.Test.YtafjlbkcpjkojaaGreatMV
import Derived.Test.YtafjlbkcpjkojaaGreatMH
import Derived.Test.YtafjlbkcpjkojaaGreatMR
import Derived.Test.YtafjlbkcpjkojaaGreatMG
namespace Go.Proofs
open Go.RowKit
open Pol (IsN Dg ofL Byt vl frL IsTh Thr zl)
theorem th_05 : IsTh [0, 1] [5, 5] [5] true := by
  have e : ∀ x, Pol.ev 2 (ofL [5]) x = GF.of 5 := fun x => by
    have e1 : Pol.tail (ofL [5]) = Pol.zero := by funext i; show GF.of ([5].getD (i + 1) 0) = 0; simp [List.getD]; rfl
    rw [Pol.ev_succ, e1, Pol.ev_zero, GF.mul_zero, GF.add_zero]; rfl
  refine .inl ⟨rfl, rfl, ofL [5], ⟨fun _ => by decide, byt_lit rfl, rfl⟩, ⟨(Pol.ofL_bd [5]).mono_le (by decide), by decide, fun j hj => ?_⟩⟩
  show Pol.ev 2 (ofL [5]) _ = _
  rw [e]
  have hj' : j < 2 := hj
  match j, hj' with
  | 0, _ => rfl
  | 1, _ => rfl
theorem th_11 : IsTh [1, 1] [5, 5] [] false := .inr ⟨rfl, rfl, fun h => absurd h.2 (by decide)⟩
theorem frL_12 : frL [1, 2] = [2, 3, 1] := by
  refine (Pol.frL_isN [1, 2]).unique ⟨fun _ => by decide, byt_lit rfl, ?_⟩
  have e : Pol.fr [1, 2] = Pol.add (Pol.up 1 (Pol.lin (GF.of 2))) (Pol.lin (GF.of 2)) := by
    show Pol.mul (Pol.lin (GF.of 1)) (Pol.mul (Pol.lin (GF.of 2)) Pol.one) = _
    rw [Pol.mul_one, Pol.lin_mul, GF.of_one, Pol.one_smul]
  rw [e]
  funext i
  match i with
  | 0 => rfl
  | 1 => rfl
  | 2 => rfl
  | n + 3 =>
    show GF.of ([2, 3, 1].getD (n + 3) 0) = (if 1 ≤ n + 3 then Pol.lin (GF.of 2) (n + 2) else 0) + Pol.lin (GF.of 2) (n + 3)
    rw [if_pos (by omega), (Pol.lin_mon _).1 _ (by omega), (Pol.lin_mon _).1 _ (by omega)]
    simp [List.getD]
    rfl
set_option maxRecDepth 100000 in
set_option maxHeartbeats 1000000 in
theorem known07_calls (w : World) : Calls Tryz.prog 8 #[] w fun e w' => e = .returned (.bool true) ∧ Below w.heap.size w w' := by
  have HB : Below w.heap.size w w := Below.refl _ _
  have hnot : ∀ (x : Bool) (w : World), (Op.unary .not (.bool x)).run Tryz.prog w = .ok (.bool (!x)) w := fun _ _ => rfl
  go_enter Tryz.func8, Tryz.ntmps8
  go_wp2_with fail
  refine (fof_calls 2 (by decide) (by decide) _).mono ?_
  rintro e w1 ⟨B_f, T_f, rfl, HF_f, hb, hlB, hlT⟩
  have HL_f : w.heap.size ≤ T_f := Nat.le_trans HB.size hlT
  replace HB := HB.trans (hb.mono HB.size)
  clear hb hlB hlT
  go_wp2_with fail
  have S_x : Bs (w1.alloc (.cells #[.int .u8 0, .int .u8 1] 5)) (some ⟨w1.heap.size, 0, none⟩) 2 [0, 1] := bs_lits w1 _ [0, 1] _ 2 rfl (by first | rfl | simp) rfl rfl (by simp)
  have Q_x_f : Off T_f 2 (some ⟨w1.heap.size, 0, none⟩) := off_at (by have := HF_f.lt; (try simp at this); omega)
  replace HF_f := HF_f.alloc (.cells #[.int .u8 0, .int .u8 1] 5)
  replace HB := HB.alloc HB.size (.cells #[.int .u8 0, .int .u8 1] 5)
  have S_y : Bs ((w1.alloc (.cells #[.int .u8 0, .int .u8 1] 5)).alloc (.cells #[.int .u8 5, .int .u8 5] 5)) (some ⟨w1.heap.size + 1, 0, none⟩) 2 [5, 5] := bs_lits (w1.alloc (.cells #[.int .u8 0, .int .u8 1] 5)) _ [5, 5] _ 2 rfl (by first | rfl | simp) rfl rfl (by simp)
  have Q_y_f : Off T_f 2 (some ⟨w1.heap.size + 1, 0, none⟩) := off_at (by have := HF_f.lt; (try simp at this); omega)
  replace HF_f := HF_f.alloc (.cells #[.int .u8 5, .int .u8 5] 5)
  replace S_x := S_x.alloc (.cells #[.int .u8 5, .int .u8 5] 5)
  replace HB := HB.alloc HB.size (.cells #[.int .u8 5, .int .u8 5] 5)
  go_wp2_with fail
  refine (vthrough_calls 2 B_f T_f 2 2 2 2 _ _ [0, 1] [5, 5] [5] true th_05 (by decide) _ HF_f S_x S_y Q_x_f Q_y_f).mono ?_
  rintro e w2 ⟨v, rfl, hO, hF, hb⟩
  obtain ⟨q_p, c_p, rfl, S_p, C_p, hQ⟩ := hO.tell (n := 1) (byt_lit rfl) rfl
  clear hO
  have Q_p_f := hQ _ HF_f.lt
  clear hQ
  replace HB := HB.trans (hb.below HB.size (by rintro k rfl; exact HL_f))
  replace S_x := S_x.but hb Q_x_f
  replace S_y := S_y.but hb Q_y_f
  clear HF_f hb
  have HF_f := hF
  clear hF
  clear S_x S_y
  go_wp2_with fail
  have S_x : Bs (w2.alloc (.cells #[.int .u8 1, .int .u8 1] 5)) (some ⟨w2.heap.size, 0, none⟩) 2 [1, 1] := bs_lits w2 _ [1, 1] _ 2 rfl (by first | rfl | simp) rfl rfl (by simp)
  have Q_x_f : Off T_f 2 (some ⟨w2.heap.size, 0, none⟩) := off_at (by have := HF_f.lt; (try simp at this); omega)
  replace HF_f := HF_f.alloc (.cells #[.int .u8 1, .int .u8 1] 5)
  replace S_p := S_p.alloc (.cells #[.int .u8 1, .int .u8 1] 5)
  replace HB := HB.alloc HB.size (.cells #[.int .u8 1, .int .u8 1] 5)
  have S_y : Bs ((w2.alloc (.cells #[.int .u8 1, .int .u8 1] 5)).alloc (.cells #[.int .u8 5, .int .u8 5] 5)) (some ⟨w2.heap.size + 1, 0, none⟩) 2 [5, 5] := bs_lits (w2.alloc (.cells #[.int .u8 1, .int .u8 1] 5)) _ [5, 5] _ 2 rfl (by first | rfl | simp) rfl rfl (by simp)
  have Q_y_f : Off T_f 2 (some ⟨w2.heap.size + 1, 0, none⟩) := off_at (by have := HF_f.lt; (try simp at this); omega)
  replace HF_f := HF_f.alloc (.cells #[.int .u8 5, .int .u8 5] 5)
  replace S_p := S_p.alloc (.cells #[.int .u8 5, .int .u8 5] 5)
  replace S_x := S_x.alloc (.cells #[.int .u8 5, .int .u8 5] 5)
  replace HB := HB.alloc HB.size (.cells #[.int .u8 5, .int .u8 5] 5)
  go_wp2_with fail
  refine (vthrough_calls 2 B_f T_f 2 2 2 2 _ _ [1, 1] [5, 5] [] false th_11 (by decide) _ HF_f S_x S_y Q_x_f Q_y_f).mono ?_
  rintro e w3 ⟨v, rfl, hO, hF, hb⟩
  obtain ⟨q_n, c_n, rfl, S_n, C_n, hQ⟩ := hO.tell (n := 0) Pol.byt_nil rfl
  clear hO
  have Q_n_f := hQ _ HF_f.lt
  clear hQ
  replace HB := HB.trans (hb.below HB.size (by rintro k rfl; exact HL_f))
  replace S_p := S_p.but hb Q_p_f
  replace S_x := S_x.but hb Q_x_f
  replace S_y := S_y.but hb Q_y_f
  clear HF_f hb
  have HF_f := hF
  clear hF
  clear S_x S_y S_n
  go_wp2_with fail
  have S_x : Bs (w3.alloc (.cells #[.int .u8 1, .int .u8 2] 5)) (some ⟨w3.heap.size, 0, none⟩) 2 [1, 2] := bs_lits w3 _ [1, 2] _ 2 rfl (by first | rfl | simp) rfl rfl (by simp)
  have Q_x_f : Off T_f 2 (some ⟨w3.heap.size, 0, none⟩) := off_at (by have := HF_f.lt; (try simp at this); omega)
  replace HF_f := HF_f.alloc (.cells #[.int .u8 1, .int .u8 2] 5)
  replace S_p := S_p.alloc (.cells #[.int .u8 1, .int .u8 2] 5)
  replace HB := HB.alloc HB.size (.cells #[.int .u8 1, .int .u8 2] 5)
  go_wp2_with fail
  refine (vfrom_calls 2 B_f T_f 2 2 _ [1, 2] (by decide) _ HF_f S_x Q_x_f).mono ?_
  rintro e w4 ⟨v, rfl, hO, hF, hb⟩
  obtain ⟨q_g, c_g, rfl, S_g, C_g, hQ⟩ := hO.tell (n := 3) (Pol.frL_isN _).byt (Pol.frL_length _)
  clear hO
  have Q_g_f := hQ _ HF_f.lt
  clear hQ
  replace HB := HB.trans (hb.below HB.size (by rintro k rfl; exact HL_f))
  replace S_p := S_p.but hb Q_p_f
  replace S_x := S_x.but hb Q_x_f
  clear HF_f hb
  have HF_f := hF
  clear hF
  rw [frL_12] at S_g
  clear S_x
  go_wp2_with fail
  have S_z : Bs (w4.alloc (.cells #[.int .u8 2, .int .u8 3, .int .u8 1] 5)) (some ⟨w4.heap.size, 0, none⟩) 3 [2, 3, 1] := bs_lits w4 _ [2, 3, 1] _ 3 rfl (by first | rfl | simp) rfl rfl (by simp)
  have Q_z_f : Off T_f 3 (some ⟨w4.heap.size, 0, none⟩) := off_at (by have := HF_f.lt; (try simp at this); omega)
  replace HF_f := HF_f.alloc (.cells #[.int .u8 2, .int .u8 3, .int .u8 1] 5)
  replace S_p := S_p.alloc (.cells #[.int .u8 2, .int .u8 3, .int .u8 1] 5)
  replace S_g := S_g.alloc (.cells #[.int .u8 2, .int .u8 3, .int .u8 1] 5)
  replace HB := HB.alloc HB.size (.cells #[.int .u8 2, .int .u8 3, .int .u8 1] 5)
  go_wp2_with fail
  refine (same_calls q_g _ 3 c_g 3 [2, 3, 1] _ S_g S_z).mono ?_
  rintro e w5 ⟨rfl, hb⟩
  replace HB := HB.trans (hb.mono HB.size)
  replace HF_f := HF_f.below hb
  replace S_p := S_p.below hb
  replace S_g := S_g.below hb
  replace S_z := S_z.below hb
  clear hb
  clear S_g S_z
  go_wp2_with fail
  have S_z : Bs (w5.alloc (.cells #[.int .u8 5] 5)) (some ⟨w5.heap.size, 0, none⟩) 1 [5] := bs_lits w5 _ [5] _ 1 rfl (by first | rfl | simp) rfl rfl (by simp)
  have Q_z_f : Off T_f 1 (some ⟨w5.heap.size, 0, none⟩) := off_at (by have := HF_f.lt; (try simp at this); omega)
  replace HF_f := HF_f.alloc (.cells #[.int .u8 5] 5)
  replace S_p := S_p.alloc (.cells #[.int .u8 5] 5)
  replace HB := HB.alloc HB.size (.cells #[.int .u8 5] 5)
  go_wp2_with fail
  refine (same_calls q_p _ 1 c_p 1 [5] _ S_p S_z).mono ?_
  rintro e w6 ⟨rfl, hb⟩
  replace HB := HB.trans (hb.mono HB.size)
  replace HF_f := HF_f.below hb
  replace S_p := S_p.below hb
  replace S_z := S_z.below hb
  clear hb
  clear S_p S_z
  go_wp2_with fail
  refine (vzeros_calls 2 B_f T_f 0 0 _ [] _ HF_f (bs_nil _) (fun h => absurd h (Nat.not_lt_zero 0))).mono ?_
  rintro e w7 ⟨v, rfl, hO, hF, hb⟩
  obtain ⟨q_o, c_o, rfl, S_o, C_o, hQ⟩ := hO.tell (n := 256) (Pol.zl_byt _) Pol.zl_nil
  clear hO
  have Q_o_f := hQ _ HF_f.lt
  clear hQ
  replace HB := HB.trans (hb.below HB.size (by rintro k rfl; exact HL_f))
  clear HF_f hb
  have HF_f := hF
  clear hF
  go_wp2
  go_ret
  exact ⟨rfl, HB⟩
end Go.Proofs
