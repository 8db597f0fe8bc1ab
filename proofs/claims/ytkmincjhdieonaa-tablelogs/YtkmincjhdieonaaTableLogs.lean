/- TableLogs holds for every input: each byte but 0 is the power that its logarithm tells, and powers come round behind 255; products are sums of logarithms. No conditions. -/
import Derived.Test.YtkmincjhdieonaaRows
import Derived.Test.YtkmincjhdieonaaNums
import Derived.Test.YtkmincjhdieonaaKnown02
namespace Go.Proofs.Ytkmincjhdieonaa.tableLogs
open Go.ChangeShapes Go.WideShapes Go.ChangeAt Go.RowKit

theorem round_ok (n : Int) : (((Gf.lg (Gf.powZ 2 n) : Nat) : Int) - n).tmod 255 = 0 := by
  rw [Gf.powZ_two_mod, Gf.lg_pow _ (by omega)]
  have h : ((n % 255).toNat : Int) - n = 255 * (-(n / 255)) := by omega
  rw [h]
  exact Int.mul_tmod_right _ _
set_option maxRecDepth 100000 in
set_option maxHeartbeats 1000000 in
theorem walk_00 (a b : Nat) (n : Int) (ha : a < 256) (hb : b < 256) (h0 : a = 0) (h1 : b = 0) (hn1 : -32768 ≤ n) (hn2 : n < 32768) (w : World) :
    Calls Try.prog 5 #[.int .u8 a, .int .u8 b, .int .i16 n] w fun e w' => e = .returned (.bool true) ∧ Below w.heap.size w w' := by
  have hp := Gf.powZ_lt 2 n (by decide)
  have hrd := round_ok n
  have hne : (Gf.powZ 2 n != 0) = true := by
    rw [Gf.powZ_two_mod]; simp [Gf.pow_ne_zero 2 _ (by decide) (by decide)]
  have hlt := Gf.lg_lt _ hp
  obtain ⟨q, hq⟩ : ∃ q, Gf.powZ 2 n = q := ⟨_, rfl⟩
  rw [hq] at hp hrd hne hlt
  have HQ : Hid (Gf.powZ 2 n = q) := hq
  clear hq
  obtain ⟨m, hm⟩ : ∃ m, Gf.lg q = m := ⟨_, rfl⟩
  rw [hm] at hrd hlt
  have HG : Hid (Gf.lg q = m) := hm
  clear hm
  have HN : Hid ((q != 0) = true) := hne
  clear hne
  have hla := Gf.lg_lt a ha
  have hlb := Gf.lg_lt b hb
  subst h0 h1
  obtain ⟨x, hx⟩ : ∃ x, Gf.lg 0 = x := ⟨_, rfl⟩
  obtain ⟨y, hy⟩ : ∃ y, Gf.lg 0 = y := ⟨_, rfl⟩
  rw [hx] at hla
  rw [hy] at hlb
  have HX : Hid (Gf.lg 0 = x) := hx
  have HY : Hid (Gf.lg 0 = y) := hy
  clear hx hy
  have HB : Below w.heap.size w w := Below.refl _ _
  go_enter Try.func5, Try.ntmps5
  go_wp2_with fail
  refine (tnew_any _).mono ?_
  rintro e w1 ⟨B, rfl, HF_B, hb, hn⟩
  have HL_B : w.heap.size ≤ B := by rw [hn]; exact HB.size
  replace HB := HB.trans (hb.mono HB.size)
  clear hb hn
  go_wp2_with fail
  refine (tlog_e B 0 x false ha HX.out rfl _ (.inl HF_B)).mono ?_
  rintro e w2 ⟨rfl, hm, hb⟩
  replace HB := HB.trans (hb.below HB.size (by rintro k rfl; exact HL_B))
  clear HF_B hb
  have HM_B := hm
  clear hm
  go_wp2_with fail
  refine (tlog_e B 0 y false hb HY.out rfl _ (.inr HM_B)).mono ?_
  rintro e w3 ⟨rfl, hm, hb⟩
  replace HB := HB.trans (hb.below HB.size (by rintro k rfl; exact HL_B))
  clear HM_B hb
  have HM_B := hm
  clear hm
  go_wp2_with fail
  refine (texp_e B n q HQ.out _ (.inr HM_B)).mono ?_
  rintro e w4 ⟨rfl, hm, hb⟩
  replace HB := HB.trans (hb.below HB.size (by rintro k rfl; exact HL_B))
  clear HM_B hb
  have HM_B := hm
  clear hm
  go_wp2_with fail
  refine (tlog_e B q m true hp HG.out HN.out _ (.inr HM_B)).mono ?_
  rintro e w5 ⟨rfl, hm, hb⟩
  replace HB := HB.trans (hb.below HB.size (by rintro k rfl; exact HL_B))
  clear HM_B hb
  have HM_B := hm
  clear hm
  go_wp2_with fail
  refine (known02_calls _).mono ?_
  rintro e w6 ⟨rfl, hb⟩
  replace HB := HB.trans (hb.mono HB.size)
  replace HM_B := HM_B.but (But.of_below (S := fun _ => False) hb) (fun f => f)
  clear hb
  go_wp2_with fail
  refine (tmul_e B 0 0 0 ha hb (Gf.zero_mul 0) _ (.inr HM_B)).mono ?_
  rintro e w7 ⟨rfl, hm, hb⟩
  replace HB := HB.trans (hb.below HB.size (by rintro k rfl; exact HL_B))
  clear HM_B hb
  have HM_B := hm
  clear hm
  go_wp2
  go_ret
  exact ⟨rfl, HB⟩
set_option maxRecDepth 100000 in
set_option maxHeartbeats 1000000 in
theorem walk_0b (a b : Nat) (n : Int) (ha : a < 256) (hb : b < 256) (h0 : a = 0) (h1 : b ≠ 0) (hn1 : -32768 ≤ n) (hn2 : n < 32768) (w : World) :
    Calls Try.prog 5 #[.int .u8 a, .int .u8 b, .int .i16 n] w fun e w' => e = .returned (.bool true) ∧ Below w.heap.size w w' := by
  have hp := Gf.powZ_lt 2 n (by decide)
  have hrd := round_ok n
  have hne : (Gf.powZ 2 n != 0) = true := by
    rw [Gf.powZ_two_mod]; simp [Gf.pow_ne_zero 2 _ (by decide) (by decide)]
  have hlt := Gf.lg_lt _ hp
  obtain ⟨q, hq⟩ : ∃ q, Gf.powZ 2 n = q := ⟨_, rfl⟩
  rw [hq] at hp hrd hne hlt
  have HQ : Hid (Gf.powZ 2 n = q) := hq
  clear hq
  obtain ⟨m, hm⟩ : ∃ m, Gf.lg q = m := ⟨_, rfl⟩
  rw [hm] at hrd hlt
  have HG : Hid (Gf.lg q = m) := hm
  clear hm
  have HN : Hid ((q != 0) = true) := hne
  clear hne
  have hla := Gf.lg_lt a ha
  have hlb := Gf.lg_lt b hb
  subst h0
  have e1 : ((b : Int) == 0) = false := by simp; omega
  have e2 : ((b : Int) != 0) = true := by simp; omega
  have HBb : Hid ((b != 0) = true) := (by simp [h1] : (b != 0) = true)
  clear h1
  obtain ⟨x, hx⟩ : ∃ x, Gf.lg 0 = x := ⟨_, rfl⟩
  obtain ⟨y, hy⟩ : ∃ y, Gf.lg b = y := ⟨_, rfl⟩
  rw [hx] at hla
  rw [hy] at hlb
  have HX : Hid (Gf.lg 0 = x) := hx
  have HY : Hid (Gf.lg b = y) := hy
  clear hx hy
  have HB : Below w.heap.size w w := Below.refl _ _
  go_enter Try.func5, Try.ntmps5
  go_wp2_with fail
  refine (tnew_any _).mono ?_
  rintro e w1 ⟨B, rfl, HF_B, hb, hn⟩
  have HL_B : w.heap.size ≤ B := by rw [hn]; exact HB.size
  replace HB := HB.trans (hb.mono HB.size)
  clear hb hn
  go_wp2_with fail
  refine (tlog_e B 0 x false ha HX.out rfl _ (.inl HF_B)).mono ?_
  rintro e w2 ⟨rfl, hm, hb⟩
  replace HB := HB.trans (hb.below HB.size (by rintro k rfl; exact HL_B))
  clear HF_B hb
  have HM_B := hm
  clear hm
  go_wp2_with fail
  refine (tlog_e B b y true hb HY.out HBb.out _ (.inr HM_B)).mono ?_
  rintro e w3 ⟨rfl, hm, hb⟩
  replace HB := HB.trans (hb.below HB.size (by rintro k rfl; exact HL_B))
  clear HM_B hb
  have HM_B := hm
  clear hm
  go_wp2_with fail
  refine (texp_e B n q HQ.out _ (.inr HM_B)).mono ?_
  rintro e w4 ⟨rfl, hm, hb⟩
  replace HB := HB.trans (hb.below HB.size (by rintro k rfl; exact HL_B))
  clear HM_B hb
  have HM_B := hm
  clear hm
  go_wp2_with fail
  refine (tlog_e B q m true hp HG.out HN.out _ (.inr HM_B)).mono ?_
  rintro e w5 ⟨rfl, hm, hb⟩
  replace HB := HB.trans (hb.below HB.size (by rintro k rfl; exact HL_B))
  clear HM_B hb
  have HM_B := hm
  clear hm
  go_wp2_with fail
  refine (known02_calls _).mono ?_
  rintro e w6 ⟨rfl, hb⟩
  replace HB := HB.trans (hb.mono HB.size)
  replace HM_B := HM_B.but (But.of_below (S := fun _ => False) hb) (fun f => f)
  clear hb
  go_wp2_with fail
  refine (tmul_e B 0 b 0 ha hb (Gf.zero_mul b) _ (.inr HM_B)).mono ?_
  rintro e w7 ⟨rfl, hm, hb⟩
  replace HB := HB.trans (hb.below HB.size (by rintro k rfl; exact HL_B))
  clear HM_B hb
  have HM_B := hm
  clear hm
  go_wp2
  go_ret
  exact ⟨rfl, HB⟩
set_option maxRecDepth 100000 in
set_option maxHeartbeats 1000000 in
theorem walk_a0 (a b : Nat) (n : Int) (ha : a < 256) (hb : b < 256) (h0 : a ≠ 0) (h1 : b = 0) (hn1 : -32768 ≤ n) (hn2 : n < 32768) (w : World) :
    Calls Try.prog 5 #[.int .u8 a, .int .u8 b, .int .i16 n] w fun e w' => e = .returned (.bool true) ∧ Below w.heap.size w w' := by
  have hp := Gf.powZ_lt 2 n (by decide)
  have hrd := round_ok n
  have hne : (Gf.powZ 2 n != 0) = true := by
    rw [Gf.powZ_two_mod]; simp [Gf.pow_ne_zero 2 _ (by decide) (by decide)]
  have hlt := Gf.lg_lt _ hp
  obtain ⟨q, hq⟩ : ∃ q, Gf.powZ 2 n = q := ⟨_, rfl⟩
  rw [hq] at hp hrd hne hlt
  have HQ : Hid (Gf.powZ 2 n = q) := hq
  clear hq
  obtain ⟨m, hm⟩ : ∃ m, Gf.lg q = m := ⟨_, rfl⟩
  rw [hm] at hrd hlt
  have HG : Hid (Gf.lg q = m) := hm
  clear hm
  have HN : Hid ((q != 0) = true) := hne
  clear hne
  have hla := Gf.lg_lt a ha
  have hlb := Gf.lg_lt b hb
  subst h1
  have e1 : ((a : Int) == 0) = false := by simp; omega
  have e2 : ((a : Int) != 0) = true := by simp; omega
  have HAa : Hid ((a != 0) = true) := (by simp [h0] : (a != 0) = true)
  clear h0
  obtain ⟨x, hx⟩ : ∃ x, Gf.lg a = x := ⟨_, rfl⟩
  obtain ⟨y, hy⟩ : ∃ y, Gf.lg 0 = y := ⟨_, rfl⟩
  rw [hx] at hla
  rw [hy] at hlb
  have HX : Hid (Gf.lg a = x) := hx
  have HY : Hid (Gf.lg 0 = y) := hy
  clear hx hy
  have HB : Below w.heap.size w w := Below.refl _ _
  go_enter Try.func5, Try.ntmps5
  go_wp2_with fail
  refine (tnew_any _).mono ?_
  rintro e w1 ⟨B, rfl, HF_B, hb, hn⟩
  have HL_B : w.heap.size ≤ B := by rw [hn]; exact HB.size
  replace HB := HB.trans (hb.mono HB.size)
  clear hb hn
  go_wp2_with fail
  refine (tlog_e B a x true ha HX.out HAa.out _ (.inl HF_B)).mono ?_
  rintro e w2 ⟨rfl, hm, hb⟩
  replace HB := HB.trans (hb.below HB.size (by rintro k rfl; exact HL_B))
  clear HF_B hb
  have HM_B := hm
  clear hm
  go_wp2_with fail
  refine (tlog_e B 0 y false hb HY.out rfl _ (.inr HM_B)).mono ?_
  rintro e w3 ⟨rfl, hm, hb⟩
  replace HB := HB.trans (hb.below HB.size (by rintro k rfl; exact HL_B))
  clear HM_B hb
  have HM_B := hm
  clear hm
  go_wp2_with fail
  refine (texp_e B n q HQ.out _ (.inr HM_B)).mono ?_
  rintro e w4 ⟨rfl, hm, hb⟩
  replace HB := HB.trans (hb.below HB.size (by rintro k rfl; exact HL_B))
  clear HM_B hb
  have HM_B := hm
  clear hm
  go_wp2_with fail
  refine (tlog_e B q m true hp HG.out HN.out _ (.inr HM_B)).mono ?_
  rintro e w5 ⟨rfl, hm, hb⟩
  replace HB := HB.trans (hb.below HB.size (by rintro k rfl; exact HL_B))
  clear HM_B hb
  have HM_B := hm
  clear hm
  go_wp2_with fail
  refine (known02_calls _).mono ?_
  rintro e w6 ⟨rfl, hb⟩
  replace HB := HB.trans (hb.mono HB.size)
  replace HM_B := HM_B.but (But.of_below (S := fun _ => False) hb) (fun f => f)
  clear hb
  go_wp2_with fail
  refine (tmul_e B a 0 0 ha hb (Gf.mul_zero a) _ (.inr HM_B)).mono ?_
  rintro e w7 ⟨rfl, hm, hb⟩
  replace HB := HB.trans (hb.below HB.size (by rintro k rfl; exact HL_B))
  clear HM_B hb
  have HM_B := hm
  clear hm
  go_wp2
  go_ret
  exact ⟨rfl, HB⟩
set_option maxRecDepth 100000 in
set_option maxHeartbeats 1000000 in
theorem walk_ab (a b : Nat) (n : Int) (ha : a < 256) (hb : b < 256) (h0 : a ≠ 0) (h1 : b ≠ 0) (hn1 : -32768 ≤ n) (hn2 : n < 32768) (w : World) :
    Calls Try.prog 5 #[.int .u8 a, .int .u8 b, .int .i16 n] w fun e w' => e = .returned (.bool true) ∧ Below w.heap.size w w' := by
  have hp := Gf.powZ_lt 2 n (by decide)
  have hrd := round_ok n
  have hne : (Gf.powZ 2 n != 0) = true := by
    rw [Gf.powZ_two_mod]; simp [Gf.pow_ne_zero 2 _ (by decide) (by decide)]
  have hlt := Gf.lg_lt _ hp
  obtain ⟨q, hq⟩ : ∃ q, Gf.powZ 2 n = q := ⟨_, rfl⟩
  rw [hq] at hp hrd hne hlt
  have HQ : Hid (Gf.powZ 2 n = q) := hq
  clear hq
  obtain ⟨m, hm⟩ : ∃ m, Gf.lg q = m := ⟨_, rfl⟩
  rw [hm] at hrd hlt
  have HG : Hid (Gf.lg q = m) := hm
  clear hm
  have HN : Hid ((q != 0) = true) := hne
  clear hne
  have hla := Gf.lg_lt a ha
  have hlb := Gf.lg_lt b hb
  have e1 : ((a : Int) == 0) = false := by simp; omega
  have e3 : ((b : Int) == 0) = false := by simp; omega
  have HAa : Hid ((a != 0) = true) := (by simp [h0] : (a != 0) = true)
  have HBb : Hid ((b != 0) = true) := (by simp [h1] : (b != 0) = true)
  have hE : Gf.powZ 2 (Gf.lg a : Nat) = a := Gf.pow_lg a ha h0
  have hF : Gf.powZ 2 ((Gf.lg a : Int) + (Gf.lg b : Int)) = Gf.mul a b := by
    rw [← Gf.mul_lg a b ha hb h0 h1]
    exact (rfl : Gf.powZ 2 ((Gf.lg a + Gf.lg b : Nat) : Int) = _)
  clear h0 h1
  obtain ⟨x, hx⟩ : ∃ x, Gf.lg a = x := ⟨_, rfl⟩
  obtain ⟨y, hy⟩ : ∃ y, Gf.lg b = y := ⟨_, rfl⟩
  rw [hx] at hla hE hF
  rw [hy] at hlb hF
  have HX : Hid (Gf.lg a = x) := hx
  have HY : Hid (Gf.lg b = y) := hy
  clear hx hy
  have HE : Hid (Gf.powZ 2 (x : Int) = a) := hE
  have HF : Hid (Gf.powZ 2 ((x : Int) + (y : Int)) = Gf.mul a b) := hF
  clear hE hF
  have HB : Below w.heap.size w w := Below.refl _ _
  go_enter Try.func5, Try.ntmps5
  go_wp2_with fail
  refine (tnew_any _).mono ?_
  rintro e w1 ⟨B, rfl, HF_B, hb, hn⟩
  have HL_B : w.heap.size ≤ B := by rw [hn]; exact HB.size
  replace HB := HB.trans (hb.mono HB.size)
  clear hb hn
  go_wp2_with fail
  refine (tlog_e B a x true ha HX.out HAa.out _ (.inl HF_B)).mono ?_
  rintro e w2 ⟨rfl, hm, hb⟩
  replace HB := HB.trans (hb.below HB.size (by rintro k rfl; exact HL_B))
  clear HF_B hb
  have HM_B := hm
  clear hm
  go_wp2_with fail
  refine (tlog_e B b y true hb HY.out HBb.out _ (.inr HM_B)).mono ?_
  rintro e w3 ⟨rfl, hm, hb⟩
  replace HB := HB.trans (hb.below HB.size (by rintro k rfl; exact HL_B))
  clear HM_B hb
  have HM_B := hm
  clear hm
  go_wp2_with fail
  refine (texp_e B n q HQ.out _ (.inr HM_B)).mono ?_
  rintro e w4 ⟨rfl, hm, hb⟩
  replace HB := HB.trans (hb.below HB.size (by rintro k rfl; exact HL_B))
  clear HM_B hb
  have HM_B := hm
  clear hm
  go_wp2_with fail
  refine (tlog_e B q m true hp HG.out HN.out _ (.inr HM_B)).mono ?_
  rintro e w5 ⟨rfl, hm, hb⟩
  replace HB := HB.trans (hb.below HB.size (by rintro k rfl; exact HL_B))
  clear HM_B hb
  have HM_B := hm
  clear hm
  go_wp2_with fail
  refine (known02_calls _).mono ?_
  rintro e w6 ⟨rfl, hb⟩
  replace HB := HB.trans (hb.mono HB.size)
  replace HM_B := HM_B.but (But.of_below (S := fun _ => False) hb) (fun f => f)
  clear hb
  go_wp2_with fail
  refine (texp_e B x a HE.out _ (.inr HM_B)).mono ?_
  rintro e w7 ⟨rfl, hm, hb⟩
  replace HB := HB.trans (hb.below HB.size (by rintro k rfl; exact HL_B))
  clear HM_B hb
  have HM_B := hm
  clear hm
  go_wp2_with fail
  refine (texp_e B (x + y) (Gf.mul a b) HF.out _ (.inr HM_B)).mono ?_
  rintro e w8 ⟨rfl, hm, hb⟩
  replace HB := HB.trans (hb.below HB.size (by rintro k rfl; exact HL_B))
  clear HM_B hb
  have HM_B := hm
  clear hm
  go_wp2_with fail
  refine (tmul_e B a b (Gf.mul a b) ha hb rfl _ (.inr HM_B)).mono ?_
  rintro e w9 ⟨rfl, hm, hb⟩
  replace HB := HB.trans (hb.below HB.size (by rintro k rfl; exact HL_B))
  clear HM_B hb
  have HM_B := hm
  clear hm
  go_wp2
  go_ret
  refine ⟨?_, HB⟩
  show Ending.returned (.bool (decide ((m : Int) < 255))) = .returned (.bool true)
  rw [decide_eq_true (by omega)]
theorem walk (a b : Nat) (n : Int) (ha : a < 256) (hb : b < 256) (hn1 : -32768 ≤ n) (hn2 : n < 32768) (w : World) :
    Calls Try.prog 5 #[.int .u8 a, .int .u8 b, .int .i16 n] w fun e w' => e = .returned (.bool true) ∧ Below w.heap.size w w' := by
  by_cases h0 : a = 0
  · by_cases h1 : b = 0
    · exact walk_00 a b n ha hb h0 h1 hn1 hn2 w
    · exact walk_0b a b n ha hb h0 h1 hn1 hn2 w
  · by_cases h1 : b = 0
    · exact walk_a0 a b n ha hb h0 h1 hn1 hn2 w
    · exact walk_ab a b n ha hb h0 h1 hn1 hn2 w

theorem own : ownKnob Try.prog.godebug = none := by kernel_rfl
set_option maxRecDepth 100000 in
theorem lifted (os : Os) (started : os.Started) (H : Type) (enc : TypeId × Value → H) :
    ReturnsInHanded {} Try.checked os 5 .any (Rows.tableLogsSpec.pre6 enc Try.prog Try.f5 Rows.tableLogsRow.domain false) (Rows.tableLogsSpec.post enc Try.prog Try.f5 false true false false) := by
  refine returnsInHanded_of_change (C := Try.checked) own started (by kernel_rfl) Try.func5
    (ChangeSpec.witness6 (enc := enc) (C := Try.checked) false ⟨#[], #[.int .u8 0, .int .u8 0, .int .i16 0], []⟩ 8 (by kernel_rfl) (by kernel_rfl) (by kernel_rfl) (by kernel_rfl)) ?_
  intro W base args ds gs before hval0 hW _ _
  have hval : ∀ (j : Nat) t v, Try.f5.params[j]? = some t → args[j]? = some v → Value.okWide Try.prog W .any base t v := hval0
  have hW' := hW
  obtain ⟨p, q, hA0, hV, rfl, _, _⟩ := hW
  have hA : DataW.TrodAll enc Try.prog W 0 (fun _ => true) true Try.f5.params.toList args.toList ds p := hA0
  rw [Try.params5] at hA hval
  obtain ⟨v0, vs0, d0, ds0, p0, q0, hargs, rfl, rfl, h0, r0⟩ := trodAll_cons hA
  obtain ⟨v1, vs1, d1, ds1, p1, q1, rfl, rfl, rfl, h1, r1⟩ := trodAll_cons r0
  obtain ⟨v2, vs2, d2, ds2, p2, q2, rfl, rfl, rfl, h2, r2⟩ := trodAll_cons r1
  obtain ⟨rfl, rfl, rfl⟩ := trodAll_nil r2
  obtain rfl : args = #[v0, v1, v2] := by cases args; simp_all
  obtain ⟨rfl, rfl⟩ := trodVars_none hV
  obtain ⟨a0, rfl, rfl, rfl, w0⟩ := open_int Try.underlying5 (hval 0 5 v0 rfl rfl) h0
  obtain ⟨n0, b0, rfl⟩ := nat_of_u8 w0
  obtain ⟨a1, rfl, rfl, rfl, w1⟩ := open_int Try.underlying5 (hval 1 5 v1 rfl rfl) h1
  obtain ⟨n1, b1, rfl⟩ := nat_of_u8 w1
  obtain ⟨a2, rfl, rfl, rfl, w2⟩ := open_int Try.underlying22 (hval 2 22 v2 rfl rfl) h2
  obtain ⟨b2, c2⟩ := int_of_i16 w2
  clear hA0 hval0
  simp only [List.append_nil] at hW'
  refine (walk n0 n1 a2 b0 b1 b2 c2 W).mono fun e W' ⟨he, bel⟩ => ?_
  subst he
  exact ⟨_, rfl, _, _, _, [], [], [], hW', trodAll_mk1 (shut_bool Try.underlying4 _), (trodAll_cons_mk (shut_int Try.underlying5 w0) (trodAll_cons_mk (shut_int Try.underlying5 w1) (trodAll_cons_mk (shut_int Try.underlying22 w2) trodAll_mk0))), rfl, bel.frame _, fun h => by cases h⟩
theorem over : Rows.tableLogsRow.holds Try.pinned (OpenSpec.ofChange Rows.tableLogsSpec) :=
  OpenClaim.holds_of_wide 5 Try.f5 rfl rfl rfl rfl rfl rfl rfl ⟨rfl, rfl, rfl, rfl, rfl⟩ rfl rfl rfl rfl rfl (by kernel_rfl) Try.func5 (by kernel_rfl)
    (of_decide_eq_true (by kernel_rfl)) (by unfold Func.isWrapper; first | (rw [if_pos (by decide +kernel)]; kernel_rfl) | (rw [if_neg (by decide +kernel)]; exact ⟨rfl, rfl⟩))
    (fun os started H enc _ => lifted os started H enc)
theorem proved : Rows.TableLogsSaid := over
#print axioms proved
end Go.Proofs.Ytkmincjhdieonaa.tableLogs
