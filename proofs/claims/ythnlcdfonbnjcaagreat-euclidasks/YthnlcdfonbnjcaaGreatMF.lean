/- Texts laid together: FdLn, FdSh, TabCalls, Fd, FdBy, FdNil. Each says its own conditions. -/
import Derived.Deep.QuietTactic
import Derived.BigQuiet
import Derived.Test.YthnlcdfonbnjcaaGreatProg
import Derived.WalkKit
import Derived.Test.YthnlcdfonbnjcaaGreatMD
import Derived.Test.YthnlcdfonbnjcaaGreatMA
import Derived.Test.YthnlcdfonbnjcaaGreatME
import Derived.Test.YthnlcdfonbnjcaaGreatMC
import Derived.Test.YthnlcdfonbnjcaaGreatMO
/- The walks of field's backend of lanes, for single bytes: first, power, Mul, Inv, Pow. Conditions: bytes; an int. -/
namespace Go.Proofs
open Go.RowKit

/-- A byte in the first lane. -/
def on1 (x : Nat) : Nat → Nat := fun j => if j = 0 then x else 0
theorem on1_lt (x : Nat) (hx : x < 256) : ∀ n, n < 64 → on1 x n < 256 := fun n _ => by unfold on1; split <;> omega
theorem on1_mul (x y : Nat) : ∀ n, n < 64 → Gf.mul (on1 x n) (on1 y n) = on1 (Gf.mul x y) n := fun n _ => by
  unfold on1; split
  · rfl
  · exact Gf.mul_zero 0
set_option maxRecDepth 100000 in
set_option maxHeartbeats 1000000 in
theorem ffirst_calls (a : Nat) (ha : a < 256) (w : World) :
    Calls Tryz.prog 136 #[.int .u8 a] w fun e w' => e = .returned (V8 (on1 a)) ∧ Below w.heap.size w w' := by
  have hP : Hid (∀ (c : Nat) (w : World) (B : Nat), w.cell? ⟨B, 0, none⟩ = some (.int .u8 a) → Calls Tryz.prog 139 #[.slice (some ⟨B, 0, none⟩) 1 c] w fun e w' => e = .returned (V8 (on1 a)) ∧ Below w.heap.size w w') := by
    intro c w B hc
    refine lpack_calls (some ⟨B, 0, none⟩) 1 c [a] (on1 a) ?_ w ⟨rfl, by decide, ?_, ?_⟩
    · intro k _
      match k with
      | 0 => rfl
      | k + 1 => simp [on1]
    · intro i hi
      obtain rfl : i = 0 := by omega
      exact ⟨_, rfl, World.block_lt_of_cell? _ _ hc, hc⟩
    · intro i
      match i with
      | 0 => exact ha
      | i + 1 => simp
  have hZ := pl_zero8 w rfl 166
  go_enter Tryz.func136, Tryz.ntmps136
  go_wp2_with fail
  refine (hP.out _ _ _ (by simp [go_sem])).mono ?_
  rintro e w1 ⟨rfl, hb⟩
  have hR := (hZ.alloc _).below hb
  have HN : Hid (Pl w1 w.heap.size 8 (fun _ => 0) ∧ Below w.heap.size w w1) := ⟨hR, (((Below.refl _ w).alloc (Nat.le_refl _) _).alloc (by simp) _).trans (hb.mono (by simp; omega))⟩
  have r0 := hR.cell 0 (by decide)
  have r1 := hR.cell 1 (by decide)
  have r2 := hR.cell 2 (by decide)
  have r3 := hR.cell 3 (by decide)
  have r4 := hR.cell 4 (by decide)
  have r5 := hR.cell 5 (by decide)
  have r6 := hR.cell 6 (by decide)
  have r7 := hR.cell 7 (by decide)
  have f0 := hR.fz 0
  have f1 := hR.fz 1
  have f2 := hR.fz 2
  have f3 := hR.fz 3
  have f4 := hR.fz 4
  have f5 := hR.fz 5
  have f6 := hR.fz 6
  have f7 := hR.fz 7
  clear hR hb hZ
  go_wp2
  exact bodyPost_ret (results_cell Tryz.results136 rfl (load8 (HN.out.1.set8 (on1 a)))) rfl ⟨rfl, below_set8 HN.out.2 (by omega) (on1 a)⟩

theorem i64_and1 (n : Int) : bits .and .i64 n 1 = n % 2 := by
  have h1 : (BitVec.ofInt 64 1).toNat = 2 ^ 1 - 1 := by decide
  have key : (BitVec.ofInt 64 n &&& BitVec.ofInt 64 1).toNat = (n % ((2 ^ 64 : Nat) : Int)).toNat % 2 ^ 1 := by
    rw [BitVec.toNat_and, BitVec.toNat_ofInt, h1, Nat.and_two_pow_sub_one_eq_mod]
  show IntKind.i64.wrap ((BitVec.ofInt 64 n &&& BitVec.ofInt 64 1).toNat : Nat) = n % 2
  rw [key, IntKind.wrap_i64]
  omega
theorem odd_e (m : Nat) (b : Bool) (h : (m % 2 == 1) = b) : (bits .and .i64 (m : Int) 1 == 1) = b := by
  rw [← h, i64_and1, Bool.eq_iff_iff]
  simp
  omega
theorem pow_bit (a N i : Nat) (ha : a < 256) : Gf.pow a (N % 2 ^ (i + 1)) = if N / 2 ^ i % 2 == 1 then Gf.mul (Gf.pow a (N % 2 ^ i)) (Gf.pow a (2 ^ i)) else Gf.pow a (N % 2 ^ i) := by
  rw [Nat.mod_pow_succ]
  rcases Nat.mod_two_eq_zero_or_one (N / 2 ^ i) with e | e
  · simp [e]
  · rw [e]
    simp only [Nat.mul_one, beq_self_eq_true, if_true]
    exact Gf.pow_add a _ _ ha

set_option maxRecDepth 100000 in
set_option maxHeartbeats 2000000 in
theorem fpower_calls (a N : Nat) (ha : a < 256) (hN : N < 9223372036854775808) (w : World) :
    Calls Tryz.prog 133 #[.int .u8 a, .int .i64 (N : Int)] w fun e w' => e = .returned (.int .u8 (Gf.pow a N : Nat)) ∧ Below w.heap.size w w' := by
  have HA : Hid (a < 256) := ha
  have k1 : Hid (∀ w, Calls Tryz.prog 136 #[.int .u8 1] w fun e w' => e = .returned (V8 (on1 1)) ∧ Below w.heap.size w w') := fun w => ffirst_calls 1 (by decide) w
  have ka : Hid (∀ w, Calls Tryz.prog 136 #[.int .u8 a] w fun e w' => e = .returned (V8 (on1 a)) ∧ Below w.heap.size w w') := fun w => ffirst_calls a ha w
  go_enter Tryz.func133, Tryz.ntmps133
  go_wp2_with fail
  refine (k1.out _).mono ?_
  rintro e w1 ⟨rfl, hb1⟩
  go_wp2_with fail
  refine (ka.out _).mono ?_
  rintro e w2 ⟨rfl, hb2⟩
  have hb := hb1.trans (hb2.mono hb1.size)
  clear hb1 hb2
  go_wp2
  obtain ⟨P, hP⟩ : ∃ P, w2.heap.size = P := ⟨_, rfl⟩
  have HL : w.heap.size ≤ P := hP ▸ hb.size
  go_loopw [1] (fun v wr => ∃ i : Nat, v = .int .i64 ((N / 2 ^ i : Nat) : Int) ∧ Pl wr P 8 (on1 (Gf.pow a (N % 2 ^ i))) ∧ Pl wr (P + 1) 8 (on1 (Gf.pow a (2 ^ i))) ∧ Below w.heap.size w wr) (fun v _ => (intOf v).toNat)
  case atStart =>
    subst hP
    refine ⟨0, by simp, ?_, ?_, (hb.alloc hb.size _).alloc (by have := hb.size; simp; omega) _⟩
    · have e1 : Gf.pow a (N % 2 ^ 0) = 1 := by rw [Nat.pow_zero, Nat.mod_one]; rfl
      rw [e1]
      exact (pl_box w2 rfl (on1 1) _).alloc _
    · have e1 : Gf.pow a (2 ^ 0) = a := Gf.pow_one a ha
      rw [e1]
      exact pl_box _ (by simp) (on1 a) _
  case round =>
    rw [hP]
    clear hP hb
    obtain ⟨i, rfl, hp, hq, hB⟩ := hrel
    have hm : N / 2 ^ i < 9223372036854775808 := Nat.lt_of_le_of_lt (Nat.div_le_self _ _) hN
    have h1 := Gf.pow_lt a (N % 2 ^ i) ha
    have h2 := Gf.pow_lt a (2 ^ i) ha
    have HS : Hid (Gf.pow a (2 ^ (i + 1)) = Gf.mul (Gf.pow a (2 ^ i)) (Gf.pow a (2 ^ i))) := by
      show Gf.pow a (2 ^ (i + 1)) = _
      rw [Nat.pow_succ, Nat.mul_two]
      exact Gf.pow_double a _ ha
    have HD : Hid (N / 2 ^ (i + 1) = N / 2 ^ i / 2) := by
      show N / 2 ^ (i + 1) = _
      rw [Nat.pow_succ, Nat.div_div_eq_div_mul]
    have HB' := pow_bit a N i ha
    have HE : Hid (N / 2 ^ i = 0 → Gf.pow a (N % 2 ^ i) = Gf.pow a N) := by
      intro h0
      have := Nat.div_add_mod N (2 ^ i)
      rw [h0, Nat.mul_zero, Nat.zero_add] at this
      rw [this]
    obtain ⟨m, hmq⟩ : ∃ m, N / 2 ^ i = m := ⟨_, rfl⟩
    obtain ⟨x, hx⟩ : ∃ x, Gf.pow a (N % 2 ^ i) = x := ⟨_, rfl⟩
    obtain ⟨y, hy⟩ : ∃ y, Gf.pow a (2 ^ i) = y := ⟨_, rfl⟩
    rw [hmq] at hm HD HB' HE
    rw [hx] at h1 HB' hp HE
    rw [hy] at h2 HB' hq HS
    rw [hmq]
    clear hmq hx hy
    have HN1 : Hid (Gf.pow a (N % 2 ^ (i + 1)) = if m % 2 == 1 then Gf.mul x y else x) := HB'
    clear HB'
    by_cases h0 : m = 0
    · subst h0
      have HX := HE.out rfl
      have kl : Hid (∀ w, Calls Tryz.prog 134 #[V8 (on1 x), .int .i64 0] w fun e w' => e = .returned (.int .u8 (Gf.pow a N : Nat)) ∧ Below w.heap.size w w') := fun w => by
        have := llane_in (on1 x) 0 (by decide) h1 w
        rw [show on1 x 0 = Gf.pow a N from HX] at this
        exact this
      have c0 := hp.cell 0 (by decide)
      have c1 := hp.cell 1 (by decide)
      have c2 := hp.cell 2 (by decide)
      have c3 := hp.cell 3 (by decide)
      have c4 := hp.cell 4 (by decide)
      have c5 := hp.cell 5 (by decide)
      have c6 := hp.cell 6 (by decide)
      have c7 := hp.cell 7 (by decide)
      have HM : Hid (Below w.heap.size w wr) := hB
      clear hp hq hB HX
      go_wp2_with fail
      refine (kl.out _).mono ?_
      rintro e w3 ⟨rfl, hb3⟩
      clear c0 c1 c2 c3 c4 c5 c6 c7
      go_wp2
      go_ret
      exact ⟨rfl, HM.out.trans (hb3.mono HM.out.size)⟩
    · have hgt : (0 : Int) < (m : Int) := by omega
      have ks : Hid (∀ w, Calls Tryz.prog 141 #[V8 (on1 y)] w fun e w' => e = .returned (V8 (on1 (Gf.mul y y))) ∧ Below w.heap.size w w') := fun w => lsquare_calls (on1 y) _ (on1_lt y h2) (on1_mul y y) w
      have km : Hid (∀ w, Calls Tryz.prog 140 #[V8 (on1 x), V8 (on1 y)] w fun e w' => e = .returned (V8 (on1 (Gf.mul x y))) ∧ Below w.heap.size w w') := fun w => lmul_calls (on1 x) (on1 y) _ (on1_lt x h1) (on1_lt y h2) (on1_mul x y) w
      cases hodd : (m % 2 == 1)
      · have ho := odd_e m _ hodd
        rw [hodd] at HN1
        clear hodd
        have d0 := hq.cell 0 (by decide)
        have d1 := hq.cell 1 (by decide)
        have d2 := hq.cell 2 (by decide)
        have d3 := hq.cell 3 (by decide)
        have d4 := hq.cell 4 (by decide)
        have d5 := hq.cell 5 (by decide)
        have d6 := hq.cell 6 (by decide)
        have d7 := hq.cell 7 (by decide)
        have HM : Hid (Pl wr P 8 (on1 x) ∧ Pl wr (P + 1) 8 (on1 y) ∧ Below w.heap.size w wr) := ⟨hp, hq, hB⟩
        clear hp hq hB
        go_wp2_with fail
        refine (ks.out _).mono ?_
        rintro e w3 ⟨rfl, hb3⟩
        clear d0 d1 d2 d3 d4 d5 d6 d7
        have hq := HM.out.2.1.below hb3
        have HK : Hid (Pl w3 P 8 (on1 x) ∧ Pl w3 (P + 1) 8 (on1 y) ∧ Below w.heap.size w w3) := ⟨HM.out.1.below hb3, hq, HM.out.2.2.trans (hb3.mono HM.out.2.2.size)⟩
        have d0 := hq.cell 0 (by decide)
        have d1 := hq.cell 1 (by decide)
        have d2 := hq.cell 2 (by decide)
        have d3 := hq.cell 3 (by decide)
        have d4 := hq.cell 4 (by decide)
        have d5 := hq.cell 5 (by decide)
        have d6 := hq.cell 6 (by decide)
        have d7 := hq.cell 7 (by decide)
        have f0 := hq.fz 0
        have f1 := hq.fz 1
        have f2 := hq.fz 2
        have f3 := hq.fz 3
        have f4 := hq.fz 4
        have f5 := hq.fz 5
        have f6 := hq.fz 6
        have f7 := hq.fz 7
        clear hq hb3 HM
        go_wp2
        go_roundw
        case rel =>
          refine ⟨i + 1, by rw [HD.out]; simp, ?_, ?_, below_set8 HK.out.2.2 (by omega) _⟩
          · rw [HN1.out]; exact HK.out.1.other8 (by omega) _
          · rw [HS.out]; exact HK.out.2.1.set8 _
        case measure => simp [intOf]; omega
      · have ho := odd_e m _ hodd
        rw [hodd] at HN1
        clear hodd
        have c0 := hp.cell 0 (by decide)
        have c1 := hp.cell 1 (by decide)
        have c2 := hp.cell 2 (by decide)
        have c3 := hp.cell 3 (by decide)
        have c4 := hp.cell 4 (by decide)
        have c5 := hp.cell 5 (by decide)
        have c6 := hp.cell 6 (by decide)
        have c7 := hp.cell 7 (by decide)
        have d0 := hq.cell 0 (by decide)
        have d1 := hq.cell 1 (by decide)
        have d2 := hq.cell 2 (by decide)
        have d3 := hq.cell 3 (by decide)
        have d4 := hq.cell 4 (by decide)
        have d5 := hq.cell 5 (by decide)
        have d6 := hq.cell 6 (by decide)
        have d7 := hq.cell 7 (by decide)
        have HM : Hid (Pl wr P 8 (on1 x) ∧ Pl wr (P + 1) 8 (on1 y) ∧ Below w.heap.size w wr) := ⟨hp, hq, hB⟩
        clear hp hq hB
        go_wp2_with fail
        refine (km.out _).mono ?_
        rintro e w3 ⟨rfl, hb3⟩
        clear c0 c1 c2 c3 c4 c5 c6 c7
        clear d0 d1 d2 d3 d4 d5 d6 d7
        have hp := HM.out.1.below hb3
        have HK : Hid (Pl (set8 w3 P (on1 (Gf.mul x y))) P 8 (on1 (Gf.mul x y)) ∧ Pl (set8 w3 P (on1 (Gf.mul x y))) (P + 1) 8 (on1 y) ∧ Below w.heap.size w (set8 w3 P (on1 (Gf.mul x y)))) := ⟨hp.set8 _, (HM.out.2.1.below hb3).other8 (by omega) _, below_set8 (HM.out.2.2.trans (hb3.mono HM.out.2.2.size)) HL _⟩
        have hq : Pl w3 (P + 1) 8 (on1 y) := HM.out.2.1.below hb3
        have c0 := hp.cell 0 (by decide)
        have c1 := hp.cell 1 (by decide)
        have c2 := hp.cell 2 (by decide)
        have c3 := hp.cell 3 (by decide)
        have c4 := hp.cell 4 (by decide)
        have c5 := hp.cell 5 (by decide)
        have c6 := hp.cell 6 (by decide)
        have c7 := hp.cell 7 (by decide)
        have f0 := hp.fz 0
        have f1 := hp.fz 1
        have f2 := hp.fz 2
        have f3 := hp.fz 3
        have f4 := hp.fz 4
        have f5 := hp.fz 5
        have f6 := hp.fz 6
        have f7 := hp.fz 7
        have d0 := hq.cell 0 (by decide)
        have d1 := hq.cell 1 (by decide)
        have d2 := hq.cell 2 (by decide)
        have d3 := hq.cell 3 (by decide)
        have d4 := hq.cell 4 (by decide)
        have d5 := hq.cell 5 (by decide)
        have d6 := hq.cell 6 (by decide)
        have d7 := hq.cell 7 (by decide)
        clear hp hq hb3 HM
        go_wp2_with fail
        clear c0 c1 c2 c3 c4 c5 c6 c7
        clear f0 f1 f2 f3 f4 f5 f6 f7
        clear d0 d1 d2 d3 d4 d5 d6 d7
        obtain ⟨w4, hw4⟩ : ∃ w4, set8 w3 P (on1 (Gf.mul x y)) = w4 := ⟨_, rfl⟩
        rw [hw4] at HK
        unfold set8 at hw4
        rw [hw4]
        clear hw4
        refine (ks.out _).mono ?_
        rintro e w5 ⟨rfl, hb5⟩
        have hq := HK.out.2.1.below hb5
        have HJ : Hid (Pl w5 P 8 (on1 (Gf.mul x y)) ∧ Pl w5 (P + 1) 8 (on1 y) ∧ Below w.heap.size w w5) := ⟨HK.out.1.below hb5, hq, HK.out.2.2.trans (hb5.mono HK.out.2.2.size)⟩
        have d0 := hq.cell 0 (by decide)
        have d1 := hq.cell 1 (by decide)
        have d2 := hq.cell 2 (by decide)
        have d3 := hq.cell 3 (by decide)
        have d4 := hq.cell 4 (by decide)
        have d5 := hq.cell 5 (by decide)
        have d6 := hq.cell 6 (by decide)
        have d7 := hq.cell 7 (by decide)
        have f0 := hq.fz 0
        have f1 := hq.fz 1
        have f2 := hq.fz 2
        have f3 := hq.fz 3
        have f4 := hq.fz 4
        have f5 := hq.fz 5
        have f6 := hq.fz 6
        have f7 := hq.fz 7
        clear hq hb5 HK
        go_wp2
        go_roundw
        case rel =>
          refine ⟨i + 1, by rw [HD.out]; simp, ?_, ?_, below_set8 HJ.out.2.2 (by omega) _⟩
          · rw [HN1.out]; exact HJ.out.1.other8 (by omega) _
          · rw [HS.out]; exact HJ.out.2.1.set8 _
        case measure => simp [intOf]; omega

theorem below_box {w w1 : World} (o : Obj) (h : Below (w.alloc o).heap.size (w.alloc o) w1) : Below w.heap.size w w1 := ((Below.refl _ w).alloc (Nat.le_refl _) o).trans (h.mono (by simp))
set_option maxRecDepth 100000 in
set_option maxHeartbeats 1000000 in
theorem blinv_calls (a : Nat) (ha : a < 256) (w : World) :
    Calls Tryz.prog 128 #[.agg #[], .int .u8 a] w fun e w' => e = .returned (.tuple #[.int .u8 (Gf.inv a : Nat), .bool (a != 0)]) ∧ Below w.heap.size w w' := by
  by_cases h0 : a = 0
  · subst h0
    have e0 := Gf.inv_zero
    rw [e0]
    go_enter Tryz.func128, Tryz.ntmps128
    go_wp2
    go_ret2
    exact ⟨rfl, below_box _ (Below.refl _ _)⟩
  · have h1 : ((a : Int) == 0) = false := by simp; omega
    have h2 : (a != 0) = true := by simp [h0]
    rw [h2]
    go_enter Tryz.func128, Tryz.ntmps128
    go_wp2_with (go_at_call 133; refine (fpower_calls a 254 ha (by decide) _).mono ?_; rintro e w1 ⟨rfl, hb1⟩)
    go_ret2
    exact ⟨rfl, below_box _ hb1⟩
end Go.Proofs
/- The walks of field's backend of shifts, for single bytes: Mul, Inv, Pow. Conditions: bytes; an int. -/
namespace Go.Proofs
open Go.RowKit
set_option maxRecDepth 100000 in
set_option maxHeartbeats 1000000 in
theorem bsinv_calls (a : Nat) (ha : a < 256) (w : World) :
    Calls Tryz.prog 119 #[.agg #[], .int .u8 a] w fun e w' => e = .returned (.tuple #[.int .u8 (Gf.inv a : Nat), .bool (a != 0)]) ∧ Below w.heap.size w w' := by
  go_enter Tryz.func119, Tryz.ntmps119
  go_wp2_with (go_at_call 124; refine (inv_e a _ _ ha rfl rfl _).mono ?_; rintro e w1 ⟨rfl, hb1⟩)
  go_ret2
  exact ⟨rfl, ((Below.refl _ w).alloc (Nat.le_refl _) _).trans (hb1.mono (by simp))⟩
end Go.Proofs
/- The walks of a table's calls: Exp, Log, Mul, Inv, Pow. Conditions: bytes, an int; a table that is new, or made; or none. -/
namespace Go.Proofs
open Go.RowKit

theorem But.drewN (S : Nat → Prop) (w : World) (n : Nat) : But S w (w.drewN n) := ⟨rfl, rfl, rfl, Nat.le_refl _, fun _ _ _ => rfl⟩
theorem Made.drewN {B : Nat} {w : World} (h : Made B w) (n : Nat) : Made B (w.drewN n) := h.but (But.drewN (fun _ => False) w n) (fun f => f)

theorem tlog_at (B a : Nat) (ha : a < 256) (h0 : a ≠ 0) (w : World) (h : Made B w) : Calls Tryz.prog 83 #[.pointer (some ⟨B, 0, none⟩), .int .u8 a] w fun e w' => e = .returned (.int .i64 (Gf.lg a : Nat)) ∧ w' = w := by
  have := tlog_calls B (Gf.lg a) (Gf.lg_lt a ha) w h
  rw [Gf.pow_lg a ha h0] at this
  exact this

set_option maxHeartbeats 1000000 in
theorem tmul_e (B a b r : Nat) (ha : a < 256) (hb : b < 256) (hr : Gf.mul a b = r) (w : World) (h : Any B w) :
    Calls Tryz.prog 80 #[.pointer (some ⟨B, 0, none⟩), .int .u8 a, .int .u8 b] w fun e w' => e = .returned (.int .u8 r) ∧ Made B w' ∧ But (· = B) w w' := by
  subst hr
  have hnot : ∀ (x : Bool) (w : World), (Op.unary .not (.bool x)).run Tryz.prog w = .ok (.bool (!x)) w := fun _ _ => rfl
  by_cases h0 : a = 0
  · subst h0
    have e0 := Gf.zero_mul b
    rw [e0]
    go_enter Tryz.func80, Tryz.ntmps80
    go_wp2_with (go_at_call 82; refine (tready_calls B _ h).mono ?_; rintro e w1 ⟨rfl, hm, hb⟩)
    go_ret
    exact ⟨rfl, hm, hb⟩
  have g0 : ((a : Int) == 0) = false := by simp; omega
  by_cases h1 : b = 0
  · subst h1
    have e0 := Gf.mul_zero a
    rw [e0]
    go_enter Tryz.func80, Tryz.ntmps80
    go_wp2_with (go_at_call 82; refine (tready_calls B _ h).mono ?_; rintro e w1 ⟨rfl, hm, hb⟩)
    go_ret
    exact ⟨rfl, hm, hb⟩
  have g1 : ((b : Int) == 0) = false := by simp; omega
  have HLa : Hid (∀ w, Made B w → Calls Tryz.prog 83 #[.pointer (some ⟨B, 0, none⟩), .int .u8 a] w fun e w' => e = .returned (.int .i64 (Gf.lg a : Nat)) ∧ w' = w) := tlog_at B a ha h0
  have HLb : Hid (∀ w, Made B w → Calls Tryz.prog 83 #[.pointer (some ⟨B, 0, none⟩), .int .u8 b] w fun e w' => e = .returned (.int .i64 (Gf.lg b : Nat)) ∧ w' = w) := tlog_at B b hb h1
  have hla := Gf.lg_lt a ha
  have hlb := Gf.lg_lt b hb
  have HE : Hid (Gf.pow 2 (Gf.lg a + Gf.lg b) = Gf.mul a b) := Gf.mul_lg a b ha hb h0 h1
  obtain ⟨x, hx⟩ : ∃ x, Gf.lg a = x := ⟨_, rfl⟩
  obtain ⟨y, hy⟩ : ∃ y, Gf.lg b = y := ⟨_, rfl⟩
  obtain ⟨g, hg⟩ : ∃ g, Gf.mul a b = g := ⟨_, rfl⟩
  rw [hx] at HLa hla HE
  rw [hy] at HLb hlb HE
  rw [hg] at HE ⊢
  clear hx hy hg
  go_enter Tryz.func80, Tryz.ntmps80
  go_wp2_with (go_at_call 82; refine (tready_calls B _ h).mono ?_; rintro e w1 ⟨rfl, hm, hb⟩)
  have hc := hm.powers (x + y) (by omega)
  rw [HE.out] at hc
  have HM : Hid (Made B w1) := hm
  have HB : Hid (But (· = B) w w1) := hb
  clear hm hb h
  go_quiet ((first | (go_at_call 83; with_reducible refine Calls.quiet_of_same (HLa.out _ (HM.out.drewN _))) | (go_at_call 83; with_reducible refine Calls.quiet_of_same (HLb.out _ (HM.out.drewN _)))))
  go_wp2
  go_ret
  exact ⟨rfl, HM.out.drewN _, HB.out.trans (But.drewN _ _ _)⟩

set_option maxHeartbeats 1000000 in
theorem tinv_e (B a r : Nat) (b : Bool) (ha : a < 256) (hr : Gf.inv a = r) (hb : (a != 0) = b) (w : World) (h : Any B w) :
    Calls Tryz.prog 79 #[.pointer (some ⟨B, 0, none⟩), .int .u8 a] w fun e w' => e = .returned (.tuple #[.int .u8 r, .bool b]) ∧ Made B w' ∧ But (· = B) w w' := by
  subst hr hb
  have hnot : ∀ (x : Bool) (w : World), (Op.unary .not (.bool x)).run Tryz.prog w = .ok (.bool (!x)) w := fun _ _ => rfl
  by_cases h0 : a = 0
  · subst h0
    have e0 := Gf.inv_zero
    rw [e0]
    go_enter Tryz.func79, Tryz.ntmps79
    go_wp2_with (go_at_call 82; refine (tready_calls B _ h).mono ?_; rintro e w1 ⟨rfl, hm, hb⟩)
    go_ret2
    exact ⟨rfl, hm, hb⟩
  have h1 : ((a : Int) == 0) = false := by simp; omega
  have h2 : (a != 0) = true := by simp [h0]
  rw [h2]
  have HLa : Hid (∀ w, Made B w → Calls Tryz.prog 83 #[.pointer (some ⟨B, 0, none⟩), .int .u8 a] w fun e w' => e = .returned (.int .i64 (Gf.lg a : Nat)) ∧ w' = w) := tlog_at B a ha h0
  have hla := Gf.lg_lt a ha
  have HE : Hid (Gf.pow 2 (255 - Gf.lg a) = Gf.inv a) := Gf.inv_lg a ha h0
  obtain ⟨x, hx⟩ : ∃ x, Gf.lg a = x := ⟨_, rfl⟩
  obtain ⟨g, hg⟩ : ∃ g, Gf.inv a = g := ⟨_, rfl⟩
  rw [hx] at HLa hla HE
  rw [hg] at HE ⊢
  clear hx hg
  go_enter Tryz.func79, Tryz.ntmps79
  go_wp2_with (go_at_call 82; refine (tready_calls B _ h).mono ?_; rintro e w1 ⟨rfl, hm, hb⟩)
  have hc := hm.powers (255 - x) (by omega)
  rw [HE.out] at hc
  have HM : Hid (Made B w1) := hm
  have HB : Hid (But (· = B) w w1) := hb
  clear hm hb h
  go_quiet ((go_at_call 83; with_reducible refine Calls.quiet_of_same (HLa.out _ (HM.out.drewN _))))
  go_wp2
  go_ret2
  exact ⟨rfl, HM.out.drewN _, HB.out.trans (But.drewN _ _ _)⟩


end Go.Proofs
/- A field in memory, whichever its backend, and the walks of field.Of, Backend, Mul, Inv, Div and Pow. Conditions: bytes; an int; a field that Of has made. -/
namespace Go.Proofs
open Go.RowKit

/-- What stands behind the interface: k tells the backend; T is the table's block, where there is one. -/
def wayV (k T : Nat) : Value := if k = 1 then .iface 52 (.agg #[.pointer (some ⟨T, 0, none⟩)]) else if k = 2 then .iface 58 (.agg #[]) else .iface 59 (.agg #[])
/-- The block B is a field by the backend k; all that its calls write is block T. -/
structure Fd (k B T : Nat) (W : World) : Prop where
  k1 : 1 ≤ k
  k3 : k ≤ 3
  num : W.cell? ⟨B, 0, none⟩ = some (.int .i64 (k : Int))
  way : W.cell? ⟨B, 1, none⟩ = some (wayV k T)
  tab : k = 1 → Any T W ∧ T ≠ B
  lt : T < W.heap.size
theorem Fd.blt {k B T : Nat} {W : World} (h : Fd k B T W) : B < W.heap.size := World.block_lt_of_cell? _ _ h.num
theorem Fd.but {k B T : Nat} {S : Nat → Prop} {W W' : World} (h : Fd k B T W) (hb : But S W W') (hB : ¬ S B) (hT : ¬ S T) : Fd k B T W' :=
  ⟨h.k1, h.k3, (hb.cell (p := ⟨B, 0, none⟩) h.blt hB).trans h.num, (hb.cell (p := ⟨B, 1, none⟩) h.blt hB).trans h.way, fun e => ⟨(h.tab e).1.but hb hT, (h.tab e).2⟩, Nat.lt_of_lt_of_le h.lt hb.size⟩
theorem Fd.below {k B T : Nat} {W W' : World} (h : Fd k B T W) (hb : Below W.heap.size W W') : Fd k B T W' := h.but (But.of_below (S := fun _ => False) hb) id id
theorem Fd.alloc {k B T : Nat} {W : World} (h : Fd k B T W) (o : Obj) : Fd k B T (W.alloc o) := h.below ((Below.refl _ _).alloc (Nat.le_refl _) o)
theorem Fd.drew {k B T : Nat} {W : World} (h : Fd k B T W) : Fd k B T W.drew := h.below (Below.refl _ W).drew
/-- Behind a call of its own table. -/
theorem Fd.tabled {B T : Nat} {W W' : World} (h : Fd 1 B T W) (hm : Made T W') (hb : But (· = T) W W') : Fd 1 B T W' :=
  have hB : ¬ B = T := fun e => (h.tab rfl).2 e.symm
  ⟨h.k1, h.k3, (hb.cell (p := ⟨B, 0, none⟩) h.blt hB).trans h.num, (hb.cell (p := ⟨B, 1, none⟩) h.blt hB).trans h.way, fun e => ⟨.inr hm, (h.tab e).2⟩, Nat.lt_of_lt_of_le h.lt hb.size⟩

set_option maxRecDepth 100000 in
set_option maxHeartbeats 1000000 in
theorem fof_calls (k : Nat) (h1 : 1 ≤ k) (h3 : k ≤ 3) (w : World) :
    Calls Tryz.prog 11 #[.int .i64 (k : Int)] w fun e w' => ∃ B T, e = .returned (.pointer (some ⟨B, 0, none⟩)) ∧ Fd k B T w' ∧ Below w.heap.size w w' ∧ w.heap.size ≤ B ∧ w.heap.size ≤ T := by
  match k, h1, h3 with
  | 1, _, _ =>
    go_enter Tryz.func11, Tryz.ntmps11
    go_wp2_with (go_at_call 27; refine (tnew_any _).mono ?_; rintro e w1 ⟨T, rfl, HF, hb, hT⟩; have HT : Hid (T = w.heap.size) := hT; clear hT)
    go_ret
    have hT := HT.out
    have hlt := HF.tb.lt
    refine ⟨w1.heap.size, T, rfl, ⟨by omega, by omega, ?_, ?_, fun _ => ⟨.inl (HF.but (But.of_below (S := fun _ => False) ((Below.refl _ _).alloc (Nat.le_refl _) _)) id), by omega⟩, by simp; omega⟩, hb.alloc hb.size _, hb.size, by omega⟩
    · rw [World.cell?_alloc_at _ _ _ _ rfl]; rfl
    · rw [World.cell?_alloc_at _ _ _ _ rfl]; rfl
  | 2, _, _ =>
    go_enter Tryz.func11, Tryz.ntmps11
    go_wp2
    go_ret
    refine ⟨w.heap.size, w.heap.size, rfl, ⟨by omega, by omega, ?_, ?_, fun e => absurd e (by decide), by simp⟩, (Below.refl _ _).alloc (Nat.le_refl _) _, Nat.le_refl _, Nat.le_refl _⟩
    · rw [World.cell?_alloc_at _ _ _ _ rfl]; rfl
    · rw [World.cell?_alloc_at _ _ _ _ rfl]; rfl
  | 3, _, _ =>
    go_enter Tryz.func11, Tryz.ntmps11
    go_wp2
    go_ret
    refine ⟨w.heap.size, w.heap.size, rfl, ⟨by omega, by omega, ?_, ?_, fun e => absurd e (by decide), by simp⟩, (Below.refl _ _).alloc (Nat.le_refl _) _, Nat.le_refl _, Nat.le_refl _⟩
    · rw [World.cell?_alloc_at _ _ _ _ rfl]; rfl
    · rw [World.cell?_alloc_at _ _ _ _ rfl]; rfl
  | k + 4, _, h => omega
theorem way_lt {k : Nat} (h1 : 1 ≤ k) (h3 : k ≤ 3) : k = 1 ∨ k = 2 ∨ k = 3 := by omega
theorem minv1 (T : Nat) (w : World) : (method 280 52 (.agg #[.pointer (some ⟨T, 0, none⟩)]) "Inv").run Tryz.prog w = .ok (79, .pointer (some ⟨T, 0, none⟩)) w := by kernel_rfl
theorem minv2 (w : World) : (method 280 58 (.agg #[]) "Inv").run Tryz.prog w = .ok (119, .agg #[]) w := by kernel_rfl
theorem minv3 (w : World) : (method 280 59 (.agg #[]) "Inv").run Tryz.prog w = .ok (128, .agg #[]) w := by kernel_rfl
set_option maxRecDepth 100000 in
set_option maxHeartbeats 1000000 in
theorem finv_calls (k B T a : Nat) (ha : a < 256) (w : World) (h : Fd k B T w) :
    Calls Tryz.prog 38 #[.pointer (some ⟨B, 0, none⟩), .int .u8 a] w fun e w' => e = .returned (.tuple #[.int .u8 (Gf.inv a : Nat), .bool (a != 0)]) ∧ Fd k B T w' ∧ But (· = T) w w' := by
  rcases way_lt h.k1 h.k3 with rfl | rfl | rfl
  · have hw : w.cell? ⟨B, 1, none⟩ = some (.iface 52 (.agg #[.pointer (some ⟨T, 0, none⟩)])) := h.way
    have hm := minv1 T
    go_enter Tryz.func38, Tryz.ntmps38
    go_wp2_with (go_at_call 79; refine (tinv_e T a _ _ ha rfl rfl _ (h.tab rfl).1).mono ?_; rintro e w1 ⟨rfl, hM, hB⟩)
    go_ret2
    exact ⟨rfl, h.tabled hM hB, hB⟩
  · have hw : w.cell? ⟨B, 1, none⟩ = some (.iface 58 (.agg #[])) := h.way
    have hm := minv2
    go_enter Tryz.func38, Tryz.ntmps38
    go_wp2_with (go_at_call 119; refine (bsinv_calls a ha _).mono ?_; rintro e w1 ⟨rfl, hB⟩)
    go_ret2
    exact ⟨rfl, h.below hB, But.of_below hB⟩
  · have hw : w.cell? ⟨B, 1, none⟩ = some (.iface 59 (.agg #[])) := h.way
    have hm := minv3
    go_enter Tryz.func38, Tryz.ntmps38
    go_wp2_with (go_at_call 128; refine (blinv_calls a ha _).mono ?_; rintro e w1 ⟨rfl, hB⟩)
    go_ret2
    exact ⟨rfl, h.below hB, But.of_below hB⟩
theorem finv_e (k B T a r : Nat) (b : Bool) (ha : a < 256) (hr : Gf.inv a = r) (hb : (a != 0) = b) (w : World) (h : Fd k B T w) :
    Calls Tryz.prog 38 #[.pointer (some ⟨B, 0, none⟩), .int .u8 a] w fun e w' => e = .returned (.tuple #[.int .u8 (r : Nat), .bool b]) ∧ Fd k B T w' ∧ But (· = T) w w' := by
  subst hr hb; exact finv_calls k B T a ha w h
/-- A quotient; of what is divided by 0: 0. -/
def Gf.div (a b : Nat) : Nat := Gf.mul a (Gf.inv b)
end Go.Proofs
/- The walks of field.eachBy and field.pairsBy, at a table's Mul and at shift.Mul. Conditions: bytes; lists of at most a thousand million; a table that is new or made. -/
namespace Go.Proofs
open Go.RowKit Go.ChangeShapes Go.WideShapes

theorem Any.lt {B : Nat} {W : World} (h : Any B W) : B < W.heap.size := h.elim (·.tb.lt) (·.tb.lt)
/-- A list does not lie in block T. -/
def Off (T n : Nat) (q : Option Addr) : Prop := 0 < n → ∀ a, q = some a → ¬ a.block = T
theorem Off.le {T n m : Nat} {q : Option Addr} (h : Off T n q) (hm : m ≤ n) : Off T m q := fun h0 => h (by omega)
theorem Bs.but {T : Nat} {W W' : World} {q : Option Addr} {n : Nat} {xs : List Nat} (h : Bs W q n xs) (hb : But (· = T) W W') (hs : Off T n q) : Bs W' q n xs :=
  ⟨h.len, h.max, fun i hi => by
    obtain ⟨a, e, hl, hc⟩ := h.cell i hi
    exact ⟨a, e, Nat.lt_of_lt_of_le hl hb.size, (hb.cell (p := a.add i) (by rw [block_add]; exact hl) (by rw [block_add]; exact hs (by omega) a e)).trans hc⟩, h.byte⟩
theorem Bs.off {W : World} {q : Option Addr} {n T : Nat} {xs : List Nat} (h : Bs W q n xs) (hT : W.heap.size ≤ T) : Off T n q := fun h0 a e => by
  obtain ⟨b, e', hl, _⟩ := h.cell 0 h0
  obtain rfl : b = a := Option.some.inj (e'.symm.trans e)
  omega
/-- A list that was told: it reads, it has room, and it lies in no block ahead of those that its call made. -/
theorem Ow.told {W : World} {base : Nat} {v : Value} {xs : List Nat} (h : Ow W base v xs) (hx : ∀ i, xs.getD i 0 < 256) : ∃ q c, v = .slice q xs.length c ∧ Bs W q xs.length xs ∧ xs.length ≤ c ∧ ∀ T, T < base → Off T xs.length q := by
  obtain ⟨q, c, e, hb⟩ := h.bs hx
  rcases h.shape with ⟨rfl, rfl⟩ | ⟨g, cap, rfl, h1, _, h3, _⟩
  · cases e
    exact ⟨none, 0, rfl, hb, Nat.le_refl _, fun _ _ h0 => absurd h0 (Nat.lt_irrefl 0)⟩
  · cases e
    refine ⟨_, _, rfl, hb, h3, fun T hT _ a e => ?_⟩
    cases e
    show ¬ g = T
    omega
theorem Ow.but {S : Nat → Prop} {W W' : World} {base : Nat} {v : Value} {xs : List Nat} (h : Ow W base v xs) (hb : But S W W') (hs : ∀ k, base ≤ k → ¬ S k) : Ow W' base v xs :=
  h.block fun k hk => hb.block k (h.lt k hk).2 (hs k (h.lt k hk).1)
/-- The first k of f, and noughts up to n. -/
def fk (f : Nat → Nat) (n k : Nat) : List Nat := (List.range k).map f ++ List.replicate (n - k) 0
theorem fk_length (f : Nat → Nat) (n k : Nat) (hk : k ≤ n) : (fk f n k).length = n := by simp [fk]; omega
theorem fk_zero (f : Nat → Nat) (n : Nat) : fk f n 0 = List.replicate n 0 := by simp [fk]
theorem fk_all (f : Nat → Nat) (n : Nat) : fk f n n = (List.range n).map f := by simp [fk]
theorem fk_set (f : Nat → Nat) (n k : Nat) (hk : k < n) : (fk f n k).set k (f k) = fk f n (k + 1) := by
  apply List.ext_getElem?
  intro i
  by_cases hi : i < n
  · rw [List.getElem?_set]
    by_cases e : k = i
    · subst e
      rw [if_pos rfl, if_pos (by rw [fk_length f n k (by omega)]; exact hk)]
      simp [fk, List.getElem?_append]
    · rw [if_neg e]
      unfold fk
      rw [List.getElem?_append, List.getElem?_append]
      simp only [List.length_map, List.length_range, List.getElem?_map, List.getElem?_replicate]
      by_cases h1 : i < k
      · have h2 : i < k + 1 := by omega
        simp [h1, h2]
      · have h2 : ¬ i < k + 1 := by omega
        have h3 : i - k < n - k := by omega
        have h4 : i - (k + 1) < n - (k + 1) := by omega
        rw [if_neg h1, if_neg h2, if_pos h3, if_pos h4]
  · rw [List.getElem?_eq_none (by rw [List.length_set, fk_length f n k (by omega)]; omega), List.getElem?_eq_none (by rw [fk_length f n (k + 1) (by omega)]; omega)]
theorem range_map (f : Nat → Nat) (xs : List Nat) : (List.range xs.length).map (fun i => f (xs.getD i 0)) = xs.map f := by
  apply List.ext_getElem?
  intro i
  simp only [List.getElem?_map]
  by_cases h : i < xs.length
  · simp [h, List.getD]
  · simp [h]
set_option maxRecDepth 100000 in
set_option maxHeartbeats 2000000 in
theorem feach1_calls (T a n c : Nat) (q : Option Addr) (xs : List Nat) (ha : a < 256) (hn : n ≤ 1000000000) (w : World) (hT : Any T w) (h1 : Bs w q n xs) (hq : Off T n q) :
    Calls Tryz.prog 118 #[.func (.func 80) #[.pointer (some ⟨T, 0, none⟩)] #[], .int .u8 a, .slice q n c] w fun e w' => ∃ v, e = .returned v ∧ Ow w' w.heap.size v (xs.map (Gf.mul a)) ∧ Any T w' ∧ But (· = T) w w' := by
  have HA : Hid (a < 256) := ha
  have HS : Hid (Bs w q n xs) := h1
  have HQ : Hid (Off T n q) := hq
  have HT : Hid (Any T w) := hT
  have hTl := hT.lt
  have HO : Hid ((List.range n).map (fun i => Gf.mul a (xs.getD i 0)) = xs.map (Gf.mul a)) := by
    show (List.range n).map _ = _
    rw [← h1.len]; exact range_map (Gf.mul a) xs
  have hmk := make_bytes n (by omega)
  clear h1 hq hT
  go_enter Tryz.func118, Tryz.ntmps118
  go_wp2
  clear hmk
  go_loopw [15] (fun i wr => ∃ k : Nat, k ≤ n ∧ i = .int .i64 (k : Int) ∧ Ow wr w.heap.size (.slice (some ⟨w.heap.size, 0, none⟩) n n) (fk (fun i => Gf.mul a (xs.getD i 0)) n k) ∧ Any T wr ∧ But (· = T) w wr) (fun i _ => n - (intOf i).toNat)
  case atStart =>
    refine ⟨0, by omega, rfl, ?_, HT.out.but ((But.refl (fun _ => False) w).alloc _) id, (But.refl _ w).alloc _⟩
    rw [fk_zero]
    exact ow_made w (Nat.le_refl _) n (by omega)
  case round =>
    obtain ⟨k, hk, rfl, hO, hA, hB⟩ := hrel
    by_cases hlt : k < n
    · have hi : (k : Int) < (n : Int) := by omega
      obtain ⟨a1, e1, la, ca⟩ := HS.out.cell k hlt
      have nq : ¬ (· = T) a1.block := HQ.out (by omega) a1 e1
      have c1 := (hB.cell (p := a1.add k) (by rw [block_add]; exact la) (by first | exact id | (rw [block_add]; exact nq))).trans ca
      have bx := HS.out.byte k
      subst e1
      have HSt := fk_set (fun i => Gf.mul a (xs.getD i 0)) n k hlt
      (try dsimp only at HSt)
      obtain ⟨x, hx⟩ : ∃ x, xs.getD k 0 = x := ⟨_, rfl⟩
      rw [hx] at c1 bx HSt
      have HSet : Hid ((fk (fun i => Gf.mul a (xs.getD i 0)) n k).set k (Gf.mul a x) = fk (fun i => Gf.mul a (xs.getD i 0)) n (k + 1)) := HSt
      have HW : Hid (Ow wr w.heap.size (.slice (some ⟨w.heap.size, 0, none⟩) n n) (fk (fun i => Gf.mul a (xs.getD i 0)) n k) ∧ But (· = T) w wr) := ⟨hO, hB⟩
      clear HSt hx ca la nq hO hB
      go_wp2_with fail
      refine (tmul_e T a x _ HA.out bx rfl _ hA).mono ?_
      rintro e w1 ⟨rfl, hM, hb⟩
      clear hA
      have hO := HW.out.1.but hb (fun k hk e => by omega)
      have hB := HW.out.2.trans hb
      have HW2 : Hid (Ow w1 w.heap.size (.slice (some ⟨w.heap.size, 0, none⟩) n n) (fk (fun i => Gf.mul a (xs.getD i 0)) n k) ∧ But (· = T) w w1) := ⟨hO, hB⟩
      obtain ⟨hc, hf⟩ := hO.at (by rw [fk_length _ n k hk]) k hlt
      have HMd : Hid (Any T w1) := .inr hM
      clear hM
      clear hO hB hb HW
      go_wp2
      go_roundw
      case rel =>
        refine ⟨k + 1, by omega, by go_num, ?_, HMd.out.but ((But.refl (fun k => k = w.heap.size) w1).setCell (p := ⟨w.heap.size, k, none⟩) (.inl rfl) _) (by omega), HW2.out.2.setCell (p := ⟨w.heap.size, k, none⟩) (.inr (by simp)) _⟩
        rw [← HSet.out]
        exact HW2.out.1.set (by rw [fk_length _ n k hk]) k _
      case measure => simp [intOf]; omega
    · have e8 : k = n := by omega
      subst e8
      rw [fk_all, HO.out] at hO
      have HW : Hid (Ow wr w.heap.size (.slice (some ⟨w.heap.size, 0, none⟩) k k) (xs.map (Gf.mul a)) ∧ Any T wr ∧ But (· = T) w wr) := ⟨hO, hA, hB⟩
      clear hO hB hA
      go_wp2
      go_ret
      exact ⟨_, rfl, HW.out⟩


set_option maxRecDepth 100000 in
set_option maxHeartbeats 2000000 in
theorem feach2_calls (a n c : Nat) (q : Option Addr) (xs : List Nat) (ha : a < 256) (hn : n ≤ 1000000000) (w : World) (h1 : Bs w q n xs) :
    Calls Tryz.prog 118 #[.func (.func 85) #[] #[], .int .u8 a, .slice q n c] w fun e w' => ∃ v, e = .returned v ∧ Ow w' w.heap.size v (xs.map (Gf.mul a)) ∧ But (fun _ => False) w w' := by
  have HA : Hid (a < 256) := ha
  have HS : Hid (Bs w q n xs) := h1
  have HO : Hid ((List.range n).map (fun i => Gf.mul a (xs.getD i 0)) = xs.map (Gf.mul a)) := by
    show (List.range n).map _ = _
    rw [← h1.len]; exact range_map (Gf.mul a) xs
  have hmk := make_bytes n (by omega)
  clear h1
  go_enter Tryz.func118, Tryz.ntmps118
  go_wp2
  clear hmk
  go_loopw [15] (fun i wr => ∃ k : Nat, k ≤ n ∧ i = .int .i64 (k : Int) ∧ Ow wr w.heap.size (.slice (some ⟨w.heap.size, 0, none⟩) n n) (fk (fun i => Gf.mul a (xs.getD i 0)) n k) ∧ But (fun _ => False) w wr) (fun i _ => n - (intOf i).toNat)
  case atStart =>
    refine ⟨0, by omega, rfl, ?_, (But.refl _ w).alloc _⟩
    rw [fk_zero]
    exact ow_made w (Nat.le_refl _) n (by omega)
  case round =>
    obtain ⟨k, hk, rfl, hO, hB⟩ := hrel
    by_cases hlt : k < n
    · have hi : (k : Int) < (n : Int) := by omega
      obtain ⟨a1, e1, la, ca⟩ := HS.out.cell k hlt
      have nq : ¬ (fun _ => False) a1.block := id
      have c1 := (hB.cell (p := a1.add k) (by rw [block_add]; exact la) (by first | exact id | (rw [block_add]; exact nq))).trans ca
      have bx := HS.out.byte k
      subst e1
      have HSt := fk_set (fun i => Gf.mul a (xs.getD i 0)) n k hlt
      (try dsimp only at HSt)
      obtain ⟨x, hx⟩ : ∃ x, xs.getD k 0 = x := ⟨_, rfl⟩
      rw [hx] at c1 bx HSt
      have HSet : Hid ((fk (fun i => Gf.mul a (xs.getD i 0)) n k).set k (Gf.mul a x) = fk (fun i => Gf.mul a (xs.getD i 0)) n (k + 1)) := HSt
      have HW : Hid (Ow wr w.heap.size (.slice (some ⟨w.heap.size, 0, none⟩) n n) (fk (fun i => Gf.mul a (xs.getD i 0)) n k) ∧ But (fun _ => False) w wr) := ⟨hO, hB⟩
      clear HSt hx ca la nq hO hB
      go_wp2_with fail
      refine (mul_e a x _ HA.out bx rfl _).mono ?_
      rintro e w1 ⟨rfl, hb0⟩
      have hb : But (fun _ => False) wr w1 := But.of_below hb0
      clear hb0
      have hO := HW.out.1.but hb (fun _ _ => id)
      have hB := HW.out.2.trans hb
      have HW2 : Hid (Ow w1 w.heap.size (.slice (some ⟨w.heap.size, 0, none⟩) n n) (fk (fun i => Gf.mul a (xs.getD i 0)) n k) ∧ But (fun _ => False) w w1) := ⟨hO, hB⟩
      obtain ⟨hc, hf⟩ := hO.at (by rw [fk_length _ n k hk]) k hlt
      skip
      clear hO hB hb HW
      go_wp2
      go_roundw
      case rel =>
        refine ⟨k + 1, by omega, by go_num, ?_, HW2.out.2.setCell (p := ⟨w.heap.size, k, none⟩) (.inr (by simp)) _⟩
        rw [← HSet.out]
        exact HW2.out.1.set (by rw [fk_length _ n k hk]) k _
      case measure => simp [intOf]; omega
    · have e8 : k = n := by omega
      subst e8
      rw [fk_all, HO.out] at hO
      have HW : Hid (Ow wr w.heap.size (.slice (some ⟨w.heap.size, 0, none⟩) k k) (xs.map (Gf.mul a)) ∧ But (fun _ => False) w wr) := ⟨hO, hB⟩
      clear hO hB
      go_wp2
      go_ret
      exact ⟨_, rfl, HW.out⟩

end Go.Proofs
/- The walks of a field's calls where there is no field. Conditions: none but that bytes are bytes. -/
namespace Go.Proofs
open Go.RowKit
end Go.Proofs
