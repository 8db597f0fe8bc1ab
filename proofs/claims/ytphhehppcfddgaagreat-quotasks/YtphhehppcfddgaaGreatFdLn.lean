/- The walks of field's backend of lanes, for single bytes: first, power, Mul, Inv, Pow. Conditions: bytes; an int. -/
import Derived.Test.YtphhehppcfddgaaGreatLnPack
import Derived.Test.YtphhehppcfddgaaGreatLnProd
import Derived.Test.YtphhehppcfddgaaGreatGf2
import Derived.Test.YtphhehppcfddgaaGreatTabDo
namespace Go.Proofs
open Go.RowKit

/-- A byte in the first lane. -/
def on1 (x : Nat) : Nat → Nat := fun j => if j = 0 then x else 0
theorem on1_at (x : Nat) : on1 x 0 = x := rfl
theorem on1_lt (x : Nat) (hx : x < 256) : ∀ n, n < 64 → on1 x n < 256 := fun n _ => by unfold on1; split <;> omega
theorem on1_mul (x y : Nat) : ∀ n, n < 64 → Gf.mul (on1 x n) (on1 y n) = on1 (Gf.mul x y) n := fun n _ => by
  unfold on1; split
  · rfl
  · exact Gf.mul_zero 0
theorem on1_scale (x y : Nat) : ∀ n, n < 64 → Gf.mul (on1 x n) y = on1 (Gf.mul x y) n := fun n _ => by
  unfold on1; split
  · rfl
  · exact Gf.zero_mul y

set_option maxRecDepth 100000 in
set_option maxHeartbeats 1000000 in
theorem ffirst_calls (a : Nat) (ha : a < 256) (w : World) :
    Calls Tryz.prog 118 #[.int .u8 a] w fun e w' => e = .returned (V8 (on1 a)) ∧ Below w.heap.size w w' := by
  have hP : Hid (∀ (c : Nat) (w : World) (B : Nat), w.cell? ⟨B, 0, none⟩ = some (.int .u8 a) → Calls Tryz.prog 117 #[.slice (some ⟨B, 0, none⟩) 1 c] w fun e w' => e = .returned (V8 (on1 a)) ∧ Below w.heap.size w w') := by
    intro c w B hc
    refine lpack_calls (some ⟨B, 0, none⟩) 1 c [a] (on1 a) ?_ w ⟨rfl, by decide, ?_, ?_⟩
    · intro k _
      match k with
      | 0 => rfl
      | k + 1 => simp [on1]
    · intro i hi
      obtain rfl : i = 0 := by omega
      exact ⟨_, rfl, World.block_lt_of_cell? _ _ hc, hc⟩
    · intro i
      match i with
      | 0 => exact ha
      | i + 1 => simp
  have hZ := pl_zero8 w rfl 142
  go_enter Tryz.func118, Tryz.ntmps118
  go_wp2_with fail
  refine (hP.out _ _ _ (by simp [go_sem])).mono ?_
  rintro e w1 ⟨rfl, hb⟩
  have hR := (hZ.alloc _).below hb
  have HN : Hid (Pl w1 w.heap.size 8 (fun _ => 0) ∧ Below w.heap.size w w1) := ⟨hR, (((Below.refl _ w).alloc (Nat.le_refl _) _).alloc (by simp) _).trans (hb.mono (by simp; omega))⟩
  have r0 := hR.cell 0 (by decide)
  have r1 := hR.cell 1 (by decide)
  have r2 := hR.cell 2 (by decide)
  have r3 := hR.cell 3 (by decide)
  have r4 := hR.cell 4 (by decide)
  have r5 := hR.cell 5 (by decide)
  have r6 := hR.cell 6 (by decide)
  have r7 := hR.cell 7 (by decide)
  have f0 := hR.fz 0
  have f1 := hR.fz 1
  have f2 := hR.fz 2
  have f3 := hR.fz 3
  have f4 := hR.fz 4
  have f5 := hR.fz 5
  have f6 := hR.fz 6
  have f7 := hR.fz 7
  clear hR hb hZ
  go_wp2
  exact bodyPost_ret (results_cell Tryz.results118 rfl (load8 (HN.out.1.set8 (on1 a)))) rfl ⟨rfl, below_set8 HN.out.2 (by omega) (on1 a)⟩

theorem i64_and1 (n : Int) : bits .and .i64 n 1 = n % 2 := by
  have h1 : (BitVec.ofInt 64 1).toNat = 2 ^ 1 - 1 := by decide
  have key : (BitVec.ofInt 64 n &&& BitVec.ofInt 64 1).toNat = (n % ((2 ^ 64 : Nat) : Int)).toNat % 2 ^ 1 := by
    rw [BitVec.toNat_and, BitVec.toNat_ofInt, h1, Nat.and_two_pow_sub_one_eq_mod]
  show IntKind.i64.wrap ((BitVec.ofInt 64 n &&& BitVec.ofInt 64 1).toNat : Nat) = n % 2
  rw [key, IntKind.wrap_i64]
  omega
theorem odd_e (m : Nat) (b : Bool) (h : (m % 2 == 1) = b) : (bits .and .i64 (m : Int) 1 == 1) = b := by
  rw [← h, i64_and1, Bool.eq_iff_iff]
  simp
  omega
theorem pow_bit (a N i : Nat) (ha : a < 256) : Gf.pow a (N % 2 ^ (i + 1)) = if N / 2 ^ i % 2 == 1 then Gf.mul (Gf.pow a (N % 2 ^ i)) (Gf.pow a (2 ^ i)) else Gf.pow a (N % 2 ^ i) := by
  rw [Nat.mod_pow_succ]
  rcases Nat.mod_two_eq_zero_or_one (N / 2 ^ i) with e | e
  · simp [e]
  · rw [e]
    simp only [Nat.mul_one, beq_self_eq_true, if_true]
    exact Gf.pow_add a _ _ ha

set_option maxRecDepth 100000 in
set_option maxHeartbeats 2000000 in
theorem fpower_calls (a N : Nat) (ha : a < 256) (hN : N < 9223372036854775808) (w : World) :
    Calls Tryz.prog 113 #[.int .u8 a, .int .i64 (N : Int)] w fun e w' => e = .returned (.int .u8 (Gf.pow a N : Nat)) ∧ Below w.heap.size w w' := by
  have HA : Hid (a < 256) := ha
  have k1 : Hid (∀ w, Calls Tryz.prog 118 #[.int .u8 1] w fun e w' => e = .returned (V8 (on1 1)) ∧ Below w.heap.size w w') := fun w => ffirst_calls 1 (by decide) w
  have ka : Hid (∀ w, Calls Tryz.prog 118 #[.int .u8 a] w fun e w' => e = .returned (V8 (on1 a)) ∧ Below w.heap.size w w') := fun w => ffirst_calls a ha w
  go_enter Tryz.func113, Tryz.ntmps113
  go_wp2_with fail
  refine (k1.out _).mono ?_
  rintro e w1 ⟨rfl, hb1⟩
  go_wp2_with fail
  refine (ka.out _).mono ?_
  rintro e w2 ⟨rfl, hb2⟩
  have hb := hb1.trans (hb2.mono hb1.size)
  clear hb1 hb2
  go_wp2
  obtain ⟨P, hP⟩ : ∃ P, w2.heap.size = P := ⟨_, rfl⟩
  have HL : w.heap.size ≤ P := hP ▸ hb.size
  go_loopw [1] (fun v wr => ∃ i : Nat, v = .int .i64 ((N / 2 ^ i : Nat) : Int) ∧ Pl wr P 8 (on1 (Gf.pow a (N % 2 ^ i))) ∧ Pl wr (P + 1) 8 (on1 (Gf.pow a (2 ^ i))) ∧ Below w.heap.size w wr) (fun v _ => (intOf v).toNat)
  case atStart =>
    subst hP
    refine ⟨0, by simp, ?_, ?_, (hb.alloc hb.size _).alloc (by have := hb.size; simp; omega) _⟩
    · have e1 : Gf.pow a (N % 2 ^ 0) = 1 := by rw [Nat.pow_zero, Nat.mod_one]; rfl
      rw [e1]
      exact (pl_box w2 rfl (on1 1) _).alloc _
    · have e1 : Gf.pow a (2 ^ 0) = a := Gf.pow_one a ha
      rw [e1]
      exact pl_box _ (by simp) (on1 a) _
  case round =>
    rw [hP]
    clear hP hb
    obtain ⟨i, rfl, hp, hq, hB⟩ := hrel
    have hm : N / 2 ^ i < 9223372036854775808 := Nat.lt_of_le_of_lt (Nat.div_le_self _ _) hN
    have h1 := Gf.pow_lt a (N % 2 ^ i) ha
    have h2 := Gf.pow_lt a (2 ^ i) ha
    have HS : Hid (Gf.pow a (2 ^ (i + 1)) = Gf.mul (Gf.pow a (2 ^ i)) (Gf.pow a (2 ^ i))) := by
      show Gf.pow a (2 ^ (i + 1)) = _
      rw [Nat.pow_succ, Nat.mul_two]
      exact Gf.pow_double a _ ha
    have HD : Hid (N / 2 ^ (i + 1) = N / 2 ^ i / 2) := by
      show N / 2 ^ (i + 1) = _
      rw [Nat.pow_succ, Nat.div_div_eq_div_mul]
    have HB' := pow_bit a N i ha
    have HE : Hid (N / 2 ^ i = 0 → Gf.pow a (N % 2 ^ i) = Gf.pow a N) := by
      intro h0
      have := Nat.div_add_mod N (2 ^ i)
      rw [h0, Nat.mul_zero, Nat.zero_add] at this
      rw [this]
    obtain ⟨m, hmq⟩ : ∃ m, N / 2 ^ i = m := ⟨_, rfl⟩
    obtain ⟨x, hx⟩ : ∃ x, Gf.pow a (N % 2 ^ i) = x := ⟨_, rfl⟩
    obtain ⟨y, hy⟩ : ∃ y, Gf.pow a (2 ^ i) = y := ⟨_, rfl⟩
    rw [hmq] at hm HD HB' HE
    rw [hx] at h1 HB' hp HE
    rw [hy] at h2 HB' hq HS
    rw [hmq]
    clear hmq hx hy
    have HN1 : Hid (Gf.pow a (N % 2 ^ (i + 1)) = if m % 2 == 1 then Gf.mul x y else x) := HB'
    clear HB'
    by_cases h0 : m = 0
    · subst h0
      have HX := HE.out rfl
      have kl : Hid (∀ w, Calls Tryz.prog 121 #[V8 (on1 x), .int .i64 0] w fun e w' => e = .returned (.int .u8 (Gf.pow a N : Nat)) ∧ Below w.heap.size w w') := fun w => by
        have := llane_in (on1 x) 0 (by decide) h1 w
        rw [show on1 x 0 = Gf.pow a N from HX] at this
        exact this
      have c0 := hp.cell 0 (by decide)
      have c1 := hp.cell 1 (by decide)
      have c2 := hp.cell 2 (by decide)
      have c3 := hp.cell 3 (by decide)
      have c4 := hp.cell 4 (by decide)
      have c5 := hp.cell 5 (by decide)
      have c6 := hp.cell 6 (by decide)
      have c7 := hp.cell 7 (by decide)
      have HM : Hid (Below w.heap.size w wr) := hB
      clear hp hq hB HX
      go_wp2_with fail
      refine (kl.out _).mono ?_
      rintro e w3 ⟨rfl, hb3⟩
      clear c0 c1 c2 c3 c4 c5 c6 c7
      go_wp2
      go_ret
      exact ⟨rfl, HM.out.trans (hb3.mono HM.out.size)⟩
    · have hgt : (0 : Int) < (m : Int) := by omega
      have ks : Hid (∀ w, Calls Tryz.prog 120 #[V8 (on1 y)] w fun e w' => e = .returned (V8 (on1 (Gf.mul y y))) ∧ Below w.heap.size w w') := fun w => lsquare_calls (on1 y) _ (on1_lt y h2) (on1_mul y y) w
      have km : Hid (∀ w, Calls Tryz.prog 119 #[V8 (on1 x), V8 (on1 y)] w fun e w' => e = .returned (V8 (on1 (Gf.mul x y))) ∧ Below w.heap.size w w') := fun w => lmul_calls (on1 x) (on1 y) _ (on1_lt x h1) (on1_lt y h2) (on1_mul x y) w
      cases hodd : (m % 2 == 1)
      · have ho := odd_e m _ hodd
        rw [hodd] at HN1
        clear hodd
        have d0 := hq.cell 0 (by decide)
        have d1 := hq.cell 1 (by decide)
        have d2 := hq.cell 2 (by decide)
        have d3 := hq.cell 3 (by decide)
        have d4 := hq.cell 4 (by decide)
        have d5 := hq.cell 5 (by decide)
        have d6 := hq.cell 6 (by decide)
        have d7 := hq.cell 7 (by decide)
        have HM : Hid (Pl wr P 8 (on1 x) ∧ Pl wr (P + 1) 8 (on1 y) ∧ Below w.heap.size w wr) := ⟨hp, hq, hB⟩
        clear hp hq hB
        go_wp2_with fail
        refine (ks.out _).mono ?_
        rintro e w3 ⟨rfl, hb3⟩
        clear d0 d1 d2 d3 d4 d5 d6 d7
        have hq := HM.out.2.1.below hb3
        have HK : Hid (Pl w3 P 8 (on1 x) ∧ Pl w3 (P + 1) 8 (on1 y) ∧ Below w.heap.size w w3) := ⟨HM.out.1.below hb3, hq, HM.out.2.2.trans (hb3.mono HM.out.2.2.size)⟩
        have d0 := hq.cell 0 (by decide)
        have d1 := hq.cell 1 (by decide)
        have d2 := hq.cell 2 (by decide)
        have d3 := hq.cell 3 (by decide)
        have d4 := hq.cell 4 (by decide)
        have d5 := hq.cell 5 (by decide)
        have d6 := hq.cell 6 (by decide)
        have d7 := hq.cell 7 (by decide)
        have f0 := hq.fz 0
        have f1 := hq.fz 1
        have f2 := hq.fz 2
        have f3 := hq.fz 3
        have f4 := hq.fz 4
        have f5 := hq.fz 5
        have f6 := hq.fz 6
        have f7 := hq.fz 7
        clear hq hb3 HM
        go_wp2
        go_roundw
        case rel =>
          refine ⟨i + 1, by rw [HD.out]; simp, ?_, ?_, below_set8 HK.out.2.2 (by omega) _⟩
          · rw [HN1.out]; exact HK.out.1.other8 (by omega) _
          · rw [HS.out]; exact HK.out.2.1.set8 _
        case measure => simp [intOf]; omega
      · have ho := odd_e m _ hodd
        rw [hodd] at HN1
        clear hodd
        have c0 := hp.cell 0 (by decide)
        have c1 := hp.cell 1 (by decide)
        have c2 := hp.cell 2 (by decide)
        have c3 := hp.cell 3 (by decide)
        have c4 := hp.cell 4 (by decide)
        have c5 := hp.cell 5 (by decide)
        have c6 := hp.cell 6 (by decide)
        have c7 := hp.cell 7 (by decide)
        have d0 := hq.cell 0 (by decide)
        have d1 := hq.cell 1 (by decide)
        have d2 := hq.cell 2 (by decide)
        have d3 := hq.cell 3 (by decide)
        have d4 := hq.cell 4 (by decide)
        have d5 := hq.cell 5 (by decide)
        have d6 := hq.cell 6 (by decide)
        have d7 := hq.cell 7 (by decide)
        have HM : Hid (Pl wr P 8 (on1 x) ∧ Pl wr (P + 1) 8 (on1 y) ∧ Below w.heap.size w wr) := ⟨hp, hq, hB⟩
        clear hp hq hB
        go_wp2_with fail
        refine (km.out _).mono ?_
        rintro e w3 ⟨rfl, hb3⟩
        clear c0 c1 c2 c3 c4 c5 c6 c7
        clear d0 d1 d2 d3 d4 d5 d6 d7
        have hp := HM.out.1.below hb3
        have HK : Hid (Pl (set8 w3 P (on1 (Gf.mul x y))) P 8 (on1 (Gf.mul x y)) ∧ Pl (set8 w3 P (on1 (Gf.mul x y))) (P + 1) 8 (on1 y) ∧ Below w.heap.size w (set8 w3 P (on1 (Gf.mul x y)))) := ⟨hp.set8 _, (HM.out.2.1.below hb3).other8 (by omega) _, below_set8 (HM.out.2.2.trans (hb3.mono HM.out.2.2.size)) HL _⟩
        have hq : Pl w3 (P + 1) 8 (on1 y) := HM.out.2.1.below hb3
        have c0 := hp.cell 0 (by decide)
        have c1 := hp.cell 1 (by decide)
        have c2 := hp.cell 2 (by decide)
        have c3 := hp.cell 3 (by decide)
        have c4 := hp.cell 4 (by decide)
        have c5 := hp.cell 5 (by decide)
        have c6 := hp.cell 6 (by decide)
        have c7 := hp.cell 7 (by decide)
        have f0 := hp.fz 0
        have f1 := hp.fz 1
        have f2 := hp.fz 2
        have f3 := hp.fz 3
        have f4 := hp.fz 4
        have f5 := hp.fz 5
        have f6 := hp.fz 6
        have f7 := hp.fz 7
        have d0 := hq.cell 0 (by decide)
        have d1 := hq.cell 1 (by decide)
        have d2 := hq.cell 2 (by decide)
        have d3 := hq.cell 3 (by decide)
        have d4 := hq.cell 4 (by decide)
        have d5 := hq.cell 5 (by decide)
        have d6 := hq.cell 6 (by decide)
        have d7 := hq.cell 7 (by decide)
        clear hp hq hb3 HM
        go_wp2_with fail
        clear c0 c1 c2 c3 c4 c5 c6 c7
        clear f0 f1 f2 f3 f4 f5 f6 f7
        clear d0 d1 d2 d3 d4 d5 d6 d7
        obtain ⟨w4, hw4⟩ : ∃ w4, set8 w3 P (on1 (Gf.mul x y)) = w4 := ⟨_, rfl⟩
        rw [hw4] at HK
        unfold set8 at hw4
        rw [hw4]
        clear hw4
        refine (ks.out _).mono ?_
        rintro e w5 ⟨rfl, hb5⟩
        have hq := HK.out.2.1.below hb5
        have HJ : Hid (Pl w5 P 8 (on1 (Gf.mul x y)) ∧ Pl w5 (P + 1) 8 (on1 y) ∧ Below w.heap.size w w5) := ⟨HK.out.1.below hb5, hq, HK.out.2.2.trans (hb5.mono HK.out.2.2.size)⟩
        have d0 := hq.cell 0 (by decide)
        have d1 := hq.cell 1 (by decide)
        have d2 := hq.cell 2 (by decide)
        have d3 := hq.cell 3 (by decide)
        have d4 := hq.cell 4 (by decide)
        have d5 := hq.cell 5 (by decide)
        have d6 := hq.cell 6 (by decide)
        have d7 := hq.cell 7 (by decide)
        have f0 := hq.fz 0
        have f1 := hq.fz 1
        have f2 := hq.fz 2
        have f3 := hq.fz 3
        have f4 := hq.fz 4
        have f5 := hq.fz 5
        have f6 := hq.fz 6
        have f7 := hq.fz 7
        clear hq hb5 HK
        go_wp2
        go_roundw
        case rel =>
          refine ⟨i + 1, by rw [HD.out]; simp, ?_, ?_, below_set8 HJ.out.2.2 (by omega) _⟩
          · rw [HN1.out]; exact HJ.out.1.other8 (by omega) _
          · rw [HS.out]; exact HJ.out.2.1.set8 _
        case measure => simp [intOf]; omega

theorem below_box {w w1 : World} (o : Obj) (h : Below (w.alloc o).heap.size (w.alloc o) w1) : Below w.heap.size w w1 := ((Below.refl _ w).alloc (Nat.le_refl _) o).trans (h.mono (by simp))
theorem llane_0 (x r : Nat) (hx : x < 256) (hr : x = r) (w : World) : Calls Tryz.prog 121 #[V8 (on1 x), .int .i64 0] w fun e w' => e = .returned (.int .u8 (r : Nat)) ∧ Below w.heap.size w w' := by
  have := llane_in (on1 x) 0 (by decide) hx w
  rw [show on1 x 0 = r from hr] at this
  exact this
set_option maxRecDepth 100000 in
set_option maxHeartbeats 1000000 in
theorem blinv_calls (a : Nat) (ha : a < 256) (w : World) :
    Calls Tryz.prog 108 #[.agg #[], .int .u8 a] w fun e w' => e = .returned (.tuple #[.int .u8 (Gf.inv a : Nat), .bool (a != 0)]) ∧ Below w.heap.size w w' := by
  by_cases h0 : a = 0
  · subst h0
    have e0 := Gf.inv_zero
    rw [e0]
    go_enter Tryz.func108, Tryz.ntmps108
    go_wp2
    go_ret2
    exact ⟨rfl, below_box _ (Below.refl _ _)⟩
  · have h1 : ((a : Int) == 0) = false := by simp; omega
    have h2 : (a != 0) = true := by simp [h0]
    rw [h2]
    go_enter Tryz.func108, Tryz.ntmps108
    go_wp2_with (go_at_call 113; refine (fpower_calls a 254 ha (by decide) _).mono ?_; rintro e w1 ⟨rfl, hb1⟩)
    go_ret2
    exact ⟨rfl, below_box _ hb1⟩
end Go.Proofs
