/- The walks of a table's calls: Exp, Log, Mul, Inv, Pow. Conditions: bytes, an int; a table that is new, or made; or none. -/
import Derived.Test.YtphhehppcfddgaaGreatTabDo
import Derived.Test.YtphhehppcfddgaaGreatLogs
import Derived.Deep.QuietTactic
import Derived.BigQuiet
namespace Go.Proofs
open Go.RowKit

theorem But.drewN (S : Nat → Prop) (w : World) (n : Nat) : But S w (w.drewN n) := ⟨rfl, rfl, rfl, Nat.le_refl _, fun _ _ _ => rfl⟩
theorem Made.drewN {B : Nat} {w : World} (h : Made B w) (n : Nat) : Made B (w.drewN n) := h.but (But.drewN (fun _ => False) w n) (fun f => f)

theorem tlog_at (B a : Nat) (ha : a < 256) (h0 : a ≠ 0) (w : World) (h : Made B w) : Calls Tryz.prog 62 #[.pointer (some ⟨B, 0, none⟩), .int .u8 a] w fun e w' => e = .returned (.int .i64 (Gf.lg a : Nat)) ∧ w' = w := by
  have := tlog_calls B (Gf.lg a) (Gf.lg_lt a ha) w h
  rw [Gf.pow_lg a ha h0] at this
  exact this

set_option maxHeartbeats 1000000 in
theorem tmul_e (B a b r : Nat) (ha : a < 256) (hb : b < 256) (hr : Gf.mul a b = r) (w : World) (h : Any B w) :
    Calls Tryz.prog 98 #[.pointer (some ⟨B, 0, none⟩), .int .u8 a, .int .u8 b] w fun e w' => e = .returned (.int .u8 r) ∧ Made B w' ∧ But (· = B) w w' := by
  subst hr
  have hnot : ∀ (x : Bool) (w : World), (Op.unary .not (.bool x)).run Tryz.prog w = .ok (.bool (!x)) w := fun _ _ => rfl
  by_cases h0 : a = 0
  · subst h0
    have e0 := Gf.zero_mul b
    rw [e0]
    go_enter Tryz.func98, Tryz.ntmps98
    go_wp2_with (go_at_call 61; refine (tready_calls B _ h).mono ?_; rintro e w1 ⟨rfl, hm, hb⟩)
    go_ret
    exact ⟨rfl, hm, hb⟩
  have g0 : ((a : Int) == 0) = false := by simp; omega
  by_cases h1 : b = 0
  · subst h1
    have e0 := Gf.mul_zero a
    rw [e0]
    go_enter Tryz.func98, Tryz.ntmps98
    go_wp2_with (go_at_call 61; refine (tready_calls B _ h).mono ?_; rintro e w1 ⟨rfl, hm, hb⟩)
    go_ret
    exact ⟨rfl, hm, hb⟩
  have g1 : ((b : Int) == 0) = false := by simp; omega
  have HLa : Hid (∀ w, Made B w → Calls Tryz.prog 62 #[.pointer (some ⟨B, 0, none⟩), .int .u8 a] w fun e w' => e = .returned (.int .i64 (Gf.lg a : Nat)) ∧ w' = w) := tlog_at B a ha h0
  have HLb : Hid (∀ w, Made B w → Calls Tryz.prog 62 #[.pointer (some ⟨B, 0, none⟩), .int .u8 b] w fun e w' => e = .returned (.int .i64 (Gf.lg b : Nat)) ∧ w' = w) := tlog_at B b hb h1
  have hla := Gf.lg_lt a ha
  have hlb := Gf.lg_lt b hb
  have HE : Hid (Gf.pow 2 (Gf.lg a + Gf.lg b) = Gf.mul a b) := Gf.mul_lg a b ha hb h0 h1
  obtain ⟨x, hx⟩ : ∃ x, Gf.lg a = x := ⟨_, rfl⟩
  obtain ⟨y, hy⟩ : ∃ y, Gf.lg b = y := ⟨_, rfl⟩
  obtain ⟨g, hg⟩ : ∃ g, Gf.mul a b = g := ⟨_, rfl⟩
  rw [hx] at HLa hla HE
  rw [hy] at HLb hlb HE
  rw [hg] at HE ⊢
  clear hx hy hg
  go_enter Tryz.func98, Tryz.ntmps98
  go_wp2_with (go_at_call 61; refine (tready_calls B _ h).mono ?_; rintro e w1 ⟨rfl, hm, hb⟩)
  have hc := hm.powers (x + y) (by omega)
  rw [HE.out] at hc
  have HM : Hid (Made B w1) := hm
  have HB : Hid (But (· = B) w w1) := hb
  clear hm hb h
  go_quiet ((first | (go_at_call 62; with_reducible refine Calls.quiet_of_same (HLa.out _ (HM.out.drewN _))) | (go_at_call 62; with_reducible refine Calls.quiet_of_same (HLb.out _ (HM.out.drewN _)))))
  go_wp2
  go_ret
  exact ⟨rfl, HM.out.drewN _, HB.out.trans (But.drewN _ _ _)⟩

set_option maxHeartbeats 1000000 in
theorem tinv_e (B a r : Nat) (b : Bool) (ha : a < 256) (hr : Gf.inv a = r) (hb : (a != 0) = b) (w : World) (h : Any B w) :
    Calls Tryz.prog 59 #[.pointer (some ⟨B, 0, none⟩), .int .u8 a] w fun e w' => e = .returned (.tuple #[.int .u8 r, .bool b]) ∧ Made B w' ∧ But (· = B) w w' := by
  subst hr hb
  have hnot : ∀ (x : Bool) (w : World), (Op.unary .not (.bool x)).run Tryz.prog w = .ok (.bool (!x)) w := fun _ _ => rfl
  by_cases h0 : a = 0
  · subst h0
    have e0 := Gf.inv_zero
    rw [e0]
    go_enter Tryz.func59, Tryz.ntmps59
    go_wp2_with (go_at_call 61; refine (tready_calls B _ h).mono ?_; rintro e w1 ⟨rfl, hm, hb⟩)
    go_ret2
    exact ⟨rfl, hm, hb⟩
  have h1 : ((a : Int) == 0) = false := by simp; omega
  have h2 : (a != 0) = true := by simp [h0]
  rw [h2]
  have HLa : Hid (∀ w, Made B w → Calls Tryz.prog 62 #[.pointer (some ⟨B, 0, none⟩), .int .u8 a] w fun e w' => e = .returned (.int .i64 (Gf.lg a : Nat)) ∧ w' = w) := tlog_at B a ha h0
  have hla := Gf.lg_lt a ha
  have HE : Hid (Gf.pow 2 (255 - Gf.lg a) = Gf.inv a) := Gf.inv_lg a ha h0
  obtain ⟨x, hx⟩ : ∃ x, Gf.lg a = x := ⟨_, rfl⟩
  obtain ⟨g, hg⟩ : ∃ g, Gf.inv a = g := ⟨_, rfl⟩
  rw [hx] at HLa hla HE
  rw [hg] at HE ⊢
  clear hx hg
  go_enter Tryz.func59, Tryz.ntmps59
  go_wp2_with (go_at_call 61; refine (tready_calls B _ h).mono ?_; rintro e w1 ⟨rfl, hm, hb⟩)
  have hc := hm.powers (255 - x) (by omega)
  rw [HE.out] at hc
  have HM : Hid (Made B w1) := hm
  have HB : Hid (But (· = B) w w1) := hb
  clear hm hb h
  go_quiet ((go_at_call 62; with_reducible refine Calls.quiet_of_same (HLa.out _ (HM.out.drewN _))))
  go_wp2
  go_ret2
  exact ⟨rfl, HM.out.drewN _, HB.out.trans (But.drewN _ _ _)⟩


theorem tinv_nil (a : Nat) (w : World) : Calls Tryz.prog 59 #[.pointer none, .int .u8 a] w fun e w' => e = .returned (.tuple #[.int .u8 0, .bool false]) ∧ w' = w := by
  have hnot : ∀ (x : Bool) (w : World), (Op.unary .not (.bool x)).run Tryz.prog w = .ok (.bool (!x)) w := fun _ _ => rfl
  go_enter Tryz.func59, Tryz.ntmps59
  go_wp2_with (go_at_call 61; refine (tready_nil _).mono ?_; rintro e w1 ⟨rfl, rfl⟩)
  go_ret2
  exact ⟨rfl, rfl⟩
theorem tmul_nil (a b : Nat) (w : World) : Calls Tryz.prog 98 #[.pointer none, .int .u8 a, .int .u8 b] w fun e w' => e = .returned (.int .u8 0) ∧ w' = w := by
  have hnot : ∀ (x : Bool) (w : World), (Op.unary .not (.bool x)).run Tryz.prog w = .ok (.bool (!x)) w := fun _ _ => rfl
  go_enter Tryz.func98, Tryz.ntmps98
  go_wp2_with (go_at_call 61; refine (tready_nil _).mono ?_; rintro e w1 ⟨rfl, rfl⟩)
  go_ret
  exact ⟨rfl, rfl⟩
end Go.Proofs
