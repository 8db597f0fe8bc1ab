/- The walks of sync.Once's Do at a table, of ready, turn and log. Conditions: a table that is new, or made. -/
import Derived.Test.YtphhehppcfddgaaGreatTabFill
namespace Go.Proofs
open Go.RowKit

theorem pow_two_wrap (i : Nat) (hi : i < 255) : Gf.pow 2 (i + 255) = Gf.pow 2 i := by
  rw [Gf.pow_mod 2 (i + 255) (by decide) (by decide), Nat.add_mod_right, Nat.mod_eq_of_lt hi]

/-- Behind fill, 'done' and the lock stored: the table is made. -/
theorem made_of_filled {B : Nat} {W : World} (h : Filled B 0 1 255 W) :
    Made B ((((W.setCell ⟨B, 3, none⟩ (.int .i64 1)).drew.setCell ⟨B, 0, none⟩ (.int .u32 1)).setCell ⟨B, 1, none⟩ (.int .i32 0))) := by
  have t1 := h.tb.set ⟨B, 3, none⟩ (.int .i64 1)
  have other : ∀ o, o ≠ 3 → o ≠ 0 → o ≠ 1 → (((W.setCell ⟨B, 3, none⟩ (.int .i64 1)).drew.setCell ⟨B, 0, none⟩ (.int .u32 1)).setCell ⟨B, 1, none⟩ (.int .i32 0)).cell? ⟨B, o, none⟩ = W.cell? ⟨B, o, none⟩ := by
    intro o h1 h2 h3
    rw [World.cell?_setCell_other _ _ _ _ (off_ne (by omega)), World.cell?_setCell_other _ _ _ _ (off_ne (by omega)), World.cell?_drew, World.cell?_setCell_other _ _ _ _ (off_ne (by omega))]
  refine ⟨(t1.drew.set _ _).set _ _, ?_, ?_, ?_, ?_⟩
  · rw [World.cell?_setCell_other _ _ _ _ (off_ne (by omega))]
    exact t1.drew.set_same 0 (by omega) _
  · rw [World.cell?_setCell_other _ _ _ _ (off_ne (by omega)), World.cell?_setCell_other _ _ _ _ (off_ne (by omega)), World.cell?_drew]
    exact h.tb.set_same 3 (by omega) _
  · intro i hi
    rw [other _ (by omega) (by omega) (by omega)]
    rcases Nat.lt_or_ge i 255 with hl | hl
    · exact (h.powers i hl).1
    · obtain ⟨j, rfl⟩ := Nat.exists_eq_add_of_le hl
      have := (h.powers j (by omega)).2
      rw [Nat.add_comm 255 j, pow_two_wrap j (by omega)]
      exact this
  · intro j hj
    rw [other _ (by omega) (by omega) (by omega)]
    exact h.logs j hj

theorem Fresh.filled {B : Nat} {W : World} (h : Fresh B W) : Filled B 0 1 0 (W.setCell ⟨B, 1, none⟩ (.int .i32 1)) :=
  ⟨h.tb.set _ _, (World.cell?_setCell_other _ _ _ _ (off_ne (by omega))).trans h.once, h.tb.set_same 1 (by omega) _, (World.cell?_setCell_other _ _ _ _ (off_ne (by omega))).trans h.made,
   fun i hi => absurd hi (Nat.not_lt_zero i), fun j hj => absurd hj (Nat.not_lt_zero j)⟩

set_option maxRecDepth 100000 in
set_option maxHeartbeats 2000000 in
theorem tslow_calls (B : Nat) (w : World) (h : Fresh B w) :
    Calls Tryz.prog 67 #[.pointer (some ⟨B, 0, none⟩), .func (.func 60) #[.pointer (some ⟨B, 0, none⟩)] #[]] w fun e w' => e = .returned (.tuple #[]) ∧ Made B w' ∧ But (· = B) w w' := by
  have hfl := h.filled
  have hl := run_call_load (P := Tryz.prog) Tryz.func71 (by kernel_rfl) (by kernel_rfl) (by kernel_rfl) .u32 (by kernel_rfl) (w := w.setCell ⟨B, 1, none⟩ (.int .i32 1)) (a := ⟨B, 0, none⟩) (x := 0) hfl.once
  have hnot : ∀ (x : Bool) (w : World), (Op.unary .not (.bool x)).run Tryz.prog w = .ok (.bool (!x)) w := fun _ _ => rfl
  have c1 := h.lock
  have f1 := h.tb.fz 1
  have HF : Hid (Filled B 0 1 0 (w.setCell ⟨B, 1, none⟩ (.int .i32 1))) := hfl
  clear hfl h
  go_enter_defers Tryz.func67, Tryz.ntmps67
  go_wp2_with (first | (go_at_call 72; refine (lock_free ⟨B, 1, none⟩ _ c1 f1).mono ?_; rintro e w' ⟨rfl, rfl⟩) | (go_at_call 66; go_in) | (go_at_call 60; refine (tfill_calls B 0 1 _ HF.out).mono ?_; rintro e w' ⟨rfl, hb1, W, hFW, rfl⟩))
  have c0 : (W.setCell ⟨B, 3, none⟩ (.int .i64 1)).cell? ⟨B, 0, none⟩ = some (.int .u32 0) := (World.cell?_setCell_other _ _ _ _ (off_ne (by omega))).trans hFW.once
  have f0 : (W.setCell ⟨B, 3, none⟩ (.int .i64 1)).frozen? ⟨B, 0, none⟩ = false := by rw [World.frozen?_setCell]; exact hFW.tb.fz 0
  refine leaves_cons (f := 74) (args := #[.pointer (some ⟨B, 0, none⟩), .bool true]) (by simp) (by simp [go_sem]) ?_
  refine (store_deferred ⟨B, 0, none⟩ (.int .u32 0) .returning _ c0 f0).mono ?_
  rintro e u' w'' ⟨rfl, rfl, rfl⟩
  have c2 : ((W.setCell ⟨B, 3, none⟩ (.int .i64 1)).drew.setCell ⟨B, 0, none⟩ (.int .u32 1)).cell? ⟨B, 1, none⟩ = some (.int .i32 1) := by
    rw [World.cell?_setCell_other _ _ _ _ (off_ne (by omega)), World.cell?_drew, World.cell?_setCell_other _ _ _ _ (off_ne (by omega))]; exact hFW.lock
  have f2 : ((W.setCell ⟨B, 3, none⟩ (.int .i64 1)).drew.setCell ⟨B, 0, none⟩ (.int .u32 1)).frozen? ⟨B, 1, none⟩ = false := by
    rw [World.frozen?_setCell, World.frozen?_drew, World.frozen?_setCell]; exact hFW.tb.fz 1
  refine leaves_cons (f := 73) (args := #[.pointer (some ⟨B, 1, none⟩)]) (by simp [settle]) (by simp [go_sem]) ?_
  refine (unlock_deferred ⟨B, 1, none⟩ _ _ c2 f2).mono ?_
  rintro e u' w'' ⟨rfl, rfl, rfl⟩
  have hm := made_of_filled hFW
  have hbb : But (· = B) w (((W.setCell ⟨B, 3, none⟩ (.int .i64 1)).drew.setCell ⟨B, 0, none⟩ (.int .u32 1)).setCell ⟨B, 1, none⟩ (.int .i32 0)) :=
    ((((((But.refl (· = B) w).setCell (p := ⟨B, 1, none⟩) (.inl rfl) _).trans hb1).drew).setCell (p := ⟨B, 0, none⟩) (.inl rfl) _).setCell (p := ⟨B, 1, none⟩) (.inl rfl) _)
  simp [Leaves, settle, results, Tryz.results67, hm, hbb]

/-- '(*sync.Once).Do' at a new table: it is made. -/
theorem tdo_first (B : Nat) (w : World) (h : Fresh B w) :
    Calls Tryz.prog 63 #[.pointer (some ⟨B, 0, none⟩), .func (.func 60) #[.pointer (some ⟨B, 0, none⟩)] #[]] w fun e w' => e = .returned (.tuple #[]) ∧ Made B w' ∧ But (· = B) w w' := by
  have hl := run_call_load (P := Tryz.prog) Tryz.func71 (by kernel_rfl) (by kernel_rfl) (by kernel_rfl) .u32 (by kernel_rfl) h.once
  have hnot : ∀ (x : Bool) (w : World), (Op.unary .not (.bool x)).run Tryz.prog w = .ok (.bool (!x)) w := fun _ _ => rfl
  go_enter Tryz.func63, Tryz.ntmps63
  go_wp2_with (first | (go_at_call 67; refine (tslow_calls B _ h).mono ?_; rintro e w' ⟨rfl, hm, hb⟩) | (go_at_call 66; go_in))
  go_end0
  exact ⟨rfl, hm, hb⟩
/-- '(*sync.Once).Do', done already: the function is not called. -/
theorem do_done (a : Addr) (fv : Value) (w : World) (h0 : w.cell? a = some (.int .u32 1)) :
    Calls Tryz.prog 63 #[.pointer (some a), fv] w fun e w' => e = .returned (.tuple #[]) ∧ w' = w := by
  have hl := run_call_load (P := Tryz.prog) Tryz.func71 (by kernel_rfl) (by kernel_rfl) (by kernel_rfl) .u32 (by kernel_rfl) h0
  have hnot : ∀ (x : Bool) (w : World), (Op.unary .not (.bool x)).run Tryz.prog w = .ok (.bool (!x)) w := fun _ _ => rfl
  go_enter Tryz.func63, Tryz.ntmps63
  go_wp2
  go_end0
  exact ⟨rfl, rfl⟩

/-- A table, made or not. -/
def Any (B : Nat) (W : World) : Prop := Fresh B W ∨ Made B W
theorem Any.but {B : Nat} {S : Nat → Prop} {W W' : World} (h : Any B W) (hb : But S W W') (hs : ¬ S B) : Any B W' := h.imp (·.but hb hs) (·.but hb hs)
theorem tready_calls (B : Nat) (w : World) (h : Any B w) :
    Calls Tryz.prog 61 #[.pointer (some ⟨B, 0, none⟩)] w fun e w' => e = .returned (.bool true) ∧ Made B w' ∧ But (· = B) w w' := by
  have hmf : ∀ (fn : Fn) (first cap : Array Value) (w : World), (Instr.makeFunc fn first cap).run Tryz.prog w = .ok (.func fn first cap) w := fun _ _ _ _ => rfl
  rcases h with h | h
  · go_enter Tryz.func61, Tryz.ntmps61
    go_wp2_with (go_at_call 63; refine (tdo_first B _ h).mono ?_; rintro e w' ⟨rfl, hm, hb⟩)
    go_ret
    exact ⟨rfl, hm, hb⟩
  · have h0 := h.once
    go_enter Tryz.func61, Tryz.ntmps61
    go_wp2_with (go_at_call 63; refine (do_done ⟨B, 0, none⟩ _ _ h0).mono ?_; rintro e w' ⟨rfl, rfl⟩)
    go_ret
    exact ⟨rfl, h, But.refl _ _⟩
theorem tready_nil (w : World) : Calls Tryz.prog 61 #[.pointer none] w fun e w' => e = .returned (.bool false) ∧ w' = w := by
  go_enter Tryz.func61, Tryz.ntmps61
  go_wp2
  go_ret
  exact ⟨rfl, rfl⟩

theorem tmod_bounds (n : Int) : -255 < n.tmod 255 ∧ n.tmod 255 < 255 ∧ (n.tmod 255 + 255).tmod 255 = n % 255 := by
  have tm : (0 ≤ n ∧ n.tmod 255 = n % 255) ∨ (n < 0 ∧ n.tmod 255 = -((-n) % 255)) := by
    rcases Int.lt_or_le n 0 with h | h
    · right
      refine ⟨h, ?_⟩
      rw [← Int.tmod_eq_emod_of_nonneg (by omega : (0 : Int) ≤ -n), Int.neg_tmod]
      omega
    · exact .inl ⟨h, Int.tmod_eq_emod_of_nonneg h⟩
  have hb : -255 < n.tmod 255 ∧ n.tmod 255 < 255 := by omega
  refine ⟨hb.1, hb.2, ?_⟩
  rw [Int.tmod_eq_emod_of_nonneg (by omega)]
  omega
theorem tlog_calls (B j : Nat) (hj : j < 255) (w : World) (h : Made B w) : Calls Tryz.prog 62 #[.pointer (some ⟨B, 0, none⟩), .int .u8 (Gf.pow 2 j : Nat)] w fun e w' => e = .returned (.int .i64 j) ∧ w' = w := by
  have hp := Gf.pow_lt 2 j (by decide)
  have hc := h.logs j hj
  obtain ⟨q, hq⟩ : ∃ q, Gf.pow 2 j = q := ⟨_, rfl⟩
  rw [hq] at hp hc ⊢
  clear hq
  go_enter Tryz.func62, Tryz.ntmps62
  go_wp2
  go_ret
  exact ⟨rfl, rfl⟩
end Go.Proofs
