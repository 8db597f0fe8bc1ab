/- The walk of a table's fill. Condition: the block holds a table's cells. -/
import Derived.Test.YtphhehppcfddgaaGreatTabNew
import Derived.Test.YtphhehppcfddgaaGreatReduce
namespace Go.Proofs
open Go.RowKit

theorem off_ne {B o p : Nat} (h : o ≠ p) : (⟨B, o, none⟩ : Addr) ≠ ⟨B, p, none⟩ := fun e => h (congrArg Addr.off e)

/-- The first k powers are laid; the Once, its lock and the count are as they were. -/
structure Filled (B : Nat) (d s : Int) (k : Nat) (W : World) : Prop where
  tb : Tb B W
  once : W.cell? ⟨B, 0, none⟩ = some (.int .u32 d)
  lock : W.cell? ⟨B, 1, none⟩ = some (.int .i32 s)
  made : W.cell? ⟨B, 3, none⟩ = some (.int .i64 0)
  powers : ∀ i, i < k → W.cell? ⟨B, 4 + i, none⟩ = some (.int .u8 (Gf.pow 2 i : Nat)) ∧ W.cell? ⟨B, 4 + (i + 255), none⟩ = some (.int .u8 (Gf.pow 2 i : Nat))
  logs : ∀ j, j < k → W.cell? ⟨B, 514 + Gf.pow 2 j, none⟩ = some (.int .u8 (j : Nat))

/-- What a round lays. -/
theorem Filled.step {B : Nat} {d s : Int} {k : Nat} {W : World} (h : Filled B d s k W) (hk : k < 255) :
    Filled B d s (k + 1) ((((W.setCell ⟨B, 4 + k, none⟩ (.int .u8 (Gf.pow 2 k : Nat))).setCell ⟨B, 4 + (k + 255), none⟩ (.int .u8 (Gf.pow 2 k : Nat))).drew.setCell ⟨B, 514 + Gf.pow 2 k, none⟩ (.int .u8 (k : Nat)))) := by
  have hp := Gf.pow_lt 2 k (by decide)
  have other : ∀ o, o ≠ 4 + k → o ≠ 4 + (k + 255) → o ≠ 514 + Gf.pow 2 k → (((W.setCell ⟨B, 4 + k, none⟩ (.int .u8 (Gf.pow 2 k : Nat))).setCell ⟨B, 4 + (k + 255), none⟩ (.int .u8 (Gf.pow 2 k : Nat))).drew.setCell ⟨B, 514 + Gf.pow 2 k, none⟩ (.int .u8 (k : Nat))).cell? ⟨B, o, none⟩ = W.cell? ⟨B, o, none⟩ := by
    intro o h1 h2 h3
    rw [World.cell?_setCell_other _ _ _ _ (off_ne (by omega)), World.cell?_drew, World.cell?_setCell_other _ _ _ _ (off_ne (by omega)), World.cell?_setCell_other _ _ _ _ (off_ne (by omega))]
  have t1 := h.tb.set ⟨B, 4 + k, none⟩ (.int .u8 (Gf.pow 2 k : Nat))
  have t2 := t1.set ⟨B, 4 + (k + 255), none⟩ (.int .u8 (Gf.pow 2 k : Nat))
  refine ⟨(t2.drew).set _ _, (other 0 (by omega) (by omega) (by omega)).trans h.once, (other 1 (by omega) (by omega) (by omega)).trans h.lock, (other 3 (by omega) (by omega) (by omega)).trans h.made, ?_, ?_⟩
  · intro i hi
    by_cases e : i = k
    · subst e
      refine ⟨?_, ?_⟩
      · rw [World.cell?_setCell_other _ _ _ _ (off_ne (by omega)), World.cell?_drew, World.cell?_setCell_other _ _ _ _ (off_ne (by omega))]
        exact h.tb.set_same _ (by omega) _
      · rw [World.cell?_setCell_other _ _ _ _ (off_ne (by omega)), World.cell?_drew]
        exact t1.set_same _ (by omega) _
    · have := h.powers i (by omega)
      exact ⟨(other _ (by omega) (by omega) (by omega)).trans this.1, (other _ (by omega) (by omega) (by omega)).trans this.2⟩
  · intro j hj
    by_cases e : j = k
    · subst e
      exact t2.drew.set_same _ (by omega) _
    · have hne : Gf.pow 2 j ≠ Gf.pow 2 k := fun hh => e ((Gf.pow_two_inj j k (by omega) hk).1 hh)
      exact (other _ (by omega) (by omega) (by omega)).trans (h.logs j (by omega))
theorem Filled.but {B : Nat} {d s : Int} {k : Nat} {S : Nat → Prop} {W W' : World} (h : Filled B d s k W) (hb : But S W W') (hs : ¬ S B) : Filled B d s k W' :=
  ⟨h.tb.but hb hs, (hb.cell (p := ⟨B, 0, none⟩) h.tb.lt hs).trans h.once, (hb.cell (p := ⟨B, 1, none⟩) h.tb.lt hs).trans h.lock, (hb.cell (p := ⟨B, 3, none⟩) h.tb.lt hs).trans h.made,
   fun i hi => ⟨(hb.cell (p := ⟨B, 4 + i, none⟩) h.tb.lt hs).trans (h.powers i hi).1, (hb.cell (p := ⟨B, 4 + (i + 255), none⟩) h.tb.lt hs).trans (h.powers i hi).2⟩,
   fun j hj => (hb.cell (p := ⟨B, 514 + Gf.pow 2 j, none⟩) h.tb.lt hs).trans (h.logs j hj)⟩

set_option maxRecDepth 100000 in
set_option maxHeartbeats 2000000 in
theorem tfill_calls (B : Nat) (d s : Int) (w : World) (h : Filled B d s 0 w) :
    Calls Tryz.prog 60 #[.pointer (some ⟨B, 0, none⟩)] w fun e w' => e = .returned (.tuple #[]) ∧ But (· = B) w w' ∧ ∃ W, Filled B d s 255 W ∧ w' = W.setCell ⟨B, 3, none⟩ (.int .i64 1) := by
  have h2 : (2 : Nat) < 256 := by decide
  go_enter Tryz.func60, Tryz.ntmps60
  go_wp2
  go_loopw [2, 4] (fun p i wr => ∃ k : Nat, k ≤ 255 ∧ i = .int .i64 (k : Int) ∧ p = .int .u8 (Gf.pow 2 k : Nat) ∧ Filled B d s k wr ∧ But (· = B) w wr) (fun _ i _ => 255 - (intOf i).toNat)
  case atStart => exact ⟨0, by omega, rfl, rfl, h, But.refl _ _⟩
  case round =>
    obtain ⟨k, hk, rfl, rfl, hF, hB⟩ := hrel
    by_cases hlt : k < 255
    · have hp := Gf.pow_lt 2 k (by decide)
      have HS : Hid (Filled B d s (k + 1) ((((wr.setCell ⟨B, 4 + k, none⟩ (.int .u8 (Gf.pow 2 k : Nat))).setCell ⟨B, 4 + (k + 255), none⟩ (.int .u8 (Gf.pow 2 k : Nat))).drew.setCell ⟨B, 514 + Gf.pow 2 k, none⟩ (.int .u8 (k : Nat))))) := hF.step hlt
      have HP : Hid (Gf.mul (Gf.pow 2 k) 2 = Gf.pow 2 (k + 1)) := (rfl : Gf.mul (Gf.pow 2 k) 2 = Gf.pow 2 (k + 1))
      obtain ⟨q, hq⟩ : ∃ q, Gf.pow 2 k = q := ⟨_, rfl⟩
      rw [hq] at hp HS HP
      rw [hq]
      clear hq
      obtain ⟨v1, c1⟩ := hF.tb.has (4 + k) (by omega)
      obtain ⟨v2, c2⟩ := hF.tb.has (4 + (k + 255)) (by omega)
      obtain ⟨v3, c3⟩ := hF.tb.has (514 + q) (by omega)
      have f1 := hF.tb.fz (4 + k)
      have f2 := hF.tb.fz (4 + (k + 255))
      have f3 := hF.tb.fz (514 + q)
      have ek : (k : Int) % 256 = k := by omega
      go_wp2
      go_region
      obtain ⟨W1, hW1⟩ : ∃ W1, ((wr.setCell ⟨B, 4 + k, none⟩ (.int .u8 (q : Nat))).setCell ⟨B, 4 + (k + 255), none⟩ (.int .u8 (q : Nat))).drew = W1 := ⟨_, rfl⟩
      have d3 : W1.cell? ⟨B, 514 + q, none⟩ = some v3 := by
        rw [← hW1, World.cell?_drew, World.cell?_setCell_other _ _ _ _ (off_ne (by omega)), World.cell?_setCell_other _ _ _ _ (off_ne (by omega))]; exact c3
      have e3 : W1.frozen? ⟨B, 514 + q, none⟩ = false := by
        rw [← hW1, World.frozen?_drew, World.frozen?_setCell, World.frozen?_setCell]; exact f3
      have HB1 : But (· = B) w W1 := by
        rw [← hW1]; exact ((hB.setCell (p := ⟨B, 4 + k, none⟩) (.inl rfl) _).setCell (p := ⟨B, 4 + (k + 255), none⟩) (.inl rfl) _).drew
      rw [hW1] at HS
      rw [hW1]
      clear hW1 c1 c2 c3 f1 f2 f3 hB hF
      have HBh : Hid (But (· = B) w W1) := HB1
      clear HB1
      go_wp2_with (go_at_call 64; refine (mul_calls q 2 hp h2 _).mono ?_; rintro e w1 ⟨rfl, hb1⟩)
      have hb1' : But (fun _ => False) _ w1 := But.of_below hb1
      go_roundw
      case rel => exact ⟨k + 1, by omega, by go_num, by rw [HP.out], HS.out.but hb1' (fun f => f), (HBh.out.setCell (p := ⟨B, 514 + q, none⟩) (.inl rfl) _).trans (But.of_below hb1)⟩
      case measure => simp [intOf]; omega
    · have e8 : k = 255 := by omega
      subst e8
      have c3 := hF.made
      have f3 := hF.tb.fz 3
      have HFh : Hid (Filled B d s 255 wr) := hF
      have HBh : Hid (But (· = B) w wr) := hB
      clear hF hB
      go_wp2_with (go_at_call 65; refine (add64_calls ⟨B, 3, none⟩ 0 (by decide) (by decide) _ c3 f3).mono ?_; rintro e w' ⟨rfl, rfl⟩)
      go_end0
      exact ⟨rfl, HBh.out.setCell (p := ⟨B, 3, none⟩) (.inl rfl) _, _, HFh.out, rfl⟩
end Go.Proofs
