/- TableOnce holds for every input: a table is made by the first call that asks it, and never again; Made itself makes none. No conditions. -/
import Derived.Test.YtkmincjhdieonaaRows
import Derived.Test.YtkmincjhdieonaaNums
import Derived.Test.YtkmincjhdieonaaSlices
import Derived.Test.YtkmincjhdieonaaKnown02
namespace Go.Proofs.Ytkmincjhdieonaa.tableOnce
open Go.ChangeShapes Go.WideShapes Go.ChangeAt Go.RowKit

/-- What the law knows of its table. -/
def St (B : Nat) (x : Int) (W : World) : Prop := (x = 0 ∧ Fresh B W) ∨ (x = 1 ∧ Made B W)
theorem St.any {B : Nat} {x : Int} {W : World} (h : St B x W) : Any B W := h.imp (·.2) (·.2)
theorem St.made {B : Nat} {x : Int} {W : World} (h : St B x W) : W.cell? ⟨B, 3, none⟩ = some (.int .i64 x) := by
  rcases h with ⟨rfl, h⟩ | ⟨rfl, h⟩
  · exact h.made
  · exact h.made
theorem six (x : Nat) : x % 6 = 0 ∨ x % 6 = 1 ∨ x % 6 = 2 ∨ x % 6 = 3 ∨ x % 6 = 4 ∨ x % 6 = 5 := by omega

set_option maxRecDepth 100000 in
set_option maxHeartbeats 2000000 in
theorem walk (q : Option Addr) (n c : Nat) (xs : List Nat) (a b : Nat) (w : World) (hl : Bs w q n xs) (ha : a < 256) (hb : b < 256) :
    Calls Try.prog 4 #[.slice q n c, .int .u8 a, .int .u8 b] w fun e w' => e = .returned (.bool true) ∧ Below w.heap.size w w' := by
  have HB : Below w.heap.size w w := Below.refl _ _
  go_enter Try.func4, Try.ntmps4
  go_wp2_with fail
  refine (tnew_any _).mono ?_
  rintro e w1 ⟨B, rfl, HF_B, hb, hn⟩
  have HL_B : w.heap.size ≤ B := by rw [hn]; exact HB.size
  replace HB := HB.trans (hb.mono HB.size)
  clear hb hn
  have hs0 : St B 0 w1 := .inl ⟨rfl, HF_B⟩
  clear HF_B
  have hlen := hl.max
  have HLs : Hid (Bs w q n xs) := hl
  clear hl
  go_wp2_with fail
  go_loopw [8, 9] (fun v i wr => ∃ (k : Nat) (x : Int), k ≤ n ∧ i = .int .i64 (k : Int) ∧ v = .int .i64 x ∧ St B x wr ∧ Below w.heap.size w wr) (fun _ i _ => n - (intOf i).toNat)
  case atStart => exact ⟨0, 0, by omega, rfl, rfl, hs0, HB⟩
  case round =>
    obtain ⟨k, v, hk, rfl, rfl, hs, hR⟩ := hrel
    clear hs0 HB
    have HS : Hid (St B v wr) := hs
    have HR : Hid (Below w.heap.size w wr) := hR
    have hmd := hs.made
    clear hs hR
    by_cases hgo : k < n ∧ k < 20
    · obtain ⟨hkn, hk20⟩ := hgo
      obtain ⟨ad, rfl, hab, hce⟩ := HLs.out.cell k hkn
      have hcr := (HR.out.cell (p := ad.add k) (by rw [block_add]; exact hab)).trans hce
      clear hab hce
      obtain ⟨x, hx⟩ : ∃ x, xs.getD k 0 = x := ⟨_, rfl⟩
      rw [hx] at hcr
      clear hx
      rcases six x with h6 | h6 | h6 | h6 | h6 | h6
      · have e6 : (x : Int) % 6 = 0 := by omega
        clear h6
        go_wp2_with (go_at_call 20; refine (tmade_calls B v _ hmd).mono ?_; rintro e w' ⟨rfl, rfl⟩)
        go_roundw
        case rel => exact ⟨k + 1, v, by omega, by go_num, rfl, HS.out, HR.out⟩
        case measure => simp [intOf]; omega
      · have e6 : (x : Int) % 6 = 1 := by omega
        clear h6
        go_wp2_with fail
        refine (texp_e B (a : Int) (Gf.powZ 2 a) rfl _ HS.out.any).mono ?_
        rintro e w2 ⟨rfl, hm, hb2⟩
        have hmd2 := hm.made
        have HM : Hid (Made B w2) := hm
        have HR2 : Hid (Below w.heap.size w w2) := HR.out.trans (hb2.below HR.out.size (by rintro k rfl; exact HL_B))
        clear hm hb2 hmd
        go_wp2_with (go_at_call 20; refine (tmade_calls B 1 _ hmd2).mono ?_; rintro e w' ⟨rfl, rfl⟩)
        go_roundw
        case rel => exact ⟨k + 1, 1, by omega, by go_num, rfl, .inr ⟨rfl, HM.out⟩, HR2.out⟩
        case measure => simp [intOf]; omega
      · have e6 : (x : Int) % 6 = 2 := by omega
        clear h6
        go_wp2_with fail
        refine (tlog_e B a (Gf.lg a) (a != 0) ha rfl rfl _ HS.out.any).mono ?_
        rintro e w2 ⟨rfl, hm, hb2⟩
        have hmd2 := hm.made
        have HM : Hid (Made B w2) := hm
        have HR2 : Hid (Below w.heap.size w w2) := HR.out.trans (hb2.below HR.out.size (by rintro k rfl; exact HL_B))
        clear hm hb2 hmd
        go_wp2_with (go_at_call 20; refine (tmade_calls B 1 _ hmd2).mono ?_; rintro e w' ⟨rfl, rfl⟩)
        go_roundw
        case rel => exact ⟨k + 1, 1, by omega, by go_num, rfl, .inr ⟨rfl, HM.out⟩, HR2.out⟩
        case measure => simp [intOf]; omega
      · have e6 : (x : Int) % 6 = 3 := by omega
        clear h6
        go_wp2_with fail
        refine (tmul_e B a b (Gf.mul a b) ha hb rfl _ HS.out.any).mono ?_
        rintro e w2 ⟨rfl, hm, hb2⟩
        have hmd2 := hm.made
        have HM : Hid (Made B w2) := hm
        have HR2 : Hid (Below w.heap.size w w2) := HR.out.trans (hb2.below HR.out.size (by rintro k rfl; exact HL_B))
        clear hm hb2 hmd
        go_wp2_with (go_at_call 20; refine (tmade_calls B 1 _ hmd2).mono ?_; rintro e w' ⟨rfl, rfl⟩)
        go_roundw
        case rel => exact ⟨k + 1, 1, by omega, by go_num, rfl, .inr ⟨rfl, HM.out⟩, HR2.out⟩
        case measure => simp [intOf]; omega
      · have e6 : (x : Int) % 6 = 4 := by omega
        clear h6
        go_wp2_with fail
        refine (tinv_e B a (Gf.inv a) (a != 0) ha rfl rfl _ HS.out.any).mono ?_
        rintro e w2 ⟨rfl, hm, hb2⟩
        have hmd2 := hm.made
        have HM : Hid (Made B w2) := hm
        have HR2 : Hid (Below w.heap.size w w2) := HR.out.trans (hb2.below HR.out.size (by rintro k rfl; exact HL_B))
        clear hm hb2 hmd
        go_wp2_with (go_at_call 20; refine (tmade_calls B 1 _ hmd2).mono ?_; rintro e w' ⟨rfl, rfl⟩)
        go_roundw
        case rel => exact ⟨k + 1, 1, by omega, by go_num, rfl, .inr ⟨rfl, HM.out⟩, HR2.out⟩
        case measure => simp [intOf]; omega
      · have e6 : (x : Int) % 6 = 5 := by omega
        clear h6
        go_wp2_with fail
        refine (tpow_e B a (b : Int) (Gf.powZ a b) ha rfl _ HS.out.any).mono ?_
        rintro e w2 ⟨rfl, hm, hb2⟩
        have hmd2 := hm.made
        have HM : Hid (Made B w2) := hm
        have HR2 : Hid (Below w.heap.size w w2) := HR.out.trans (hb2.below HR.out.size (by rintro k rfl; exact HL_B))
        clear hm hb2 hmd
        go_wp2_with (go_at_call 20; refine (tmade_calls B 1 _ hmd2).mono ?_; rintro e w' ⟨rfl, rfl⟩)
        go_roundw
        case rel => exact ⟨k + 1, 1, by omega, by go_num, rfl, .inr ⟨rfl, HM.out⟩, HR2.out⟩
        case measure => simp [intOf]; omega
    · by_cases hkn : k < n
      · have h20 : ¬ ((k : Int) < 20) := by omega
        clear hgo
        go_wp2_with (go_at_call 13; refine (known02_calls _).mono ?_; rintro e w' ⟨rfl, hb3⟩)
        go_ret
        exact ⟨rfl, HR.out.trans (hb3.mono HR.out.size)⟩
      · have hnn : ¬ ((k : Int) < (n : Int)) := by omega
        clear hgo
        go_wp2_with (go_at_call 13; refine (known02_calls _).mono ?_; rintro e w' ⟨rfl, hb3⟩)
        go_ret
        exact ⟨rfl, HR.out.trans (hb3.mono HR.out.size)⟩

theorem own : ownKnob Try.prog.godebug = none := by kernel_rfl
theorem laidOut : laidOutB Try.prog = true := by kernel_rfl
set_option maxRecDepth 100000 in
theorem lifted (os : Os) (started : os.Started) (H : Type) (enc : TypeId × Value → H) :
    ReturnsInHanded {} Try.checked os 4 .any (Rows.tableOnceSpec.pre6 enc Try.prog Try.f4 Rows.tableOnceRow.domain false) (Rows.tableOnceSpec.post enc Try.prog Try.f4 false true false false) := by
  refine returnsInHanded_of_change (C := Try.checked) own started (by kernel_rfl) Try.func4
    (ChangeSpec.witness6 (enc := enc) (C := Try.checked) false ⟨#[], #[.slice none 0 0, .int .u8 0, .int .u8 0], []⟩ 8 (by kernel_rfl) (by kernel_rfl) (by kernel_rfl) (by kernel_rfl)) ?_
  intro W base args ds gs before hval0 hW _ _
  have hval : ∀ (j : Nat) t v, Try.f4.params[j]? = some t → args[j]? = some v → Value.okWide Try.prog W .any base t v := hval0
  have hW' := hW
  obtain ⟨p, q, hA0, hV, rfl, _, _⟩ := hW
  have hA : DataW.TrodAll enc Try.prog W 0 (fun _ => true) true Try.f4.params.toList args.toList ds p := hA0
  rw [Try.params4] at hA hval
  obtain ⟨v0, vs0, d0, ds0, p0, q0, hargs, rfl, rfl, h0, r0⟩ := trodAll_cons hA
  obtain ⟨v1, vs1, d1, ds1, p1, q1, rfl, rfl, rfl, h1, r1⟩ := trodAll_cons r0
  obtain ⟨v2, vs2, d2, ds2, p2, q2, rfl, rfl, rfl, h2, r2⟩ := trodAll_cons r1
  obtain ⟨rfl, rfl, rfl⟩ := trodAll_nil r2
  obtain rfl : args = #[v0, v1, v2] := by cases args; simp_all
  obtain ⟨rfl, rfl⟩ := trodVars_none hV
  have k0 := h0
  obtain ⟨q0, n0, c0, xs0, rfl, w0⟩ := open_bytes Try.underlying34 Try.underlying5 (by kernel_rfl) (hval 0 34 v0 rfl rfl) h0
  obtain ⟨a1, rfl, rfl, rfl, w1⟩ := open_int Try.underlying5 (hval 1 5 v1 rfl rfl) h1
  obtain ⟨n1, b1, rfl⟩ := nat_of_u8 w1
  obtain ⟨a2, rfl, rfl, rfl, w2⟩ := open_int Try.underlying5 (hval 2 5 v2 rfl rfl) h2
  obtain ⟨n2, b2, rfl⟩ := nat_of_u8 w2
  clear hA0 hval0
  simp only [List.append_nil] at hW'
  refine (walk (w := W) q0 n0 c0 xs0 n1 n2 w0 b1 b2).mono fun e W' ⟨he, bel⟩ => ?_
  subst he
  exact ⟨_, rfl, _, _, _, [], _, [], hW', trodAll_mk1 (shut_bool Try.underlying4 _), (trodAll_cons_mk (shut_same laidOut (by kernel_rfl) (of_decide_eq_true (by kernel_rfl)) k0 bel) (trodAll_cons_mk (shut_int Try.underlying5 w1) (trodAll_cons_mk (shut_int Try.underlying5 w2) trodAll_mk0))), rfl, bel.frame _, fun h => by cases h⟩
theorem over : Rows.tableOnceRow.holds Try.pinned (OpenSpec.ofChange Rows.tableOnceSpec) :=
  OpenClaim.holds_of_wide 4 Try.f4 rfl rfl rfl rfl rfl rfl rfl ⟨rfl, rfl, rfl, rfl, rfl⟩ rfl rfl rfl rfl rfl (by kernel_rfl) Try.func4 (by kernel_rfl)
    (of_decide_eq_true (by kernel_rfl)) (by unfold Func.isWrapper; first | (rw [if_pos (by decide +kernel)]; kernel_rfl) | (rw [if_neg (by decide +kernel)]; exact ⟨rfl, rfl⟩))
    (fun os started H enc _ => lifted os started H enc)
theorem proved : Rows.TableOnceSaid := over
#print axioms proved
end Go.Proofs.Ytkmincjhdieonaa.tableOnce
