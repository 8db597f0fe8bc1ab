/- The walks of erratumref13.Apart and Wrong. Conditions: lists of at most a million. -/
import Derived.Test.YtjnkkokhkooegaaGreatOU
import Derived.Test.YtjnkkokhkooegaaGreatNU
namespace Go.Proofs
open Go.RowKit Go.ChangeShapes Go.WideShapes
attribute [local go_sem ↓ high] builtin_ap
attribute [local go_sem] ap_sem

set_option maxRecDepth 100000 in
set_option maxHeartbeats 2000000 in
theorem r13apart_calls (q p : Option Addr) (n c m d : Nat) (xs ys : List Nat) (hn : n ≤ 1000000) (w : World) (hs : Bs w q n xs) (hy : Bs w p m ys) :
    Calls Tryz.prog 46 #[.slice q n c, .slice p m d] w fun e w' => ∃ v, e = .returned v ∧ OwZ w' w.heap.size v (zi (Cd.ap xs ys)) ∧ Below w.heap.size w w' := by
  obtain ⟨R, hR⟩ : ∃ R, w.heap.size = R := ⟨_, rfl⟩
  obtain ⟨u, hu⟩ : ∃ u, min n m = u := ⟨_, rfl⟩
  have HS : Hid (Bs w q n xs ∧ Bs w p m ys) := ⟨hs, hy⟩
  have HU : Hid (min n m = u ∧ n ≤ 1000000 ∧ u ≤ n ∧ u ≤ m ∧ xs.length = n ∧ ys.length = m) := ⟨hu, hn, by omega, by omega, hs.len, hy.len⟩
  have hu6 : (u : Int) ≤ 1000000 := by omega
  clear hs hy hu hn
  go_enter Tryz.func46, Tryz.ntmps46
  go_wp2
  go_loopw [5, 6] (fun v i wr => ∃ (t : Nat), t ≤ u ∧ i = .int .i64 (t : Int) ∧ Hid (OwZ wr R v (zi (Cd.apK xs ys t)) ∧ (Cd.apK xs ys t).length ≤ t ∧ Below R w wr)) (fun _ i _ => u - (intOf i).toNat)
  case atStart => exact ⟨0, by omega, rfl, (⟨owV_nil _ _ _, Nat.zero_le _, Below.refl _ _⟩ : OwZ _ _ _ (zi (Cd.apK xs ys 0)) ∧ _)⟩
  case round =>
    obtain ⟨t, ht, rfl, HO⟩ := hrel
    by_cases hlt : t < u
    · have hi1 : (t : Int) < (n : Int) := by have := HU.out; omega
      have hi2 : (t : Int) < (m : Int) := by have := HU.out; omega
      have hi0 : (0 : Int) ≤ (t : Int) := by omega
      have hb0 := hR.symm ▸ HO.out.2.2
      obtain ⟨a, ha, _, ca⟩ := (HS.out.1.below hb0).cell t (by have := HU.out; omega)
      obtain ⟨a', ha', _, ca'⟩ := (HS.out.2.below hb0).cell t (by have := HU.out; omega)
      have e1 := Cd.apK_yes (r := xs) (w := ys) (k := t)
      have e2 := Cd.apK_no (r := xs) (w := ys) (k := t)
      obtain ⟨x, hx⟩ : ∃ x, xs.getD t 0 = x := ⟨_, rfl⟩
      obtain ⟨y, hy⟩ : ∃ y, ys.getD t 0 = y := ⟨_, rfl⟩
      rw [hx] at ca
      rw [hy] at ca'
      rw [hx, hy] at e1 e2
      subst ha ha'
      clear hx hy hb0
      have hrs : R ≤ wr.heap.size := by have := HO.out.2.2.size; omega
      by_cases hxy : x = y
      · subst hxy
        have HE : Hid (Cd.apK xs ys (t + 1) = Cd.apK xs ys t) := e2 rfl
        clear e1 e2
        go_wp2
        go_quiet (fail)
        go_wp2
        go_roundw
        case rel => exact ⟨t + 1, hlt, by go_num, (by rw [HE.out]; exact ⟨HO.out.1.block fun _ _ => rfl, by have := HO.out.2.1; omega, ⟨HO.out.2.2.os, HO.out.2.2.tape, HO.out.2.2.output, HO.out.2.2.size, HO.out.2.2.block⟩⟩ : _ ∧ _)⟩
        case measure => simp [intOf]; omega
      · have HE : Hid (Cd.apK xs ys (t + 1) = Cd.apK xs ys t ++ [t]) := e1 hxy
        have hne : ((x : Int) != (y : Int)) = true := by simp; omega
        clear e1 e2 hxy
        go_wp2
        go_quiet (fail)
        obtain ⟨W2, hW2⟩ : ∃ W2, wr.drewN nq = W2 := ⟨_, rfl⟩
        rw [hW2]
        have hO2 : OwZ W2 R u5 (zi (Cd.apK xs ys t)) := hW2 ▸ HO.out.1.block fun _ _ => rfl
        have hsz2 : R ≤ W2.heap.size := by rw [← hW2]; exact hrs
        have hB2 : Below R w W2 := hW2 ▸ ⟨HO.out.2.2.os, HO.out.2.2.tape, HO.out.2.2.output, HO.out.2.2.size, HO.out.2.2.block⟩
        obtain ⟨g, cg, W3, hap, hO3, hbw⟩ := run_append_z W2 R u5 (zi (Cd.apK xs ys t)) (t : Int) hO2 (by rw [zi_length]; have := HO.out.2.1; omega) hsz2
        obtain ⟨l, hl⟩ : ∃ l, (zi (Cd.apK xs ys t)).length + 1 = l := ⟨_, rfl⟩
        rw [hl] at hap hO3
        rw [← zi_snoc] at hO3
        have ha1 := ap_ok hap
        have ha2 := ap_v hap
        have ha3 := ap_w hap
        have HZ : Hid (OwZ W3 R (.slice (some ⟨g, 0, none⟩) l cg) (zi (Cd.apK xs ys (t + 1))) ∧ (Cd.apK xs ys (t + 1)).length ≤ t + 1 ∧ Below R w W3) := by
          rw [HE.out]
          exact ⟨hO3, by rw [List.length_append]; have := HO.out.2.1; simp; omega, hB2.trans (hbw _ (Nat.le_refl _))⟩
        clear hO2 hsz2 hB2 hap hO3 hbw hl hW2 hrs
        go_wp2
        go_roundw
        case rel => exact ⟨t + 1, hlt, by go_num, HZ⟩
        case measure => simp [intOf]; omega
    · obtain rfl : t = u := by omega
      have HZ : Hid (OwZ wr w.heap.size u5 (zi (Cd.ap xs ys)) ∧ Below w.heap.size w wr) := by
        have e : Cd.apK xs ys t = Cd.ap xs ys := by
          have := Cd.apK_all xs ys
          rwa [HU.out.2.2.2.2.1, HU.out.2.2.2.2.2, HU.out.1] at this
        rw [← e, hR]; exact ⟨HO.out.1, HO.out.2.2⟩
      clear HO hlt
      by_cases hn : t < n
      · have h1 : (t : Int) < (n : Int) := by omega
        have h2 : ((t : Int) < (m : Int)) = False := eq_false (by have := HU.out; omega)
        clear hn
        go_wp2
        go_ret
        exact ⟨_, rfl, HZ.out⟩
      · have h1 : ((t : Int) < (n : Int)) = False := eq_false (by omega)
        clear hn
        go_wp2
        go_ret
        exact ⟨_, rfl, HZ.out⟩
set_option maxRecDepth 100000 in
set_option maxHeartbeats 2000000 in
theorem r13wrong_calls (q p s : Option Addr) (n c m d l k : Nat) (xs ys : List Nat) (zs : List Int) (hn : n ≤ 1000000) (hl : l ≤ 1000000) (w : World) (hs : Bs w q n xs) (hy : Bs w p m ys) (hz : Ns .i64 w s l zs) :
    Calls Tryz.prog 24 #[.slice q n c, .slice p m d, .slice s l k] w fun e w' => e = .returned (.int .i64 (Cd.wrZ xs ys zs : Nat)) ∧ Below w.heap.size w w' := by
  have K1 := r13apart_calls q p n c m d xs ys hn w hs hy
  obtain ⟨L, hL⟩ : ∃ L, Cd.ap xs ys = L := ⟨_, rfl⟩
  obtain ⟨o, ho⟩ : ∃ o, L.length = o := ⟨_, rfl⟩
  have HL : Hid (Cd.ap xs ys = L ∧ L.length = o ∧ o ≤ n ∧ (∀ i ∈ L, i < n)) := ⟨hL, ho, by have := Cd.ap_length xs ys; rw [hL, ho, hs.len] at this; omega, fun i hi => by rw [← hL] at hi; have := (Cd.mem_ap.1 hi).1; rw [hs.len] at this; exact this⟩
  have HZ0 : Hid (Ns .i64 w s l zs ∧ l ≤ 1000000 ∧ n ≤ 1000000) := ⟨hz, hl, hn⟩
  have ho6 : (o : Int) ≤ 1000000 := by have := HL.out; omega
  rw [hL] at K1
  clear hs hy hz hL ho hn hl
  go_enter Tryz.func24, Tryz.ntmps24
  go_wp2_with fail
  refine K1.mono ?_
  rintro e w1 ⟨v, rfl, hO, hb⟩
  obtain ⟨q1, c1, rfl, hN, -, -⟩ := hO.tell_z (n := o) (zi_wf fun i hi => by have := HL.out.2.2.2 i hi; have := HZ0.out; omega) (by rw [zi_length, HL.out.2.1])
  have H1 : Hid (Ns .i64 w1 q1 o (zi L) ∧ Below w.heap.size w w1) := ⟨hN, hb⟩
  clear K1 hO hN hb
  go_wp2
  go_loopw [7, 9] (fun v i wr => ∃ (t r : Nat), t ≤ o ∧ i = .int .i64 (t : Int) ∧ v = .int .i64 (r : Int) ∧ r ≤ t ∧ Hid (Cd.wrK xs ys zs t = r) ∧ Hid (Below w1.heap.size w1 wr)) (fun _ i _ => o - (intOf i).toNat)
  case atStart => exact ⟨0, 0, by omega, rfl, rfl, Nat.le_refl _, (rfl : Cd.wrK xs ys zs 0 = 0), Below.refl _ _⟩
  case round =>
    obtain ⟨t, r, ht, rfl, rfl, hrt, HK, HW⟩ := hrel
    by_cases hlt : t < o
    · have hti : (t : Int) < (o : Int) := by omega
      have hti0 : (0 : Int) ≤ (t : Int) := by omega
      have hri : (r : Int) ≤ 1000000 := by omega
      have hri0 : (0 : Int) ≤ (r : Int) := by omega
      obtain ⟨a, ha, _, ca⟩ := (H1.out.1.below HW.out).cell t hlt
      have hst := Cd.wrK_succ (r := xs) (w := ys) (e := zs) (k := t) (by rw [HL.out.1, HL.out.2.1]; exact hlt)
      rw [HL.out.1, HK.out] at hst
      have hgz : (zi L).getD t 0 = ((L.getD t 0 : Nat) : Int) := by simp [zi, List.getD, show t < L.length by rw [HL.out.2.1]; exact hlt]
      rw [hgz] at ca
      obtain ⟨x, hx⟩ : ∃ x, L.getD t 0 = x := ⟨_, rfl⟩
      rw [hx] at ca hst
      have hP := place_calls s l k zs (x : Int) HZ0.out.2.1 wr (HZ0.out.1.below (H1.out.2.trans (HW.out.mono H1.out.2.size)))
      have hpl : plZ zs (x : Int) < 0 ↔ (x : Int) ∉ zs := plZ_neg
      obtain ⟨p0, hp0⟩ : ∃ p0, plZ zs (x : Int) = p0 := ⟨_, rfl⟩
      rw [hp0] at hP hpl
      subst ha
      by_cases hin : (x : Int) ∈ zs
      · have hp1 : (p0 < 0) = False := eq_false (fun h => hpl.1 h hin)
        rw [if_pos hin, Nat.add_zero] at hst
        have HE : Hid (Cd.wrK xs ys zs (t + 1) = r) := hst
        clear hin hpl hst hx hp0 hgz
        go_wp2_with (go_at_call 19; refine hP.mono ?_; rintro e w3 ⟨rfl, rfl⟩)
        go_roundw
        case rel => exact ⟨t + 1, r, hlt, by go_num, rfl, by omega, HE, HW⟩
        case measure => simp [intOf]; omega
      · have hp1 : p0 < 0 := hpl.2 hin
        rw [if_neg hin] at hst
        have HE : Hid (Cd.wrK xs ys zs (t + 1) = r + 1) := hst
        clear hin hpl hst hx hp0 hgz
        go_wp2_with (go_at_call 19; refine hP.mono ?_; rintro e w3 ⟨rfl, rfl⟩)
        go_roundw
        case rel => exact ⟨t + 1, r + 1, hlt, by go_num, by go_num, by omega, HE, HW⟩
        case measure => simp [intOf]; omega
    · obtain rfl : t = o := by omega
      have hti : ((t : Int) < (t : Int)) = False := eq_false (by omega)
      have HZ : Hid (Cd.wrZ xs ys zs = r ∧ Below w.heap.size w wr) := ⟨by rw [← Cd.wrK_all, HL.out.1, HL.out.2.1]; exact HK.out, H1.out.2.trans (HW.out.mono H1.out.2.size)⟩
      clear HK HW
      go_wp2
      go_ret
      exact ⟨by rw [HZ.out.1]; rfl, HZ.out.2⟩
end Go.Proofs
