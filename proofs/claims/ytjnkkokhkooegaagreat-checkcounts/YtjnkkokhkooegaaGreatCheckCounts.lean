/- CheckCounts holds for every input: bytes that are unlike are counted but for what is erased; turned about it is the same; a word is not apart from itself. No conditions. -/
import Derived.Test.YtjnkkokhkooegaaGreatRows
import Derived.BigQuiet
import Derived.Test.YtjnkkokhkooegaaGreatMB
import Derived.Test.YtjnkkokhkooegaaGreatPZ
namespace Go.Proofs.YtjnkkokhkooegaaGreat.checkCounts
open Go.ChangeShapes Go.WideShapes Go.ChangeAt Go.RowKit

theorem ap_up {xs ys : List Nat} {s t : Nat} (h : s < t) (ht : t < (Cd.ap xs ys).length) : (Cd.ap xs ys).getD s 0 < (Cd.ap xs ys).getD t 0 := by
  have h1 := List.pairwise_iff_getElem.1 (Cd.ap_rise xs ys) s t (by omega) ht h
  simpa [List.getD, ht, show s < (Cd.ap xs ys).length by omega] using h1

set_option maxRecDepth 100000 in
set_option maxHeartbeats 4000000 in
theorem walk (q1 : Option Addr) (l1 c1 : Nat) (xs : List Nat) (q2 : Option Addr) (l2 c2 : Nat) (ys : List Nat) (q3 : Option Addr) (l3 c3 : Nat) (zs : List Int) (w : World) (s1 : Bs w q1 l1 xs) (d1 : l1 ≤ c1 ∧ c1 ≤ 140737488351232) (s2 : Bs w q2 l2 ys) (d2 : l2 ≤ c2 ∧ c2 ≤ 140737488351232) (s3 : Ns .i64 w q3 l3 zs) (_d3 : l3 ≤ c3 ∧ c3 ≤ 140737488351232) :
    Calls Tryz.prog 4 #[.slice q1 l1 c1, .slice q2 l2 c2, .slice q3 l3 c3] w fun e w' => e = .returned (.bool true) ∧ Below w.heap.size w w' := by
  have K1 := known13_calls w
  obtain ⟨sl, hsl⟩ : ∃ sl : Nat, l1 + l2 = sl := ⟨_, rfl⟩
  have hw12 : wrap64 ((l1 : Int) + (l2 : Int)) = (sl : Int) := by unfold wrap64; omega
  have HS : Hid (Bs w q1 l1 xs ∧ Bs w q2 l2 ys ∧ Ns .i64 w q3 l3 zs ∧ l1 + l2 = sl) := ⟨s1, s2, s3, hsl⟩
  clear s1 s2 s3 d1 d2 _d3 hsl
  go_enter Tryz.func4, Tryz.ntmps4
  by_cases g1 : 300 < sl
  · have g1i : (300 : Int) < (sl : Int) := by omega
    clear g1
    go_wp2_with fail
    refine K1.mono ?_
    rintro e w1 ⟨rfl, hb⟩
    go_wp2
    go_ret
    exact ⟨rfl, hb⟩
  have g1i : ((300 : Int) < (sl : Int)) = False := eq_false (by omega)
  have g1n : (300 < sl) = False := eq_false g1
  by_cases g2 : 40 < l3
  · have g2i : (40 : Int) < (l3 : Int) := by omega
    clear g1 g2
    go_wp2_with fail
    refine K1.mono ?_
    rintro e w1 ⟨rfl, hb⟩
    go_wp2
    go_ret
    exact ⟨rfl, hb⟩
  have g2i : ((40 : Int) < (l3 : Int)) = False := eq_false (by omega)
  have g2n : (40 < l3) = False := eq_false g2
  have HN : Hid (l1 ≤ 300 ∧ l2 ≤ 300 ∧ l3 ≤ 40) := by have := HS.out.2.2.2; show l1 ≤ 300 ∧ l2 ≤ 300 ∧ l3 ≤ 40; omega
  obtain ⟨L, hL⟩ : ∃ L, Cd.ap xs ys = L := ⟨_, rfl⟩
  obtain ⟨o, ho⟩ : ∃ o, L.length = o := ⟨_, rfl⟩
  have hol : o ≤ 300 := by have h1 := Cd.ap_length xs ys; rw [hL, ho, HS.out.1.len] at h1; have := HN.out; omega
  have HL : Hid (Cd.ap xs ys = L ∧ L.length = o ∧ o ≤ 300 ∧ ∀ i ∈ L, i < l1 ∧ i < l2 ∧ xs.getD i 0 ≠ ys.getD i 0) := ⟨hL, ho, hol, fun i hi => by rw [← hL] at hi; have := Cd.mem_ap.1 hi; rw [HS.out.1.len, HS.out.2.1.len] at this; exact this⟩
  have ho6 : (o : Int) ≤ 1000000 := by omega
  have KA := apart_calls q1 q2 l1 c1 l2 c2 xs ys (by have := HN.out; omega) w HS.out.1 HS.out.2.1
  rw [hL] at KA
  clear g1 g2 K1 hL ho hol
  go_wp2_with fail
  refine KA.mono ?_
  rintro e w1 ⟨v, rfl, hO, hb⟩
  obtain ⟨q4, c4, rfl, N4, -, -⟩ := OwV.tell_z (L := zi L) (n := o) hO (zi_wf fun i hi => by have := (HL.out.2.2.2 i hi).1; have := HN.out; omega) (by rw [zi_length, HL.out.2.1])
  have H1 : Hid (Ns .i64 w1 q4 o (zi L) ∧ Below w.heap.size w w1) := ⟨N4, hb⟩
  clear KA hO N4 hb
  go_wp2
  clear hw12 g1i g1n g2i g2n
  go_loopw [8, 9] (fun v i wr => ∃ (t r : Nat), t ≤ o ∧ i = .int .i64 (t : Int) ∧ v = .int .i64 (r : Int) ∧ r ≤ t ∧ Hid (Cd.wrK xs ys zs t + r = t) ∧ Hid (Below w1.heap.size w1 wr)) (fun _ i _ => o - (intOf i).toNat)
  case atStart => exact ⟨0, 0, by omega, rfl, rfl, Nat.le_refl _, (rfl : Cd.wrK xs ys zs 0 + 0 = 0), Below.refl _ _⟩
  case round =>
    obtain ⟨t, r, ht, rfl, rfl, hrt, HK, HW⟩ := hrel
    have hri : (r : Int) ≤ 1000000 := by omega
    have hri0 : (0 : Int) ≤ (r : Int) := by omega
    by_cases hlt : t < o
    · have hti : (t : Int) < (o : Int) := by omega
      have hti0 : (0 : Int) ≤ (t : Int) := by omega
      have hbw : Below w.heap.size w wr := H1.out.2.trans (HW.out.mono H1.out.2.size)
      have htL : t < (Cd.ap xs ys).length := by rw [HL.out.1, HL.out.2.1]; exact hlt
      obtain ⟨a, ha, _, ca⟩ := (H1.out.1.below HW.out).cell t hlt
      have hst := Cd.wrK_succ (r := xs) (w := ys) (e := zs) htL
      rw [HL.out.1] at hst
      have hgz : ∀ i, i < o → (zi L).getD i 0 = ((L.getD i 0 : Nat) : Int) := fun i hi => by simp [zi, List.getD, show i < L.length by rw [HL.out.2.1]; exact hi]
      rw [hgz t hlt] at ca
      have hup : ∀ s, s < t → L.getD s 0 < L.getD t 0 := fun s hs => by have := ap_up (xs := xs) (ys := ys) hs htL; rwa [HL.out.1] at this
      have hpm : L.getD t 0 ∈ L := by simp only [List.getD]; rw [List.getElem?_eq_getElem (by rw [HL.out.2.1]; exact hlt)]; exact List.getElem_mem _
      obtain ⟨p, hp⟩ : ∃ p, L.getD t 0 = p := ⟨_, rfl⟩
      rw [hp] at ca hst hpm hup
      obtain ⟨hp1, hp2, hne⟩ := HL.out.2.2.2 p hpm
      obtain ⟨a1, ha1, _, ca1⟩ := (HS.out.1.below hbw).cell p hp1
      obtain ⟨a2, ha2, _, ca2⟩ := (HS.out.2.1.below hbw).cell p hp2
      obtain ⟨x, hx⟩ : ∃ x, xs.getD p 0 = x := ⟨_, rfl⟩
      obtain ⟨y, hy⟩ : ∃ y, ys.getD p 0 = y := ⟨_, rfl⟩
      rw [hx] at ca1 hne
      rw [hy] at ca2 hne
      have hp0 : (0 : Int) ≤ (p : Int) := by omega
      have hpz : ((p : Int) < 0) = False := eq_false (by omega)
      have hp1i : (p : Int) < (l1 : Int) := by omega
      have hp2i : (p : Int) < (l2 : Int) := by omega
      have hge1 : ((l1 : Int) ≤ (p : Int)) = False := eq_false (by omega)
      have hge2 : ((l2 : Int) ≤ (p : Int)) = False := eq_false (by omega)
      have hgn1 : (l1 ≤ p) = False := eq_false (by omega)
      have hgn2 : (l2 ≤ p) = False := eq_false (by omega)
      have hxy : ((x : Int) == (y : Int)) = false := by simp; omega
      have hP : ∀ W, Below wr.heap.size wr W → _ := fun W hW => place_calls q3 l3 c3 zs (p : Int) (by have := HN.out; omega) W (HS.out.2.2.1.below (hbw.trans (hW.mono hbw.size)))
      have hpl : plZ zs (p : Int) < 0 ↔ (p : Int) ∉ zs := plZ_neg
      obtain ⟨p0, hp0'⟩ : ∃ p0, plZ zs (p : Int) = p0 := ⟨_, rfl⟩
      rw [hp0'] at hpl
      have HP : Hid (∀ W, Below wr.heap.size wr W → Calls Tryz.prog 19 #[.slice q3 l3 c3, .int .i64 (p : Int)] W fun e w' => e = .returned (.int .i64 p0) ∧ w' = W) := fun W hW => by have := hP W hW; rwa [hp0'] at this
      have HC : Hid (if (p : Int) ∈ zs then (0 ≤ p0 ∧ Cd.wrK xs ys zs (t + 1) + (r + 1) = t + 1) else (p0 < 0 ∧ Cd.wrK xs ys zs (t + 1) + r = t + 1)) := by
        have h0 := HK.out
        show if (p : Int) ∈ zs then _ else _
        by_cases hin : (p : Int) ∈ zs
        · rw [if_pos hin]; rw [if_pos hin] at hst
          have : ¬ p0 < 0 := fun h => hpl.1 h hin
          exact ⟨by omega, by omega⟩
        · rw [if_neg hin]; rw [if_neg hin] at hst
          exact ⟨hpl.2 hin, by omega⟩
      subst ha ha1 ha2
      have hcase : t = 0 ∨ ∃ s p1 : Nat, (t : Int) - 1 = (s : Int) ∧ s < o ∧ L.getD s 0 = p1 ∧ p1 < p ∧ 0 < t := by
        rcases Nat.eq_zero_or_pos t with h | h
        · exact .inl h
        · exact .inr ⟨t - 1, _, by omega, by omega, rfl, hup (t - 1) (by omega), h⟩
      have HGZ : Hid (∀ s, s < o → wr.cell? (a.add s) = some (.int .i64 ((L.getD s 0 : Nat) : Int))) := fun s hs => by
        obtain ⟨a', e', _, h'⟩ := (H1.out.1.below HW.out).cell s hs
        cases e'
        rw [h', hgz s hs]
      clear hst hgz hup hpm hp hne hx hy hbw htL hP hpl hp0' hp1 hp2
      rcases hcase with h0 | ⟨s, p1, hs, hso, hsp, hpp, ht0⟩
      case' inl =>
        have htz : ((0 : Int) < (t : Int)) = False := eq_false (by omega)
        have htn : (0 < t) = False := eq_false (by omega)
        clear h0
        go_wp2
        go_quiet (fail)
      case' inr =>
        have cs := HGZ.out s hso
        rw [hsp] at cs
        have htz : (0 : Int) < (t : Int) := by omega
        have htn : (0 < t) = True := eq_true ht0
        have hws := wrap_nat s (by have := HL.out.2.2.1; omega)
        have hsi : (s : Int) < (o : Int) := by omega
        have hsi0 : (0 : Int) ≤ (s : Int) := by omega
        have hpp1 : ((p : Int) ≤ (p1 : Int)) = False := eq_false (by omega)
        have hpp2 : (p ≤ p1) = False := eq_false (by omega)
        clear hso hsp hpp ht0
        go_wp2
        go_quiet (fail)
      all_goals
        obtain ⟨W2, hW2⟩ : ∃ W2, wr.drewN nq = W2 := ⟨_, rfl⟩
        rw [hW2]
        have hb2 : Below wr.heap.size wr W2 := hW2 ▸ ⟨rfl, rfl, rfl, Nat.le_refl _, fun _ _ => rfl⟩
        have hP := HP.out W2 hb2
        have ca5 : W2.cell? (a.add t) = some (.int .i64 (p : Nat)) := hW2 ▸ ca
        have HW2 : Hid (Below w1.heap.size w1 W2) := HW.out.trans (hb2.mono HW.out.size)
        have hC0 := HC.out
        clear ca ca1 ca2 hW2 hb2 HP HC HGZ HK HW hge1 hge2 hgn1 hgn2 hxy hpz hp1i hp2i
        split at hC0
        · obtain ⟨h1, h2⟩ := hC0
          have HE : Hid (Cd.wrK xs ys zs (t + 1) + (r + 1) = t + 1) := h2
          clear h2
          go_wp2_with (go_at_call 19; refine hP.mono ?_; rintro e w3 ⟨rfl, rfl⟩)
          go_roundw
          case rel => exact ⟨t + 1, r + 1, hlt, by go_num, by go_num, by omega, HE, HW2⟩
          case measure => simp [intOf]; omega
        · obtain ⟨h1, h2⟩ := hC0
          have HE : Hid (Cd.wrK xs ys zs (t + 1) + r = t + 1) := h2
          have h1f : ((0 : Int) ≤ p0) = False := eq_false (by omega)
          clear h2
          go_wp2_with (go_at_call 19; refine hP.mono ?_; rintro e w3 ⟨rfl, rfl⟩)
          go_roundw
          case rel => exact ⟨t + 1, r, hlt, by go_num, rfl, by omega, HE, HW2⟩
          case measure => simp [intOf]; omega
    · obtain rfl : t = o := by omega
      have hti : ((t : Int) < (t : Int)) = False := eq_false (by omega)
      obtain ⟨u, hu⟩ : ∃ u, Cd.wrZ xs ys zs = u := ⟨_, rfl⟩
      have hur : u + r = t := by
        have h1 := Cd.wrK_all xs ys zs
        rw [HL.out.1, HL.out.2.1, hu] at h1
        have := HK.out
        omega
      have hui : (t : Int) - (r : Int) = (u : Int) := by omega
      have hui6 : (u : Int) ≤ 1000000 := by omega
      have hwu := wrap_nat u (by have := HL.out.2.2.1; omega)
      have HX : Hid (Below w.heap.size w wr ∧ Ns .i64 wr q4 t (zi L) ∧ Cd.wrZ xs ys zs = u) := ⟨H1.out.2.trans (HW.out.mono H1.out.2.size), H1.out.1.below HW.out, hu⟩
      have KX := known13_calls wr
      clear HK HW hu hur hlt
      go_wp2_with fail
      refine KX.mono ?_
      rintro e w2 ⟨rfl, hb2⟩
      clear KX
      have H2 : Hid (Below w.heap.size w w2 ∧ Ns .i64 w2 q4 t (zi L)) := ⟨HX.out.1.trans (hb2.mono HX.out.1.size), HX.out.2.1.below hb2⟩
      have KX := wrong_calls q1 q2 q3 l1 c1 l2 c2 l3 c3 xs ys zs (by have := HN.out; omega) (by have := HN.out; omega) w2 (HS.out.1.below H2.out.1) (HS.out.2.1.below H2.out.1) (HS.out.2.2.1.below H2.out.1)
      rw [HX.out.2.2] at KX
      clear hb2
      go_wp2_with fail
      refine KX.mono ?_
      rintro e w3 ⟨rfl, hb3⟩
      clear KX
      have H3 : Hid (Below w.heap.size w w3 ∧ Ns .i64 w3 q4 t (zi L)) := ⟨H2.out.1.trans (hb3.mono H2.out.1.size), H2.out.2.below hb3⟩
      have KX := apart_calls q2 q1 l2 c2 l1 c1 ys xs (by have := HN.out; omega) w3 (HS.out.2.1.below H3.out.1) (HS.out.1.below H3.out.1)
      rw [Cd.ap_comm ys xs, HL.out.1] at KX
      clear hb3 H2
      go_wp2_with fail
      refine KX.mono ?_
      rintro e w5 ⟨v, rfl, hO, hb5⟩
      clear KX
      obtain ⟨q6, c6, rfl, N6, -, -⟩ := OwV.tell_z (L := zi L) (n := t) hO (zi_wf fun i hi => by have := (HL.out.2.2.2 i hi).1; have := HN.out; omega) (by rw [zi_length, HL.out.2.1])
      have H5 : Hid (Below w.heap.size w w5) := H3.out.1.trans (hb5.mono H3.out.1.size)
      have KX := zints_calls q6 q4 t c6 c4 (zi L) (by have := HL.out.2.2.1; omega) w5 N6 (H3.out.2.below hb5)
      clear hO hb5 N6 H3
      go_wp2_with fail
      refine KX.mono ?_
      rintro e w6 ⟨rfl, hb6⟩
      clear KX
      have H6 : Hid (Below w.heap.size w w6) := H5.out.trans (hb6.mono H5.out.size)
      have KX := apart_calls q1 q1 l1 c1 l1 c1 xs xs (by have := HN.out; omega) w6 (HS.out.1.below H6.out) (HS.out.1.below H6.out)
      rw [Cd.ap_self xs] at KX
      clear hb6 H5
      go_wp2_with fail
      refine KX.mono ?_
      rintro e w7 ⟨v, rfl, hO, hb7⟩
      clear KX
      obtain ⟨q8, c8, rfl, -, -, -⟩ := OwV.tell_z (L := []) (n := 0) hO (fun z hz => by cases hz) rfl
      have H7 : Hid (Below w.heap.size w w7) := H6.out.trans (hb7.mono H6.out.size)
      have KX := wrong_calls q1 q2 none l1 c1 l2 c2 0 0 xs ys [] (by have := HN.out; omega) (by omega) w7 (HS.out.1.below H7.out) (HS.out.2.1.below H7.out) (tz_nil w7 0).ns
      rw [Cd.wrZ_nil, HL.out.1, HL.out.2.1] at KX
      clear hO hb7 H6
      go_wp2_with fail
      refine KX.mono ?_
      rintro e w8 ⟨rfl, hb8⟩
      clear KX
      go_wp2
      go_ret
      exact ⟨rfl, H7.out.trans (hb8.mono H7.out.size)⟩
theorem own : ownKnob Tryz.prog.godebug = none := by kernel_rfl
theorem laidOut : laidOutB Tryz.prog = true := by kernel_rfl
set_option maxRecDepth 100000 in
theorem lifted (os : Os) (started : os.Started) (H : Type) (enc : TypeId × Value → H) :
    ReturnsInHanded {} Tryz.checked os 4 .any (Rows.checkCountsSpec.pre6 enc Tryz.prog Tryz.f4 Rows.checkCountsRow.domain false) (Rows.checkCountsSpec.post enc Tryz.prog Tryz.f4 false true false false) := by
  refine returnsInHanded_of_change_sized (C := Tryz.checked) own started (by kernel_rfl) Tryz.func4
    (ChangeSpec.witness6 (enc := enc) (C := Tryz.checked) false ⟨#[], #[.slice none 0 0, .slice none 0 0, .slice none 0 0], []⟩ 8 (by kernel_rfl) (by kernel_rfl) (by kernel_rfl) (by kernel_rfl)) ?_
  intro W base args ds gs before hval0 hW _ hz _
  have hval : ∀ (j : Nat) t v, Tryz.f4.params[j]? = some t → args[j]? = some v → Value.okWide Tryz.prog W .any base t v := hval0
  have hW' := hW
  obtain ⟨p, q, hA0, hV, rfl, _, _⟩ := hW
  have hA : DataW.TrodAll enc Tryz.prog W 0 (fun _ => true) true Tryz.f4.params.toList args.toList ds p := hA0
  rw [Tryz.params4] at hA hval
  obtain ⟨v0, vs0, d0, ds0, p0, q0, hargs, rfl, rfl, h0, r0⟩ := trodAll_cons hA
  obtain ⟨v1, vs1, d1, ds1, p1, q1, rfl, rfl, rfl, h1, r1⟩ := trodAll_cons r0
  obtain ⟨v2, vs2, d2, ds2, p2, q2, rfl, rfl, rfl, h2, r2⟩ := trodAll_cons r1
  obtain ⟨rfl, rfl, rfl⟩ := trodAll_nil r2
  obtain rfl : args = #[v0, v1, v2] := by cases args; simp_all
  obtain ⟨rfl, rfl⟩ := trodVars_none hV
  have k0 := h0
  obtain ⟨q0, n0, c0, xs0, rfl, w0, m0⟩ := open_bytes_sz Tryz.underlying22 Tryz.underlying5 (by kernel_rfl) (hval 0 22 v0 rfl rfl) h0
  have y0 : n0 ≤ c0 ∧ c0 ≤ 140737488351232 := ⟨m0.1, m0.2 _ fun el sp hd => by have := sized_slice (j := 0) (t := 22) (e := 5) (elems := el) (spare := sp) hz (by kernel_rfl) (by first | (rw [← hd]; done) | (rw [← hd]; rfl)) Tryz.underlying22; have hbe : Tryz.checked.prog.bytesOf 5 = 1 := (by kernel_rfl); have hre : reachBytes = 140737488351232 := rfl; rw [hbe, hre] at this; omega⟩
  have k1 := h1
  obtain ⟨q1, n1, c1, xs1, rfl, w1, m1⟩ := open_bytes_sz Tryz.underlying22 Tryz.underlying5 (by kernel_rfl) (hval 1 22 v1 rfl rfl) h1
  have y1 : n1 ≤ c1 ∧ c1 ≤ 140737488351232 := ⟨m1.1, m1.2 _ fun el sp hd => by have := sized_slice (j := 1) (t := 22) (e := 5) (elems := el) (spare := sp) hz (by kernel_rfl) (by first | (rw [← hd]; done) | (rw [← hd]; rfl)) Tryz.underlying22; have hbe : Tryz.checked.prog.bytesOf 5 = 1 := (by kernel_rfl); have hre : reachBytes = 140737488351232 := rfl; rw [hbe, hre] at this; omega⟩
  have k2 := h2
  obtain ⟨q2, n2, c2, zs2, rfl, w2, m2⟩ := open_nums_sz Tryz.underlying33 Tryz.underlying3 (by kernel_rfl) (hval 2 33 v2 rfl rfl) h2
  have y2 : n2 ≤ c2 ∧ c2 ≤ 140737488351232 := ⟨m2.1, m2.2 _ fun el sp hd => by have := sized_slice (j := 2) (t := 33) (e := 3) (elems := el) (spare := sp) hz (by kernel_rfl) (by first | (rw [← hd]; done) | (rw [← hd]; rfl)) Tryz.underlying33; have hbe : Tryz.checked.prog.bytesOf 3 = 8 := (by kernel_rfl); have hre : reachBytes = 140737488351232 := rfl; rw [hbe, hre] at this; omega⟩
  clear hA0 hval0
  simp only [List.append_nil] at hW'
  refine (walk (w := W) q0 n0 c0 xs0 q1 n1 c1 xs1 q2 n2 c2 zs2 w0 y0 w1 y1 w2 y2).mono fun e W' ⟨he, bel⟩ => ?_
  subst he
  exact ⟨_, rfl, _, _, _, [], _, [], hW', trodAll_mk1 (shut_bool Tryz.underlying4 _), (trodAll_cons_mk (shut_same laidOut (by kernel_rfl) (of_decide_eq_true (by kernel_rfl)) k0 bel) (trodAll_cons_mk (shut_same laidOut (by kernel_rfl) (of_decide_eq_true (by kernel_rfl)) k1 bel) (trodAll_cons_mk (shut_same laidOut (by kernel_rfl) (of_decide_eq_true (by kernel_rfl)) k2 bel) trodAll_mk0))), rfl, bel.frame _, fun h => by cases h⟩
theorem over : Rows.checkCountsRow.holds Tryz.pinned (OpenSpec.ofChange Rows.checkCountsSpec) :=
  OpenClaim.holds_of_wide 4 Tryz.f4 rfl rfl rfl rfl rfl rfl rfl ⟨rfl, rfl, rfl, rfl, rfl⟩ rfl rfl rfl rfl rfl (by kernel_rfl) Tryz.func4 (by kernel_rfl)
    (of_decide_eq_true (by kernel_rfl)) (by unfold Func.isWrapper; first | (rw [if_pos (by decide +kernel)]; kernel_rfl) | (rw [if_neg (by decide +kernel)]; exact ⟨rfl, rfl⟩))
    (fun os started H enc _ => lifted os started H enc)
theorem proved : Rows.CheckCountsSaid := over
#print axioms proved
end Go.Proofs.YtjnkkokhkooegaaGreat.checkCounts
