/- SyndErasures holds for every input: places that are each once, and of the code, are right; one that stands again, or is beyond, is not. No conditions. -/
import Derived.Test.YtddhefhabhgdfaaGreatRows
import Derived.Test.YtddhefhabhgdfaaGreatMB
import Derived.Test.YtddhefhabhgdfaaGreatOU
import Derived.Test.YtddhefhabhgdfaaGreatOK
namespace Go.Proofs.YtddhefhabhgdfaaGreat.syndErasures
open Go.ChangeShapes Go.WideShapes Go.ChangeAt Go.RowKit
open Pol (Byt)
attribute [local go_sem ↓ high] builtin_ap
attribute [local go_sem] ap_sem

/-- What one place more comes to. -/
theorem era_more (N K B : Int) (L : List Int) (z : Int) (h : cdB N K B = true) (hL : erB N L = true) : erE N K B (L ++ [z]) = if outB N z = false ∧ z ∉ L then 0 else 13 := by
  split
  · rename_i hc; exact erE_yes h (erB_snoc.2 ⟨hL, hc.1, hc.2⟩)
  · rename_i hc
    cases hb : erB N (L ++ [z]) with
    | false => exact erE_bad h hb
    | true => exact absurd ((erB_snoc.1 hb).2) hc
theorem erB_zi {N most : Nat} {L : List Nat} (h : ErOk N most L) : erB (N : Nat) (zi L) = true := by
  unfold erB
  have h1 : (zi L).any (outB (N : Nat)) = false := by
    rw [List.any_eq_false]
    intro z hz
    obtain ⟨i, hi, rfl⟩ := List.mem_map.1 hz
    have := h.lt i hi
    simp [outB]; omega
  rw [h1, decide_eq_true (zi_nodup.2 h.nd)]; rfl

set_option maxRecDepth 100000 in
set_option maxHeartbeats 8000000 in
theorem walk (n k b : Nat) (q : Option Addr) (l c : Nat) (xs : List Nat) (more : Int) (w : World) (hn : n < 256) (hk : k < 256) (hb : b < 256) (hs : Bs w q l xs) (_hc : l ≤ c ∧ c ≤ 140737488351232) (hm1 : -9223372036854775808 ≤ more) (hm2 : more < 9223372036854775808) :
    Calls Tryz.prog 8 #[.int .u8 n, .int .u8 k, .int .u8 b, .slice q l c, .int .i64 more] w fun e w' => e = .returned (.bool true) ∧ Below w.heap.size w w' := by
  have hl0 := hs.byte
  have hcod := ck_cod n k b
  have hle := ckN_le n k
  have K0 := lcode_calls n k b hn hk hb w
  obtain ⟨N, hN⟩ : ∃ N, ckN n k = N := ⟨_, rfl⟩
  obtain ⟨K, hK⟩ : ∃ K, ckK n k = K := ⟨_, rfl⟩
  obtain ⟨B, hB⟩ : ∃ B, ckB b = B := ⟨_, rfl⟩
  rw [hN, hK, hB] at hcod K0
  rw [hN] at hle
  obtain ⟨es, hes⟩ : ∃ es, erL N N xs = es := ⟨_, rfl⟩
  obtain ⟨m, hm⟩ : ∃ m, es.length = m := ⟨_, rfl⟩
  have hok : ErOk N N es := hes ▸ erL_ok (by omega) xs
  have hwf : (Lit.int .i64 more).wf = true := WalkArith.wf_i64 (by omega)
  have HM : Hid (Cod N K B ∧ N ≤ 69 ∧ 2 ≤ N ∧ erL N N xs = es ∧ es.length = m ∧ ErOk N N es ∧ m ≤ 69 ∧ (Lit.int .i64 more).wf = true) := ⟨hcod, hle.2, hle.1, hes, hm, hok, by have := hok.len; omega, hwf⟩
  have HS : Hid (Bs w q l xs) := hs
  clear hl0 hcod hle hN hK hB hes hm hok hwf hs _hc hn hk hb hm1 hm2
  go_enter Tryz.func8, Tryz.ntmps8
  go_wp2_with fail
  refine K0.mono ?_
  rintro e w1 ⟨rfl, hb⟩
  clear K0
  obtain ⟨P, hP⟩ : ∃ P, w1.heap.size = P := ⟨_, rfl⟩
  obtain ⟨W1, hW1⟩ : ∃ W1, w1.alloc (.cells #[.int .i64 (N : Nat), .int .i64 (K : Nat), .int .i64 (B : Nat)] 23) = W1 := ⟨_, rfl⟩
  have hC1 : Cb W1 P (N : Nat) (K : Nat) (B : Nat) := by rw [← hW1, ← hP]; exact cb_new w1 _ _ _
  have hb1 : Below w.heap.size w W1 := hb.trans ((hW1 ▸ (Below.refl _ w1).alloc (Nat.le_refl _) _ : Below w1.heap.size w1 W1).mono hb.size)
  have H1 : Hid (Below w.heap.size w W1 ∧ Cb W1 P (N : Nat) (K : Nat) (B : Nat) ∧ Bs W1 q l xs) := ⟨hb1, hC1, HS.out.below hb1⟩
  have K1 := erased_calls N (K : Int) (B : Int) l c N q xs (by have := HM.out.2.2.1; omega) (by have := HM.out.2.1; omega) (by have := HM.out.2.1; omega) W1 H1.out.2.2
  rw [HM.out.2.2.2.1] at K1
  have hC := hC1
  clear hb hb1 hC1
  have u0 := (hC).c0
  have u1 := (hC).c1
  have u2 := (hC).c2
  clear hC
  go_wp2_with fail
  refine K1.mono ?_
  rintro e w2 ⟨v2, rfl, hO, hb⟩
  clear K1 hP hW1
  clear u0 u1 u2
  obtain ⟨q2, c2, rfl, S2, C2, -⟩ := hO.tell_z (n := m) (zi_wf fun i hi => by have := HM.out.2.2.2.2.2.1.lt i hi; have := HM.out.2.1; omega) (by rw [zi_length]; exact HM.out.2.2.2.2.1)
  have hC2 := H1.out.2.1.below hb
  have hB2 : Below w.heap.size w w2 := H1.out.1.trans (hb.mono H1.out.1.size)
  obtain ⟨v3, W3, hap, hO3, hg3⟩ := run_append_zs w2 w2.heap.size (.slice none 0 0) [] q2 m c2 (zi es) (owV_nil _ _ _) S2 (by have := HM.out.2.2.2.2.2.2.1; simp; omega) (Nat.le_refl _)
  rw [List.nil_append] at hO3
  have hb3 : Below w2.heap.size w2 W3 := (Below.refl _ w2).grown hg3 (Nat.le_refl _) (fun k e => by cases e)
  obtain ⟨q3, c3, rfl, S3, C3, -⟩ := hO3.tell_z (n := m) S2.wf (by rw [zi_length]; exact HM.out.2.2.2.2.1)
  have hsz3 : w2.heap.size ≤ W3.heap.size := hb3.size
  obtain ⟨g, cg, W4, hap2, hO4, hbw⟩ := run_append_z W3 w2.heap.size (.slice q3 m c3) (zi es) more hO3 (by rw [zi_length]; have := HM.out.2.2.2.2.1; have := HM.out.2.2.2.2.2.2.1; omega) hsz3
  obtain ⟨m1, hm1⟩ : ∃ m1, m + 1 = m1 := ⟨_, rfl⟩
  rw [zi_length, HM.out.2.2.2.2.1, hm1] at hap2 hO4
  obtain ⟨q4, c4, e4, S4, C4, -⟩ := hO4.tell_z (n := m1) (fun z hz => by
    rcases List.mem_append.1 hz with h | h
    · exact S2.wf z h
    · rw [List.mem_singleton] at h; rw [h]; exact HM.out.2.2.2.2.2.2.2) (by rw [List.length_append, zi_length, HM.out.2.2.2.2.1]; simpa using hm1)
  cases e4
  have hb4 : Below w2.heap.size w2 W4 := hb3.trans (hbw _ (Nat.le_refl _))
  have ha1 := ap_ok hap
  have ha2 := ap_v hap
  have ha3 := ap_w hap
  have hd1 := ap_ok hap2
  have hd2 := ap_v hap2
  have hd3 := ap_w hap2
  have hC4 := hC2.below hb4
  obtain ⟨LL, hLL⟩ : ∃ LL, zi es ++ [more] = LL := ⟨_, rfl⟩
  rw [hLL] at S4
  obtain ⟨p, hp⟩ : ∃ p, plZ (zi es) more = p := ⟨_, rfl⟩
  obtain ⟨ls, hls⟩ : ∃ ls, (sorL LL).length = ls := ⟨_, rfl⟩
  obtain ⟨r, hr⟩ : ∃ r, erE (N : Nat) (K : Nat) (B : Nat) LL = r := ⟨_, rfl⟩
  have hlsm : ls = m1 ↔ more ∉ zi es := by
    have h1 := (sorL_isSor LL).length_eq
    rw [hls, S4.len] at h1
    rw [h1, ← hLL]
    constructor
    · intro h hm
      exact (List.pairwise_append.1 h).2.2 more hm more (by simp) rfl
    · intro h
      exact List.pairwise_append.2 ⟨zi_nodup.2 HM.out.2.2.2.2.2.1.nd, List.pairwise_singleton _ _, fun a ha b hb => by rw [List.mem_singleton] at hb; rintro rfl; exact h (hb ▸ ha)⟩
  have hlsl : ls ≤ m1 := by have := (sorL_isSor LL).length_le; rw [hls, S4.len] at this; exact this
  have hpm : p < 0 ↔ more ∉ zi es := by rw [← hp]; exact plZ_neg
  have hrr : r = if outB (N : Nat) more = false ∧ more ∉ zi es then 0 else 13 := by rw [← hr, ← hLL]; exact era_more _ _ _ _ _ HM.out.1.yes (erB_zi HM.out.2.2.2.2.2.1)
  have H4 : Hid (Below w.heap.size w W4 ∧ Cb W4 P (N : Nat) (K : Nat) (B : Nat) ∧ Ns .i64 W4 q2 m (zi es) ∧ Ns .i64 W4 (some ⟨g, 0, none⟩) m1 LL) := ⟨hB2.trans (hb4.mono hB2.size), hC4, S2.below hb4, S4⟩
  have H5 : Hid ((sorL LL).length = ls ∧ erE (N : Nat) (K : Nat) (B : Nat) LL = r ∧ m1 ≤ 70 ∧ m ≤ 69) := ⟨hls, hr, by have := HM.out.2.2.2.2.2.2.1; omega, HM.out.2.2.2.2.2.2.1⟩
  have hKP : ∀ W, Ns .i64 W q2 m (zi es) → Calls Tryz.prog 24 #[.slice q2 m c2, .int .i64 more] W fun e w' => e = .returned (.int .i64 p) ∧ w' = W := fun W hW => hp ▸ place_calls q2 m c2 (zi es) more (by have := H5.out.2.2.2; omega) W hW
  have HKP : Hid (∀ W, Ns .i64 W q2 m (zi es) → Calls Tryz.prog 24 #[.slice q2 m c2, .int .i64 more] W fun e w' => e = .returned (.int .i64 p) ∧ w' = W) := hKP
  have KP4 := hKP W4 H4.out.2.2.1
  have HC : (r = 13 ∧ p < 0 ∧ ((ls : Int) == (m1 : Int)) = true ∧ more < 0) ∨ (r = 13 ∧ p < 0 ∧ ((ls : Int) == (m1 : Int)) = true ∧ 0 ≤ more ∧ (more < (N : Int)) = False) ∨ (r = 13 ∧ (p < 0) = False ∧ ((ls : Int) == (m1 : Int)) = false ∧ 0 ≤ more ∧ more < (N : Int)) ∨ (r = 0 ∧ p < 0 ∧ ((ls : Int) == (m1 : Int)) = true ∧ 0 ≤ more ∧ more < (N : Int)) := by
    have heq : more ∉ zi es → ((ls : Int) == (m1 : Int)) = true := fun h => by rw [hlsm.2 h]; exact beq_self_eq_true _
    have hin : more ∈ zi es → 0 ≤ more ∧ more < N := fun h => by
      obtain ⟨i, hi, rfl⟩ := List.mem_map.1 h
      have := HM.out.2.2.2.2.2.1.lt i hi
      omega
    by_cases h1 : more < 0
    · have h2 : more ∉ zi es := fun h => by have := hin h; omega
      exact .inl ⟨by rw [hrr, if_neg (fun hc => by simp [outB, h1] at hc)], hpm.2 h2, heq h2, h1⟩
    · by_cases h3 : (N : Int) ≤ more
      · have h2 : more ∉ zi es := fun h => by have := hin h; omega
        exact .inr (.inl ⟨by rw [hrr, if_neg (fun hc => by simp [outB, h3] at hc)], hpm.2 h2, heq h2, by omega, eq_false (by omega)⟩)
      · by_cases h2 : more ∈ zi es
        · have h9 : ls ≠ m1 := fun h => hlsm.1 h h2
          have h8 : ls < m1 := by omega
          exact .inr (.inr (.inl ⟨by rw [hrr, if_neg (fun hc => hc.2 h2)], eq_false (fun h => hpm.1 h h2), by simp; omega, by omega, by omega⟩))
        · exact .inr (.inr (.inr ⟨by rw [hrr, if_pos ⟨by simp [outB, h1, h3], h2⟩], hpm.2 h2, heq h2, by omega, by omega⟩))
  clear hO hb S2 C2 hC2 hB2 hap hO3 hg3 hb3 S3 C3 hsz3 hap2 hO4 hbw hm1 S4 C4 hb4 hLL hp hls hr hlsm hpm hrr hKP
  have hC := hC4
  clear hC4 hlsl
  have u0 := (hC).c0
  have u1 := (hC).c1
  have u2 := (hC).c2
  clear hC
  have HLL : Hid (IsSor LL (sorL LL)) := sorL_isSor LL
  have KS := sorted_calls (some ⟨g, 0, none⟩) m1 cg LL (by have := H5.out.2.2.1; omega) W4 H4.out.2.2.2
  rcases HC with ⟨rfl, hp, hq, h1⟩ | ⟨rfl, hp, hq, h1, h2⟩ | ⟨rfl, hp, hq, h1, h2⟩ | ⟨rfl, hp, hq, h1, h2⟩
  · go_wp2_with fail
    refine KS.mono ?_
    rintro e w5 ⟨v5, rfl, hO, hb⟩
    clear u0 u1 u2
    clear KS KP4
    obtain ⟨q5, c5, rfl, S5, C5, -⟩ := hO.tell_z (n := ls) (HLL.out.wf H4.out.2.2.2) H5.out.1
    have H6 : Hid (Below w.heap.size w w5 ∧ Cb w5 P (N : Nat) (K : Nat) (B : Nat) ∧ Ns .i64 w5 q2 m (zi es) ∧ Ns .i64 w5 (some ⟨g, 0, none⟩) m1 LL ∧ Ns .i64 w5 q5 ls (sorL LL)) := ⟨H4.out.1.trans (hb.mono H4.out.1.size), H4.out.2.1.below hb, H4.out.2.2.1.below hb, H4.out.2.2.2.below hb, S5⟩
    clear hO hb S5 C5
    go_wp2
    go_loopw [17] (fun i wr => ∃ t : Nat, t ≤ ls ∧ i = .int .i64 (t : Int) ∧ But (fun _ => False) w5 wr) (fun i _ => ls - (intOf i).toNat)
    case atStart => exact ⟨0, by omega, rfl, But.refl _ _⟩
    case round =>
      obtain ⟨t, ht, rfl, hB⟩ := hrel
      by_cases hlt : t < ls
      · have hti : (t : Int) < (ls : Int) := by omega
        have hti0 : (0 : Int) ≤ (t : Int) := by omega
        have ht6 : (t : Int) ≤ 1000000 := by have := H6.out.2.2.2.2.len; have := H5.out.1; have := HLL.out.length_le; have := H6.out.2.2.2.1.len; have := H5.out.2.2.1; omega
        have hNs := H6.out.2.2.2.2.but hB (fun _ _ _ h => h)
        have HNl : Hid (Ns .i64 wr (some ⟨g, 0, none⟩) m1 LL) := H6.out.2.2.2.1.but hB (fun _ _ _ h => h)
        have HB : Hid (But (fun _ => False) w5 wr) := hB
        obtain ⟨a, ha, _, ca⟩ := hNs.cell t hlt
        have htl : t < (sorL LL).length := by rw [H5.out.1]; exact hlt
        obtain ⟨z, hz⟩ : ∃ z, (sorL LL).getD t 0 = z := ⟨_, rfl⟩
        have hzm : z ∈ LL := by rw [← hz]; exact (HLL.out.mem _).1 (getD_mem_z htl)
        obtain ⟨pz, hpz⟩ : ∃ pz, plZ LL z = pz := ⟨_, rfl⟩
        have hpz0 : (pz < 0) = False := eq_false (fun h => by rw [← hpz] at h; exact plZ_neg.1 h hzm)
        have C1 : Hid (∀ W, Ns .i64 W (some ⟨g, 0, none⟩) m1 LL → Calls Tryz.prog 24 #[.slice (some ⟨g, 0, none⟩) m1 cg, .int .i64 z] W fun e w' => e = .returned (.int .i64 pz) ∧ w' = W) := fun W hW => hpz ▸ place_calls _ m1 cg LL z (by have := H5.out.2.2.1; omega) W hW
        rw [hz] at ca
        rcases Nat.eq_zero_or_pos t with h0 | h0
        · subst ha
          have ht0 : ((0 : Int) < (t : Int)) = False := eq_false (by omega)
          have ht00 : (0 < t) = False := eq_false (by omega)
          clear hNs hB htl hz hzm hpz h0
          go_wp2
          go_quiet ((go_at_call 24; with_reducible refine Calls.quiet_of_same (C1.out _ (HNl.out.drewN _))))
          go_wp2
          go_roundw
          case rel => exact ⟨t + 1, by omega, by go_num, HB.out.trans (But.drewN _ _ _)⟩
          case measure => simp [intOf]; omega
        · obtain ⟨j, hj⟩ : ∃ j, t - 1 = j := ⟨_, rfl⟩
          have hmj : (t : Int) - 1 = (j : Int) := by omega
          have hj0 : (0 : Int) ≤ (j : Int) := by omega
          have hjl : (j : Int) < (ls : Int) := by omega
          obtain ⟨b, hb, _, cb⟩ := hNs.cell j (by omega)
          have hlt2 := HLL.out.at_lt (i := j) (j := t) (by omega) htl
          obtain ⟨y, hy⟩ : ∃ y, (sorL LL).getD j 0 = y := ⟨_, rfl⟩
          rw [hy] at cb hlt2
          rw [hz] at hlt2
          have hyz : (z ≤ y) = False := eq_false (by omega)
          have ht0 : (0 : Int) < (t : Int) := by omega
          subst ha
          cases hb
          clear hNs hB htl hz hzm hpz hj hy hlt2
          go_wp2
          go_quiet ((go_at_call 24; with_reducible refine Calls.quiet_of_same (C1.out _ (HNl.out.drewN _))))
          go_wp2
          go_roundw
          case rel => exact ⟨t + 1, by omega, by go_num, HB.out.trans (But.drewN _ _ _)⟩
          case measure => simp [intOf]; omega
      · obtain rfl : ls = t := by omega
        have hbl := (But.below hB (Nat.le_refl _) (fun _ h => h.elim) : Below w5.heap.size w5 wr)
        have H7 : Hid (Below w.heap.size w wr ∧ Cb wr P (N : Nat) (K : Nat) (B : Nat) ∧ Ns .i64 wr q2 m (zi es) ∧ Ns .i64 wr (some ⟨g, 0, none⟩) m1 LL) := ⟨H6.out.1.trans (hbl.mono H6.out.1.size), H6.out.2.1.below hbl, H6.out.2.2.1.below hbl, H6.out.2.2.2.1.below hbl⟩
        have KN := known12_calls wr
        clear hB hbl
        go_wp2_with fail
        refine KN.mono ?_
        rintro e w6 ⟨rfl, hb⟩
        clear KN
        have H8 : Hid (Below w.heap.size w w6 ∧ Cb w6 P (N : Nat) (K : Nat) (B : Nat) ∧ Ns .i64 w6 q2 m (zi es) ∧ Ns .i64 w6 (some ⟨g, 0, none⟩) m1 LL) := ⟨H7.out.1.trans (hb.mono H7.out.1.size), H7.out.2.1.below hb, H7.out.2.2.1.below hb, H7.out.2.2.2.below hb⟩
        have KE := erasures_calls N K B q2 m c2 (zi es) 0 (erE_yes HM.out.1.yes (erB_zi HM.out.2.2.2.2.2.1)) (by have := H5.out.2.2.2; omega) w6 H8.out.2.2.1
        have hC := H8.out.2.1
        clear hb
        have u0 := (hC).c0
        have u1 := (hC).c1
        have u2 := (hC).c2
        clear hC
        go_wp2_with fail
        refine KE.mono ?_
        rintro e w7 ⟨rfl, hb⟩
        clear KE
        clear u0 u1 u2
        have H9 : Hid (Below w.heap.size w w7 ∧ Cb w7 P (N : Nat) (K : Nat) (B : Nat) ∧ Ns .i64 w7 q2 m (zi es) ∧ Ns .i64 w7 (some ⟨g, 0, none⟩) m1 LL) := ⟨H8.out.1.trans (hb.mono H8.out.1.size), H8.out.2.1.below hb, H8.out.2.2.1.below hb, H8.out.2.2.2.below hb⟩
        have KE := erasures_calls N K B (some ⟨g, 0, none⟩) m1 cg LL _ H5.out.2.1 (by have := H5.out.2.2.1; omega) w7 H9.out.2.2.2
        have hC := H9.out.2.1
        clear hb
        have u0 := (hC).c0
        have u1 := (hC).c1
        have u2 := (hC).c2
        clear hC
        go_wp2_with fail
        refine KE.mono ?_
        rintro e w8 ⟨rfl, hb⟩
        clear KE
        clear u0 u1 u2
        have HA : Hid (Below w.heap.size w w8) := H9.out.1.trans (hb.mono H9.out.1.size)
        have KP := HKP.out w8 (H9.out.2.2.1.below hb)
        clear hb
        go_wp2_with (go_at_call 24; refine KP.mono ?_; rintro e w9 ⟨rfl, rfl⟩)
        go_ret
        exact ⟨rfl, HA.out⟩
  · go_wp2_with fail
    refine KS.mono ?_
    rintro e w5 ⟨v5, rfl, hO, hb⟩
    clear u0 u1 u2
    clear KS KP4
    obtain ⟨q5, c5, rfl, S5, C5, -⟩ := hO.tell_z (n := ls) (HLL.out.wf H4.out.2.2.2) H5.out.1
    have H6 : Hid (Below w.heap.size w w5 ∧ Cb w5 P (N : Nat) (K : Nat) (B : Nat) ∧ Ns .i64 w5 q2 m (zi es) ∧ Ns .i64 w5 (some ⟨g, 0, none⟩) m1 LL ∧ Ns .i64 w5 q5 ls (sorL LL)) := ⟨H4.out.1.trans (hb.mono H4.out.1.size), H4.out.2.1.below hb, H4.out.2.2.1.below hb, H4.out.2.2.2.below hb, S5⟩
    clear hO hb S5 C5
    go_wp2
    go_loopw [17] (fun i wr => ∃ t : Nat, t ≤ ls ∧ i = .int .i64 (t : Int) ∧ But (fun _ => False) w5 wr) (fun i _ => ls - (intOf i).toNat)
    case atStart => exact ⟨0, by omega, rfl, But.refl _ _⟩
    case round =>
      obtain ⟨t, ht, rfl, hB⟩ := hrel
      by_cases hlt : t < ls
      · have hti : (t : Int) < (ls : Int) := by omega
        have hti0 : (0 : Int) ≤ (t : Int) := by omega
        have ht6 : (t : Int) ≤ 1000000 := by have := H6.out.2.2.2.2.len; have := H5.out.1; have := HLL.out.length_le; have := H6.out.2.2.2.1.len; have := H5.out.2.2.1; omega
        have hNs := H6.out.2.2.2.2.but hB (fun _ _ _ h => h)
        have HNl : Hid (Ns .i64 wr (some ⟨g, 0, none⟩) m1 LL) := H6.out.2.2.2.1.but hB (fun _ _ _ h => h)
        have HB : Hid (But (fun _ => False) w5 wr) := hB
        obtain ⟨a, ha, _, ca⟩ := hNs.cell t hlt
        have htl : t < (sorL LL).length := by rw [H5.out.1]; exact hlt
        obtain ⟨z, hz⟩ : ∃ z, (sorL LL).getD t 0 = z := ⟨_, rfl⟩
        have hzm : z ∈ LL := by rw [← hz]; exact (HLL.out.mem _).1 (getD_mem_z htl)
        obtain ⟨pz, hpz⟩ : ∃ pz, plZ LL z = pz := ⟨_, rfl⟩
        have hpz0 : (pz < 0) = False := eq_false (fun h => by rw [← hpz] at h; exact plZ_neg.1 h hzm)
        have C1 : Hid (∀ W, Ns .i64 W (some ⟨g, 0, none⟩) m1 LL → Calls Tryz.prog 24 #[.slice (some ⟨g, 0, none⟩) m1 cg, .int .i64 z] W fun e w' => e = .returned (.int .i64 pz) ∧ w' = W) := fun W hW => hpz ▸ place_calls _ m1 cg LL z (by have := H5.out.2.2.1; omega) W hW
        rw [hz] at ca
        rcases Nat.eq_zero_or_pos t with h0 | h0
        · subst ha
          have ht0 : ((0 : Int) < (t : Int)) = False := eq_false (by omega)
          have ht00 : (0 < t) = False := eq_false (by omega)
          clear hNs hB htl hz hzm hpz h0
          go_wp2
          go_quiet ((go_at_call 24; with_reducible refine Calls.quiet_of_same (C1.out _ (HNl.out.drewN _))))
          go_wp2
          go_roundw
          case rel => exact ⟨t + 1, by omega, by go_num, HB.out.trans (But.drewN _ _ _)⟩
          case measure => simp [intOf]; omega
        · obtain ⟨j, hj⟩ : ∃ j, t - 1 = j := ⟨_, rfl⟩
          have hmj : (t : Int) - 1 = (j : Int) := by omega
          have hj0 : (0 : Int) ≤ (j : Int) := by omega
          have hjl : (j : Int) < (ls : Int) := by omega
          obtain ⟨b, hb, _, cb⟩ := hNs.cell j (by omega)
          have hlt2 := HLL.out.at_lt (i := j) (j := t) (by omega) htl
          obtain ⟨y, hy⟩ : ∃ y, (sorL LL).getD j 0 = y := ⟨_, rfl⟩
          rw [hy] at cb hlt2
          rw [hz] at hlt2
          have hyz : (z ≤ y) = False := eq_false (by omega)
          have ht0 : (0 : Int) < (t : Int) := by omega
          subst ha
          cases hb
          clear hNs hB htl hz hzm hpz hj hy hlt2
          go_wp2
          go_quiet ((go_at_call 24; with_reducible refine Calls.quiet_of_same (C1.out _ (HNl.out.drewN _))))
          go_wp2
          go_roundw
          case rel => exact ⟨t + 1, by omega, by go_num, HB.out.trans (But.drewN _ _ _)⟩
          case measure => simp [intOf]; omega
      · obtain rfl : ls = t := by omega
        have hbl := (But.below hB (Nat.le_refl _) (fun _ h => h.elim) : Below w5.heap.size w5 wr)
        have H7 : Hid (Below w.heap.size w wr ∧ Cb wr P (N : Nat) (K : Nat) (B : Nat) ∧ Ns .i64 wr q2 m (zi es) ∧ Ns .i64 wr (some ⟨g, 0, none⟩) m1 LL) := ⟨H6.out.1.trans (hbl.mono H6.out.1.size), H6.out.2.1.below hbl, H6.out.2.2.1.below hbl, H6.out.2.2.2.1.below hbl⟩
        have KN := known12_calls wr
        clear hB hbl
        go_wp2_with fail
        refine KN.mono ?_
        rintro e w6 ⟨rfl, hb⟩
        clear KN
        have H8 : Hid (Below w.heap.size w w6 ∧ Cb w6 P (N : Nat) (K : Nat) (B : Nat) ∧ Ns .i64 w6 q2 m (zi es) ∧ Ns .i64 w6 (some ⟨g, 0, none⟩) m1 LL) := ⟨H7.out.1.trans (hb.mono H7.out.1.size), H7.out.2.1.below hb, H7.out.2.2.1.below hb, H7.out.2.2.2.below hb⟩
        have KE := erasures_calls N K B q2 m c2 (zi es) 0 (erE_yes HM.out.1.yes (erB_zi HM.out.2.2.2.2.2.1)) (by have := H5.out.2.2.2; omega) w6 H8.out.2.2.1
        have hC := H8.out.2.1
        clear hb
        have u0 := (hC).c0
        have u1 := (hC).c1
        have u2 := (hC).c2
        clear hC
        go_wp2_with fail
        refine KE.mono ?_
        rintro e w7 ⟨rfl, hb⟩
        clear KE
        clear u0 u1 u2
        have H9 : Hid (Below w.heap.size w w7 ∧ Cb w7 P (N : Nat) (K : Nat) (B : Nat) ∧ Ns .i64 w7 q2 m (zi es) ∧ Ns .i64 w7 (some ⟨g, 0, none⟩) m1 LL) := ⟨H8.out.1.trans (hb.mono H8.out.1.size), H8.out.2.1.below hb, H8.out.2.2.1.below hb, H8.out.2.2.2.below hb⟩
        have KE := erasures_calls N K B (some ⟨g, 0, none⟩) m1 cg LL _ H5.out.2.1 (by have := H5.out.2.2.1; omega) w7 H9.out.2.2.2
        have hC := H9.out.2.1
        clear hb
        have u0 := (hC).c0
        have u1 := (hC).c1
        have u2 := (hC).c2
        clear hC
        go_wp2_with fail
        refine KE.mono ?_
        rintro e w8 ⟨rfl, hb⟩
        clear KE
        clear u0 u1 u2
        have HA : Hid (Below w.heap.size w w8) := H9.out.1.trans (hb.mono H9.out.1.size)
        have KP := HKP.out w8 (H9.out.2.2.1.below hb)
        clear hb
        go_wp2_with (go_at_call 24; refine KP.mono ?_; rintro e w9 ⟨rfl, rfl⟩)
        go_ret
        exact ⟨rfl, HA.out⟩
  · go_wp2_with (go_at_call 24; refine KP4.mono ?_; rintro e w5 ⟨rfl, rfl⟩)
    refine KS.mono ?_
    rintro e w5 ⟨v5, rfl, hO, hb⟩
    clear u0 u1 u2
    clear KS KP4
    obtain ⟨q5, c5, rfl, S5, C5, -⟩ := hO.tell_z (n := ls) (HLL.out.wf H4.out.2.2.2) H5.out.1
    have H6 : Hid (Below w.heap.size w w5 ∧ Cb w5 P (N : Nat) (K : Nat) (B : Nat) ∧ Ns .i64 w5 q2 m (zi es) ∧ Ns .i64 w5 (some ⟨g, 0, none⟩) m1 LL ∧ Ns .i64 w5 q5 ls (sorL LL)) := ⟨H4.out.1.trans (hb.mono H4.out.1.size), H4.out.2.1.below hb, H4.out.2.2.1.below hb, H4.out.2.2.2.below hb, S5⟩
    clear hO hb S5 C5
    go_wp2
    go_loopw [17] (fun i wr => ∃ t : Nat, t ≤ ls ∧ i = .int .i64 (t : Int) ∧ But (fun _ => False) w5 wr) (fun i _ => ls - (intOf i).toNat)
    case atStart => exact ⟨0, by omega, rfl, But.refl _ _⟩
    case round =>
      obtain ⟨t, ht, rfl, hB⟩ := hrel
      by_cases hlt : t < ls
      · have hti : (t : Int) < (ls : Int) := by omega
        have hti0 : (0 : Int) ≤ (t : Int) := by omega
        have ht6 : (t : Int) ≤ 1000000 := by have := H6.out.2.2.2.2.len; have := H5.out.1; have := HLL.out.length_le; have := H6.out.2.2.2.1.len; have := H5.out.2.2.1; omega
        have hNs := H6.out.2.2.2.2.but hB (fun _ _ _ h => h)
        have HNl : Hid (Ns .i64 wr (some ⟨g, 0, none⟩) m1 LL) := H6.out.2.2.2.1.but hB (fun _ _ _ h => h)
        have HB : Hid (But (fun _ => False) w5 wr) := hB
        obtain ⟨a, ha, _, ca⟩ := hNs.cell t hlt
        have htl : t < (sorL LL).length := by rw [H5.out.1]; exact hlt
        obtain ⟨z, hz⟩ : ∃ z, (sorL LL).getD t 0 = z := ⟨_, rfl⟩
        have hzm : z ∈ LL := by rw [← hz]; exact (HLL.out.mem _).1 (getD_mem_z htl)
        obtain ⟨pz, hpz⟩ : ∃ pz, plZ LL z = pz := ⟨_, rfl⟩
        have hpz0 : (pz < 0) = False := eq_false (fun h => by rw [← hpz] at h; exact plZ_neg.1 h hzm)
        have C1 : Hid (∀ W, Ns .i64 W (some ⟨g, 0, none⟩) m1 LL → Calls Tryz.prog 24 #[.slice (some ⟨g, 0, none⟩) m1 cg, .int .i64 z] W fun e w' => e = .returned (.int .i64 pz) ∧ w' = W) := fun W hW => hpz ▸ place_calls _ m1 cg LL z (by have := H5.out.2.2.1; omega) W hW
        rw [hz] at ca
        rcases Nat.eq_zero_or_pos t with h0 | h0
        · subst ha
          have ht0 : ((0 : Int) < (t : Int)) = False := eq_false (by omega)
          have ht00 : (0 < t) = False := eq_false (by omega)
          clear hNs hB htl hz hzm hpz h0
          go_wp2
          go_quiet ((go_at_call 24; with_reducible refine Calls.quiet_of_same (C1.out _ (HNl.out.drewN _))))
          go_wp2
          go_roundw
          case rel => exact ⟨t + 1, by omega, by go_num, HB.out.trans (But.drewN _ _ _)⟩
          case measure => simp [intOf]; omega
        · obtain ⟨j, hj⟩ : ∃ j, t - 1 = j := ⟨_, rfl⟩
          have hmj : (t : Int) - 1 = (j : Int) := by omega
          have hj0 : (0 : Int) ≤ (j : Int) := by omega
          have hjl : (j : Int) < (ls : Int) := by omega
          obtain ⟨b, hb, _, cb⟩ := hNs.cell j (by omega)
          have hlt2 := HLL.out.at_lt (i := j) (j := t) (by omega) htl
          obtain ⟨y, hy⟩ : ∃ y, (sorL LL).getD j 0 = y := ⟨_, rfl⟩
          rw [hy] at cb hlt2
          rw [hz] at hlt2
          have hyz : (z ≤ y) = False := eq_false (by omega)
          have ht0 : (0 : Int) < (t : Int) := by omega
          subst ha
          cases hb
          clear hNs hB htl hz hzm hpz hj hy hlt2
          go_wp2
          go_quiet ((go_at_call 24; with_reducible refine Calls.quiet_of_same (C1.out _ (HNl.out.drewN _))))
          go_wp2
          go_roundw
          case rel => exact ⟨t + 1, by omega, by go_num, HB.out.trans (But.drewN _ _ _)⟩
          case measure => simp [intOf]; omega
      · obtain rfl : ls = t := by omega
        have hbl := (But.below hB (Nat.le_refl _) (fun _ h => h.elim) : Below w5.heap.size w5 wr)
        have H7 : Hid (Below w.heap.size w wr ∧ Cb wr P (N : Nat) (K : Nat) (B : Nat) ∧ Ns .i64 wr q2 m (zi es) ∧ Ns .i64 wr (some ⟨g, 0, none⟩) m1 LL) := ⟨H6.out.1.trans (hbl.mono H6.out.1.size), H6.out.2.1.below hbl, H6.out.2.2.1.below hbl, H6.out.2.2.2.1.below hbl⟩
        have KN := known12_calls wr
        clear hB hbl
        go_wp2_with fail
        refine KN.mono ?_
        rintro e w6 ⟨rfl, hb⟩
        clear KN
        have H8 : Hid (Below w.heap.size w w6 ∧ Cb w6 P (N : Nat) (K : Nat) (B : Nat) ∧ Ns .i64 w6 q2 m (zi es) ∧ Ns .i64 w6 (some ⟨g, 0, none⟩) m1 LL) := ⟨H7.out.1.trans (hb.mono H7.out.1.size), H7.out.2.1.below hb, H7.out.2.2.1.below hb, H7.out.2.2.2.below hb⟩
        have KE := erasures_calls N K B q2 m c2 (zi es) 0 (erE_yes HM.out.1.yes (erB_zi HM.out.2.2.2.2.2.1)) (by have := H5.out.2.2.2; omega) w6 H8.out.2.2.1
        have hC := H8.out.2.1
        clear hb
        have u0 := (hC).c0
        have u1 := (hC).c1
        have u2 := (hC).c2
        clear hC
        go_wp2_with fail
        refine KE.mono ?_
        rintro e w7 ⟨rfl, hb⟩
        clear KE
        clear u0 u1 u2
        have H9 : Hid (Below w.heap.size w w7 ∧ Cb w7 P (N : Nat) (K : Nat) (B : Nat) ∧ Ns .i64 w7 q2 m (zi es) ∧ Ns .i64 w7 (some ⟨g, 0, none⟩) m1 LL) := ⟨H8.out.1.trans (hb.mono H8.out.1.size), H8.out.2.1.below hb, H8.out.2.2.1.below hb, H8.out.2.2.2.below hb⟩
        have KE := erasures_calls N K B (some ⟨g, 0, none⟩) m1 cg LL _ H5.out.2.1 (by have := H5.out.2.2.1; omega) w7 H9.out.2.2.2
        have hC := H9.out.2.1
        clear hb
        have u0 := (hC).c0
        have u1 := (hC).c1
        have u2 := (hC).c2
        clear hC
        go_wp2_with fail
        refine KE.mono ?_
        rintro e w8 ⟨rfl, hb⟩
        clear KE
        clear u0 u1 u2
        have HA : Hid (Below w.heap.size w w8) := H9.out.1.trans (hb.mono H9.out.1.size)
        have KP := HKP.out w8 (H9.out.2.2.1.below hb)
        clear hb
        go_wp2_with (go_at_call 24; refine KP.mono ?_; rintro e w9 ⟨rfl, rfl⟩)
        go_ret
        exact ⟨rfl, HA.out⟩
  · go_wp2_with (go_at_call 24; refine KP4.mono ?_; rintro e w5 ⟨rfl, rfl⟩)
    refine KS.mono ?_
    rintro e w5 ⟨v5, rfl, hO, hb⟩
    clear u0 u1 u2
    clear KS KP4
    obtain ⟨q5, c5, rfl, S5, C5, -⟩ := hO.tell_z (n := ls) (HLL.out.wf H4.out.2.2.2) H5.out.1
    have H6 : Hid (Below w.heap.size w w5 ∧ Cb w5 P (N : Nat) (K : Nat) (B : Nat) ∧ Ns .i64 w5 q2 m (zi es) ∧ Ns .i64 w5 (some ⟨g, 0, none⟩) m1 LL ∧ Ns .i64 w5 q5 ls (sorL LL)) := ⟨H4.out.1.trans (hb.mono H4.out.1.size), H4.out.2.1.below hb, H4.out.2.2.1.below hb, H4.out.2.2.2.below hb, S5⟩
    clear hO hb S5 C5
    go_wp2
    go_loopw [17] (fun i wr => ∃ t : Nat, t ≤ ls ∧ i = .int .i64 (t : Int) ∧ But (fun _ => False) w5 wr) (fun i _ => ls - (intOf i).toNat)
    case atStart => exact ⟨0, by omega, rfl, But.refl _ _⟩
    case round =>
      obtain ⟨t, ht, rfl, hB⟩ := hrel
      by_cases hlt : t < ls
      · have hti : (t : Int) < (ls : Int) := by omega
        have hti0 : (0 : Int) ≤ (t : Int) := by omega
        have ht6 : (t : Int) ≤ 1000000 := by have := H6.out.2.2.2.2.len; have := H5.out.1; have := HLL.out.length_le; have := H6.out.2.2.2.1.len; have := H5.out.2.2.1; omega
        have hNs := H6.out.2.2.2.2.but hB (fun _ _ _ h => h)
        have HNl : Hid (Ns .i64 wr (some ⟨g, 0, none⟩) m1 LL) := H6.out.2.2.2.1.but hB (fun _ _ _ h => h)
        have HB : Hid (But (fun _ => False) w5 wr) := hB
        obtain ⟨a, ha, _, ca⟩ := hNs.cell t hlt
        have htl : t < (sorL LL).length := by rw [H5.out.1]; exact hlt
        obtain ⟨z, hz⟩ : ∃ z, (sorL LL).getD t 0 = z := ⟨_, rfl⟩
        have hzm : z ∈ LL := by rw [← hz]; exact (HLL.out.mem _).1 (getD_mem_z htl)
        obtain ⟨pz, hpz⟩ : ∃ pz, plZ LL z = pz := ⟨_, rfl⟩
        have hpz0 : (pz < 0) = False := eq_false (fun h => by rw [← hpz] at h; exact plZ_neg.1 h hzm)
        have C1 : Hid (∀ W, Ns .i64 W (some ⟨g, 0, none⟩) m1 LL → Calls Tryz.prog 24 #[.slice (some ⟨g, 0, none⟩) m1 cg, .int .i64 z] W fun e w' => e = .returned (.int .i64 pz) ∧ w' = W) := fun W hW => hpz ▸ place_calls _ m1 cg LL z (by have := H5.out.2.2.1; omega) W hW
        rw [hz] at ca
        rcases Nat.eq_zero_or_pos t with h0 | h0
        · subst ha
          have ht0 : ((0 : Int) < (t : Int)) = False := eq_false (by omega)
          have ht00 : (0 < t) = False := eq_false (by omega)
          clear hNs hB htl hz hzm hpz h0
          go_wp2
          go_quiet ((go_at_call 24; with_reducible refine Calls.quiet_of_same (C1.out _ (HNl.out.drewN _))))
          go_wp2
          go_roundw
          case rel => exact ⟨t + 1, by omega, by go_num, HB.out.trans (But.drewN _ _ _)⟩
          case measure => simp [intOf]; omega
        · obtain ⟨j, hj⟩ : ∃ j, t - 1 = j := ⟨_, rfl⟩
          have hmj : (t : Int) - 1 = (j : Int) := by omega
          have hj0 : (0 : Int) ≤ (j : Int) := by omega
          have hjl : (j : Int) < (ls : Int) := by omega
          obtain ⟨b, hb, _, cb⟩ := hNs.cell j (by omega)
          have hlt2 := HLL.out.at_lt (i := j) (j := t) (by omega) htl
          obtain ⟨y, hy⟩ : ∃ y, (sorL LL).getD j 0 = y := ⟨_, rfl⟩
          rw [hy] at cb hlt2
          rw [hz] at hlt2
          have hyz : (z ≤ y) = False := eq_false (by omega)
          have ht0 : (0 : Int) < (t : Int) := by omega
          subst ha
          cases hb
          clear hNs hB htl hz hzm hpz hj hy hlt2
          go_wp2
          go_quiet ((go_at_call 24; with_reducible refine Calls.quiet_of_same (C1.out _ (HNl.out.drewN _))))
          go_wp2
          go_roundw
          case rel => exact ⟨t + 1, by omega, by go_num, HB.out.trans (But.drewN _ _ _)⟩
          case measure => simp [intOf]; omega
      · obtain rfl : ls = t := by omega
        have hbl := (But.below hB (Nat.le_refl _) (fun _ h => h.elim) : Below w5.heap.size w5 wr)
        have H7 : Hid (Below w.heap.size w wr ∧ Cb wr P (N : Nat) (K : Nat) (B : Nat) ∧ Ns .i64 wr q2 m (zi es) ∧ Ns .i64 wr (some ⟨g, 0, none⟩) m1 LL) := ⟨H6.out.1.trans (hbl.mono H6.out.1.size), H6.out.2.1.below hbl, H6.out.2.2.1.below hbl, H6.out.2.2.2.1.below hbl⟩
        have KN := known12_calls wr
        clear hB hbl
        go_wp2_with fail
        refine KN.mono ?_
        rintro e w6 ⟨rfl, hb⟩
        clear KN
        have H8 : Hid (Below w.heap.size w w6 ∧ Cb w6 P (N : Nat) (K : Nat) (B : Nat) ∧ Ns .i64 w6 q2 m (zi es) ∧ Ns .i64 w6 (some ⟨g, 0, none⟩) m1 LL) := ⟨H7.out.1.trans (hb.mono H7.out.1.size), H7.out.2.1.below hb, H7.out.2.2.1.below hb, H7.out.2.2.2.below hb⟩
        have KE := erasures_calls N K B q2 m c2 (zi es) 0 (erE_yes HM.out.1.yes (erB_zi HM.out.2.2.2.2.2.1)) (by have := H5.out.2.2.2; omega) w6 H8.out.2.2.1
        have hC := H8.out.2.1
        clear hb
        have u0 := (hC).c0
        have u1 := (hC).c1
        have u2 := (hC).c2
        clear hC
        go_wp2_with fail
        refine KE.mono ?_
        rintro e w7 ⟨rfl, hb⟩
        clear KE
        clear u0 u1 u2
        have H9 : Hid (Below w.heap.size w w7 ∧ Cb w7 P (N : Nat) (K : Nat) (B : Nat) ∧ Ns .i64 w7 q2 m (zi es) ∧ Ns .i64 w7 (some ⟨g, 0, none⟩) m1 LL) := ⟨H8.out.1.trans (hb.mono H8.out.1.size), H8.out.2.1.below hb, H8.out.2.2.1.below hb, H8.out.2.2.2.below hb⟩
        have KE := erasures_calls N K B (some ⟨g, 0, none⟩) m1 cg LL _ H5.out.2.1 (by have := H5.out.2.2.1; omega) w7 H9.out.2.2.2
        have hC := H9.out.2.1
        clear hb
        have u0 := (hC).c0
        have u1 := (hC).c1
        have u2 := (hC).c2
        clear hC
        go_wp2_with fail
        refine KE.mono ?_
        rintro e w8 ⟨rfl, hb⟩
        clear KE
        clear u0 u1 u2
        have HA : Hid (Below w.heap.size w w8) := H9.out.1.trans (hb.mono H9.out.1.size)
        have KP := HKP.out w8 (H9.out.2.2.1.below hb)
        clear hb
        go_wp2_with (go_at_call 24; refine KP.mono ?_; rintro e w9 ⟨rfl, rfl⟩)
        go_ret
        exact ⟨rfl, HA.out⟩
theorem own : ownKnob Tryz.prog.godebug = none := by kernel_rfl
theorem laidOut : laidOutB Tryz.prog = true := by kernel_rfl
set_option maxRecDepth 100000 in
theorem lifted (os : Os) (started : os.Started) (H : Type) (enc : TypeId × Value → H) :
    ReturnsInHanded {} Tryz.checked os 8 .any (Rows.syndErasuresSpec.pre6 enc Tryz.prog Tryz.f8 Rows.syndErasuresRow.domain false) (Rows.syndErasuresSpec.post enc Tryz.prog Tryz.f8 false true false false) := by
  refine returnsInHanded_of_change_sized (C := Tryz.checked) own started (by kernel_rfl) Tryz.func8
    (ChangeSpec.witness6 (enc := enc) (C := Tryz.checked) false ⟨#[], #[.int .u8 0, .int .u8 0, .int .u8 0, .slice none 0 0, .int .i64 0], []⟩ 8 (by kernel_rfl) (by kernel_rfl) (by kernel_rfl) (by kernel_rfl)) ?_
  intro W base args ds gs before hval0 hW _ hz _
  have hval : ∀ (j : Nat) t v, Tryz.f8.params[j]? = some t → args[j]? = some v → Value.okWide Tryz.prog W .any base t v := hval0
  have hW' := hW
  obtain ⟨p, q, hA0, hV, rfl, _, _⟩ := hW
  have hA : DataW.TrodAll enc Tryz.prog W 0 (fun _ => true) true Tryz.f8.params.toList args.toList ds p := hA0
  rw [Tryz.params8] at hA hval
  obtain ⟨v0, vs0, d0, ds0, p0, q0, hargs, rfl, rfl, h0, r0⟩ := trodAll_cons hA
  obtain ⟨v1, vs1, d1, ds1, p1, q1, rfl, rfl, rfl, h1, r1⟩ := trodAll_cons r0
  obtain ⟨v2, vs2, d2, ds2, p2, q2, rfl, rfl, rfl, h2, r2⟩ := trodAll_cons r1
  obtain ⟨v3, vs3, d3, ds3, p3, q3, rfl, rfl, rfl, h3, r3⟩ := trodAll_cons r2
  obtain ⟨v4, vs4, d4, ds4, p4, q4, rfl, rfl, rfl, h4, r4⟩ := trodAll_cons r3
  obtain ⟨rfl, rfl, rfl⟩ := trodAll_nil r4
  obtain rfl : args = #[v0, v1, v2, v3, v4] := by cases args; simp_all
  obtain ⟨rfl, rfl⟩ := trodVars_none hV
  obtain ⟨a0, rfl, rfl, rfl, w0⟩ := open_int Tryz.underlying5 (hval 0 5 v0 rfl rfl) h0
  obtain ⟨n0, b0, rfl⟩ := nat_of_u8 w0
  obtain ⟨a1, rfl, rfl, rfl, w1⟩ := open_int Tryz.underlying5 (hval 1 5 v1 rfl rfl) h1
  obtain ⟨n1, b1, rfl⟩ := nat_of_u8 w1
  obtain ⟨a2, rfl, rfl, rfl, w2⟩ := open_int Tryz.underlying5 (hval 2 5 v2 rfl rfl) h2
  obtain ⟨n2, b2, rfl⟩ := nat_of_u8 w2
  have k3 := h3
  obtain ⟨q3, n3, c3, xs3, rfl, w3, m3⟩ := open_bytes_sz Tryz.underlying24 Tryz.underlying5 (by kernel_rfl) (hval 3 24 v3 rfl rfl) h3
  have y3 : n3 ≤ c3 ∧ c3 ≤ 140737488351232 := ⟨m3.1, m3.2 _ fun el sp hd => by have := sized_slice (j := 3) (t := 24) (e := 5) (elems := el) (spare := sp) hz (by kernel_rfl) (by first | (rw [← hd]; done) | (rw [← hd]; rfl)) Tryz.underlying24; have hbe : Tryz.checked.prog.bytesOf 5 = 1 := (by kernel_rfl); have hre : reachBytes = 140737488351232 := rfl; rw [hbe, hre] at this; omega⟩
  obtain ⟨a4, rfl, rfl, rfl, w4⟩ := open_int Tryz.underlying3 (hval 4 3 v4 rfl rfl) h4
  obtain ⟨b4, c4⟩ := int_of_i64 w4
  clear hA0 hval0
  simp only [List.append_nil] at hW'
  refine (walk (w := W) n0 n1 n2 q3 n3 c3 xs3 a4 b0 b1 b2 w3 y3 b4 c4).mono fun e W' ⟨he, bel⟩ => ?_
  subst he
  exact ⟨_, rfl, _, _, _, [], _, [], hW', trodAll_mk1 (shut_bool Tryz.underlying4 _), (trodAll_cons_mk (shut_int Tryz.underlying5 w0) (trodAll_cons_mk (shut_int Tryz.underlying5 w1) (trodAll_cons_mk (shut_int Tryz.underlying5 w2) (trodAll_cons_mk (shut_same laidOut (by kernel_rfl) (of_decide_eq_true (by kernel_rfl)) k3 bel) (trodAll_cons_mk (shut_int Tryz.underlying3 w4) trodAll_mk0))))), rfl, bel.frame _, fun h => by cases h⟩
theorem over : Rows.syndErasuresRow.holds Tryz.pinned (OpenSpec.ofChange Rows.syndErasuresSpec) :=
  OpenClaim.holds_of_wide 8 Tryz.f8 rfl rfl rfl rfl rfl rfl rfl ⟨rfl, rfl, rfl, rfl, rfl⟩ rfl rfl rfl rfl rfl (by kernel_rfl) Tryz.func8 (by kernel_rfl)
    (of_decide_eq_true (by kernel_rfl)) (by unfold Func.isWrapper; first | (rw [if_pos (by decide +kernel)]; kernel_rfl) | (rw [if_neg (by decide +kernel)]; exact ⟨rfl, rfl⟩))
    (fun os started H enc _ => lifted os started H enc)
theorem proved : Rows.SyndErasuresSaid := over
#print axioms proved
end Go.Proofs.YtddhefhabhgdfaaGreat.syndErasures
