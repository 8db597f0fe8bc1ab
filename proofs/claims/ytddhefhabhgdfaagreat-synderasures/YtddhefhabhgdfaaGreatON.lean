/- The walks of synd.Locator, Modified and Syndromes. Conditions: lists that are no great ones; a field that Of has made, and lists apart from its table. -/
import Derived.Test.YtddhefhabhgdfaaGreatOJ
import Derived.Test.YtddhefhabhgdfaaGreatOK
import Derived.Test.YtddhefhabhgdfaaGreatMV
import Derived.Test.YtddhefhabhgdfaaGreatNW
import Derived.Test.YtddhefhabhgdfaaGreatOA
import Derived.Test.YtddhefhabhgdfaaGreatMH
namespace Go.Proofs
open Go.RowKit Go.ChangeShapes Go.WideShapes
open Pol (IsN Dg ofL Byt vl)

set_option maxRecDepth 100000 in
set_option maxHeartbeats 1000000 in
theorem locator_calls (k Bf T n c : Nat) (q : Option Addr) (zs : List Int) (hn : n ≤ 1000000) (w : World) (h : Fd k Bf T w) (hs : Ns .i64 w q n zs) (hq : Off T n q) :
    Calls Tryz.prog 20 #[.pointer (some ⟨Bf, 0, none⟩), .slice q n c] w fun e w' => ∃ v, e = .returned v ∧ Ow w' w.heap.size v (Cd.locZ zs) ∧ Fd k Bf T w' ∧ But (· = T) w w' := by
  obtain ⟨R, hR⟩ : ∃ R, w.heap.size = R := ⟨_, rfl⟩
  have HS : Hid (Ns .i64 w q n zs ∧ Off T n q ∧ T < R) := ⟨hs, hq, hR ▸ h.lt⟩
  have HI : Hid (Ow (w.alloc (.cells #[.int .u8 1] 5)) R (.slice (some ⟨R, 0, none⟩) 1 1) [1] ∧ Fd k Bf T (w.alloc (.cells #[.int .u8 1] 5)) ∧ But (· = T) w (w.alloc (.cells #[.int .u8 1] 5))) := ⟨hR ▸ ow_one w (Nat.le_refl _) 1, h.alloc _, but_new w _⟩
  clear h hs hq
  go_enter Tryz.func20, Tryz.ntmps20
  go_wp2
  go_loopw [5, 13] (fun v i wr => ∃ t : Nat, t ≤ n ∧ i = .int .i64 (t : Int) ∧ Ow wr R v (Cd.locZ (zs.take t)) ∧ Fd k Bf T wr ∧ But (· = T) w wr) (fun _ i _ => n - (intOf i).toNat)
  case atStart => exact ⟨0, by omega, rfl, by rw [List.take_zero, Cd.locZ_nil]; exact HI.out.1, HI.out.2⟩
  case round =>
    clear HI
    obtain ⟨t, ht, rfl, hO, hF, hB⟩ := hrel
    by_cases hlt : t < n
    · have hi : (t : Int) < (n : Int) := by omega
      have hl := HS.out.1.len
      obtain ⟨a, rfl, _, ca⟩ := (HS.out.1.but hB HS.out.2.1).cell t hlt
      have hw := HS.out.1.at hlt
      obtain ⟨r, hr⟩ : ∃ r, Gf.powZ 2 (zs.getD t 0) = r := ⟨_, rfl⟩
      have hN := Cd.locZ_snoc (zs.take t) (zs.getD t 0) r hr
      have htk : zs.take t ++ [zs.getD t 0] = zs.take (t + 1) := by rw [List.take_succ_eq_append_getElem (by omega)]; simp [List.getD, show t < zs.length by omega]
      rw [htk] at hN
      have hb8 : r < 256 := by rw [← hr]; exact Cd.powZ_lt _
      obtain ⟨z, hze⟩ : ∃ z, zs.getD t 0 = z := ⟨_, rfl⟩
      rw [hze] at ca hw hr
      have hbd := bounds_i64 hw
      have K1 := cpoint_e k Bf T z r hbd.1 (by omega) hr wr hF
      have HO : Hid (Ow wr R u5 (Cd.locZ (zs.take t)) ∧ But (· = T) w wr ∧ R ≤ wr.heap.size ∧ IsN (Cd.locZ (zs.take (t + 1))) (Pol.mul (ofL (Cd.locZ (zs.take t))) (ofL [1, r])) ∧ r < 256 ∧ (Cd.locZ (zs.take t)).length = t + 1) := ⟨hO, hB, hR ▸ hB.size, hN, hb8, by rw [Cd.locZ_length, List.length_take]; omega⟩
      clear hO hF hB hw htk hN hb8 hze hbd hr hl
      go_wp2_with fail
      refine K1.mono ?_
      rintro e w1 ⟨rfl, hF, hb⟩
      clear K1
      have hO1 := HO.out.1.butT hb HS.out.2.2
      obtain ⟨q2, c2, rfl, S2, C2, Q2⟩ := hO1.tell (n := t + 1) (Cd.locZ_isN _).byt HO.out.2.2.2.2.2
      have S : Bs (w1.alloc (.cells #[.int .u8 1, .int .u8 (r : Nat)] 5)) (some ⟨w1.heap.size, 0, none⟩) 2 [1, r] := bs_lits w1 _ [1, r] _ 2 rfl rfl rfl (by simp [HO.out.2.2.2.2.1]) (by simp)
      have K := pmul_calls k Bf T (t + 1) c2 2 2 q2 (some ⟨w1.heap.size, 0, none⟩) _ [1, r] _ HO.out.2.2.2.1 (by omega) (by omega) C2 (by omega) (w1.alloc (.cells #[.int .u8 1, .int .u8 (r : Nat)] 5)) (hF.alloc _) (S2.alloc _) S (Q2 T HS.out.2.2) (off_new hF.lt)
      have HB : Hid (But (· = T) w (w1.alloc (.cells #[.int .u8 1, .int .u8 (r : Nat)] 5)) ∧ R ≤ (w1.alloc (.cells #[.int .u8 1, .int .u8 (r : Nat)] 5)).heap.size) := ⟨(HO.out.2.1.trans hb).alloc _, by have := HO.out.2.2.1; have := hb.size; simp; omega⟩
      clear hF hb hO1 S2 C2 Q2 S
      go_wp2_with fail
      refine K.mono ?_
      rintro e w2 ⟨v, rfl, hO, hF, hb⟩
      clear K
      have HZ : Hid (Ow w2 R v (Cd.locZ (zs.take (t + 1))) ∧ Fd k Bf T w2 ∧ But (· = T) w w2) := ⟨hO.mono HB.out.2, hF, HB.out.1.trans hb⟩
      clear hO hF hb
      go_wp2
      go_roundw
      case rel => exact ⟨t + 1, by omega, by go_num, HZ.out⟩
      case measure => simp [intOf]; omega
    · obtain rfl : t = n := by omega
      have e0 : zs.take t = zs := List.take_of_length_le (by rw [HS.out.1.len]; exact Nat.le_refl _)
      rw [e0] at hO
      go_wp2
      go_ret
      exact ⟨_, rfl, hR.symm ▸ hO, hF, hB⟩
set_option maxRecDepth 100000 in
set_option maxHeartbeats 1000000 in
theorem modified_calls (k Bf T n c m d : Nat) (q p : Option Addr) (xs ys : List Nat) (hn : n ≤ 1000000) (hm : m ≤ 1000000) (hc : n ≤ c) (hd : m ≤ d) (w : World) (h : Fd k Bf T w) (hs : Bs w q n xs) (hy : Bs w p m ys) (hq : Off T n q) (hp : Off T m p) :
    Calls Tryz.prog 29 #[.pointer (some ⟨Bf, 0, none⟩), .slice q n c, .slice p m d] w fun e w' => ∃ v, e = .returned v ∧ Ow w' w.heap.size v (Cd.modL xs ys) ∧ Fd k Bf T w' ∧ But (· = T) w w' := by
  obtain ⟨R, hR⟩ : ∃ R, w.heap.size = R := ⟨_, rfl⟩
  obtain ⟨zs, hz, -⟩ := Pol.isN_mul xs ys
  have hwd := Cd.modL_wd hs.len hz
  have hmk := make_bytes n (by omega)
  obtain ⟨W0, hW0⟩ : ∃ W0, w.alloc (.cells (madeCells #[.int .u8 0] n) 5) = W0 := ⟨_, rfl⟩
  have hO := ow_made w (base := R) (by omega) n (by omega)
  rw [hW0, hR] at hO
  have K := pmul_calls k Bf T n c m d q p xs ys zs hz (by omega) (by omega) hc hd W0 (hW0 ▸ h.alloc _) (hW0 ▸ hs.alloc _) (hW0 ▸ hy.alloc _) hq hp
  have HZ : Hid (Ow W0 R (.slice (some ⟨R, 0, none⟩) n n) (List.replicate n 0) ∧ But (· = T) w W0 ∧ T < R ∧ Cd.wd n zs = Cd.modL xs ys ∧ IsN zs (Pol.mul (ofL xs) (ofL ys)) ∧ R < W0.heap.size ∧ Bf < R) := ⟨hO, hW0 ▸ but_new w _, hR ▸ h.lt, hwd, hz, by rw [← hW0, ← hR]; simp, hR ▸ h.blt⟩
  clear hO h hs hy hq hp hwd hz
  go_enter Tryz.func29, Tryz.ntmps29
  go_wp2_with fail
  refine K.mono ?_
  rintro e w1 ⟨v, rfl, hO, hF, hb⟩
  clear K
  obtain ⟨l, hl⟩ : ∃ l, zs.length = l := ⟨_, rfl⟩
  obtain ⟨q1, c1, rfl, S1, C1, -⟩ := hO.tell (n := l) HZ.out.2.2.2.2.1.byt hl
  have hO1 := HZ.out.1.butT hb HZ.out.2.2.1
  obtain ⟨m2, W2, hcp, hO2, hb2⟩ := run_copy_word w1 3 R R n l c1 q1 zs hO1 S1
  rw [HZ.out.2.2.2.1] at hO2
  have HY : Hid (Ow W2 R (.slice (some ⟨R, 0, none⟩) n n) (Cd.modL xs ys) ∧ Fd k Bf T W2 ∧ But (· = T) w W2) :=
    ⟨hO2, hF.but hb2 (by have := HZ.out.2.2.2.2.2.2; omega) (by have := HZ.out.2.2.1; omega), (HZ.out.2.1.trans hb).past hb2 (fun k hk => by omega)⟩
  clear hO hF hb S1 C1 hO1 hO2 hb2
  go_wp2
  go_ret
  exact ⟨_, rfl, hR.symm ▸ HY.out.1, HY.out.2⟩
/-- What Syndromes tells of any code and any list. -/
def syR (N K B : Int) (xs : List Nat) : List Nat := if (cdB N K B && decide ((xs.length : Int) = N)) = true then Cd.syL (N - K).toNat B.toNat xs else []
theorem syR_no {N K B : Int} {xs : List Nat} (h : cdB N K B = false ∨ ¬ (xs.length : Int) = N) : syR N K B xs = [] := by
  unfold syR
  rw [if_neg]
  rcases h with h | h <;> simp [h]
theorem syR_yes {N K B S : Nat} {xs : List Nat} (h : Cod N K B) (hS : N - K = S) (hl : xs.length = N) : syR N K B xs = Cd.syL S B xs := by
  unfold syR
  rw [if_pos (by rw [h.yes, hl]; simp), show ((N : Int) - (K : Int)).toNat = S by omega, Int.toNat_natCast]
theorem syR_byt (N K B : Int) (xs : List Nat) : Byt (syR N K B xs) := by
  unfold syR
  split
  · exact Cd.syL_byt _ _ _
  · intro i; simp
theorem rts_vl (B S : Nat) (xs : List Nat) : (Cd.rts B S).map (vl xs) = Cd.syL S B xs := by unfold Cd.rts Cd.syL; rw [List.map_map]; rfl

set_option maxRecDepth 100000 in
set_option maxHeartbeats 1000000 in
theorem synd_none (P : Option Addr) (N K B : Int) (q : Option Addr) (n c : Nat) (h : cdB N K B = false ∨ ¬ (n : Int) = N) (w : World) :
    Calls Tryz.prog 17 #[.pointer P, .agg #[.int .i64 N, .int .i64 K, .int .i64 B], .slice q n c] w fun e w' => e = .returned (.slice none 0 0) ∧ Below w.heap.size w w' := by
  obtain ⟨R, hR⟩ : ∃ R, w.heap.size = R := ⟨_, rfl⟩
  obtain ⟨W0, hW0⟩ : ∃ W0, w.alloc (.cells #[.int .i64 N, .int .i64 K, .int .i64 B] 23) = W0 := ⟨_, rfl⟩
  have hb0 : Below w.heap.size w W0 := hW0 ▸ (Below.refl _ w).alloc (Nat.le_refl _) _
  have hC : Cb W0 R N K B := by rw [← hW0, ← hR]; exact cb_new w _ _ _
  have K1 := cright_e N K B _ rfl W0
  have HB : Hid (Below w.heap.size w W0 ∧ Cb W0 R N K B) := ⟨hb0, hC⟩
  clear hb0
  cases hv : cdB N K B with
  | false =>
    rw [cdE_no hv] at K1
    have c0 := (hC).c0
    have c1 := (hC).c1
    have c2 := (hC).c2
    clear hC hv h
    go_enter Tryz.func17, Tryz.ntmps17
    go_wp2_with (go_at_call 47; refine K1.mono ?_; rintro e w1 ⟨rfl, hb1⟩)
    go_ret
    exact ⟨rfl, HB.out.1.trans (hb1.mono HB.out.1.size)⟩
  | true =>
    rw [cdE_yes hv] at K1
    have hn : (((n : Int) != N)) = true := by
      rcases h with h | h
      · rw [hv] at h; cases h
      · simpa using h
    have c0 := (hC).c0
    have c1 := (hC).c1
    have c2 := (hC).c2
    clear hC hv h
    go_enter Tryz.func17, Tryz.ntmps17
    go_wp2_with (go_at_call 47; refine K1.mono ?_; rintro e w1 ⟨rfl, hb1⟩; have d0 := (HB.out.2.below hb1).c0)
    all_goals
      go_ret
      exact ⟨rfl, HB.out.1.trans (hb1.mono HB.out.1.size)⟩
set_option maxRecDepth 100000 in
set_option maxHeartbeats 1000000 in
theorem synd_ok (k Bf T N K B S c : Nat) (q : Option Addr) (xs : List Nat) (h : Cod N K B) (hS : N - K = S) (w : World) (hF : Fd k Bf T w) (hs : Bs w q N xs) (hq : Off T N q) :
    Calls Tryz.prog 17 #[.pointer (some ⟨Bf, 0, none⟩), .agg #[.int .i64 (N : Nat), .int .i64 (K : Nat), .int .i64 (B : Nat)], .slice q N c] w fun e w' => ∃ v, e = .returned v ∧ Ow w' w.heap.size v (Cd.syL S B xs) ∧ Fd k Bf T w' ∧ But (· = T) w w' := by
  have hT := tc_new hF (N : Int) (K : Int) (B : Int)
  obtain ⟨R, hR⟩ : ∃ R, w.heap.size = R := ⟨_, rfl⟩
  obtain ⟨W0, hW0⟩ : ∃ W0, w.alloc (.cells #[.int .i64 (N : Nat), .int .i64 (K : Nat), .int .i64 (B : Nat)] 23) = W0 := ⟨_, rfl⟩
  rw [hW0, hR] at hT
  have K1 := cright_e (N : Int) (K : Int) (B : Int) _ rfl W0
  rw [cdE_yes h.yes] at K1
  have HM : Hid (Cod N K B ∧ N - K = S ∧ Bs w q N xs ∧ Off T N q ∧ T < w.heap.size ∧ Tc k Bf T R N K B w W0) := ⟨h, hS, hs, hq, hF.lt, hT⟩
  have hC := hT.cb
  clear hF hs hq hS h hT
  have c0 := (hC).c0
  have c1 := (hC).c1
  have c2 := (hC).c2
  clear hC
  go_enter Tryz.func17, Tryz.ntmps17
  go_wp2_with fail
  refine K1.mono ?_
  rintro e w1 ⟨rfl, hb1⟩
  clear K1
  clear c0 c1 c2
  have hT1 := HM.out.2.2.2.2.2.below hb1
  have K2 := croots_calls k Bf T N K B S HM.out.1 HM.out.2.1 w1 hT1.tw.fd
  have hC := hT1.cb
  have HT : Hid (Tc k Bf T R N K B w w1) := hT1
  clear hT1 hb1
  have c0 := (hC).c0
  have c1 := (hC).c1
  have c2 := (hC).c2
  clear hC
  go_wp2_with fail
  refine K2.mono ?_
  rintro e w2 ⟨v, rfl, hO, hF, hb⟩
  clear K2
  clear c0 c1 c2
  obtain ⟨q2, c2, rfl, S2, C2, Q2⟩ := hO.tell (n := S) (Cd.rts_byt B S) (Cd.rts_length B S)
  have hT2 := HT.out.next hF hb
  have K3 := vall_calls k Bf T N c S c2 q q2 xs _ (by have := HM.out.1.m; have := HM.out.2.1; omega) w2 hF (HM.out.2.2.1.but hT2.tw.but HM.out.2.2.2.1) S2 HM.out.2.2.2.1 (Q2 T (by have := HT.out.tw.fd.lt; omega))
  rw [rts_vl] at K3
  have HT2 : Hid (Tc k Bf T R N K B w w2) := hT2
  clear hO hF hb S2 C2 Q2 hT2
  go_wp2_with fail
  refine K3.mono ?_
  rintro e w3 ⟨v, rfl, hO, hF, hb⟩
  clear K3
  have HY : Hid (Ow w3 w.heap.size v (Cd.syL S B xs) ∧ Fd k Bf T w3 ∧ But (· = T) w w3) := ⟨hO.mono HT2.out.size, hF, HT2.out.tw.but.trans hb⟩
  clear hO hF hb
  go_wp2
  go_ret
  exact ⟨_, rfl, HY.out⟩
/-- Of any code and any list. -/
theorem synd_u (k Bf T : Nat) (N K B : Int) (q : Option Addr) (n c : Nat) (xs ws : List Nat) (hw : syR N K B xs = ws) (w : World) (hF : Fd k Bf T w) (hs : Bs w q n xs) (hq : Off T n q) :
    Calls Tryz.prog 17 #[.pointer (some ⟨Bf, 0, none⟩), .agg #[.int .i64 N, .int .i64 K, .int .i64 B], .slice q n c] w fun e w' => ∃ v, e = .returned v ∧ Ow w' w.heap.size v ws ∧ Fd k Bf T w' ∧ But (· = T) w w' := by
  subst hw
  by_cases h : cdB N K B = false ∨ ¬ (n : Int) = N
  · rw [syR_no (by rw [hs.len]; exact h)]
    exact (synd_none _ N K B q n c h w).mono fun e w' ⟨he, hb⟩ => ⟨_, he, ow_nil _ _, hF.below hb, But.of_below hb⟩
  · have h1 : cdB N K B = true := by cases hv : cdB N K B with | true => rfl | false => exact absurd (.inl hv) h
    have h2 : (n : Int) = N := Classical.byContradiction fun h2 => h (.inr h2)
    obtain ⟨N', K', B', rfl, rfl, rfl, hC⟩ := cod_of h1
    obtain rfl : n = N' := by omega
    rw [syR_yes hC rfl hs.len]
    exact synd_ok k Bf T n K' B' _ c q xs hC rfl w hF hs hq
end Go.Proofs
