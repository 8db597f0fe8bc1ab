/- The walk of encode.Encode. Conditions: any code; a field that Of has made, or none; a message that does not lie in its table. -/
import Derived.Test.YtagkpjbadmodbaaGreatOD
import Derived.Test.YtagkpjbadmodbaaGreatOA
import Derived.Test.YtagkpjbadmodbaaGreatNX
import Derived.Test.YtagkpjbadmodbaaGreatNU
import Derived.Test.YtagkpjbadmodbaaGreatMK
namespace Go.Proofs
open Go.RowKit Go.ChangeShapes Go.WideShapes
open Pol (IsN Dg ofL Byt)
attribute [local go_sem ↓ high] builtin_ap
attribute [local go_sem] ap_sem

theorem make_room (s n : Nat) (hs : s ≤ n) (hn : n ≤ 281474976710656) (w : World) :
    (Instr.makeSlice 24 (.int .i64 (s : Int)) (.int .i64 (n : Int))).run Tryz.prog w = .ok (.slice (some ⟨w.heap.size, 0, none⟩) s n) (w.alloc (.cells (madeCells #[.int .u8 0] n) 5)) := by
  obtain ⟨i, hi, hz, hs', hb⟩ := info_parts info_u8
  have hr := run_make (P := Tryz.prog) w 24 5 i (.int .u8 0) Tryz.underlying24 hi hz .i64 .i64 s n (by omega) (by omega) (by rw [hb]; omega) (by omega)
  simp only [Int.toNat_natCast, hs', Nat.mul_one] at hr
  exact hr
theorem ow_room (W : World) {base : Nat} (hb : base ≤ W.heap.size) (s n : Nat) (hs : s ≤ n) (hn : n ≤ 281474976710656) : Ow (W.alloc (.cells (madeCells #[.int .u8 0] n) 5)) base (.slice (some ⟨W.heap.size, 0, none⟩) s n) (List.replicate s 0) := by
  refine ⟨by rw [ob_length, Nat.mul_one], .inr ⟨W.heap.size, n, madeCells #[.int .u8 0] n, by rw [List.length_replicate], hb, World.alloc_heap_new W _, by rw [List.length_replicate]; exact hs, by unfold maxLen; omega, by rw [size_madeCells]; simp, ?_⟩⟩
  rw [toList_madeCells_one, List.length_replicate, Nat.mul_one, List.take_replicate, Nat.min_eq_left hs]
  simp [ob]
/-- copy into the front of a list. -/
theorem run_copy_front (W : World) (ty base G N n d cap : Nat) (sp : Option Addr) (xs ys : List Nat) (h : Ow W base (.slice (some ⟨G, 0, none⟩) N cap) xs) (hx : xs.length = N) (hs : Bs W sp n ys) (hn : n ≤ N) :
    ∃ m : Nat, ∃ W', (Builtin.copy_ #[24, 24] ty #[.slice (some ⟨G, 0, none⟩) N cap, .slice sp n d]).run Tryz.prog W = .ok (.int .i64 (m : Nat)) W' ∧ Ow W' base (.slice (some ⟨G, 0, none⟩) N cap) (ys ++ xs.drop n) ∧ But (· = G) W W' := by
  have hl := hs.len
  by_cases h0 : n = 0
  · subst h0
    obtain rfl : ys = [] := List.length_eq_zero_iff.1 hl
    exact ⟨0, W, run_copy_none (P := Tryz.prog) W _ _ ty 5 (some ⟨G, 0, none⟩) sp N cap 0 d Tryz.underlying24 (by kernel_rfl) (Nat.zero_min N), h, But.refl _ _⟩
  · obtain ⟨a, rfl, hla, _⟩ := hs.cell 0 (by omega)
    rcases h.2 with ⟨hx', _⟩ | ⟨g, cap', cur, hv, hbase, hg, hle, hmx, hsz, hcur⟩
    · cases hx'
    · rw [hx] at hv hle hcur
      cases hv
      rw [Nat.mul_one] at hsz hcur
      have hrun := run_copy_row (P := Tryz.prog) W 24 24 ty 5 G 0 N cap a n d cur 5 (ob ys) Tryz.underlying24 (by kernel_rfl) hg (by rw [ob_length, hl]; exact (Nat.min_eq_left hn).symm) (fun j v hj => by
          have hjl : j < ys.length := by rw [← ob_length ys]; exact (List.getElem?_eq_some_iff.1 hj).1
          obtain ⟨a', e', _, hc'⟩ := hs.cell j (by omega)
          cases e'
          rw [ob_at _ j hjl] at hj
          rw [hc', ← hj]) (by rw [ob_length, hl, hsz]; omega) (fun v hv => by
          simp only [ob] at hv
          obtain ⟨x, _, rfl⟩ := List.mem_map.1 hv
          rfl)
      have htk : (cur.toList.take 0 ++ ob ys ++ cur.toList.drop (0 + (ob ys).length)).take N = ob (ys ++ xs.drop n) := by
        rw [List.take_zero, List.nil_append, ob_length, hl, Nat.zero_add, List.take_append, ob_length, hl, List.take_of_length_le (by rw [ob_length, hl]; exact hn), List.take_drop, show n + (N - n) = N by omega, hcur, ← ob_drop, ob_append]
      have hcl : (cur.toList.take 0 ++ ob ys ++ cur.toList.drop (0 + (ob ys).length)).length = cap := by
        rw [List.take_zero, List.nil_append, List.length_append, List.length_drop, ob_length, hl, Array.length_toList, hsz]; omega
      have hlen : (ys ++ xs.drop n).length = N := by rw [List.length_append, List.length_drop, hl, hx]; omega
      refine ⟨_, _, hrun, ?_, ⟨rfl, rfl, rfl, by simp [World.setRow], fun k hk hne => setRow_other W G k _ (fun e => hne e)⟩⟩
      refine ⟨by rw [ob_length, Nat.mul_one], .inr ⟨G, cap, _, ?_, hbase, setRow_heap W G cur _ _ _ hg, by rw [hlen]; exact hle, hmx, ?_, ?_⟩⟩
      · rw [hlen]
      · simp only [List.size_toArray]; rw [hcl, Nat.mul_one]
      · rw [Nat.mul_one, hlen]; exact htk

/-! ## What is told -/
theorem ofL_up (S : Nat) (xs : List Nat) : ofL (List.replicate S 0 ++ xs) = Pol.up S (ofL xs) := by
  funext i
  show GF.of ((List.replicate S 0 ++ xs).getD i 0) = _
  rw [Pol.getD_append, List.length_replicate]
  unfold Pol.up
  by_cases hi : i < S
  · rw [if_pos hi, if_neg (by omega)]
    simp [List.getD, hi]; rfl
  · rw [if_neg hi, if_pos (by omega)]; rfl
/-- What is left of a message that is moved up, and its word. -/
structure Rst (N K S B : Nat) (xs rs : List Nat) (P1 P2 : Pol) (zs : List Nat) : Prop where
  z : IsN zs P1
  r : IsN rs P2
  bd : Pol.Bd S P2
  eq : ofL (List.replicate S 0 ++ xs) = Pol.add (Pol.mul P1 (ofL (Cd.gen B S))) P2
  len : rs.length ≤ S
  enc : Cd.IsEnc N S B xs (rs ++ (List.replicate S 0 ++ xs).drop rs.length)
theorem gen_dg (B S : Nat) : Dg (S + 1) (ofL (Cd.gen B S)) := by have := (Cd.gen_isN B S).dg; rw [Cd.gen_length, ← (Cd.gen_isN B S).eq] at this; exact this
theorem rst_exists {N K B S : Nat} (h : Cod N K B) (hS : N - K = S) {xs : List Nat} (hx : xs.length = K) (bx : Byt xs) : ∃ rs P1 P2 zs, Rst N K S B xs rs P1 P2 zs := by
  obtain ⟨P1, P2, h1, h2, e⟩ := Pol.div_exists (gen_dg B S) _ (Pol.up S (ofL xs)) ((Pol.ofL_bd xs).up S)
  obtain ⟨zs, hz, -⟩ := Pol.isN_of_bd h1
  obtain ⟨rs, hr, hl⟩ := Pol.isN_of_bd h2
  refine ⟨rs, P1, P2, zs, hz, hr, h2, by rw [ofL_up]; exact e, hl, ?_⟩
  have := Cd.isEnc_rest (N := N) (B := B) (r := rs) hx bx hr.byt (by have := h.n; omega) (hr.eq ▸ h2) h1 (by rw [hr.eq]; exact e)
  rw [wd_eq, List.take_of_length_le hl] at this
  rw [List.drop_append_of_le_length (by rw [List.length_replicate]; exact hl), List.drop_replicate, ← List.append_assoc]
  exact this

set_option maxRecDepth 100000 in
set_option maxHeartbeats 2000000 in
theorem een_bad (P : Option Addr) (N K B : Int) (q : Option Addr) (n c r : Nat) (hr : (if (P.isSome && cdB N K B) = true then (if (n : Int) = K then 0 else 12) else 10) = r) (hr0 : r ≠ 0) (w : World) :
    Calls Tryz.prog 14 #[.pointer P, .agg #[.int .i64 N, .int .i64 K, .int .i64 B], .slice q n c] w fun e w' => e = .returned (.tuple #[.slice none 0 0, .int .u16 (r : Nat)]) ∧ Below w.heap.size w w' := by
  obtain ⟨R, hR⟩ : ∃ R, w.heap.size = R := ⟨_, rfl⟩
  obtain ⟨W0, hW0⟩ : ∃ W0, w.alloc (.cells #[.int .i64 N, .int .i64 K, .int .i64 B] 23) = W0 := ⟨_, rfl⟩
  have hb0 : Below w.heap.size w W0 := hW0 ▸ (Below.refl _ w).alloc (Nat.le_refl _) _
  have hC : Cb W0 R N K B := by rw [← hW0, ← hR]; exact cb_new w _ _ _
  have KG : Hid (∀ W, Cb W R N K B ∧ Below w.heap.size w W → Calls Tryz.prog 22 #[.pointer P] W fun e w' => ∃ a, e = .returned (.agg #[.func (.func 38) #[] #[.pointer (some ⟨a, 0, none⟩)], .int .u16 10]) ∧ w'.cell? ⟨a, 0, none⟩ = some (.pointer P) ∧ (Cb w' R N K B ∧ Below w.heap.size w w') ∧ Below W.heap.size W w') := fun W hW =>
    (egiven_calls P W).mono fun e w' ⟨a, he, ha, hb⟩ => ⟨a, he, ha, ⟨hW.1.below hb, hW.2.trans (hb.mono hW.2.size)⟩, hb⟩
  have KR : Hid (∀ W, Cb W R N K B ∧ Below w.heap.size w W → Calls Tryz.prog 23 #[.agg #[.int .i64 N, .int .i64 K, .int .i64 B]] W fun e w' => ∃ a, e = .returned (.agg #[.func (.func 39) #[] #[.pointer (some ⟨a, 0, none⟩)], .int .u16 10]) ∧ Cb w' a N K B ∧ (Cb w' R N K B ∧ Below w.heap.size w w') ∧ Below W.heap.size W w') := fun W hW =>
    (eright_calls N K B W).mono fun e w' ⟨a, he, ha, hb⟩ => ⟨a, he, ha, ⟨hW.1.below hb, hW.2.trans (hb.mono hW.2.size)⟩, hb⟩
  have KL : Hid (∀ W, Cb W R N K B ∧ Below w.heap.size w W → Calls Tryz.prog 24 #[.slice q n c, .int .i64 K] W fun e w' => ∃ a b, e = .returned (.agg #[.func (.func 41) #[] #[.pointer (some ⟨a, 0, none⟩), .pointer (some ⟨b, 0, none⟩)], .int .u16 12]) ∧ w'.cell? ⟨a, 0, none⟩ = some (.slice q n c) ∧ w'.cell? ⟨b, 0, none⟩ = some (.int .i64 K) ∧ (Cb w' R N K B ∧ Below w.heap.size w w') ∧ Below W.heap.size W w') := fun W hW =>
    (elong_calls q n c K W).mono fun e w' ⟨a, b, he, ha, hb', hb⟩ => ⟨a, b, he, ha, hb', ⟨hW.1.below hb, hW.2.trans (hb.mono hW.2.size)⟩, hb⟩
  have KF : Hid (∀ a1 a2 a3 a4 W1 W2 W3, W1.cell? ⟨a1, 0, none⟩ = some (.pointer P) → Below W1.heap.size W1 W2 → Cb W2 a2 N K B → Below W2.heap.size W2 W3 → W3.cell? ⟨a3, 0, none⟩ = some (.slice q n c) → W3.cell? ⟨a4, 0, none⟩ = some (.int .i64 K) → (Cb W3 R N K B ∧ Below w.heap.size w W3) →
      Calls Tryz.prog 21 #[.slice (some ⟨W3.heap.size, 0, none⟩) 3 3] (W3.alloc (.cells #[.func (.func 38) #[] #[.pointer (some ⟨a1, 0, none⟩)], .int .u16 10, .func (.func 39) #[] #[.pointer (some ⟨a2, 0, none⟩)], .int .u16 10, .func (.func 41) #[] #[.pointer (some ⟨a3, 0, none⟩), .pointer (some ⟨a4, 0, none⟩)], .int .u16 12] 58)) fun e w' => e = .returned (.int .u16 (r : Nat)) ∧ (Cb w' R N K B ∧ Below w.heap.size w w')) := fun a1 a2 a3 a4 W1 W2 W3 h1 b1 h2 b2 h3 h4 hW =>
    (efirst3_calls P N K B K q n c a1 a2 a3 a4 r ((fe3 a1 a2 a3 a4 n P N K B K).trans hr) W3 (((b1.trans (b2.mono b1.size)).cell (p := ⟨a1, 0, none⟩) (World.block_lt_of_cell? _ _ h1)).trans h1) (h2.below b2) h3 h4).mono fun e w' ⟨he, hb⟩ => ⟨he, hW.1.below hb, hW.2.trans (hb.mono hW.2.size)⟩
  have hT0 : Cb W0.drew R N K B ∧ Below w.heap.size w W0.drew := ⟨hC.drew, hb0.drew⟩
  have hrz : ((r : Int) != 0) = true := by simp; omega
  clear hb0 hr hr0
  have c0 := (hC).c0
  have c1 := (hC).c1
  have c2 := (hC).c2
  clear hC
  go_enter Tryz.func14, Tryz.ntmps14
  go_wp2
  go_region_held3 (fun w' => w'.cell? ⟨R, 0, none⟩ = some (.int .i64 N) ∧ w'.cell? ⟨R, 1, none⟩ = some (.int .i64 K) ∧ w'.cell? ⟨R, 2, none⟩ = some (.int .i64 B))
    (first | (with_reducible exact ⟨hT4.1.c0, hT4.1.c1, hT4.1.c2⟩) | (with_reducible exact ⟨cell_alloc_l _ hT3.1.c0, cell_alloc_l _ hT3.1.c1, cell_alloc_l _ hT3.1.c2⟩) | (with_reducible exact ⟨hT3.1.c0, hT3.1.c1, hT3.1.c2⟩) | (with_reducible exact ⟨hT2.1.c0, hT2.1.c1, hT2.1.c2⟩) | (with_reducible exact ⟨hT1.1.c0, hT1.1.c1, hT1.1.c2⟩) | (with_reducible exact ⟨hT0.1.c0, hT0.1.c1, hT0.1.c2⟩))
    (first
      | (go_at_call 22; with_reducible refine (KG.out _ hT0).mono ?_; rintro e w1 ⟨a1, rfl, h1, hT1, hb1⟩)
      | (go_at_call 23; with_reducible refine (KR.out _ hT1).mono ?_; rintro e w2 ⟨a2, rfl, h2, hT2, hb2⟩)
      | (go_at_call 24; with_reducible refine (KL.out _ hT2).mono ?_; rintro e w3 ⟨a3, a4, rfl, h3, h4, hT3, hb3⟩)
      | (go_at_call 21; with_reducible refine (KF.out _ _ _ _ _ _ _ h1 hb2 h2 hb3 h3 h4 hT3).mono ?_; rintro e w4 ⟨rfl, hT4⟩))
  go_wp2
  go_ret2
  exact ⟨rfl, hT4.2⟩
set_option maxRecDepth 100000 in
set_option maxHeartbeats 2000000 in
theorem een_ok (k Bf T N K B S c : Nat) (q : Option Addr) (xs ws : List Nat) (h : Cod N K B) (hS : N - K = S) (hE : Cd.IsEnc N S B xs ws) (hc : K ≤ c) (w : World) (hF : Fd k Bf T w) (hs : Bs w q K xs) (hq : Off T K q) :
    Calls Tryz.prog 14 #[.pointer (some ⟨Bf, 0, none⟩), .agg #[.int .i64 (N : Nat), .int .i64 (K : Nat), .int .i64 (B : Nat)], .slice q K c] w fun e w' => ∃ v, e = .returned (.tuple #[v, .int .u16 0]) ∧ Ow w' w.heap.size v ws ∧ Fd k Bf T w' ∧ But (· = T) w w' := by
  have hT := tc_new hF (N : Int) (K : Int) (B : Int)
  obtain ⟨R, hR⟩ : ∃ R, w.heap.size = R := ⟨_, rfl⟩
  obtain ⟨W0, hW0⟩ : ∃ W0, w.alloc (.cells #[.int .i64 (N : Nat), .int .i64 (K : Nat), .int .i64 (B : Nat)] 23) = W0 := ⟨_, rfl⟩
  rw [hW0, hR] at hT
  have KG : Hid (∀ W, Tc k Bf T R N K B w W → Calls Tryz.prog 22 #[.pointer (some ⟨Bf, 0, none⟩)] W fun e w' => ∃ a, e = .returned (.agg #[.func (.func 38) #[] #[.pointer (some ⟨a, 0, none⟩)], .int .u16 10]) ∧ w'.cell? ⟨a, 0, none⟩ = some (.pointer (some ⟨Bf, 0, none⟩)) ∧ Tc k Bf T R N K B w w' ∧ Below W.heap.size W w') := fun W hW =>
    (egiven_calls (some ⟨Bf, 0, none⟩) W).mono fun e w' ⟨a, he, ha, hb⟩ => ⟨a, he, ha, hW.below hb, hb⟩
  have KR : Hid (∀ W, Tc k Bf T R N K B w W → Calls Tryz.prog 23 #[.agg #[.int .i64 (N : Nat), .int .i64 (K : Nat), .int .i64 (B : Nat)]] W fun e w' => ∃ a, e = .returned (.agg #[.func (.func 39) #[] #[.pointer (some ⟨a, 0, none⟩)], .int .u16 10]) ∧ Cb w' a N K B ∧ Tc k Bf T R N K B w w' ∧ Below W.heap.size W w') := fun W hW =>
    (eright_calls N K B W).mono fun e w' ⟨a, he, ha, hb⟩ => ⟨a, he, ha, hW.below hb, hb⟩
  have KL : Hid (∀ W, Tc k Bf T R N K B w W → Calls Tryz.prog 24 #[.slice q K c, .int .i64 (K : Nat)] W fun e w' => ∃ a b, e = .returned (.agg #[.func (.func 41) #[] #[.pointer (some ⟨a, 0, none⟩), .pointer (some ⟨b, 0, none⟩)], .int .u16 12]) ∧ w'.cell? ⟨a, 0, none⟩ = some (.slice q K c) ∧ w'.cell? ⟨b, 0, none⟩ = some (.int .i64 (K : Nat)) ∧ Tc k Bf T R N K B w w' ∧ Below W.heap.size W w') := fun W hW =>
    (elong_calls q K c K W).mono fun e w' ⟨a, b, he, ha, hb', hb⟩ => ⟨a, b, he, ha, hb', hW.below hb, hb⟩
  have KF : Hid (∀ a1 a2 a3 a4 W1 W2 W3, W1.cell? ⟨a1, 0, none⟩ = some (.pointer (some ⟨Bf, 0, none⟩)) → Below W1.heap.size W1 W2 → Cb W2 a2 N K B → Below W2.heap.size W2 W3 → W3.cell? ⟨a3, 0, none⟩ = some (.slice q K c) → W3.cell? ⟨a4, 0, none⟩ = some (.int .i64 (K : Nat)) → Tc k Bf T R N K B w W3 →
      Calls Tryz.prog 21 #[.slice (some ⟨W3.heap.size, 0, none⟩) 3 3] (W3.alloc (.cells #[.func (.func 38) #[] #[.pointer (some ⟨a1, 0, none⟩)], .int .u16 10, .func (.func 39) #[] #[.pointer (some ⟨a2, 0, none⟩)], .int .u16 10, .func (.func 41) #[] #[.pointer (some ⟨a3, 0, none⟩), .pointer (some ⟨a4, 0, none⟩)], .int .u16 12] 58)) fun e w' => e = .returned (.int .u16 0) ∧ Tc k Bf T R N K B w w') := fun a1 a2 a3 a4 W1 W2 W3 h1 b1 h2 b2 h3 h4 hW =>
    (efirst3_calls (some ⟨Bf, 0, none⟩) N K B K q K c a1 a2 a3 a4 0 ((fe3 a1 a2 a3 a4 K _ N K B K).trans (by rw [h.yes]; simp)) W3 (((b1.trans (b2.mono b1.size)).cell (p := ⟨a1, 0, none⟩) (World.block_lt_of_cell? _ _ h1)).trans h1) (h2.below b2) h3 h4).mono fun e w' ⟨he, hb⟩ => ⟨he, hW.below hb⟩
  have KS : Hid (∀ W, Tc k Bf T R N K B w W → Calls Tryz.prog 25 #[.agg #[.int .i64 (N : Nat), .int .i64 (K : Nat), .int .i64 (B : Nat)]] W fun e w' => e = .returned (.int .i64 (S : Nat)) ∧ Tc k Bf T R N K B w w' ∧ Below W.heap.size W w') := fun W hW =>
    (cspace_e N K B S h hS W).mono fun _ _ ⟨e, hb⟩ => ⟨e, hW.below hb, hb⟩
  have KN : Hid (∀ W, Tc k Bf T R N K B w W → Calls Tryz.prog 27 #[.pointer (some ⟨Bf, 0, none⟩), .agg #[.int .i64 (N : Nat), .int .i64 (K : Nat), .int .i64 (B : Nat)]] W fun e w' => ∃ v, e = .returned v ∧ Ow w' W.heap.size v (Cd.gen B S) ∧ Fd k Bf T w' ∧ But (· = T) W w') := fun W hW => cgen_calls k Bf T N K B S h hS W hW.tw.fd
  obtain ⟨rs, P1, P2, zs, hR0⟩ := rst_exists h hS hs.len hs.byte
  obtain rfl := hR0.enc.unique hE h.m
  have HM : Hid (Cod N K B ∧ N - K = S ∧ Rst N K S B xs rs P1 P2 zs ∧ Bs w q K xs ∧ Off T K q ∧ K ≤ c ∧ T < R ∧ w.heap.size = R ∧ Bf < R) := ⟨h, hS, hR0, hs, hq, hc, hR ▸ hF.lt, hR, hR ▸ hF.blt⟩
  have hmk := make_room S N (by omega) (by have := h.m; omega)
  have hT0 := hT.drew
  have hC := hT.cb
  clear hF hs hq hc hE hS h hR0 hT
  have c0 := (hC).c0
  have c1 := (hC).c1
  have c2 := (hC).c2
  clear hC
  go_enter Tryz.func14, Tryz.ntmps14
  go_wp2
  go_region_held3 (fun w' => w'.cell? ⟨R, 0, none⟩ = some (.int .i64 (N : Nat)) ∧ w'.cell? ⟨R, 1, none⟩ = some (.int .i64 (K : Nat)) ∧ w'.cell? ⟨R, 2, none⟩ = some (.int .i64 (B : Nat)))
    (first | (with_reducible exact ⟨hT4.cb.c0, hT4.cb.c1, hT4.cb.c2⟩) | (with_reducible exact ⟨cell_alloc_l _ hT3.cb.c0, cell_alloc_l _ hT3.cb.c1, cell_alloc_l _ hT3.cb.c2⟩) | (with_reducible exact ⟨hT3.cb.c0, hT3.cb.c1, hT3.cb.c2⟩) | (with_reducible exact ⟨hT2.cb.c0, hT2.cb.c1, hT2.cb.c2⟩) | (with_reducible exact ⟨hT1.cb.c0, hT1.cb.c1, hT1.cb.c2⟩) | (with_reducible exact ⟨hT0.cb.c0, hT0.cb.c1, hT0.cb.c2⟩))
    (first
      | (go_at_call 22; with_reducible refine (KG.out _ hT0).mono ?_; rintro e w1 ⟨a1, rfl, h1, hT1, hb1⟩)
      | (go_at_call 23; with_reducible refine (KR.out _ hT1).mono ?_; rintro e w2 ⟨a2, rfl, h2, hT2, hb2⟩)
      | (go_at_call 24; with_reducible refine (KL.out _ hT2).mono ?_; rintro e w3 ⟨a3, a4, rfl, h3, h4, hT3, hb3⟩)
      | (go_at_call 21; with_reducible refine (KF.out _ _ _ _ _ _ _ h1 hb2 h2 hb3 h3 h4 hT3).mono ?_; rintro e w4 ⟨rfl, hT4⟩))
  have HT4 : Hid (Tc k Bf T R N K B w w4) := hT4
  have KS4 : Hid (Calls Tryz.prog 25 #[.agg #[.int .i64 (N : Nat), .int .i64 (K : Nat), .int .i64 (B : Nat)]] w4.drew fun e w5 => ∃ W6, e = .returned (.int .i64 (S : Nat)) ∧ w5.cell? ⟨R, 0, none⟩ = some (.int .i64 (N : Nat)) ∧ (Builtin.append_ #[24, 24] 24 #[.slice (some ⟨w5.heap.size, 0, none⟩) S N, .slice q K c]).run Tryz.prog (w5.alloc (.cells (madeCells #[.int .u8 0] N) 5)) = .ok (.slice (some ⟨w5.heap.size, 0, none⟩) N N) W6 ∧ Hid (Tc k Bf T R N K B w W6 ∧ R < w5.heap.size ∧ Ow W6 (R + 1) (.slice (some ⟨w5.heap.size, 0, none⟩) N N) (List.replicate S 0 ++ xs) ∧ Bf < w5.heap.size ∧ T < w5.heap.size ∧ w5.heap.size < W6.heap.size)) :=
    (KS.out _ hT4.drew).mono fun e w5 ⟨he, hT5, hb⟩ => by
      have h1 := hT5.below ((Below.refl _ w5).alloc (Nat.le_refl _) (.cells (madeCells #[.int .u8 0] N) 5))
      have hRl := hT5.cb.blt
      have hO := ow_room w5 (base := R + 1) (by omega) S N (by have := HM.out.2.1; omega) (by have := HM.out.1.m; omega)
      have hS1 := (HM.out.2.2.2.1.but h1.tw.but HM.out.2.2.2.2.1)
      obtain ⟨ad, rfl, _, _⟩ := hS1.cell 0 (by have := HM.out.1.k; omega)
      obtain ⟨W6, hap, hO6, hb6⟩ := run_append_room _ (R + 1) w5.heap.size S N (List.replicate S 0) ad K c xs hO (by rw [List.length_replicate]) hS1 (by have := HM.out.2.1; have := HM.out.1.n; omega)
      rw [show S + K = N by have := HM.out.2.1; have := HM.out.1.n; omega] at hap hO6
      have hl := hT5.tw.fd.lt
      have hbl := hT5.tw.fd.blt
      exact ⟨W6, he, hT5.cb.c0, hap, h1.past hb6 (by have := HM.out.2.2.2.2.2.2.2.1; omega) (by omega) (by omega) (by omega), hRl, hO6, hbl, hl, Nat.lt_of_lt_of_le (by simp) hb6.size⟩
  have hC := hT4.cb
  clear hT0 hT1 hT2 hT3 h1 h2 h3 h4 hb1 hb2 hb3 hT4 KG KR KL KF KS c0 c1 c2 hR hW0
  have c0 := (hC).c0
  have c1 := (hC).c1
  have c2 := (hC).c2
  clear hC
  go_wp2
  go_region_law
    (first
      | (refine step_go rfl (by go_simp) KS4.out ?_; rintro e w5 ⟨W6, rfl, c05, hap5, H6⟩; refine ⟨_, rfl, ?_⟩)
      | (refine step_ap9 rfl (.tmp 29) (.tmp 30) 24 rfl rfl hap5 rfl rfl ?_))
  all_goals
    obtain ⟨G, hG⟩ : ∃ G, w5.heap.size = G := ⟨_, rfl⟩
    rw [hG] at H6
    rw [hG]
    have hT6 := H6.out.1
    have hC := hT6.cb
    have KN6 := KN.out W6 hT6
    clear hT6 hap5 c05 c0 c1 c2 KN KS4 HT4 hmk hG
    have c0 := (hC).c0
    have c1 := (hC).c1
    have c2 := (hC).c2
    clear hC
    go_wp2_with fail
    refine KN6.mono ?_
    rintro e w7 ⟨v, rfl, hO, hF, hb⟩
    clear c0 c1 c2
    obtain ⟨qg, cg, rfl, S7, C7, hQ⟩ := hO.tell (n := S + 1) (Cd.gen_isN B S).byt (Cd.gen_length B S)
    have hT7 := H6.out.1.next hF hb
    have hG7 : ¬ G = T := by have := HM.out.2.2.2.2.2.2.1; have := H6.out.2.1; have := (H6.out.2.2.1.lt G rfl).1; omega
    have hO7 : Ow w7 (R + 1) (.slice (some ⟨G, 0, none⟩) N N) (List.replicate S 0 ++ xs) := H6.out.2.2.1.block fun i hi => hb.block i (H6.out.2.2.1.lt i hi).2 (by cases hi; exact hG7)
    have hxl : (List.replicate S 0 ++ xs).length = N := by rw [List.length_append, List.length_replicate, HM.out.2.2.2.1.len]; have := HM.out.2.1; have := HM.out.1.n; omega
    have hbx : Byt (List.replicate S 0 ++ xs) := by
      intro i
      rw [Pol.getD_append]
      split
      · simp only [List.getD, List.getElem?_replicate]; split <;> decide
      · exact HM.out.2.2.2.1.byte _
    obtain ⟨qx, cx, ex, S7x, C7x, hQx⟩ := hO7.tell (n := N) hbx hxl
    cases ex
    have K7 := qmod_calls k Bf T N N (S + 1) cg S (some ⟨G, 0, none⟩) qg (List.replicate S 0 ++ xs) (Cd.gen B S) zs rs P1 P2 (gen_dg B S) HM.out.2.2.1.z HM.out.2.2.1.r HM.out.2.2.1.bd HM.out.2.2.1.eq (by have := HM.out.1.m; omega) (by have := HM.out.1.m; have := HM.out.2.1; omega) C7x C7 w7 hF S7x S7 (off_at hG7) (hQ T (by have := H6.out.2.2.2.2.1; have := H6.out.2.2.2.2.2; omega))
    have H7 : Hid (Tc k Bf T R N K B w w7 ∧ Ow w7 (R + 1) (.slice (some ⟨G, 0, none⟩) N N) (List.replicate S 0 ++ xs) ∧ ¬ G = T ∧ (List.replicate S 0 ++ xs).length = N ∧ G < w7.heap.size) := ⟨hT7, hO7, hG7, hxl, (hO7.lt G rfl).2⟩
    clear hO hF hb S7 C7 hQ hT7 hG7 hO7 hxl hbx S7x C7x hQx KN6
    go_wp2_with fail
    refine K7.mono ?_
    rintro e w8 ⟨v, rfl, hO, hF, hb⟩
    obtain ⟨nr, hnr⟩ : ∃ nr, rs.length = nr := ⟨_, rfl⟩
    obtain ⟨q8, c8, rfl, S8, C8, hQ⟩ := hO.tell (n := nr) HM.out.2.2.1.r.byt hnr
    have hO8 : Ow w8 (R + 1) (.slice (some ⟨G, 0, none⟩) N N) (List.replicate S 0 ++ xs) := H7.out.2.1.block fun i hi => hb.block i (H7.out.2.1.lt i hi).2 (by cases hi; exact H7.out.2.2.1)
    have hT8 := H7.out.1.next hF hb
    obtain ⟨m9, W9, hcp, hO9, hb9⟩ := run_copy_front w8 3 (R + 1) G N nr c8 N q8 (List.replicate S 0 ++ xs) rs hO8 H7.out.2.2.2.1 S8 (by rw [← hnr]; have := HM.out.2.2.1.len; have := HM.out.2.1; omega)
    have hT9 := hT8.past hb9 (by have := (hO8.lt G rfl).1; have := HM.out.2.2.2.2.2.2.2.1; omega) (by have := HM.out.2.2.2.2.2.2.2.2; have := (hO8.lt G rfl).1; omega) (by have := H7.out.2.2.1; omega) (by have := (hO8.lt G rfl).1; omega)
    have H9 : Hid (Tc k Bf T R N K B w W9 ∧ Ow W9 (R + 1) (.slice (some ⟨G, 0, none⟩) N N) (rs ++ (List.replicate S 0 ++ xs).drop rs.length)) := ⟨hT9, hnr ▸ hO9⟩
    clear hO hF hb S8 C8 hQ hO8 hT8 hO9 hb9 hT9 K7
    go_wp2
    go_ret2
    exact ⟨_, rfl, H9.out.2.mono (by have := HM.out.2.2.2.2.2.2.2.1; omega), H9.out.1.tw.fd, H9.out.1.tw.but⟩
end Go.Proofs
