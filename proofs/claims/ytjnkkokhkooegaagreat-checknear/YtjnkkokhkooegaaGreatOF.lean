/- Texts laid together: Cln, EnG. Each says its own conditions. -/
import Derived.Test.YtjnkkokhkooegaaGreatMG
import Derived.Test.YtjnkkokhkooegaaGreatOE
/- The walk of slices.Clone of bytes. Conditions: a list that is no great one. -/
namespace Go.Proofs
open Go.RowKit Go.ChangeShapes Go.WideShapes
attribute [local go_sem ↓ high] builtin_ap
attribute [local go_sem] ap_sem

theorem ow_empty (W : World) : Ow (W.alloc (.cells #[] 5)) W.heap.size (.slice (some ⟨W.heap.size, 0, none⟩) 0 0) [] :=
  ⟨rfl, .inr ⟨W.heap.size, 0, #[], rfl, Nat.le_refl _, World.alloc_heap_new W _, Nat.zero_le _, by unfold maxLen; omega, rfl, rfl⟩⟩
/-- Is a list of bytes nil? -/
theorem eql_nil (q : Option Addr) (n c : Nat) (W : World) : (binOp .eql 22 (.slice q n c) (.slice none 0 0)).run Tryz.prog W = .ok (.bool q.isNone) W := by
  have e : (Op.equalIn (9999 + 1) 22 (.slice q n c) (.slice none 0 0)).run Tryz.prog W = .ok q.isNone W := by
    unfold Op.equalIn
    cases q <;> simp [run_underlying Tryz.underlying22]
  have e2 : (Op.equal 22 (.slice q n c) (.slice none 0 0)).run Tryz.prog W = .ok q.isNone W := e
  simp [binOp, e2]
set_option maxRecDepth 100000 in
set_option maxHeartbeats 1000000 in
theorem clone_calls (q : Option Addr) (n c : Nat) (xs : List Nat) (hn : n ≤ 1000000000) (w : World) (hs : Bs w q n xs) :
    Calls Tryz.prog 45 #[.slice q n c] w fun e w' => ∃ v, e = .returned v ∧ Ow w' w.heap.size v xs ∧ Below w.heap.size w w' := by
  cases q with
  | none =>
    have h0 : n = 0 := by
      rcases Nat.eq_zero_or_pos n with h | h
      · exact h
      · obtain ⟨_, e, _⟩ := hs.cell 0 h; cases e
    subst h0
    obtain rfl : xs = [] := List.length_eq_zero_iff.1 hs.len
    clear hs
    have he := eql_nil none 0 c
    go_enter Tryz.func45, Tryz.ntmps45
    go_wp2
    go_ret
    exact ⟨_, rfl, ow_nil _ _, Below.refl _ _⟩
  | some a =>
    obtain ⟨W1, hW1⟩ : ∃ W1, w.alloc (.cells #[] 5) = W1 := ⟨_, rfl⟩
    have hb : Below w.heap.size w W1 := hW1 ▸ (Below.refl _ w).alloc (Nat.le_refl _) _
    have hO := ow_empty w
    rw [hW1] at hO
    obtain ⟨v', W', hap, hO', hg⟩ := run_append_list W1 w.heap.size (.slice (some ⟨w.heap.size, 0, none⟩) 0 0) [] (some a) n c xs hO (hs.below hb) (by simp; omega) hb.size
    have hok := ap_ok hap
    have hv := ap_v hap
    have hw := ap_w hap
    have he := eql_nil (some a) n c
    have HZ : Hid (Ow W' w.heap.size v' xs ∧ Below w.heap.size w W') := ⟨hO', hb.grown hg hb.size (fun k e => by cases e; exact Nat.le_refl _)⟩
    clear hs hn hO' hg hO hap hb
    go_enter Tryz.func45, Tryz.ntmps45
    go_wp2
    go_ret
    exact ⟨_, rfl, HZ.out⟩
end Go.Proofs
/- The walk of encode.Message. Conditions: any code; any list. -/
namespace Go.Proofs
open Go.RowKit Go.ChangeShapes Go.WideShapes
open Pol (IsN Dg ofL Byt)

set_option maxRecDepth 100000 in
set_option maxHeartbeats 2000000 in
theorem eme_ok (N K B S c : Nat) (q : Option Addr) (xs ms : List Nat) (h : Cod N K B) (hS : N - K = S) (hm : xs.drop S = ms) (hc : N ≤ c) (w : World) (hs : Bs w q N xs) :
    Calls Tryz.prog 44 #[.agg #[.int .i64 (N : Nat), .int .i64 (K : Nat), .int .i64 (B : Nat)], .slice q N c] w fun e w' => ∃ v, e = .returned (.tuple #[v, .int .u16 0]) ∧ Ow w' w.heap.size v ms ∧ Below w.heap.size w w' := by
  obtain ⟨R, hR⟩ : ∃ R, w.heap.size = R := ⟨_, rfl⟩
  obtain ⟨W0, hW0⟩ : ∃ W0, w.alloc (.cells #[.int .i64 (N : Nat), .int .i64 (K : Nat), .int .i64 (B : Nat)] 26) = W0 := ⟨_, rfl⟩
  have hb0 : Below w.heap.size w W0 := hW0 ▸ (Below.refl _ w).alloc (Nat.le_refl _) _
  have hC : Cb W0 R (N : Nat) (K : Nat) (B : Nat) := by rw [← hW0, ← hR]; exact cb_new w _ _ _
  have KR : Hid (∀ W, Cb W R (N : Nat) (K : Nat) (B : Nat) ∧ Below w.heap.size w W → Calls Tryz.prog 62 #[.agg #[.int .i64 (N : Nat), .int .i64 (K : Nat), .int .i64 (B : Nat)]] W fun e w' => ∃ a, e = .returned (.agg #[.func (.func 78) #[] #[.pointer (some ⟨a, 0, none⟩)], .int .u16 10]) ∧ Cb w' a (N : Nat) (K : Nat) (B : Nat) ∧ (Cb w' R (N : Nat) (K : Nat) (B : Nat) ∧ Below w.heap.size w w') ∧ Below W.heap.size W w') := fun W hW =>
    (eright_calls N K B W).mono fun e w' ⟨a, he, ha, hb⟩ => ⟨a, he, ha, ⟨hW.1.below hb, hW.2.trans (hb.mono hW.2.size)⟩, hb⟩
  have KL : Hid (∀ W, Cb W R (N : Nat) (K : Nat) (B : Nat) ∧ Below w.heap.size w W → Calls Tryz.prog 63 #[.slice q N c, .int .i64 (N : Nat)] W fun e w' => ∃ a b, e = .returned (.agg #[.func (.func 79) #[] #[.pointer (some ⟨a, 0, none⟩), .pointer (some ⟨b, 0, none⟩)], .int .u16 12]) ∧ w'.cell? ⟨a, 0, none⟩ = some (.slice q N c) ∧ w'.cell? ⟨b, 0, none⟩ = some (.int .i64 (N : Nat)) ∧ (Cb w' R (N : Nat) (K : Nat) (B : Nat) ∧ Below w.heap.size w w') ∧ Below W.heap.size W w') := fun W hW =>
    (elong_calls q N c N W).mono fun e w' ⟨a, b, he, ha, hb', hb⟩ => ⟨a, b, he, ha, hb', ⟨hW.1.below hb, hW.2.trans (hb.mono hW.2.size)⟩, hb⟩
  have KF : Hid (∀ a2 a3 a4 W2 W3, Cb W2 a2 (N : Nat) (K : Nat) (B : Nat) → Below W2.heap.size W2 W3 → W3.cell? ⟨a3, 0, none⟩ = some (.slice q N c) → W3.cell? ⟨a4, 0, none⟩ = some (.int .i64 (N : Nat)) → (Cb W3 R (N : Nat) (K : Nat) (B : Nat) ∧ Below w.heap.size w W3) →
      Calls Tryz.prog 61 #[.slice (some ⟨W3.heap.size, 0, none⟩) 2 2] (W3.alloc (.cells #[.func (.func 78) #[] #[.pointer (some ⟨a2, 0, none⟩)], .int .u16 10, .func (.func 79) #[] #[.pointer (some ⟨a3, 0, none⟩), .pointer (some ⟨a4, 0, none⟩)], .int .u16 12] 115)) fun e w' => e = .returned (.int .u16 0) ∧ (Cb w' R (N : Nat) (K : Nat) (B : Nat) ∧ Below w.heap.size w w')) := fun a2 a3 a4 W2 W3 h2 b2 h3 h4 hW =>
    (efirst2_calls N K B N q N c a2 a3 a4 0 ((fe2 a2 a3 a4 N N K B N).trans (by rw [h.yes]; simp)) W3 (h2.below b2) h3 h4).mono fun e w' ⟨he, hb⟩ => ⟨he, hW.1.below hb, hW.2.trans (hb.mono hW.2.size)⟩
  have KS : Hid (∀ W, Cb W R (N : Nat) (K : Nat) (B : Nat) ∧ Below w.heap.size w W → Calls Tryz.prog 43 #[.agg #[.int .i64 (N : Nat), .int .i64 (K : Nat), .int .i64 (B : Nat)]] W fun e w' => e = .returned (.int .i64 (S : Nat)) ∧ Below w.heap.size w w') := fun W hW =>
    (cspace_e N K B S h hS W).mono fun _ _ ⟨e, hb⟩ => ⟨e, hW.2.trans (hb.mono hW.2.size)⟩
  have HM : Hid (Cod N K B ∧ N - K = S ∧ xs.drop S = ms ∧ Bs w q N xs ∧ N ≤ c) := ⟨h, hS, hm, hs, hc⟩
  have hSN : (S : Int) ≤ (N : Int) := by omega
  have hNc : (N : Int) ≤ (c : Int) := by omega
  have hT0 : Cb W0.drew R (N : Nat) (K : Nat) (B : Nat) ∧ Below w.heap.size w W0.drew := ⟨hC.drew, hb0.drew⟩
  clear hb0 h hS hm hs hc
  have c0 := (hC).c0
  have c1 := (hC).c1
  have c2 := (hC).c2
  clear hC
  go_enter Tryz.func44, Tryz.ntmps44
  go_wp2
  go_region_held3 (fun w' => w'.cell? ⟨R, 0, none⟩ = some (.int .i64 (N : Nat)) ∧ w'.cell? ⟨R, 1, none⟩ = some (.int .i64 (K : Nat)) ∧ w'.cell? ⟨R, 2, none⟩ = some (.int .i64 (B : Nat)))
    (first | (with_reducible exact ⟨hT4.1.c0, hT4.1.c1, hT4.1.c2⟩) | (with_reducible exact ⟨cell_alloc_l _ hT3.1.c0, cell_alloc_l _ hT3.1.c1, cell_alloc_l _ hT3.1.c2⟩) | (with_reducible exact ⟨hT3.1.c0, hT3.1.c1, hT3.1.c2⟩) | (with_reducible exact ⟨hT2.1.c0, hT2.1.c1, hT2.1.c2⟩) | (with_reducible exact ⟨hT0.1.c0, hT0.1.c1, hT0.1.c2⟩))
    (first
      | (go_at_call 62; with_reducible refine (KR.out _ hT0).mono ?_; rintro e w2 ⟨a2, rfl, h2, hT2, hb2⟩)
      | (go_at_call 63; with_reducible refine (KL.out _ hT2).mono ?_; rintro e w3 ⟨a3, a4, rfl, h3, h4, hT3, hb3⟩)
      | (go_at_call 61; with_reducible refine (KF.out _ _ _ _ _ h2 hb3 h3 h4 hT3).mono ?_; rintro e w4 ⟨rfl, hT4⟩))
  have KS4 := KS.out w4 hT4
  have hC := hT4.1
  clear KR KL KF KS hT0 hT2 hT3 hT4 h2 h3 h4 hb2 hb3 c0 c1 c2
  have c0 := (hC).c0
  have c1 := (hC).c1
  have c2 := (hC).c2
  clear hC
  go_wp2_with fail
  refine KS4.mono ?_
  rintro e w5 ⟨rfl, hb5⟩
  clear c0 c1 c2
  obtain ⟨q5, hq5⟩ : ∃ q5, (if c = S then q else q.map (fun x => x.add S)) = q5 := ⟨_, rfl⟩
  have S5 := bs_sub (HM.out.2.2.2.1.below hb5) c S N (by omega) (Nat.le_refl _) HM.out.2.2.2.2
  rw [hq5] at S5
  have e5 : ((List.range (N - S)).map fun i => xs.getD (S + i) 0) = ms := by
    rw [← HM.out.2.2.1]
    refine Mx.list_ext (by rw [List.length_map, List.length_range, List.length_drop, HM.out.2.2.2.1.len]) fun i hi => ?_
    rw [List.length_map, List.length_range] at hi
    rw [Mx.getD_range_map _ _ _ hi, Cd.drop_getD]
  rw [e5] at S5
  have KC := clone_calls q5 (N - S) (c - S) ms (by have := HM.out.1.m; omega) w5 S5
  have H5 : Hid (Below w.heap.size w w5) := hb5
  clear KS4 hb5 S5 e5
  go_wp2_with fail
  refine KC.mono ?_
  rintro e w6 ⟨v, rfl, hO, hb⟩
  have H6 : Hid (Ow w6 w.heap.size v ms ∧ Below w.heap.size w w6) := ⟨hO.mono H5.out.size, H5.out.trans (hb.mono H5.out.size)⟩
  clear KC hO hb
  go_wp2
  go_ret2
  exact ⟨_, rfl, H6.out⟩

/-! ## Of any code and any list, in one word -/
/-- What Encode tells: the word, the error. -/
def IsEn (N K B : Int) (xs ws : List Nat) (r : Nat) : Prop := (cdB N K B = false ∧ ws = [] ∧ r = 10) ∨ (cdB N K B = true ∧ ¬ (xs.length : Int) = K ∧ ws = [] ∧ r = 12) ∨ (r = 0 ∧ ∃ n k b s : Nat, N = (n : Int) ∧ K = (k : Int) ∧ B = (b : Int) ∧ Cod n k b ∧ n - k = s ∧ xs.length = k ∧ Cd.IsEnc n s b xs ws)
/-- What Message tells. -/
def IsMe (N K B : Int) (xs ms : List Nat) (r : Nat) : Prop := (cdB N K B = false ∧ ms = [] ∧ r = 10) ∨ (cdB N K B = true ∧ ¬ (xs.length : Int) = N ∧ ms = [] ∧ r = 12) ∨ (r = 0 ∧ ∃ n k b s : Nat, N = (n : Int) ∧ K = (k : Int) ∧ B = (b : Int) ∧ Cod n k b ∧ n - k = s ∧ xs.length = n ∧ xs.drop s = ms)
theorem byt_drop {xs : List Nat} (h : Byt xs) (s : Nat) : Byt (xs.drop s) := fun i => by rw [Cd.drop_getD]; exact h _
theorem IsEn.byt {N K B : Int} {xs ws : List Nat} {r : Nat} (h : IsEn N K B xs ws r) : Byt ws := by
  rcases h with ⟨_, rfl, _⟩ | ⟨_, _, rfl, _⟩ | ⟨_, _, _, _, _, _, _, _, _, _, _, h⟩
  · exact Pol.byt_nil
  · exact Pol.byt_nil
  · exact h.byt
theorem IsMe.byt {N K B : Int} {xs ms : List Nat} {r : Nat} (h : IsMe N K B xs ms r) (bx : Byt xs) : Byt ms := by
  rcases h with ⟨_, rfl, _⟩ | ⟨_, _, rfl, _⟩ | ⟨_, _, _, _, _, _, _, _, _, _, _, rfl⟩
  · exact Pol.byt_nil
  · exact Pol.byt_nil
  · exact byt_drop bx _
theorem IsEn.len {N K B : Int} {xs ws : List Nat} {r : Nat} (h : IsEn N K B xs ws r) : ws.length ≤ 255 := by
  rcases h with ⟨_, rfl, _⟩ | ⟨_, _, rfl, _⟩ | ⟨_, _, _, _, _, _, _, _, hc, _, _, h⟩
  · simp
  · simp
  · rw [h.word.1]; exact hc.m
theorem IsMe.len {N K B : Int} {xs ms : List Nat} {r : Nat} (h : IsMe N K B xs ms r) : ms.length ≤ 255 := by
  rcases h with ⟨_, rfl, _⟩ | ⟨_, _, rfl, _⟩ | ⟨_, _, _, _, _, _, _, _, hc, _, hl, rfl⟩
  · simp
  · simp
  · rw [List.length_drop, hl]; have := hc.m; omega
theorem IsEn.num {N K B : Int} {xs ws : List Nat} {r : Nat} (h : IsEn N K B xs ws r) : r ≤ 12 := by
  rcases h with ⟨_, _, rfl⟩ | ⟨_, _, _, rfl⟩ | ⟨rfl, _⟩ <;> omega
theorem IsMe.num {N K B : Int} {xs ws : List Nat} {r : Nat} (h : IsMe N K B xs ws r) : r ≤ 12 := by
  rcases h with ⟨_, _, rfl⟩ | ⟨_, _, _, rfl⟩ | ⟨rfl, _⟩ <;> omega
end Go.Proofs
