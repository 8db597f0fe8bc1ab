/- Texts laid together: ChF, ChC, ChD. Each says its own conditions. -/
import Derived.Test.YtjnkkokhkooegaaGreatNW
import Derived.Test.YtjnkkokhkooegaaGreatOA
import Derived.Test.YtjnkkokhkooegaaGreatPV
import Derived.Test.YtjnkkokhkooegaaGreatOM
/- The walk of check.Fits. Conditions: none. -/
namespace Go.Proofs
open Go.RowKit Go.ChangeShapes Go.WideShapes

/-- May so much be mended? -/
def fitB (N K B W E : Int) : Bool := cdB N K B && decide (0 ≤ W) && decide (0 ≤ E) && decide (2 * W + E ≤ N - K)
theorem fitB_no {N K B : Int} (h : cdB N K B = false) (W E : Int) : fitB N K B W E = false := by simp [fitB, h]
theorem fitB_yes {N K B : Int} (h : cdB N K B = true) (W E : Int) : fitB N K B W E = (decide (0 ≤ W) && decide (0 ≤ E) && decide (2 * W + E ≤ N - K)) := by simp [fitB, h]

set_option maxRecDepth 100000 in
set_option maxHeartbeats 1000000 in
theorem fits_calls (N K B W E : Int) (w : World) :
    Calls Tryz.prog 22 #[.agg #[.int .i64 N, .int .i64 K, .int .i64 B], .int .i64 W, .int .i64 E] w fun e w' => e = .returned (.bool (fitB N K B W E)) ∧ Below w.heap.size w w' := by
  obtain ⟨R, hR⟩ : ∃ R, w.heap.size = R := ⟨_, rfl⟩
  obtain ⟨W0, hW0⟩ : ∃ W0, w.alloc (.cells #[.int .i64 N, .int .i64 K, .int .i64 B] 26) = W0 := ⟨_, rfl⟩
  have hb0 : Below w.heap.size w W0 := hW0 ▸ (Below.refl _ w).alloc (Nat.le_refl _) _
  have hC : Cb W0 R N K B := by rw [← hW0, ← hR]; exact cb_new w _ _ _
  have HB : Hid (Below w.heap.size w W0 ∧ Cb W0 R N K B) := ⟨hb0, hC⟩
  clear hb0
  cases hv : cdB N K B with
  | false =>
    rw [fitB_no hv]
    have K1 := cspace_i N K B 0 (cdS_no hv) W0
    have K2 : Hid (∀ W, Calls Tryz.prog 33 #[.agg #[.int .i64 N, .int .i64 K, .int .i64 B]] W fun e w' => e = .returned (.int .u16 10) ∧ Below W.heap.size W w') := fun W => cright_e N K B 10 (cdE_no hv) W
    have c0 := (hC).c0
    have c1 := (hC).c1
    have c2 := (hC).c2
    clear hC hv
    go_enter Tryz.func22, Tryz.ntmps22
    go_wp2_with fail
    refine K1.mono ?_
    rintro e w1 ⟨rfl, hb1⟩
    clear c0 c1 c2
    have hC := HB.out.2.below hb1
    have c0 := (hC).c0
    have c1 := (hC).c1
    have c2 := (hC).c2
    have H1 : Hid (Below w.heap.size w w1) := HB.out.1.trans (hb1.mono HB.out.1.size)
    clear K1 hb1 hC
    go_wp2_with fail
    refine (K2.out w1).mono ?_
    rintro e w2 ⟨rfl, hb2⟩
    go_wp2
    go_ret
    exact ⟨rfl, H1.out.trans (hb2.mono H1.out.size)⟩
  | true =>
    rw [fitB_yes hv]
    obtain ⟨n, k, b, rfl, rfl, rfl, hcod⟩ := cod_of hv
    obtain ⟨S, hS⟩ : ∃ S, n - k = S := ⟨_, rfl⟩
    have K1 := cspace_e n k b S hcod hS W0
    have K2 : Hid (∀ W, Calls Tryz.prog 33 #[.agg #[.int .i64 (n : Int), .int .i64 (k : Int), .int .i64 (b : Int)]] W fun e w' => e = .returned (.int .u16 0) ∧ Below W.heap.size W w') := fun W => cright_e n k b 0 (cdE_yes hv) W
    have hSi : (n : Int) - (k : Int) = (S : Int) := by have := hcod.n; omega
    have hS2 : (S : Int) ≤ 255 := by have := hcod.m; omega
    rw [hSi]
    have HX : Hid (∀ w1, Below W0.heap.size W0 w1 → Below w.heap.size w w1 ∧ Cb w1 R n k b) := fun w1 h => ⟨HB.out.1.trans (h.mono HB.out.1.size), HB.out.2.below h⟩
    have c0 := (hC).c0
    have c1 := (hC).c1
    have c2 := (hC).c2
    clear hC hv hcod hS hSi HB
    by_cases h1 : 0 ≤ W
    · by_cases h2 : 0 ≤ E
      · by_cases h3 : E ≤ (S : Int)
        · obtain ⟨d, hd⟩ : ∃ d : Nat, (S : Int) - E = (d : Int) := ⟨((S : Int) - E).toNat, by omega⟩
          obtain ⟨q, hq⟩ : ∃ q : Nat, d / 2 = q := ⟨_, rfl⟩
          have hd2 : IntKind.i64.wrap (d : Int) = (d : Int) := wrap_nat d (by omega)
          have hq1 : (d : Int).tdiv 2 = (q : Int) := by rw [← hq]; rfl
          have hq2 : (d : Int) / 2 = (q : Int) := by omega
          have hq3 : IntKind.i64.wrap (q : Int) = (q : Int) := wrap_nat q (by omega)
          have hres : (decide (0 ≤ W) && decide (0 ≤ E) && decide (2 * W + E ≤ (S : Int))) = decide (W ≤ (q : Int)) := by
            rw [decide_eq_true h1, decide_eq_true h2, Bool.true_and, Bool.true_and, decide_eq_decide]
            omega
          rw [hres]
          clear hres hq
          go_enter Tryz.func22, Tryz.ntmps22
          go_wp2_with fail
          refine K1.mono ?_
          rintro e w1 ⟨rfl, hb1⟩
          clear c0 c1 c2
          have hC := (HX.out w1 hb1).2
          have H1 : Hid (Below w.heap.size w w1) := (HX.out w1 hb1).1
          have c0 := (hC).c0
          have c1 := (hC).c1
          have c2 := (hC).c2
          clear K1 hb1 hC
          go_wp2_with fail
          refine (K2.out w1).mono ?_
          rintro e w2 ⟨rfl, hb2⟩
          go_wp2
          go_ret
          exact ⟨rfl, H1.out.trans (hb2.mono H1.out.size)⟩
        · have hres : (decide (0 ≤ W) && decide (0 ≤ E) && decide (2 * W + E ≤ (S : Int))) = false := by simp; omega
          have h3f : (E ≤ (S : Int)) = False := eq_false h3
          rw [hres]
          clear hres
          go_enter Tryz.func22, Tryz.ntmps22
          go_wp2_with fail
          refine K1.mono ?_
          rintro e w1 ⟨rfl, hb1⟩
          clear c0 c1 c2
          have hC := (HX.out w1 hb1).2
          have H1 : Hid (Below w.heap.size w w1) := (HX.out w1 hb1).1
          have c0 := (hC).c0
          have c1 := (hC).c1
          have c2 := (hC).c2
          clear K1 hb1 hC
          go_wp2_with fail
          refine (K2.out w1).mono ?_
          rintro e w2 ⟨rfl, hb2⟩
          go_wp2
          go_ret
          exact ⟨rfl, H1.out.trans (hb2.mono H1.out.size)⟩
      · have hres : (decide (0 ≤ W) && decide (0 ≤ E) && decide (2 * W + E ≤ (S : Int))) = false := by simp; omega
        have h2f : (0 ≤ E) = False := eq_false h2
        rw [hres]
        clear hres
        go_enter Tryz.func22, Tryz.ntmps22
        go_wp2_with fail
        refine K1.mono ?_
        rintro e w1 ⟨rfl, hb1⟩
        clear c0 c1 c2
        have hC := (HX.out w1 hb1).2
        have H1 : Hid (Below w.heap.size w w1) := (HX.out w1 hb1).1
        have c0 := (hC).c0
        have c1 := (hC).c1
        have c2 := (hC).c2
        clear K1 hb1 hC
        go_wp2_with fail
        refine (K2.out w1).mono ?_
        rintro e w2 ⟨rfl, hb2⟩
        go_wp2
        go_ret
        exact ⟨rfl, H1.out.trans (hb2.mono H1.out.size)⟩
    · have hres : (decide (0 ≤ W) && decide (0 ≤ E) && decide (2 * W + E ≤ (S : Int))) = false := by simp; omega
      have h1f : (0 ≤ W) = False := eq_false h1
      rw [hres]
      clear hres
      go_enter Tryz.func22, Tryz.ntmps22
      go_wp2_with fail
      refine K1.mono ?_
      rintro e w1 ⟨rfl, hb1⟩
      clear c0 c1 c2
      have hC := (HX.out w1 hb1).2
      have H1 : Hid (Below w.heap.size w w1) := (HX.out w1 hb1).1
      have c0 := (hC).c0
      have c1 := (hC).c1
      have c2 := (hC).c2
      clear K1 hb1 hC
      go_wp2_with fail
      refine (K2.out w1).mono ?_
      rintro e w2 ⟨rfl, hb2⟩
      go_wp2
      go_ret
      exact ⟨rfl, H1.out.trans (hb2.mono H1.out.size)⟩
end Go.Proofs
/- The walks of the closures of check.Accept, and of Accept itself. Conditions: lists of at most a million; a field that Of has made, or none (told by what code.Has tells). -/
namespace Go.Proofs
open Go.RowKit Go.ChangeShapes Go.WideShapes

/-- What Accept's boxes hold. -/
structure AcB (R : Nat) (P : Option Addr) (N K B : Int) (q : Option Addr) (n c : Nat) (s : Option Addr) (l k : Nat) (p : Option Addr) (m d : Nat) (W : World) : Prop where
  cf : W.cell? ⟨R, 0, none⟩ = some (.pointer P)
  cb : Cb W (R + 1) N K B
  cr : W.cell? ⟨R + 1 + 1, 0, none⟩ = some (.slice q n c)
  ce : W.cell? ⟨R + 1 + 1 + 1, 0, none⟩ = some (.slice s l k)
  cw : W.cell? ⟨R + 1 + 1 + 1 + 1, 0, none⟩ = some (.slice p m d)
section
variable {R : Nat} {P : Option Addr} {N K B : Int} {q : Option Addr} {n c : Nat} {s : Option Addr} {l k : Nat} {p : Option Addr} {m d : Nat} {W W' : World}
theorem AcB.but {S : Nat → Prop} (h : AcB R P N K B q n c s l k p m d W) (hb : But S W W') (hS : ∀ k, S k → k < R) : AcB R P N K B q n c s l k p m d W' :=
  ⟨(hb.cell (p := ⟨R, 0, none⟩) (World.block_lt_of_cell? _ _ h.cf) (fun e => by have := hS _ e; dsimp only at this; omega)).trans h.cf, h.cb.but hb (fun e => by have := hS _ e; omega),
   (hb.cell (p := ⟨R + 1 + 1, 0, none⟩) (World.block_lt_of_cell? _ _ h.cr) (fun e => by have := hS _ e; dsimp only at this; omega)).trans h.cr,
   (hb.cell (p := ⟨R + 1 + 1 + 1, 0, none⟩) (World.block_lt_of_cell? _ _ h.ce) (fun e => by have := hS _ e; dsimp only at this; omega)).trans h.ce,
   (hb.cell (p := ⟨R + 1 + 1 + 1 + 1, 0, none⟩) (World.block_lt_of_cell? _ _ h.cw) (fun e => by have := hS _ e; dsimp only at this; omega)).trans h.cw⟩
theorem AcB.below (h : AcB R P N K B q n c s l k p m d W) (hb : Below W.heap.size W W') : AcB R P N K B q n c s l k p m d W' := h.but (But.of_below (S := fun _ => False) hb) (fun _ e => e.elim)
set_option maxRecDepth 100000 in
theorem ac1_calls (h : AcB R P N K B q n c s l k p m d W) :
    Calls Tryz.prog 32 #[.pointer (some ⟨R + 1, 0, none⟩)] W fun e w' => e = .returned (.bool (cdB N K B)) ∧ Below W.heap.size W w' := by
  have K1 := cright_calls N K B W
  have hC := h.cb
  have c0 := (hC).c0
  have c1 := (hC).c1
  have c2 := (hC).c2
  clear h hC
  cases hc : cdB N K B with
  | false =>
    rw [cdE_no hc] at K1
    clear hc
    go_enter Tryz.func32, Tryz.ntmps32
    go_wp2_with fail
    refine K1.mono ?_
    rintro e w1 ⟨rfl, hb⟩
    go_wp2
    go_ret
    exact ⟨rfl, hb⟩
  | true =>
    rw [cdE_yes hc] at K1
    clear hc
    go_enter Tryz.func32, Tryz.ntmps32
    go_wp2_with fail
    refine K1.mono ?_
    rintro e w1 ⟨rfl, hb⟩
    go_wp2
    go_ret
    exact ⟨rfl, hb⟩
set_option maxRecDepth 100000 in
theorem ac2_calls (h : AcB R P N K B q n c s l k p m d W) :
    Calls Tryz.prog 34 #[.pointer (some ⟨R + 1 + 1, 0, none⟩), .pointer (some ⟨R + 1, 0, none⟩), .pointer (some ⟨R + 1 + 1 + 1 + 1, 0, none⟩)] W fun e w' => e = .returned (.bool (decide ((n : Int) = N) && decide ((m : Int) = N))) ∧ Below W.heap.size W w' := by
  have c0 := h.cb.c0
  have c1 := h.cr
  have c2 := h.cw
  clear h
  by_cases h1 : (n : Int) = N
  · rw [decide_eq_true h1, Bool.true_and]
    have h1b : ((n : Int) == N) = true := by simp [h1]
    by_cases h2 : (m : Int) = N
    · rw [decide_eq_true h2]
      have h2b : ((m : Int) == N) = true := by simp [h2]
      clear h1 h2
      go_enter Tryz.func34, Tryz.ntmps34
      go_wp2
      go_ret
      exact ⟨by first | rfl | simp, Below.refl _ _⟩
    · rw [decide_eq_false h2]
      have h2b : ((m : Int) == N) = false := by simp [h2]
      clear h1 h2
      go_enter Tryz.func34, Tryz.ntmps34
      go_wp2
      go_ret
      exact ⟨by first | rfl | simp, Below.refl _ _⟩
  · rw [decide_eq_false h1, Bool.false_and]
    have h1b : ((n : Int) == N) = false := by simp [h1]
    clear h1
    go_enter Tryz.func34, Tryz.ntmps34
    go_wp2
    go_ret
    exact ⟨by first | rfl | simp, Below.refl _ _⟩
set_option maxRecDepth 100000 in
theorem ac3_calls (zs : List Int) (hl : l ≤ 1000000) (h : AcB R P N K B q n c s l k p m d W) (hz : Ns .i64 W s l zs) :
    Calls Tryz.prog 35 #[.pointer (some ⟨R + 1, 0, none⟩), .pointer (some ⟨R + 1 + 1 + 1, 0, none⟩)] W fun e w' => e = .returned (.bool (decide (erE N K B zs = 0))) ∧ Below W.heap.size W w' := by
  have K1 := fun r hr => erasures_calls N K B s l k zs r hr hl W hz
  have hC := h.cb
  have c0 := (hC).c0
  have c1 := (hC).c1
  have c2 := (hC).c2
  have c4 := h.ce
  clear h hC hz hl
  obtain ⟨r, hr⟩ : ∃ r, erE N K B zs = r := ⟨_, rfl⟩
  rw [hr]
  replace K1 := K1 r hr
  clear hr
  by_cases h0 : r = 0
  · subst h0
    go_enter Tryz.func35, Tryz.ntmps35
    go_wp2_with fail
    refine K1.mono ?_
    rintro e w1 ⟨rfl, hb⟩
    go_wp2
    go_ret
    exact ⟨by first | rfl | simp, hb⟩
  · have hb0 : (r == 0) = false := by simp [h0]
    rw [decide_eq_false h0]
    clear h0
    go_enter Tryz.func35, Tryz.ntmps35
    go_wp2_with fail
    refine K1.mono ?_
    rintro e w1 ⟨rfl, hb⟩
    go_wp2
    go_ret
    exact ⟨by first | rfl | simp, hb⟩
set_option maxRecDepth 100000 in
theorem ac4_calls (bh : Bool) (Q : World → Prop) (h : AcB R P N K B q n c s l k p m d W) (KH : Calls Tryz.prog 38 #[.pointer P, .agg #[.int .i64 N, .int .i64 K, .int .i64 B], .slice p m d] W fun e w' => e = .returned (.bool bh) ∧ Q w') :
    Calls Tryz.prog 37 #[.pointer (some ⟨R, 0, none⟩), .pointer (some ⟨R + 1, 0, none⟩), .pointer (some ⟨R + 1 + 1 + 1 + 1, 0, none⟩)] W fun e w' => e = .returned (.bool bh) ∧ Q w' := by
  have hC := h.cb
  have c0 := (hC).c0
  have c1 := (hC).c1
  have c2 := (hC).c2
  have c4 := h.cf
  have c5 := h.cw
  clear h hC
  go_enter Tryz.func37, Tryz.ntmps37
  go_wp2_with fail
  refine KH.mono ?_
  rintro e w1 ⟨rfl, hb⟩
  go_wp2
  go_ret
  exact ⟨rfl, hb⟩
set_option maxRecDepth 100000 in
set_option maxHeartbeats 1000000 in
theorem ac5_calls (xs ys : List Nat) (zs : List Int) (hn : n ≤ 1000000) (hl : l ≤ 1000000) (h : AcB R P N K B q n c s l k p m d W) (hs : Bs W q n xs) (hy : Bs W p m ys) (hz : Ns .i64 W s l zs) :
    Calls Tryz.prog 39 #[.pointer (some ⟨R + 1, 0, none⟩), .pointer (some ⟨R + 1 + 1, 0, none⟩), .pointer (some ⟨R + 1 + 1 + 1 + 1, 0, none⟩), .pointer (some ⟨R + 1 + 1 + 1, 0, none⟩)] W fun e w' => e = .returned (.bool (fitB N K B ((Cd.wrZ xs ys zs : Nat) : Int) (l : Int))) ∧ Below W.heap.size W w' := by
  have hT0 : AcB R P N K B q n c s l k p m d W.drew ∧ Below W.heap.size W W.drew := ⟨h.below (Below.refl _ W).drew, (Below.refl _ W).drew⟩
  have K1 : Hid (∀ V, AcB R P N K B q n c s l k p m d V ∧ Below W.heap.size W V → Calls Tryz.prog 20 #[.slice q n c, .slice p m d, .slice s l k] V fun e w' => e = .returned (.int .i64 (Cd.wrZ xs ys zs : Nat)) ∧ (AcB R P N K B q n c s l k p m d w' ∧ Below W.heap.size W w')) := fun V hV =>
    (wrong_calls q p s n c m d l k xs ys zs hn hl V (hs.below hV.2) (hy.below hV.2) (hz.below hV.2)).mono fun e w' ⟨he, hb⟩ => ⟨he, hV.1.below hb, hV.2.trans (hb.mono hV.2.size)⟩
  have K2 : Hid (∀ V, AcB R P N K B q n c s l k p m d V ∧ Below W.heap.size W V → Calls Tryz.prog 22 #[.agg #[.int .i64 N, .int .i64 K, .int .i64 B], .int .i64 ((Cd.wrZ xs ys zs : Nat) : Int), .int .i64 (l : Int)] V fun e w' => e = .returned (.bool (fitB N K B ((Cd.wrZ xs ys zs : Nat) : Int) (l : Int))) ∧ (AcB R P N K B q n c s l k p m d w' ∧ Below W.heap.size W w')) := fun V hV =>
    (fits_calls N K B _ _ V).mono fun e w' ⟨he, hb⟩ => ⟨he, hV.1.below hb, hV.2.trans (hb.mono hV.2.size)⟩
  obtain ⟨r, hr⟩ : ∃ r, Cd.wrZ xs ys zs = r := ⟨_, rfl⟩
  rw [hr] at K1 K2 ⊢
  obtain ⟨bf, hbf⟩ : ∃ bf, fitB N K B (r : Int) (l : Int) = bf := ⟨_, rfl⟩
  rw [hbf] at K2 ⊢
  have c0 := h.cb.c0
  have c1 := h.cb.c1
  have c2 := h.cb.c2
  have c3 := h.cr
  have c4 := h.ce
  have c5 := h.cw
  clear h hs hy hz hn hl hr hbf
  go_enter Tryz.func39, Tryz.ntmps39
  go_wp2
  go_region_held3 (fun w' => w'.cell? ⟨R + 1, 0, none⟩ = some (.int .i64 N) ∧ w'.cell? ⟨R + 1, 1, none⟩ = some (.int .i64 K) ∧ w'.cell? ⟨R + 1, 2, none⟩ = some (.int .i64 B) ∧ w'.cell? ⟨R + 1 + 1, 0, none⟩ = some (.slice q n c) ∧ w'.cell? ⟨R + 1 + 1 + 1, 0, none⟩ = some (.slice s l k) ∧ w'.cell? ⟨R + 1 + 1 + 1 + 1, 0, none⟩ = some (.slice p m d))
    (first | (with_reducible exact ⟨hT2.1.cb.c0, hT2.1.cb.c1, hT2.1.cb.c2, hT2.1.cr, hT2.1.ce, hT2.1.cw⟩) | (with_reducible exact ⟨hT1.1.cb.c0, hT1.1.cb.c1, hT1.1.cb.c2, hT1.1.cr, hT1.1.ce, hT1.1.cw⟩) | (with_reducible exact ⟨hT0.1.cb.c0, hT0.1.cb.c1, hT0.1.cb.c2, hT0.1.cr, hT0.1.ce, hT0.1.cw⟩))
    (first
      | (go_at_call 20; with_reducible refine (K1.out _ hT0).mono ?_; rintro e w1 ⟨rfl, hT1⟩)
      | (go_at_call 22; with_reducible refine (K2.out _ hT1).mono ?_; rintro e w2 ⟨rfl, hT2⟩))
  go_wp2
  go_ret
  exact ⟨rfl, hT2.2⟩
end
end Go.Proofs
/- The walk of check.Accept: its demands in an array, one behind the other; what it tells of any code and lists. Conditions: lists of at most a million; a field that Of has made, or none. -/
namespace Go.Proofs
open Go.RowKit Go.ChangeShapes Go.WideShapes

theorem ix5_0 (v0 v1 v2 v3 v4 : Value) (W : World) : (Instr.index 74 (.agg #[v0, v1, v2, v3, v4]) (.int .i64 0)).run Tryz.prog W = .ok v0 W := by
  simp [Instr.index, run_underlying Tryz.underlying74, asIntOf, go_sem]
theorem ix5_1 (v0 v1 v2 v3 v4 : Value) (W : World) : (Instr.index 74 (.agg #[v0, v1, v2, v3, v4]) (.int .i64 1)).run Tryz.prog W = .ok v1 W := by
  simp [Instr.index, run_underlying Tryz.underlying74, asIntOf, go_sem]
theorem ix5_2 (v0 v1 v2 v3 v4 : Value) (W : World) : (Instr.index 74 (.agg #[v0, v1, v2, v3, v4]) (.int .i64 2)).run Tryz.prog W = .ok v2 W := by
  simp [Instr.index, run_underlying Tryz.underlying74, asIntOf, go_sem]
theorem ix5_3 (v0 v1 v2 v3 v4 : Value) (W : World) : (Instr.index 74 (.agg #[v0, v1, v2, v3, v4]) (.int .i64 3)).run Tryz.prog W = .ok v3 W := by
  simp [Instr.index, run_underlying Tryz.underlying74, asIntOf, go_sem]
theorem ix5_4 (v0 v1 v2 v3 v4 : Value) (W : World) : (Instr.index 74 (.agg #[v0, v1, v2, v3, v4]) (.int .i64 4)).run Tryz.prog W = .ok v4 W := by
  simp [Instr.index, run_underlying Tryz.underlying74, asIntOf, go_sem]
attribute [local go_sem] ix5_0 ix5_1 ix5_2 ix5_3 ix5_4
theorem Bs.butS {S : Nat → Prop} {W W' : World} {q : Option Addr} {n : Nat} {L : List Nat} (h : Bs W q n L) (hb : But S W W') (hs : 0 < n → ∀ a, q = some a → ¬ S a.block) : Bs W' q n L :=
  ⟨h.len, h.max, fun i hi => by
    obtain ⟨a, e, hl, hc⟩ := h.cell i hi
    exact ⟨a, e, Nat.lt_of_lt_of_le hl hb.size, (hb.cell (p := a.add i) (by rw [block_add]; exact hl) (by rw [block_add]; exact hs (by omega) a e)).trans hc⟩, h.byte⟩
set_option maxRecDepth 100000 in
set_option maxHeartbeats 2000000 in
theorem accept_core (S : Nat → Prop) (F : World → Prop) (hFb : ∀ W W', F W → Below W.heap.size W W' → F W') (P : Option Addr) (N K B : Int) (q s p : Option Addr) (n c l k m d : Nat) (xs ys : List Nat) (zs : List Int) (bh r : Bool)
    (hr : (cdB N K B && (decide ((n : Int) = N) && decide ((m : Int) = N)) && decide (erE N K B zs = 0) && bh && fitB N K B ((Cd.wrZ xs ys zs : Nat) : Int) (l : Int)) = r) (hn : n ≤ 1000000) (hl : l ≤ 1000000) (w : World) (hS : ∀ k, S k → k < w.heap.size) (hF : F w)
    (hs : Bs w q n xs) (hy : Bs w p m ys) (hz : Ns .i64 w s l zs) (hsS : 0 < n → ∀ a, q = some a → ¬ S a.block) (hyS : 0 < m → ∀ a, p = some a → ¬ S a.block) (hzS : 0 < l → ∀ a, s = some a → ¬ S a.block)
    (KH : ∀ W, F W → But S w W → Calls Tryz.prog 38 #[.pointer P, .agg #[.int .i64 N, .int .i64 K, .int .i64 B], .slice p m d] W fun e w' => e = .returned (.bool bh) ∧ F w' ∧ But S W w') :
    Calls Tryz.prog 15 #[.pointer P, .agg #[.int .i64 N, .int .i64 K, .int .i64 B], .slice q n c, .slice s l k, .slice p m d] w fun e w' => e = .returned (.bool r) ∧ F w' ∧ But S w w' := by
  obtain ⟨R, hR⟩ : ∃ R, w.heap.size = R := ⟨_, rfl⟩
  obtain ⟨W0, hW0⟩ : ∃ W0, (((((w.alloc (.cells #[.pointer P] 23)).alloc (.cells #[.int .i64 N, .int .i64 K, .int .i64 B] 26)).alloc (.cells #[.slice q n c] 22)).alloc (.cells #[.slice s l k] 33)).alloc (.cells #[.slice p m d] 22)) = W0 := ⟨_, rfl⟩
  have hb0 : Below w.heap.size w W0 := hW0 ▸ (((((Below.refl _ w).alloc (Nat.le_refl _) _).alloc (by simp) _).alloc (by simp; omega) _).alloc (by simp; omega) _).alloc (by simp; omega) _
  have hA0 : AcB R P N K B q n c s l k p m d W0 := by
    rw [← hW0, ← hR]
    exact ⟨by simp [go_sem], ⟨by simp [go_sem], by simp [go_sem], by simp [go_sem]⟩, by simp [go_sem], by simp [go_sem], by simp [go_sem]⟩
  obtain ⟨b1, hb1⟩ : ∃ b, cdB N K B = b := ⟨_, rfl⟩
  obtain ⟨b2, hb2⟩ : ∃ b, (decide ((n : Int) = N) && decide ((m : Int) = N)) = b := ⟨_, rfl⟩
  obtain ⟨b3, hb3⟩ : ∃ b, decide (erE N K B zs = 0) = b := ⟨_, rfl⟩
  obtain ⟨b5, hb5⟩ : ∃ b, fitB N K B ((Cd.wrZ xs ys zs : Nat) : Int) (l : Int) = b := ⟨_, rfl⟩
  rw [hb1, hb2, hb3, hb5] at hr
  have HF : Hid (∀ W, AcB R P N K B q n c s l k p m d W ∧ F W ∧ But S w W → ∀ W', Below W.heap.size W W' → AcB R P N K B q n c s l k p m d W' ∧ F W' ∧ But S w W') := fun W h W' hb => ⟨h.1.below hb, hFb _ _ h.2.1 hb, h.2.2.trans (But.of_below hb)⟩
  have K1 : Hid (∀ W, AcB R P N K B q n c s l k p m d W ∧ F W ∧ But S w W → Calls Tryz.prog 32 #[.pointer (some ⟨R + 1, 0, none⟩)] W fun e w' => e = .returned (.bool b1) ∧ (AcB R P N K B q n c s l k p m d w' ∧ F w' ∧ But S w w')) := fun W hW =>
    (ac1_calls hW.1).mono fun e w' ⟨he, hb⟩ => ⟨hb1 ▸ he, HF.out W hW w' hb⟩
  have K2 : Hid (∀ W, AcB R P N K B q n c s l k p m d W ∧ F W ∧ But S w W → Calls Tryz.prog 34 #[.pointer (some ⟨R + 1 + 1, 0, none⟩), .pointer (some ⟨R + 1, 0, none⟩), .pointer (some ⟨R + 1 + 1 + 1 + 1, 0, none⟩)] W fun e w' => e = .returned (.bool b2) ∧ (AcB R P N K B q n c s l k p m d w' ∧ F w' ∧ But S w w')) := fun W hW =>
    (ac2_calls hW.1).mono fun e w' ⟨he, hb⟩ => ⟨hb2 ▸ he, HF.out W hW w' hb⟩
  have K3 : Hid (∀ W, AcB R P N K B q n c s l k p m d W ∧ F W ∧ But S w W → Calls Tryz.prog 35 #[.pointer (some ⟨R + 1, 0, none⟩), .pointer (some ⟨R + 1 + 1 + 1, 0, none⟩)] W fun e w' => e = .returned (.bool b3) ∧ (AcB R P N K B q n c s l k p m d w' ∧ F w' ∧ But S w w')) := fun W hW =>
    (ac3_calls zs hl hW.1 (hz.but hW.2.2 hzS)).mono fun e w' ⟨he, hb⟩ => ⟨hb3 ▸ he, HF.out W hW w' hb⟩
  have K4 : Hid (∀ W, AcB R P N K B q n c s l k p m d W ∧ F W ∧ But S w W → Calls Tryz.prog 37 #[.pointer (some ⟨R, 0, none⟩), .pointer (some ⟨R + 1, 0, none⟩), .pointer (some ⟨R + 1 + 1 + 1 + 1, 0, none⟩)] W fun e w' => e = .returned (.bool bh) ∧ (AcB R P N K B q n c s l k p m d w' ∧ F w' ∧ But S w w')) := fun W hW =>
    (ac4_calls bh (fun w' => F w' ∧ But S W w') hW.1 (KH W hW.2.1 hW.2.2)).mono fun e w' ⟨he, hf, hb⟩ => ⟨he, hW.1.but hb (fun k hk => hR ▸ hS k hk), hf, hW.2.2.trans hb⟩
  have K5 : Hid (∀ W, AcB R P N K B q n c s l k p m d W ∧ F W ∧ But S w W → Calls Tryz.prog 39 #[.pointer (some ⟨R + 1, 0, none⟩), .pointer (some ⟨R + 1 + 1, 0, none⟩), .pointer (some ⟨R + 1 + 1 + 1 + 1, 0, none⟩), .pointer (some ⟨R + 1 + 1 + 1, 0, none⟩)] W fun e w' => e = .returned (.bool b5) ∧ (AcB R P N K B q n c s l k p m d w' ∧ F w' ∧ But S w w')) := fun W hW =>
    (ac5_calls xs ys zs hn hl hW.1 (hs.butS hW.2.2 hsS) (hy.butS hW.2.2 hyS) (hz.but hW.2.2 hzS)).mono fun e w' ⟨he, hb⟩ => ⟨hb5 ▸ he, HF.out W hW w' hb⟩
  have HI : Hid (AcB R P N K B q n c s l k p m d W0 ∧ F W0 ∧ But S w W0) := ⟨hA0, hFb _ _ hF hb0, But.of_below hb0⟩
  clear hA0 hF hb0 hs hy hz hsS hyS hzS KH hS hFb hn hl hb1 hb2 hb3 hb5
  go_enter Tryz.func15, Tryz.ntmps15
  go_wp2
  go_loopw [21] (fun i wr => Hid (AcB R P N K B q n c s l k p m d wr ∧ F wr ∧ But S w wr) ∧ ((i = .int .i64 0) ∨ (i = .int .i64 1 ∧ b1 = true) ∨ (i = .int .i64 2 ∧ b1 = true ∧ b2 = true) ∨ (i = .int .i64 3 ∧ b1 = true ∧ b2 = true ∧ b3 = true) ∨ (i = .int .i64 4 ∧ b1 = true ∧ b2 = true ∧ b3 = true ∧ bh = true) ∨ (i = .int .i64 5 ∧ b1 = true ∧ b2 = true ∧ b3 = true ∧ bh = true ∧ b5 = true))) (fun i _ => 5 - (intOf i).toNat)
  case atStart => exact ⟨HF.out _ HI.out _ ((Below.refl _ W0).alloc (Nat.le_refl _) _), .inl rfl⟩
  case round =>
    obtain ⟨HW, hc⟩ := hrel
    rcases hc with rfl | ⟨rfl, h1⟩ | ⟨rfl, h1, h2⟩ | ⟨rfl, h1, h2, h3⟩ | ⟨rfl, h1, h2, h3, h4⟩ | ⟨rfl, h1, h2, h3, h4, h5⟩
    · have KX := K1.out wr HW.out
      clear K1 K2 K3 K4 K5 HI
      cases b1 with
      | false =>
        go_wp2_with (go_at_call 32; refine KX.mono ?_; rintro e w1 ⟨rfl, hw⟩)
        go_ret
        exact ⟨by rw [← hr]; simp, hw.2⟩
      | true =>
        go_wp2_with (go_at_call 32; refine KX.mono ?_; rintro e w1 ⟨rfl, hw⟩)
        go_roundw
        case rel => exact ⟨hw, .inr (.inl ⟨rfl, trivial⟩)⟩
        case measure => simp [intOf]
    · have KX := K2.out wr HW.out
      clear K1 K2 K3 K4 K5 HI
      cases b2 with
      | false =>
        go_wp2_with (go_at_call 34; refine KX.mono ?_; rintro e w1 ⟨rfl, hw⟩)
        go_ret
        exact ⟨by rw [← hr]; simp, hw.2⟩
      | true =>
        go_wp2_with (go_at_call 34; refine KX.mono ?_; rintro e w1 ⟨rfl, hw⟩)
        go_roundw
        case rel => exact ⟨hw, .inr (.inr (.inl ⟨rfl, h1, trivial⟩))⟩
        case measure => simp [intOf]
    · have KX := K3.out wr HW.out
      clear K1 K2 K3 K4 K5 HI
      cases b3 with
      | false =>
        go_wp2_with (go_at_call 35; refine KX.mono ?_; rintro e w1 ⟨rfl, hw⟩)
        go_ret
        exact ⟨by rw [← hr]; simp, hw.2⟩
      | true =>
        go_wp2_with (go_at_call 35; refine KX.mono ?_; rintro e w1 ⟨rfl, hw⟩)
        go_roundw
        case rel => exact ⟨hw, .inr (.inr (.inr (.inl ⟨rfl, h1, h2, trivial⟩)))⟩
        case measure => simp [intOf]
    · have KX := K4.out wr HW.out
      clear K1 K2 K3 K4 K5 HI
      cases bh with
      | false =>
        go_wp2_with (go_at_call 37; refine KX.mono ?_; rintro e w1 ⟨rfl, hw⟩)
        go_ret
        exact ⟨by rw [← hr]; simp, hw.2⟩
      | true =>
        go_wp2_with (go_at_call 37; refine KX.mono ?_; rintro e w1 ⟨rfl, hw⟩)
        go_roundw
        case rel => exact ⟨hw, .inr (.inr (.inr (.inr (.inl ⟨rfl, h1, h2, h3, trivial⟩))))⟩
        case measure => simp [intOf]
    · have KX := K5.out wr HW.out
      clear K1 K2 K3 K4 K5 HI
      cases b5 with
      | false =>
        go_wp2_with (go_at_call 39; refine KX.mono ?_; rintro e w1 ⟨rfl, hw⟩)
        go_ret
        exact ⟨by rw [← hr]; simp, hw.2⟩
      | true =>
        go_wp2_with (go_at_call 39; refine KX.mono ?_; rintro e w1 ⟨rfl, hw⟩)
        go_roundw
        case rel => exact ⟨hw, .inr (.inr (.inr (.inr (.inr (⟨rfl, h1, h2, h3, h4, trivial⟩)))))⟩
        case measure => simp [intOf]
    · have HZ : Hid (AcB R P N K B q n c s l k p m d wr ∧ F wr ∧ But S w wr) := HW.out
      clear HI
      go_wp2
      go_ret
      exact ⟨by rw [← hr, h1, h2, h3, h4, h5]; rfl, HZ.out.2⟩

/-- Is it the one that is mended? -/
def acP (N K B : Int) (r : List Nat) (e : List Int) (w : List Nat) : Prop := ∃ n k b s : Nat, N = (n : Int) ∧ K = (k : Int) ∧ B = (b : Int) ∧ Cod n k b ∧ n - k = s ∧ r.length = n ∧ erB (n : Int) e = true ∧ Cd.IsW n s b w ∧ 2 * Cd.wrZ r w e + e.length ≤ s
theorem acP_no {N K B : Int} (h : cdB N K B = false) (r w : List Nat) (e : List Int) : ¬ acP N K B r e w := by
  rintro ⟨n, k, b, s, rfl, rfl, rfl, hc, _⟩
  rw [hc.yes] at h; cases h
theorem acP_yes {N K B S : Nat} (h : Cod N K B) (hS : N - K = S) (r w : List Nat) (e : List Int) : acP (N : Int) (K : Int) (B : Int) r e w ↔ r.length = N ∧ erB (N : Int) e = true ∧ Cd.IsW N S B w ∧ 2 * Cd.wrZ r w e + e.length ≤ S := by
  constructor
  · rintro ⟨n, k, b, s, e1, e2, e3, hc, hs, h1, h2, h3, h4⟩
    obtain rfl : N = n := by omega
    obtain rfl : K = k := by omega
    obtain rfl : B = b := by omega
    obtain rfl : S = s := by omega
    exact ⟨h1, h2, h3, h4⟩
  · rintro ⟨h1, h2, h3, h4⟩
    exact ⟨N, K, B, S, rfl, rfl, rfl, h, hS, h1, h2, h3, h4⟩
theorem accept_calls (kf Bf T : Nat) (N K B : Int) (q s p : Option Addr) (n c l k m d : Nat) (xs ys : List Nat) (zs : List Int) (r : Bool) (hr : r = true ↔ acP N K B xs zs ys) (hn : n ≤ 1000000) (hl : l ≤ 1000000) (w : World) (hF : Fd kf Bf T w)
    (hs : Bs w q n xs) (hy : Bs w p m ys) (hz : Ns .i64 w s l zs) (hq : Off T n q) (hp : Off T m p) (ho : Off T l s) :
    Calls Tryz.prog 15 #[.pointer (some ⟨Bf, 0, none⟩), .agg #[.int .i64 N, .int .i64 K, .int .i64 B], .slice q n c, .slice s l k, .slice p m d] w fun e w' => e = .returned (.bool r) ∧ Fd kf Bf T w' ∧ But (· = T) w w' := by
  have hll := hz.len
  have hnl := hs.len
  have hml := hy.len
  cases hv : cdB N K B with
  | false =>
    obtain rfl : r = false := by rw [Bool.eq_false_iff]; exact fun h => acP_no hv _ _ _ (hr.1 h)
    refine accept_core (· = T) (Fd kf Bf T) (fun _ _ h hb => h.below hb) (some ⟨Bf, 0, none⟩) N K B q s p n c l k m d xs ys zs false false (by rw [hv]; simp) hn hl w (fun j e => by rw [e]; exact hF.lt) hF hs hy hz hq hp ho ?_
    exact fun W hW hb => (chas_none (some ⟨Bf, 0, none⟩) N K B p m d (by rw [hv]; rfl) W).mono fun e w' ⟨he, hb'⟩ => ⟨he, hW.below hb', But.of_below hb'⟩
  | true =>
    obtain ⟨N', K', B', rfl, rfl, rfl, hc⟩ := cod_of hv
    obtain ⟨S, hS⟩ : ∃ S, N' - K' = S := ⟨_, rfl⟩
    refine accept_core (· = T) (Fd kf Bf T) (fun _ _ h hb => h.below hb) (some ⟨Bf, 0, none⟩) N' K' B' q s p n c l k m d xs ys zs (decide (Cd.IsW N' S B' ys)) r ?_ hn hl w (fun j e => by rw [e]; exact hF.lt) hF hs hy hz hq hp ho ?_
    · rw [acP_yes hc hS] at hr
      have hf := fitB_yes hc.yes ((Cd.wrZ xs ys zs : Nat) : Int) (l : Int)
      have hSi : (N' : Int) - (K' : Int) = (S : Int) := by have := hc.n; omega
      rw [hSi] at hf
      rw [hv, hf, Bool.eq_iff_iff, hr]
      simp only [Bool.and_eq_true, decide_eq_true_eq, Bool.true_and]
      have he : erE (N' : Int) K' B' zs = 0 ↔ erB (N' : Int) zs = true := by
        cases h : erB (N' : Int) zs with
        | true => simp [erE_yes hv h]
        | false => simp [erE_bad hv h]
      rw [he]
      constructor
      · rintro ⟨⟨⟨⟨h1, h2⟩, h3⟩, h4⟩, h5⟩
        exact ⟨by omega, h3, h4, by omega⟩
      · rintro ⟨h1, h3, h4, h5⟩
        have := h4.1
        exact ⟨⟨⟨⟨by omega, by omega⟩, h3⟩, h4⟩, ⟨by omega, by omega⟩, by omega⟩
    · exact fun W hW hb => (chas_calls kf Bf T N' K' B' S m d p ys hc hS W hW (hy.butS hb hp) hp)
theorem accept_none (N K B : Int) (q s p : Option Addr) (n c l k m d : Nat) (xs ys : List Nat) (zs : List Int) (hn : n ≤ 1000000) (hl : l ≤ 1000000) (w : World) (hs : Bs w q n xs) (hy : Bs w p m ys) (hz : Ns .i64 w s l zs) :
    Calls Tryz.prog 15 #[.pointer none, .agg #[.int .i64 N, .int .i64 K, .int .i64 B], .slice q n c, .slice s l k, .slice p m d] w fun e w' => e = .returned (.bool false) ∧ Below w.heap.size w w' :=
  (accept_core (fun _ => False) (fun _ => True) (fun _ _ _ _ => trivial) none N K B q s p n c l k m d xs ys zs false false (by simp) hn hl w (fun _ e => e.elim) trivial hs hy hz (fun _ _ _ e => e) (fun _ _ _ e => e) (fun _ _ _ e => e)
    (fun W _ _ => (chas_none none N K B p m d rfl W).mono fun e w' ⟨he, hb⟩ => ⟨he, trivial, But.of_below hb⟩)).mono fun e w' ⟨he, _, hb⟩ => ⟨he, hb.os, hb.tape, hb.output, hb.size, fun k hk => hb.block k hk (fun e => e)⟩
end Go.Proofs
