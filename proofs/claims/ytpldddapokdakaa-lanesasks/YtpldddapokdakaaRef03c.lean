/- The walks of the document's answers of layer 3 (erratumref03): Mul, Add, Scale. Conditions: lanes are bytes. -/
import Derived.Test.YtpldddapokdakaaRef03b
import Derived.Deep.DrawnRows
namespace Go.Proofs
open Go.RowKit Go.ChangeShapes Go.WideShapes
attribute [local go_sem ↓] Go.wp_at_zero Go.wp_at_succ
theorem cell_a3 {W : World} {p : Addr} {v : Value} {a b c : Obj} (h : W.cell? p = some v) : (((W.alloc a).alloc b).alloc c).drew.cell? p = some v := by
  have k : ∀ (X : World) (o : Obj), X.cell? p = some v → (X.alloc o).cell? p = some v := fun X o hx => by
    rw [World.cell?_of_block (w := X) (Below.heap_alloc X o p.block (World.block_lt_of_cell? _ _ hx))]; exact hx
  rw [World.cell?_drew]
  exact k _ _ (k _ _ (k _ _ h))
theorem cell_b3 {X W' : World} {n : Nat} {p : Addr} {v : Value} (hb : Below n X W') (hp : p.block < n) (h : X.cell? p = some v) : W'.cell? p = some v := (hb.cell hp).trans h
set_option maxRecDepth 100000 in
set_option maxHeartbeats 4000000 in
theorem rlmul_calls (a b r : Nat → Nat) (ha : ∀ n, n < 64 → a n < 256) (hb : ∀ n, n < 64 → b n < 256) (hr : ∀ n, n < 64 → Gf.mul (a n) (b n) = r n) (w : World) :
    Calls Try.prog 24 #[V8 a, V8 b] w fun e w' => e = .returned (V8 r) ∧ Below w.heap.size w w' := by
  have HA : Hid (∀ n, n < 64 → a n < 256) := ha
  have HBb : Hid (∀ n, n < 64 → b n < 256) := hb
  have HRr : Hid (∀ n, n < 64 → Gf.mul (a n) (b n) = r n) := hr
  clear ha hb hr
  go_enter Try.func24, Try.ntmps24
  go_wp2
  go_loopw [5, 6] (fun v i wr => ∃ k : Nat, k ≤ 64 ∧ i = .int .i64 (k : Int) ∧ Pl wr w.heap.size 8 a ∧ Pl wr (w.heap.size + 1) 8 b ∧ Pl wr (w.heap.size + 1 + 1) 8 (fun _ => 0) ∧ Ow wr (w.heap.size + 1 + 1 + 1) v (lt r k) ∧ Below w.heap.size w wr) (fun _ i _ => 64 - (intOf i).toNat)
  case atStart => exact ⟨0, by omega, rfl, ((pl_box w rfl a 24).alloc _).alloc _, (pl_box _ (by simp) b 24).alloc _, pl_zero8 _ (by simp) _, ow_nil _ _, (((Below.refl _ _).alloc (Nat.le_refl _) _).alloc (by simp) _).alloc (by simp; omega) _⟩
  case round =>
    obtain ⟨k, hk, rfl, h0, h1, h2, hO, hB⟩ := hrel
    by_cases hlt : k < 64
    · have hsz : w.heap.size + 1 + 1 + 1 ≤ wr.heap.size := by have := h2.lt; omega
      have c0 := h0.cell 0 (by decide)
      have c1 := h0.cell 1 (by decide)
      have c2 := h0.cell 2 (by decide)
      have c3 := h0.cell 3 (by decide)
      have c4 := h0.cell 4 (by decide)
      have c5 := h0.cell 5 (by decide)
      have c6 := h0.cell 6 (by decide)
      have c7 := h0.cell 7 (by decide)
      have d0 := h1.cell 0 (by decide)
      have d1 := h1.cell 1 (by decide)
      have d2 := h1.cell 2 (by decide)
      have d3 := h1.cell 3 (by decide)
      have d4 := h1.cell 4 (by decide)
      have d5 := h1.cell 5 (by decide)
      have d6 := h1.cell 6 (by decide)
      have d7 := h1.cell 7 (by decide)
      have hak := HA.out k hlt
      have hbk := HBb.out k hlt
      have hrk := HRr.out k hlt

      have hlen : (lt r k).length ≤ 1000000000 := by rw [lt_length]; omega
      have HM : Hid (Pl wr w.heap.size 8 a ∧ Pl wr (w.heap.size + 1) 8 b ∧ Pl wr (w.heap.size + 1 + 1) 8 (fun _ => 0) ∧ Ow wr (w.heap.size + 1 + 1 + 1) u5 (lt r k) ∧ Below w.heap.size w wr) := ⟨h0, h1, h2, hO, hB⟩
      clear h0 h1 h2 hO hB
      go_wp2
      go_region_held3 (fun w' => w'.cell? ⟨w.heap.size, 0, none⟩ = some (.int .u64 (Ln.pk a 0 : Nat)) ∧ w'.cell? ⟨w.heap.size, 1, none⟩ = some (.int .u64 (Ln.pk a 1 : Nat)) ∧ w'.cell? ⟨w.heap.size, 2, none⟩ = some (.int .u64 (Ln.pk a 2 : Nat)) ∧ w'.cell? ⟨w.heap.size, 3, none⟩ = some (.int .u64 (Ln.pk a 3 : Nat)) ∧ w'.cell? ⟨w.heap.size, 4, none⟩ = some (.int .u64 (Ln.pk a 4 : Nat)) ∧ w'.cell? ⟨w.heap.size, 5, none⟩ = some (.int .u64 (Ln.pk a 5 : Nat)) ∧ w'.cell? ⟨w.heap.size, 6, none⟩ = some (.int .u64 (Ln.pk a 6 : Nat)) ∧ w'.cell? ⟨w.heap.size, 7, none⟩ = some (.int .u64 (Ln.pk a 7 : Nat)) ∧ w'.cell? ⟨w.heap.size + 1, 0, none⟩ = some (.int .u64 (Ln.pk b 0 : Nat)) ∧ w'.cell? ⟨w.heap.size + 1, 1, none⟩ = some (.int .u64 (Ln.pk b 1 : Nat)) ∧ w'.cell? ⟨w.heap.size + 1, 2, none⟩ = some (.int .u64 (Ln.pk b 2 : Nat)) ∧ w'.cell? ⟨w.heap.size + 1, 3, none⟩ = some (.int .u64 (Ln.pk b 3 : Nat)) ∧ w'.cell? ⟨w.heap.size + 1, 4, none⟩ = some (.int .u64 (Ln.pk b 4 : Nat)) ∧ w'.cell? ⟨w.heap.size + 1, 5, none⟩ = some (.int .u64 (Ln.pk b 5 : Nat)) ∧ w'.cell? ⟨w.heap.size + 1, 6, none⟩ = some (.int .u64 (Ln.pk b 6 : Nat)) ∧ w'.cell? ⟨w.heap.size + 1, 7, none⟩ = some (.int .u64 (Ln.pk b 7 : Nat)))
        (first | (go_keep; done) | ((try dsimp only); (repeat' apply And.intro) <;> first | exact cell_a3 (by assumption) | exact cell_b3 (hbb _ (Nat.le_refl _)) (by dsimp only; omega) (cell_a3 (by assumption))))
        (first
          | (go_at_call 22; with_reducible refine (rlane_at a k hlt hak _).mono ?_; rintro e w1 ⟨rfl, rfl⟩)
          | (go_at_call 22; with_reducible refine (rlane_at b k hlt hbk _).mono ?_; rintro e w2 ⟨rfl, rfl⟩)
          | (go_at_call 16; refine (RefMul.rmul_e (a k) (b k) (r k) hak hrk _).mono ?_; rintro e w4 ⟨rfl, rfl⟩)
          | (refine step_push _ (by rfl) _ _ (by rfl) (w.heap.size + 1 + 1 + 1) u5 (lt r k) (r k) _ (by rfl) (by rfl) (((HM.out.2.2.2.1.alloc _).alloc _).alloc _).drew (by go_simp) hlen (by simp; omega) ?_; intro v' w3 ho hbb))
      clear c0 c1 c2 c3 c4 c5 c6 c7
      clear d0 d1 d2 d3 d4 d5 d6 d7
      go_wp2
      go_roundw
      case rel =>
        have h3 : ∀ n, n ≤ w.heap.size + 1 + 1 + 1 → Below n wr w3 := fun n hn => ((((Below.refl n wr).alloc (by omega) _).alloc (by simp; omega) _).alloc (by simp; omega) _).drew.trans (hbb n hn)
        have h3' := h3 _ (Nat.le_refl _)
        exact ⟨k + 1, by omega, by go_num, HM.out.1.belowN h3' (by omega), HM.out.2.1.belowN h3' (by omega), HM.out.2.2.1.belowN h3' (by omega), by rw [lt_next]; exact ho, HM.out.2.2.2.2.trans (h3 _ (by omega))⟩
      case measure => simp [intOf]; omega
    · have e8 : k = 64 := by omega
      subst e8
      have hby : ∀ i, (lt r 64).getD i 0 < 256 := ll_byte r (fun n hn => by rw [← HRr.out n hn]; exact Gf.mul_lt _ _ (HA.out n hn))
      obtain ⟨q, c, rfl, hbs⟩ := hO.bs hby
      have HM : Hid (Pl wr (w.heap.size + 1 + 1) 8 (fun _ => 0) ∧ Below w.heap.size w wr) := ⟨h2, hB⟩
      have HS : Hid (Bs wr q (lt r 64).length (lt r 64)) := hbs
      clear h0 h1 h2 hO hB hbs
      go_wp2_with fail
      refine (rpack_calls q _ c (lt r 64) r (fun k hk => by have := ll_at r k; rw [if_pos hk] at this; exact this) _ HS.out).mono ?_
      rintro e w1 ⟨rfl, hb⟩
      have hR := HM.out.1.below hb
      have HN : Hid (Pl w1 (w.heap.size + 1 + 1) 8 (fun _ => 0) ∧ Below w.heap.size w w1) := ⟨hR, HM.out.2.trans (hb.mono HM.out.2.size)⟩
      have r0 := hR.cell 0 (by decide)
      have r1 := hR.cell 1 (by decide)
      have r2 := hR.cell 2 (by decide)
      have r3 := hR.cell 3 (by decide)
      have r4 := hR.cell 4 (by decide)
      have r5 := hR.cell 5 (by decide)
      have r6 := hR.cell 6 (by decide)
      have r7 := hR.cell 7 (by decide)
      have f0 := hR.fz 0
      have f1 := hR.fz 1
      have f2 := hR.fz 2
      have f3 := hR.fz 3
      have f4 := hR.fz 4
      have f5 := hR.fz 5
      have f6 := hR.fz 6
      have f7 := hR.fz 7
      clear hR hb HM
      go_wp2
      exact bodyPost_ret (results_cell Try.results24 rfl (load8 (HN.out.1.set8 r))) rfl ⟨rfl, below_set8 HN.out.2 (by omega) r⟩

set_option maxRecDepth 100000 in
set_option maxHeartbeats 4000000 in
theorem rladd_calls (a b r : Nat → Nat) (ha : ∀ n, n < 64 → a n < 256) (hb : ∀ n, n < 64 → b n < 256) (hr : ∀ n, n < 64 → a n ^^^ b n = r n) (w : World) :
    Calls Try.prog 23 #[V8 a, V8 b] w fun e w' => e = .returned (V8 r) ∧ Below w.heap.size w w' := by
  have HA : Hid (∀ n, n < 64 → a n < 256) := ha
  have HBb : Hid (∀ n, n < 64 → b n < 256) := hb
  have HRr : Hid (∀ n, n < 64 → a n ^^^ b n = r n) := hr
  clear ha hb hr
  go_enter Try.func23, Try.ntmps23
  go_wp2
  go_loopw [5, 6] (fun v i wr => ∃ k : Nat, k ≤ 64 ∧ i = .int .i64 (k : Int) ∧ Pl wr w.heap.size 8 a ∧ Pl wr (w.heap.size + 1) 8 b ∧ Pl wr (w.heap.size + 1 + 1) 8 (fun _ => 0) ∧ Ow wr (w.heap.size + 1 + 1 + 1) v (lt r k) ∧ Below w.heap.size w wr) (fun _ i _ => 64 - (intOf i).toNat)
  case atStart => exact ⟨0, by omega, rfl, ((pl_box w rfl a 24).alloc _).alloc _, (pl_box _ (by simp) b 24).alloc _, pl_zero8 _ (by simp) _, ow_nil _ _, (((Below.refl _ _).alloc (Nat.le_refl _) _).alloc (by simp) _).alloc (by simp; omega) _⟩
  case round =>
    obtain ⟨k, hk, rfl, h0, h1, h2, hO, hB⟩ := hrel
    by_cases hlt : k < 64
    · have hsz : w.heap.size + 1 + 1 + 1 ≤ wr.heap.size := by have := h2.lt; omega
      have c0 := h0.cell 0 (by decide)
      have c1 := h0.cell 1 (by decide)
      have c2 := h0.cell 2 (by decide)
      have c3 := h0.cell 3 (by decide)
      have c4 := h0.cell 4 (by decide)
      have c5 := h0.cell 5 (by decide)
      have c6 := h0.cell 6 (by decide)
      have c7 := h0.cell 7 (by decide)
      have d0 := h1.cell 0 (by decide)
      have d1 := h1.cell 1 (by decide)
      have d2 := h1.cell 2 (by decide)
      have d3 := h1.cell 3 (by decide)
      have d4 := h1.cell 4 (by decide)
      have d5 := h1.cell 5 (by decide)
      have d6 := h1.cell 6 (by decide)
      have d7 := h1.cell 7 (by decide)
      have hak := HA.out k hlt
      have hbk := HBb.out k hlt
      have hrk := u8_xor_nat (a k) (b k) hak hbk
      rw [HRr.out k hlt] at hrk

      have hlen : (lt r k).length ≤ 1000000000 := by rw [lt_length]; omega
      have HM : Hid (Pl wr w.heap.size 8 a ∧ Pl wr (w.heap.size + 1) 8 b ∧ Pl wr (w.heap.size + 1 + 1) 8 (fun _ => 0) ∧ Ow wr (w.heap.size + 1 + 1 + 1) u5 (lt r k) ∧ Below w.heap.size w wr) := ⟨h0, h1, h2, hO, hB⟩
      clear h0 h1 h2 hO hB
      go_wp2
      go_region_held3 (fun w' => w'.cell? ⟨w.heap.size, 0, none⟩ = some (.int .u64 (Ln.pk a 0 : Nat)) ∧ w'.cell? ⟨w.heap.size, 1, none⟩ = some (.int .u64 (Ln.pk a 1 : Nat)) ∧ w'.cell? ⟨w.heap.size, 2, none⟩ = some (.int .u64 (Ln.pk a 2 : Nat)) ∧ w'.cell? ⟨w.heap.size, 3, none⟩ = some (.int .u64 (Ln.pk a 3 : Nat)) ∧ w'.cell? ⟨w.heap.size, 4, none⟩ = some (.int .u64 (Ln.pk a 4 : Nat)) ∧ w'.cell? ⟨w.heap.size, 5, none⟩ = some (.int .u64 (Ln.pk a 5 : Nat)) ∧ w'.cell? ⟨w.heap.size, 6, none⟩ = some (.int .u64 (Ln.pk a 6 : Nat)) ∧ w'.cell? ⟨w.heap.size, 7, none⟩ = some (.int .u64 (Ln.pk a 7 : Nat)) ∧ w'.cell? ⟨w.heap.size + 1, 0, none⟩ = some (.int .u64 (Ln.pk b 0 : Nat)) ∧ w'.cell? ⟨w.heap.size + 1, 1, none⟩ = some (.int .u64 (Ln.pk b 1 : Nat)) ∧ w'.cell? ⟨w.heap.size + 1, 2, none⟩ = some (.int .u64 (Ln.pk b 2 : Nat)) ∧ w'.cell? ⟨w.heap.size + 1, 3, none⟩ = some (.int .u64 (Ln.pk b 3 : Nat)) ∧ w'.cell? ⟨w.heap.size + 1, 4, none⟩ = some (.int .u64 (Ln.pk b 4 : Nat)) ∧ w'.cell? ⟨w.heap.size + 1, 5, none⟩ = some (.int .u64 (Ln.pk b 5 : Nat)) ∧ w'.cell? ⟨w.heap.size + 1, 6, none⟩ = some (.int .u64 (Ln.pk b 6 : Nat)) ∧ w'.cell? ⟨w.heap.size + 1, 7, none⟩ = some (.int .u64 (Ln.pk b 7 : Nat)))
        (first | (go_keep; done) | ((try dsimp only); (repeat' apply And.intro) <;> first | exact cell_a3 (by assumption) | exact cell_b3 (hbb _ (Nat.le_refl _)) (by dsimp only; omega) (cell_a3 (by assumption))))
        (first
          | (go_at_call 22; with_reducible refine (rlane_at a k hlt hak _).mono ?_; rintro e w1 ⟨rfl, rfl⟩)
          | (go_at_call 22; with_reducible refine (rlane_at b k hlt hbk _).mono ?_; rintro e w2 ⟨rfl, rfl⟩)
          | (refine step_push _ (by rfl) _ _ (by rfl) (w.heap.size + 1 + 1 + 1) u5 (lt r k) (r k) _ (by rfl) (by rfl) (((HM.out.2.2.2.1.alloc _).alloc _).alloc _).drew (by go_simp) hlen (by simp; omega) ?_; intro v' w3 ho hbb))
      clear c0 c1 c2 c3 c4 c5 c6 c7
      clear d0 d1 d2 d3 d4 d5 d6 d7
      go_wp2
      go_roundw
      case rel =>
        have h3 : ∀ n, n ≤ w.heap.size + 1 + 1 + 1 → Below n wr w3 := fun n hn => ((((Below.refl n wr).alloc (by omega) _).alloc (by simp; omega) _).alloc (by simp; omega) _).drew.trans (hbb n hn)
        have h3' := h3 _ (Nat.le_refl _)
        exact ⟨k + 1, by omega, by go_num, HM.out.1.belowN h3' (by omega), HM.out.2.1.belowN h3' (by omega), HM.out.2.2.1.belowN h3' (by omega), by rw [lt_next]; exact ho, HM.out.2.2.2.2.trans (h3 _ (by omega))⟩
      case measure => simp [intOf]; omega
    · have e8 : k = 64 := by omega
      subst e8
      have hby : ∀ i, (lt r 64).getD i 0 < 256 := ll_byte r (fun n hn => by rw [← HRr.out n hn]; exact Gf.xor_lt8 (HA.out n hn) (HBb.out n hn))
      obtain ⟨q, c, rfl, hbs⟩ := hO.bs hby
      have HM : Hid (Pl wr (w.heap.size + 1 + 1) 8 (fun _ => 0) ∧ Below w.heap.size w wr) := ⟨h2, hB⟩
      have HS : Hid (Bs wr q (lt r 64).length (lt r 64)) := hbs
      clear h0 h1 h2 hO hB hbs
      go_wp2_with fail
      refine (rpack_calls q _ c (lt r 64) r (fun k hk => by have := ll_at r k; rw [if_pos hk] at this; exact this) _ HS.out).mono ?_
      rintro e w1 ⟨rfl, hb⟩
      have hR := HM.out.1.below hb
      have HN : Hid (Pl w1 (w.heap.size + 1 + 1) 8 (fun _ => 0) ∧ Below w.heap.size w w1) := ⟨hR, HM.out.2.trans (hb.mono HM.out.2.size)⟩
      have r0 := hR.cell 0 (by decide)
      have r1 := hR.cell 1 (by decide)
      have r2 := hR.cell 2 (by decide)
      have r3 := hR.cell 3 (by decide)
      have r4 := hR.cell 4 (by decide)
      have r5 := hR.cell 5 (by decide)
      have r6 := hR.cell 6 (by decide)
      have r7 := hR.cell 7 (by decide)
      have f0 := hR.fz 0
      have f1 := hR.fz 1
      have f2 := hR.fz 2
      have f3 := hR.fz 3
      have f4 := hR.fz 4
      have f5 := hR.fz 5
      have f6 := hR.fz 6
      have f7 := hR.fz 7
      clear hR hb HM
      go_wp2
      exact bodyPost_ret (results_cell Try.results23 rfl (load8 (HN.out.1.set8 r))) rfl ⟨rfl, below_set8 HN.out.2 (by omega) r⟩

set_option maxRecDepth 100000 in
set_option maxHeartbeats 4000000 in
theorem rlscale_calls (a r : Nat → Nat) (x : Nat) (ha : ∀ n, n < 64 → a n < 256) (hr : ∀ n, n < 64 → Gf.mul (a n) x = r n) (w : World) :
    Calls Try.prog 25 #[V8 a, .int .u8 (x : Nat)] w fun e w' => e = .returned (V8 r) ∧ Below w.heap.size w w' := by
  have HA : Hid (∀ n, n < 64 → a n < 256) := ha
  have HRr : Hid (∀ n, n < 64 → Gf.mul (a n) x = r n) := hr
  clear ha hr
  go_enter Try.func25, Try.ntmps25
  go_wp2
  go_loopw [5, 6] (fun v i wr => ∃ k : Nat, k ≤ 64 ∧ i = .int .i64 (k : Int) ∧ Pl wr w.heap.size 8 a ∧ Pl wr (w.heap.size + 1) 8 (fun _ => 0) ∧ Ow wr (w.heap.size + 1 + 1) v (lt r k) ∧ Below w.heap.size w wr) (fun _ i _ => 64 - (intOf i).toNat)
  case atStart => exact ⟨0, by omega, rfl, (pl_box w rfl a 24).alloc _, pl_zero8 _ (by simp) _, ow_nil _ _, ((Below.refl _ _).alloc (Nat.le_refl _) _).alloc (by simp) _⟩
  case round =>
    obtain ⟨k, hk, rfl, h0, h2, hO, hB⟩ := hrel
    by_cases hlt : k < 64
    · have hsz : w.heap.size + 1 + 1 ≤ wr.heap.size := by have := h2.lt; omega
      have c0 := h0.cell 0 (by decide)
      have c1 := h0.cell 1 (by decide)
      have c2 := h0.cell 2 (by decide)
      have c3 := h0.cell 3 (by decide)
      have c4 := h0.cell 4 (by decide)
      have c5 := h0.cell 5 (by decide)
      have c6 := h0.cell 6 (by decide)
      have c7 := h0.cell 7 (by decide)
      have hak := HA.out k hlt
      have hrk := HRr.out k hlt
      have hlen : (lt r k).length ≤ 1000000000 := by rw [lt_length]; omega
      have HM : Hid (Pl wr w.heap.size 8 a ∧ Pl wr (w.heap.size + 1) 8 (fun _ => 0) ∧ Ow wr (w.heap.size + 1 + 1) u5 (lt r k) ∧ Below w.heap.size w wr) := ⟨h0, h2, hO, hB⟩
      clear h0 h2 hO hB
      go_wp2_with fail
      refine (rlane_in a k hlt hak _).mono ?_
      rintro e w1 ⟨rfl, hb⟩
      clear c0 c1 c2 c3 c4 c5 c6 c7
      have HW : Hid (Below wr.heap.size wr w1) := hb
      have hsz1 : w.heap.size + 1 + 1 ≤ w1.heap.size := Nat.le_trans hsz hb.size
      have HO : Hid (Ow w1 (w.heap.size + 1 + 1) u5 (lt r k)) := HM.out.2.2.1.below hb
      clear hb
      go_wp2_with fail
      refine (RefMul.rmul_e (a k) x (r k) hak hrk _).mono ?_
      rintro e w2 ⟨rfl, rfl⟩
      go_wp2_with (at_builtin; refine wpList_push _ (by rfl) _ _ (by rfl) (w.heap.size + 1 + 1) u5 (lt r k) (r k) (by rfl) (by rfl) HO.out hlen hsz1 ?_; intro v' w3 ho hbb)
      go_roundw
      case rel =>
        have h3 : ∀ n, n ≤ w.heap.size + 1 + 1 → Below n wr w3 := fun n hn => (HW.out.mono (by omega)).trans (hbb n hn)
        have h3' := h3 _ (Nat.le_refl _)
        exact ⟨k + 1, by omega, by go_num, HM.out.1.belowN h3' (by omega), HM.out.2.1.belowN h3' (by omega), by rw [lt_next]; exact ho, HM.out.2.2.2.trans (h3 _ (by omega))⟩
      case measure => simp [intOf]; omega
    · have e8 : k = 64 := by omega
      subst e8
      have hby : ∀ i, (lt r 64).getD i 0 < 256 := ll_byte r (fun n hn => by rw [← HRr.out n hn]; exact Gf.mul_lt _ _ (HA.out n hn))
      obtain ⟨q, c, rfl, hbs⟩ := hO.bs hby
      have HM : Hid (Pl wr (w.heap.size + 1) 8 (fun _ => 0) ∧ Below w.heap.size w wr) := ⟨h2, hB⟩
      have HS : Hid (Bs wr q (lt r 64).length (lt r 64)) := hbs
      clear h0 h2 hO hB hbs
      go_wp2_with fail
      refine (rpack_calls q _ c (lt r 64) r (fun k hk => by have := ll_at r k; rw [if_pos hk] at this; exact this) _ HS.out).mono ?_
      rintro e w1 ⟨rfl, hb⟩
      have hR := HM.out.1.below hb
      have HN : Hid (Pl w1 (w.heap.size + 1) 8 (fun _ => 0) ∧ Below w.heap.size w w1) := ⟨hR, HM.out.2.trans (hb.mono HM.out.2.size)⟩
      have r0 := hR.cell 0 (by decide)
      have r1 := hR.cell 1 (by decide)
      have r2 := hR.cell 2 (by decide)
      have r3 := hR.cell 3 (by decide)
      have r4 := hR.cell 4 (by decide)
      have r5 := hR.cell 5 (by decide)
      have r6 := hR.cell 6 (by decide)
      have r7 := hR.cell 7 (by decide)
      have f0 := hR.fz 0
      have f1 := hR.fz 1
      have f2 := hR.fz 2
      have f3 := hR.fz 3
      have f4 := hR.fz 4
      have f5 := hR.fz 5
      have f6 := hR.fz 6
      have f7 := hR.fz 7
      clear hR hb HM
      go_wp2
      exact bodyPost_ret (results_cell Try.results25 rfl (load8 (HN.out.1.set8 r))) rfl ⟨rfl, below_set8 HN.out.2 (by omega) r⟩
end Go.Proofs
