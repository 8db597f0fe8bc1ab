/- Texts laid together: CdR, CdP, CdW. Each says its own conditions. -/
import Derived.Sort.LoopGhostIn
import Derived.Test.YtjnkkokhkooegaaGreatNV
import Derived.Test.YtjnkkokhkooegaaGreatNU
import Derived.Test.YtjnkkokhkooegaaGreatMC
import Derived.Test.YtjnkkokhkooegaaGreatMG
import Derived.Test.YtjnkkokhkooegaaGreatMO
import Derived.Test.YtjnkkokhkooegaaGreatMV
import Derived.Test.YtjnkkokhkooegaaGreatMF
/- The walks of code.Right, Space, usable and Point, and of the document's Right, Space and Point (erratumref10). Conditions: any numbers that ints hold; a field that Of has made. -/
namespace Go.Proofs
open Go.RowKit Go.ChangeShapes Go.WideShapes

/-- Is it a code? -/
def cdB (N K B : Int) : Bool := decide (1 ≤ K) && decide (K < N) && decide (N ≤ 255) && decide (0 ≤ B) && decide (B ≤ 254)
/-- What Right says. -/
def cdE (N K B : Int) : Int := if cdB N K B then 0 else 10
theorem cdB_true {N K B : Int} : cdB N K B = true ↔ 1 ≤ K ∧ K < N ∧ N ≤ 255 ∧ 0 ≤ B ∧ B ≤ 254 := by simp [cdB, and_assoc]
theorem cdE_yes {N K B : Int} (h : cdB N K B = true) : cdE N K B = 0 := by simp [cdE, h]
theorem cdE_no {N K B : Int} (h : cdB N K B = false) : cdE N K B = 10 := by simp [cdE, h]
/-- A code, by numbers that are none below 0. -/
structure Cod (N K B : Nat) : Prop where
  k : 1 ≤ K
  n : K < N
  m : N ≤ 255
  b : B ≤ 254
theorem Cod.yes {N K B : Nat} (h : Cod N K B) : cdB (N : Int) (K : Int) (B : Int) = true := cdB_true.2 ⟨by have := h.k; omega, by have := h.n; omega, by have := h.m; omega, by omega, by have := h.b; omega⟩
theorem cod_of {N K B : Int} (h : cdB N K B = true) : ∃ n k b : Nat, N = (n : Int) ∧ K = (k : Int) ∧ B = (b : Int) ∧ Cod n k b := by
  obtain ⟨h1, h2, h3, h4, h5⟩ := cdB_true.1 h
  exact ⟨N.toNat, K.toNat, B.toNat, by omega, by omega, by omega, ⟨by omega, by omega, by omega, by omega⟩⟩
/-- How many roots. -/
def cdS (N K B : Int) : Int := if cdB N K B then N - K else 0
theorem cdS_yes {N K B : Int} (h : cdB N K B = true) : cdS N K B = N - K := by simp [cdS, h]
theorem cdS_no {N K B : Int} (h : cdB N K B = false) : cdS N K B = 0 := by simp [cdS, h]
theorem cdS_nat {N K B : Nat} (h : Cod N K B) : cdS (N : Int) (K : Int) (B : Int) = ((N - K : Nat) : Int) := by
  rw [cdS_yes h.yes]; have := h.n; omega

set_option maxRecDepth 100000 in
set_option maxHeartbeats 1000000 in
theorem cright_calls (N K B : Int) (w : World) :
    Calls Tryz.prog 33 #[.agg #[.int .i64 N, .int .i64 K, .int .i64 B]] w fun e w' => e = .returned (.int .u16 (cdE N K B)) ∧ Below w.heap.size w w' := by
  have HX : Hid (Below w.heap.size w (w.alloc (.cells #[.int .i64 N, .int .i64 K, .int .i64 B] 26))) := (Below.refl _ w).alloc (Nat.le_refl _) _
  by_cases h1 : K < 1
  · rw [cdE_no (by simp [cdB]; omega)]
    go_enter Tryz.func33, Tryz.ntmps33
    go_wp2
    go_ret
    exact ⟨rfl, HX.out⟩
  have h1' : (K < 1) = False := eq_false h1
  by_cases h2 : N ≤ K
  · rw [cdE_no (by simp [cdB]; omega)]
    clear h1
    go_enter Tryz.func33, Tryz.ntmps33
    go_wp2
    go_ret
    exact ⟨rfl, HX.out⟩
  have h2' : (N ≤ K) = False := eq_false h2
  by_cases h3 : 255 < N
  · rw [cdE_no (by simp [cdB]; omega)]
    clear h1 h2
    go_enter Tryz.func33, Tryz.ntmps33
    go_wp2
    go_ret
    exact ⟨rfl, HX.out⟩
  have h3' : (255 < N) = False := eq_false h3
  by_cases h4 : B < 0
  · rw [cdE_no (by simp [cdB]; omega)]
    clear h1 h2 h3
    go_enter Tryz.func33, Tryz.ntmps33
    go_wp2
    go_ret
    exact ⟨rfl, HX.out⟩
  have h4' : (B < 0) = False := eq_false h4
  by_cases h5 : 255 ≤ B
  · rw [cdE_no (by simp [cdB]; omega)]
    clear h1 h2 h3 h4
    go_enter Tryz.func33, Tryz.ntmps33
    go_wp2
    go_ret
    exact ⟨rfl, HX.out⟩
  have h5' : (255 ≤ B) = False := eq_false h5
  rw [cdE_yes (cdB_true.2 ⟨by omega, by omega, by omega, by omega, by omega⟩)]
  clear h1 h2 h3 h4 h5
  go_enter Tryz.func33, Tryz.ntmps33
  go_wp2
  go_ret
  exact ⟨rfl, HX.out⟩

set_option maxRecDepth 100000 in
set_option maxHeartbeats 1000000 in
theorem cspace_calls (N K B : Int) (w : World) :
    Calls Tryz.prog 43 #[.agg #[.int .i64 N, .int .i64 K, .int .i64 B]] w fun e w' => e = .returned (.int .i64 (cdS N K B)) ∧ Below w.heap.size w w' := by
  obtain ⟨W0, hW0⟩ : ∃ W0, w.alloc (.cells #[.int .i64 N, .int .i64 K, .int .i64 B] 26) = W0 := ⟨_, rfl⟩
  have hb0 : Below w.heap.size w W0 := hW0 ▸ (Below.refl _ w).alloc (Nat.le_refl _) _
  have c0 : W0.cell? ⟨w.heap.size, 0, none⟩ = some (.int .i64 N) := by rw [← hW0]; simp [go_sem]
  have c1 : W0.cell? ⟨w.heap.size, 1, none⟩ = some (.int .i64 K) := by rw [← hW0]; simp [go_sem]
  have c2 : W0.cell? ⟨w.heap.size, 2, none⟩ = some (.int .i64 B) := by rw [← hW0]; simp [go_sem]
  have K1 := cright_calls N K B W0
  have HB : Hid (Below w.heap.size w W0) := hb0
  clear hb0
  cases hc : cdB N K B with
  | false =>
    rw [cdE_no hc] at K1
    rw [cdS_no hc]
    go_enter Tryz.func43, Tryz.ntmps43
    go_wp2_with fail
    refine K1.mono ?_
    rintro e w1 ⟨rfl, hb⟩
    go_wp2
    go_ret
    exact ⟨rfl, HB.out.trans (hb.mono HB.out.size)⟩
  | true =>
    rw [cdE_yes hc] at K1
    rw [cdS_yes hc]
    obtain ⟨g1, g2, g3, _, _⟩ := cdB_true.1 hc
    clear hc
    go_enter Tryz.func43, Tryz.ntmps43
    go_wp2_with fail
    refine K1.mono ?_
    rintro e w1 ⟨rfl, hb⟩
    have hlt : w.heap.size < W0.heap.size := World.block_lt_of_cell? _ _ c0
    have d0 := (hb.cell (p := ⟨w.heap.size, 0, none⟩) hlt).trans c0
    have d1 := (hb.cell (p := ⟨w.heap.size, 1, none⟩) hlt).trans c1
    have hz : wrap64 (N - K) = N - K := by unfold wrap64; omega
    have HB1 : Hid (Below w.heap.size w w1) := HB.out.trans (hb.mono HB.out.size)
    clear hb c0 c1 c2 hlt g1 g2 g3
    go_wp2
    go_ret
    exact ⟨by rw [hz]; rfl, HB1.out⟩
theorem cspace_e (N K B S : Nat) (h : Cod N K B) (hS : N - K = S) (w : World) :
    Calls Tryz.prog 43 #[.agg #[.int .i64 (N : Nat), .int .i64 (K : Nat), .int .i64 (B : Nat)]] w fun e w' => e = .returned (.int .i64 (S : Nat)) ∧ Below w.heap.size w w' := by
  have := cspace_calls (N : Int) (K : Int) (B : Int) w
  rw [cdS_nat h, hS] at this
  exact this

set_option maxRecDepth 100000 in
set_option maxHeartbeats 1000000 in
theorem cusable_calls (P : Option Addr) (b : Bool) (N K B : Int) (hb : (P.isSome && cdB N K B) = b) (w : World) :
    Calls Tryz.prog 54 #[.pointer P, .agg #[.int .i64 N, .int .i64 K, .int .i64 B]] w fun e w' => e = .returned (.bool b) ∧ Below w.heap.size w w' := by
  subst hb
  obtain ⟨W0, hW0⟩ : ∃ W0, w.alloc (.cells #[.int .i64 N, .int .i64 K, .int .i64 B] 26) = W0 := ⟨_, rfl⟩
  have hb0 : Below w.heap.size w W0 := hW0 ▸ (Below.refl _ w).alloc (Nat.le_refl _) _
  have c0 : W0.cell? ⟨w.heap.size, 0, none⟩ = some (.int .i64 N) := by rw [← hW0]; simp [go_sem]
  have c1 : W0.cell? ⟨w.heap.size, 1, none⟩ = some (.int .i64 K) := by rw [← hW0]; simp [go_sem]
  have c2 : W0.cell? ⟨w.heap.size, 2, none⟩ = some (.int .i64 B) := by rw [← hW0]; simp [go_sem]
  have K1 := cright_calls N K B W0
  have HB : Hid (Below w.heap.size w W0) := hb0
  clear hb0
  cases P with
  | none =>
    go_enter Tryz.func54, Tryz.ntmps54
    go_wp2
    go_ret
    exact ⟨rfl, HB.out⟩
  | some a =>
    cases hc : cdB N K B with
    | false =>
      rw [cdE_no hc] at K1
      go_enter Tryz.func54, Tryz.ntmps54
      go_wp2_with fail
      refine K1.mono ?_
      rintro e w1 ⟨rfl, hb⟩
      go_wp2
      go_ret
      exact ⟨rfl, HB.out.trans (hb.mono HB.out.size)⟩
    | true =>
      rw [cdE_yes hc] at K1
      go_enter Tryz.func54, Tryz.ntmps54
      go_wp2_with fail
      refine K1.mono ?_
      rintro e w1 ⟨rfl, hb⟩
      go_wp2
      go_ret
      exact ⟨rfl, HB.out.trans (hb.mono HB.out.size)⟩

set_option maxRecDepth 100000 in
theorem cpoint_made (k B T : Nat) (n : Int) (r : Nat) (h1 : -9223372036854775808 ≤ n) (h2 : n < 9223372036854775808) (hr : Gf.powZ 2 n = r) (w : World) (h : Fd k B T w) :
    Calls Tryz.prog 73 #[.pointer (some ⟨B, 0, none⟩), .int .i64 n] w fun e w' => e = .returned (.int .u8 (r : Nat)) ∧ FdM k B T w' ∧ But (· = T) w w' := by
  have K1 := fpow_made k B T 2 n r (by decide) h1 h2 hr w h
  clear h1 h2 hr h
  go_enter Tryz.func73, Tryz.ntmps73
  go_wp2_with fail
  refine K1.mono ?_
  rintro e w1 ⟨rfl, hF, hb⟩
  go_wp2
  go_ret
  exact ⟨rfl, hF, hb⟩
theorem pt_nat (n : Nat) : Gf.powZ 2 (n : Int) = Cd.pt n := Cd.powZ_pt n
end Go.Proofs
/- The walks of code.powers, of its iterator, which never ends by itself, and of code.first by it: so many powers. Conditions: bytes; a field whose table is made already; no more than a thousand. -/
namespace Go.Proofs
open Go.RowKit Go.Shelf Go.ChangeShapes Go.WideShapes
attribute [local go_sem] Oper.semAt_some
attribute [local go_sem ↓ high] builtin_ap
attribute [local go_sem] ap_sem

/-- p multiplied i times by b. -/
def pwr (p b : Nat) : Nat → Nat
  | 0 => p
  | i + 1 => Gf.mul (pwr p b i) b
/-- The first n of these. -/
def pws (p b : Nat) : Nat → List Nat
  | 0 => []
  | n + 1 => pws p b n ++ [pwr p b n]
theorem pws_length (p b n : Nat) : (pws p b n).length = n := by
  induction n with
  | zero => rfl
  | succ n ih => simp [pws, ih]
theorem pws_take (p b : Nat) : ∀ (m n : Nat), n ≤ m → (pws p b m).take n = pws p b n := by
  intro m
  induction m with
  | zero => intro n h; obtain rfl : n = 0 := by omega
            rfl
  | succ m ih =>
    intro n h
    rcases Nat.lt_or_ge m n with h1 | h1
    · obtain rfl : n = m + 1 := by omega
      exact List.take_of_length_le (by rw [pws_length]; exact Nat.le_refl _)
    · show (pws p b m ++ [pwr p b m]).take n = _
      rw [List.take_append_of_le_length (by rw [pws_length]; exact h1), ih n h1]
theorem pws_eq (p b : Nat) (n : Nat) : pws p b n = (List.range n).map (pwr p b) := by
  induction n with
  | zero => rfl
  | succ n ih => rw [pws, ih, List.range_succ, List.map_append]; rfl
theorem pwr_lt {p b : Nat} (hp : p < 256) : ∀ i, pwr p b i < 256
  | 0 => hp
  | i + 1 => Gf.mul_lt _ _ (pwr_lt hp i)

/-- powers: a closure over three boxes. -/
theorem cpowers_calls (m B p b : Nat) (w : World) :
    CallsIn Fence.wide m Tryz.prog 72 #[.pointer (some ⟨B, 0, none⟩), .int .u8 p, .int .u8 b] w fun e w' => e = .returned (.func (.func 83) #[] #[.pointer (some ⟨w.heap.size + 1, 0, none⟩), .pointer (some ⟨w.heap.size, 0, none⟩), .pointer (some ⟨w.heap.size + 1 + 1, 0, none⟩)]) ∧ ((w.alloc (.cells #[.pointer (some ⟨B, 0, none⟩)] 23)).alloc (.cells #[.int .u8 p] 5)).alloc (.cells #[.int .u8 b] 5) = w' := by
  refine callsIn_of_wp Tryz.func72 rfl trivial ?_ rfl
  simp only [Tryz.ntmps72, List.size_toArray, List.length_cons, List.length_nil, Nat.reduceAdd, Nat.reduceSub, Array.replicate_succ, Array.replicate_zero, List.push_toArray, List.append_toArray, List.nil_append, List.cons_append]
  gi_wp2
  go_ret
  exact ⟨rfl, rfl⟩

/-- What the iterator's boxes hold. -/
structure PwB (A k B T p b : Nat) (W : World) : Prop where
  bf : W.cell? ⟨A, 0, none⟩ = some (.pointer (some ⟨B, 0, none⟩))
  bp : W.cell? ⟨A + 1, 0, none⟩ = some (.int .u8 (p : Nat))
  bb : W.cell? ⟨A + 1 + 1, 0, none⟩ = some (.int .u8 (b : Nat))
  fd : FdM k B T W
theorem PwB.below {A k B T p b : Nat} {W W' : World} (h : PwB A k B T p b W) (hb : Below W.heap.size W W') : PwB A k B T p b W' :=
  ⟨(hb.cell (p := ⟨A, 0, none⟩) (World.block_lt_of_cell? _ _ h.bf)).trans h.bf, (hb.cell (p := ⟨A + 1, 0, none⟩) (World.block_lt_of_cell? _ _ h.bp)).trans h.bp, (hb.cell (p := ⟨A + 1 + 1, 0, none⟩) (World.block_lt_of_cell? _ _ h.bb)).trans h.bb, h.fd.below hb⟩
theorem pwB_new {k B T p b : Nat} {w : World} (h : FdM k B T w) : PwB w.heap.size k B T p b (((w.alloc (.cells #[.pointer (some ⟨B, 0, none⟩)] 23)).alloc (.cells #[.int .u8 (p : Nat)] 5)).alloc (.cells #[.int .u8 (b : Nat)] 5)) := by
  refine ⟨?_, ?_, ?_, h.below ((((Below.refl _ w).alloc (Nat.le_refl _) _).alloc (by simp) _).alloc (by simp; omega) _)⟩
  · simp [go_sem]
  · simp [go_sem]
  · simp [go_sem]

set_option maxRecDepth 100000 in
set_option maxHeartbeats 1000000 in
theorem powers1_till (m : Nat) (hm : 1 ≤ m) (A k B T n p b : Nat) (hp : p < 256) (hb : b < 256) (I : List Nat → World → Prop) (w : World)
    (hI : ∀ pre W, I pre W → pre.length ≤ n ∧ PwB A k B T p b W) :
    SeqTill Fence.wide m Tryz.prog 83 #[.pointer (some ⟨A + 1, 0, none⟩), .pointer (some ⟨A, 0, none⟩), .pointer (some ⟨A + 1 + 1, 0, none⟩)] (fun x : Nat => #[.int .u8 (x : Nat)]) I (fun pre => ∃ c, pre = pws p b c) w :=
  fun l J Jx W hW hJ hJx hJI hY h0 => by
  have hB0 := (hI _ _ (hJI _ _ h0)).2
  have HI : Hid (∀ pre X, J pre X → pre.length ≤ n ∧ PwB A k B T p b X) := fun pre X h => hI _ _ (hJI _ _ h)
  have cp := hB0.bp
  clear hI hJI hB0
  refine callsIn_of_wp Tryz.func83 rfl trivial ?_ rfl
  simp only [Tryz.ntmps83, List.size_toArray, List.length_cons, List.length_nil, Nat.reduceAdd, Nat.reduceSub, Array.replicate_succ, Array.replicate_zero, List.push_toArray, List.append_toArray, List.nil_append, List.cons_append]
  have hfn : ∀ f, Fence.wide.fn f := fun _ => trivial
  have HY : Hid (∀ pre x X, J pre X → YieldAt Fence.wide (m - 1) Tryz.prog l #[.int .u8 (x : Nat)] X fun e Y => (e = .returned (.bool true) ∧ J (pre ++ [x]) Y) ∨ (e = .returned (.bool false) ∧ Jx (pre ++ [x]) Y)) := hY
  have HA : Hid (AbidesFrom W.heap.size J) := hJ
  have HP : Hid (p < 256 ∧ b < 256) := ⟨hp, hb⟩
  clear hY hJ hJx hp hb
  gi_wp2
  gi_loopg [5] (n + 1) (fun g v wr => ∃ c, c + g = n + 1 ∧ v = .int .u8 (pwr p b c : Nat) ∧ J (pws p b c) wr)
  case atStart => exact ⟨0, by omega, rfl, h0⟩
  case round =>
    obtain ⟨c, hc, rfl, hJs⟩ := hrel
    have hl := (HI.out _ _ hJs).1
    rw [pws_length] at hl
    obtain ⟨fn, tmps, assign, body, hy, hR⟩ := HY.out (pws p b c) (pwr p b c) wr hJs
    have e1 : pws p b c ++ [pwr p b c] = pws p b (c + 1) := rfl
    rw [e1] at hR
    have hx := pwr_lt (b := b) HP.out.1 c
    have hx1 : Gf.mul (pwr p b c) b = pwr p b (c + 1) := rfl
    obtain ⟨x, hxe⟩ : ∃ x, pwr p b c = x := ⟨_, rfl⟩
    obtain ⟨y, hye⟩ : ∃ y, pwr p b (c + 1) = y := ⟨_, rfl⟩
    rw [hxe] at hy hx hx1 ⊢
    rw [hye] at hx1
    have HE : Hid (pwr p b (c + 1) = y) := hye
    clear hxe hye e1 hJs
    gi_wp2
    refine hR.mono ?_
    rintro e W3 (⟨rfl, hJ3⟩ | ⟨rfl, hJx3⟩)
    · have h3 := (HI.out _ _ hJ3).2
      have K := fmul_made k B T x b y hx HP.out.2 hx1 W3 h3.fd
      have c1 := h3.bf
      have c2 := h3.bb
      have HJ : Hid (J (pws p b (c + 1)) W3) := hJ3
      clear hJ3 h3 hx1 hx hR hy
      gi_wp2_with fail
      refine (callsIn_wide.2 K).mono ?_
      rintro e w4 ⟨rfl, hb4⟩
      have HJ4 : Hid (J (pws p b (c + 1)) w4) := HA.out _ _ _ none HJ.out (grown_none_of hb4) (fun r e => by cases e)
      clear K c1 c2 hb4 HJ
      gi_wp2
      go_roundg (n - c)
      case measure => omega
      case rel => exact ⟨c + 1, by omega, by rw [HE.out], HJ4.out⟩
    · gi_wp2
      go_end0
      exact ⟨⟨_, rfl⟩, _, ⟨c + 1, rfl⟩, hJx3⟩

set_option maxRecDepth 100000 in
set_option maxHeartbeats 2000000 in
theorem cfirst_in (D : Nat) (hD : 3 ≤ D) (A k B T n p b : Nat) (hp : p < 256) (hb : b < 256) (hn : n ≤ 1000) (w : World) (h : PwB A k B T p b w) :
    CallsIn Fence.wide D Tryz.prog 71 #[.int .i64 (n : Nat), .func (.func 83) #[] #[.pointer (some ⟨A + 1, 0, none⟩), .pointer (some ⟨A, 0, none⟩), .pointer (some ⟨A + 1 + 1, 0, none⟩)]] w fun e w' => ∃ v, e = .returned v ∧ Ow w' w.heap.size v (pws p b n) ∧ Below w.heap.size w w' := by
  have HS : Hid (PwB A k B T p b w ∧ p < 256 ∧ b < 256) := ⟨h, hp, hb⟩
  have hmk := make_bytes0 n (by omega)
  have hA2 : A + 1 + 1 < w.heap.size := World.block_lt_of_cell? _ _ h.bb
  clear h hp hb
  refine callsIn_of_wp_marks Tryz.func71 rfl trivial ?_ rfl
  simp only [Tryz.ntmps71, List.size_toArray, List.length_cons, List.length_nil, Nat.reduceAdd, Nat.reduceSub, Array.replicate_succ, Array.replicate_zero, List.push_toArray, List.append_toArray, List.nil_append, List.cons_append]
  have hfn : ∀ f, Fence.wide.fn f := fun _ => trivial
  have hD1 : 1 ≤ D := by omega
  gi_wp2
  clear hmk
  obtain ⟨R, hR⟩ : ∃ R, w.heap.size = R := ⟨_, rfl⟩
  obtain ⟨W0, hW0⟩ : ∃ W0, ((w.alloc (.cells #[.int .i64 (n : Nat)] 3)).alloc (.cells (madeCells #[.int .u8 0] n) 5)).alloc (.cells #[.slice (some ⟨w.heap.size + 1, 0, none⟩) 0 n] 22) = W0 := ⟨_, rfl⟩
  have hsz : W0.heap.size = R + 3 := by rw [← hW0, ← hR]; simp
  have hB0 : Below R w W0 := by
    rw [← hW0, ← hR]; exact (((Below.refl _ w).alloc (Nat.le_refl _) _).alloc (by simp) _).alloc (by simp; omega) _
  have i1 : Boxed W0 R 3 (.int .i64 (n : Nat)) := by rw [← hW0, ← hR]; exact ((Boxed.new w _ _).alloc _).alloc _
  have i2 : Boxed W0 (R + 1 + 1) 22 (.slice (some ⟨R + 1, 0, none⟩) 0 n) := by
    have := Boxed.new ((w.alloc (.cells #[.int .i64 (n : Nat)] 3)).alloc (.cells (madeCells #[.int .u8 0] n) 5)) 22 (.slice (some ⟨w.heap.size + 1, 0, none⟩) 0 n)
    rw [hW0] at this
    simpa [hR] using this
  have i3 : Ow W0 (R + 1) (.slice (some ⟨R + 1, 0, none⟩) 0 n) [] := by
    have := (ow_made0 (w.alloc (.cells #[.int .i64 (n : Nat)] 3)) (base := R + 1) (by simp; omega) n (by omega)).alloc (.cells #[.slice (some ⟨w.heap.size + 1, 0, none⟩) 0 n] 22)
    rw [hW0] at this
    simpa [hR] using this
  rw [hW0, hR]
  clear hW0
  rw [hR] at hA2
  refine wpIn_rangeFunc_till rfl hD1 (gf := 83) (lb := #[.pointer (some ⟨A + 1, 0, none⟩), .pointer (some ⟨A, 0, none⟩), .pointer (some ⟨A + 1 + 1, 0, none⟩)]) rfl trivial (enters_of Tryz.func83 (by kernel_rfl) rfl)
    (fun _ => rfl) 0
    (fun pre W => ((Boxed W R 3 (.int .i64 (n : Nat)) ∧ ∃ v, Boxed W (R + 1 + 1) 22 v ∧ W.ownsRow (R + 1) 5 1 v pre.length (ob pre) ∧ True) ∧ Below R w W) ∧ pre.length ≤ n)
    (fun pre W => ((Boxed W R 3 (.int .i64 (n : Nat)) ∧ ∃ v, Boxed W (R + 1 + 1) 22 v ∧ W.ownsRow (R + 1) 5 1 v (pre.take n).length (ob (pre.take n)) ∧ True) ∧ Below R w W) ∧ pre.length = n + 1)
    (powers1_till (D - 1) (by omega) A k B T n p b HS.out.2.1 HS.out.2.2 _ _ (fun pre W hi => ⟨hi.2, HS.out.1.below (hR.symm ▸ hi.1.2)⟩))
    (OwnFrom.and (OwnFrom.and (OwnFrom.and (Own.from (boxed_own _ _ _) _) (Own.from (holdsRow_own _ _ _ _ _ _ _ _) _)) (ownFrom_below (by omega) (by omega))) (fun _ _ _ _ h _ _ => h))
    (OwnFrom.and (OwnFrom.and (OwnFrom.and (Own.from (boxed_own _ _ _) _) (Own.from (holdsRow_own _ _ _ _ _ _ _ _) _)) (ownFrom_below (by omega) (by omega))) (fun _ _ _ _ h _ _ => h))
    ⟨⟨⟨i1, _, i2, i3, trivial⟩, hB0⟩, Nat.zero_le _⟩
    (fun x => { tmps := #[.int .i64 (n : Nat), .func (.func 83) #[] #[.pointer (some ⟨A + 1, 0, none⟩), .pointer (some ⟨A, 0, none⟩), .pointer (some ⟨A + 1 + 1, 0, none⟩)], .pointer (some ⟨R, 0, none⟩), undef, .slice none 0 0, .pointer (some ⟨R + 1 + 1, 0, none⟩), .int .u8 (x : Nat), .int .i64 (n : Nat), .slice (some ⟨R + 1, 0, none⟩) 0 n, .func (.func 83) #[] #[.pointer (some ⟨A + 1, 0, none⟩), .pointer (some ⟨A, 0, none⟩), .pointer (some ⟨A + 1 + 1, 0, none⟩)], .int .u8 (x : Nat), undef, undef, undef, undef, undef, undef, undef, undef, undef], defers := [] }) ?assign ?body ?stop
  case assign =>
    intro l x W K hK
    gi_wp2
    exact hK
  case body =>
    rintro l pre x W ⟨⟨⟨hN, v, hv, hrow0, _⟩, hB⟩, hle⟩
    have hrow : Ow W (R + 1) v pre := hrow0
    clear i1 i2 i3 hB0 hrow0
    have cn := hN.cell
    have cv := hv.cell
    have hvs : ∃ q c, v = .slice q pre.length c := by
      rcases hrow.shape with ⟨rfl, rfl⟩ | ⟨g, cap, rfl, _⟩
      · exact ⟨none, 0, rfl⟩
      · exact ⟨_, _, rfl⟩
    obtain ⟨q, c, rfl⟩ := hvs
    obtain ⟨t, ht⟩ : ∃ t, pre.length = t := ⟨_, rfl⟩
    rw [ht] at cv hle hv hrow
    by_cases hlt : t = n
    · subst hlt
      have HZ : Hid (KeepsFrom W0.heap.size W W ∧ ((Boxed W R 3 (.int .i64 (t : Nat)) ∧ ∃ v, Boxed W (R + 1 + 1) 22 v ∧ W.ownsRow (R + 1) 5 1 v ((pre ++ [x]).take t).length (ob ((pre ++ [x]).take t)) ∧ True) ∧ Below R w W) ∧ (pre ++ [x]).length = t + 1) := by
        have e : (pre ++ [x]).take t = pre := by rw [← ht]; simp
        rw [e]
        exact ⟨KeepsFrom.refl _ _, ⟨⟨hN, _, hv, hrow, trivial⟩, hB⟩, by simp [ht]⟩
      clear hN hv hrow hB
      gi_wp2
      exact ⟨HZ.out.1, rfl, HZ.out.2⟩
    · have hne : ((t : Int) == (n : Int)) = false := by simp; omega
      have hRW : R + 1 + 1 < W.heap.size := hv.lt
      obtain ⟨V, hV⟩ : ∃ V, W.alloc (.cells #[.int .u8 (x : Nat)] 5) = V := ⟨_, rfl⟩
      have hbV : Below W.heap.size W V := hV ▸ (Below.refl _ W).alloc (Nat.le_refl _) _
      have hVs : W.heap.size < V.heap.size := by rw [← hV]; simp
      have rowV : Ow V (R + 1) (.slice q t c) pre := hrow.below hbV
      obtain ⟨v', W', hap, hO', hgr⟩ := run_append_bytes V (R + 1) (.slice q t c) pre ⟨W.heap.size, 0, none⟩ 1 [x] rowV (fun j hj => by
        have hj1 : j < 1 := hj
        obtain rfl : j = 0 := by omega
        show V.cell? ⟨W.heap.size, 0, none⟩ = _
        rw [← hV, World.cell?_alloc_at _ _ _ _ rfl]; rfl) (by simp; omega) (by omega)
      have hsh : ∃ g' n' c', v' = .slice (some ⟨g', 0, none⟩) n' c' := by
        rcases hO'.shape with ⟨_, h0⟩ | ⟨g', c', h1, _⟩
        · exact absurd (congrArg List.length h0) (by simp)
        · exact ⟨g', _, c', h1⟩
      obtain ⟨g', n', c', rfl⟩ := hsh
      obtain ⟨b1, b2, b3, b4, b5⟩ := appended0 (B := R + 1 + 1) (boxed_below hv hbV) rowV (by omega) (by omega) hO' hgr
      have k1 := other0 (B := R + 1 + 1) (v' := .slice (some ⟨g', 0, none⟩) n' c') (boxed_below hN hbV) (by decide) (by omega) rowV hgr
      rw [show [x].length = 1 from rfl] at hap
      have ha1 := ap_ok hap
      have ha2 := ap_v hap
      have ha3 := ap_w hap
      have HZ : Hid (KeepsFrom R W (W'.setCell ⟨R + 1 + 1, 0, none⟩ (.slice (some ⟨g', 0, none⟩) n' c')) ∧ ((Boxed (W'.setCell ⟨R + 1 + 1, 0, none⟩ (.slice (some ⟨g', 0, none⟩) n' c')) R 3 (.int .i64 (n : Nat)) ∧ ∃ v, Boxed (W'.setCell ⟨R + 1 + 1, 0, none⟩ (.slice (some ⟨g', 0, none⟩) n' c')) (R + 1 + 1) 22 v ∧ (W'.setCell ⟨R + 1 + 1, 0, none⟩ (.slice (some ⟨g', 0, none⟩) n' c')).ownsRow (R + 1) 5 1 v (pre ++ [x]).length (ob (pre ++ [x])) ∧ True) ∧ Below R w (W'.setCell ⟨R + 1 + 1, 0, none⟩ (.slice (some ⟨g', 0, none⟩) n' c'))) ∧ (pre ++ [x]).length ≤ n) :=
        ⟨((keepsOthers_below hbV).trans b4).from R, ⟨⟨k1, _, b2, b3, trivial⟩, (hB.trans (hbV.mono (by omega))).trans (b5.mono (by omega))⟩, by simp; omega⟩
      have c1 := b1.cell
      have f1 := b1.frozen
      clear b1 b2 b3 b4 b5 k1 hO' hgr hap hrow hB hN hv rowV hRW hVs hbV
      gi_wp2
      exact ⟨by have := HZ.out.1; exact ⟨this.size, fun k o hk => this.same k o (by omega)⟩, HZ.out.2⟩
  case stop =>
    rintro D' pre W hD' ⟨m, rfl⟩ ⟨⟨⟨hN, v, hv, hrow0, _⟩, hB⟩, hlen⟩ hK
    rw [pws_length] at hlen
    rw [pws_take p b m n (by omega)] at hrow0
    have cP := hv.cell
    have HZ : Hid (Ow W R v (pws p b n) ∧ Below R w W) := ⟨Ow.mono (show Ow W (R + 1) v (pws p b n) from hrow0) (by omega), hB⟩
    clear hrow0 hB hN hv i1 i2 i3 hB0
    gi_wp2
    refine ⟨by simp, .inl ⟨_, _, rfl, run_takeDeferred hK, ?_⟩⟩
    refine ⟨_, results_tmp rfl _ _ _, _, rfl, ownsRow_putObj (show W.ownsRow w.heap.size 5 1 v (pws p b n).length (ob (pws p b n)) from hR.symm ▸ HZ.out.1) _ hK rfl, ?_⟩
    rw [hR]
    exact HZ.out.2.trans (belowK_b (w := w) (by omega) W D' _ _ (by omega) hK rfl rfl)
theorem cfirst_calls (A k B T n p b : Nat) (hp : p < 256) (hb : b < 256) (hn : n ≤ 1000) (w : World) (h : PwB A k B T p b w) :
    Calls Tryz.prog 71 #[.int .i64 (n : Nat), .func (.func 83) #[] #[.pointer (some ⟨A + 1, 0, none⟩), .pointer (some ⟨A, 0, none⟩), .pointer (some ⟨A + 1 + 1, 0, none⟩)]] w fun e w' => ∃ v, e = .returned v ∧ Ow w' w.heap.size v (pws p b n) ∧ Below w.heap.size w w' :=
  (callsIn_wide (n := 3)).1 (cfirst_in 3 (by omega) A k B T n p b hp hb hn w h)
end Go.Proofs
/- The walks of code.Roots, Generator and Has. Conditions: any code; a field that Of has made; words that do not lie in its table. -/
namespace Go.Proofs
open Go.RowKit Go.ChangeShapes Go.WideShapes
open Pol (IsN Dg ofL Byt frL vl)

/-- A code in a box. -/
structure Cb (W : World) (R : Nat) (N K B : Int) : Prop where
  c0 : W.cell? ⟨R, 0, none⟩ = some (.int .i64 N)
  c1 : W.cell? ⟨R, 1, none⟩ = some (.int .i64 K)
  c2 : W.cell? ⟨R, 2, none⟩ = some (.int .i64 B)
section
variable {W W' : World} {R : Nat} {N K B : Int}
theorem Cb.blt (h : Cb W R N K B) : R < W.heap.size := World.block_lt_of_cell? _ _ h.c0
theorem Cb.but {S : Nat → Prop} (h : Cb W R N K B) (hb : But S W W') (hs : ¬ S R) : Cb W' R N K B :=
  ⟨(hb.cell (p := ⟨R, 0, none⟩) h.blt hs).trans h.c0, (hb.cell (p := ⟨R, 1, none⟩) h.blt hs).trans h.c1, (hb.cell (p := ⟨R, 2, none⟩) h.blt hs).trans h.c2⟩
theorem Cb.below (h : Cb W R N K B) (hb : Below W.heap.size W W') : Cb W' R N K B := h.but (But.of_below (S := fun _ => False) hb) id
theorem Cb.drew (h : Cb W R N K B) : Cb W.drew R N K B := h.below (Below.refl _ W).drew
end
theorem cb_new (w : World) (N K B : Int) : Cb (w.alloc (.cells #[.int .i64 N, .int .i64 K, .int .i64 B] 26)) w.heap.size N K B := ⟨by simp [go_sem], by simp [go_sem], by simp [go_sem]⟩

/-- A world that calls of a field have come to. -/
structure Tw (k B T : Nat) (w W : World) : Prop where
  fd : Fd k B T W
  but : But (· = T) w W
theorem Tw.below {k B T : Nat} {w W W' : World} (h : Tw k B T w W) (hb : Below W.heap.size W W') : Tw k B T w W' := ⟨h.fd.below hb, h.but.trans (But.of_below hb)⟩
theorem Tw.next {k B T : Nat} {w W W' : World} (h : Tw k B T w W) (hF : Fd k B T W') (hb : But (· = T) W W') : Tw k B T w W' := ⟨hF, h.but.trans hb⟩

theorem pwr_pt (B i : Nat) : pwr (Cd.pt B) 2 i = Cd.pt (B + i) := by
  induction i with
  | zero => rfl
  | succ i ih =>
    have e : (2 : Nat) = Cd.pt 1 := by decide +kernel
    show Gf.mul (pwr (Cd.pt B) 2 i) 2 = _
    rw [ih]; conv => lhs; rw [e]
    rw [Cd.pt_mul]; rfl
theorem pws_rts (B S : Nat) : pws (Cd.pt B) 2 S = Cd.rts B S := by
  rw [pws_eq]; unfold Cd.rts
  exact List.map_congr_left fun i _ => pwr_pt B i

/-- .. and in which a code's box stands. -/
structure Tc (k Bf T R : Nat) (N K B : Int) (w W : World) : Prop where
  tw : Tw k Bf T w W
  cb : Cb W R N K B
  nT : ¬ R = T
section
variable {k Bf T R : Nat} {N K B : Int} {w W W' : World}
theorem Tc.below (h : Tc k Bf T R N K B w W) (hb : Below W.heap.size W W') : Tc k Bf T R N K B w W' := ⟨h.tw.below hb, h.cb.below hb, h.nT⟩
theorem Tc.next (h : Tc k Bf T R N K B w W) (hF : Fd k Bf T W') (hb : But (· = T) W W') : Tc k Bf T R N K B w W' := ⟨h.tw.next hF hb, h.cb.but hb h.nT, h.nT⟩
theorem Tc.drew (h : Tc k Bf T R N K B w W) : Tc k Bf T R N K B w W.drew := h.below (Below.refl _ W).drew
theorem tc_new (hF : Fd k Bf T w) (N K B : Int) : Tc k Bf T w.heap.size N K B w (w.alloc (.cells #[.int .i64 N, .int .i64 K, .int .i64 B] 26)) :=
  ⟨⟨hF.below ((Below.refl _ w).alloc (Nat.le_refl _) _), But.of_below ((Below.refl _ w).alloc (Nat.le_refl _) _)⟩, cb_new w N K B, by have := hF.lt; omega⟩
theorem Tc.size (h : Tc k Bf T R N K B w W) : w.heap.size ≤ W.heap.size := h.tw.but.size
end

set_option maxRecDepth 100000 in
set_option maxHeartbeats 1000000 in
theorem croots_made (k Bf T N K B S : Nat) (h : Cod N K B) (hS : N - K = S) (w : World) (hF : Fd k Bf T w) :
    Calls Tryz.prog 55 #[.pointer (some ⟨Bf, 0, none⟩), .agg #[.int .i64 (N : Nat), .int .i64 (K : Nat), .int .i64 (B : Nat)]] w fun e w' => ∃ v, e = .returned v ∧ Ow w' w.heap.size v (Cd.rts B S) ∧ FdM k Bf T w' ∧ But (· = T) w w' := by
  have hT := tc_new hF (N : Int) (K : Int) (B : Int)
  obtain ⟨R, hR⟩ : ∃ R, w.heap.size = R := ⟨_, rfl⟩
  obtain ⟨W0, hW0⟩ : ∃ W0, w.alloc (.cells #[.int .i64 (N : Nat), .int .i64 (K : Nat), .int .i64 (B : Nat)] 26) = W0 := ⟨_, rfl⟩
  rw [hW0, hR] at hT
  have K1 := cusable_calls (some ⟨Bf, 0, none⟩) true (N : Int) (K : Int) (B : Int) (by rw [h.yes]; rfl) W0
  have KS : Hid (∀ W, Tc k Bf T R N K B w W → Calls Tryz.prog 43 #[.agg #[.int .i64 (N : Nat), .int .i64 (K : Nat), .int .i64 (B : Nat)]] W fun e w' => e = .returned (.int .i64 (S : Nat)) ∧ Tc k Bf T R N K B w w') := fun W hW =>
    (cspace_e N K B S h hS W).mono fun _ _ ⟨e, hb⟩ => ⟨e, hW.below hb⟩
  have KP : Hid (∀ W, Tc k Bf T R N K B w W → Calls Tryz.prog 73 #[.pointer (some ⟨Bf, 0, none⟩), .int .i64 (B : Nat)] W fun e w' => e = .returned (.int .u8 (Cd.pt B : Nat)) ∧ FdM k Bf T w' ∧ Tc k Bf T R N K B w w') := fun W hW =>
    (cpoint_made k Bf T (B : Int) _ (by omega) (by have := h.b; omega) (pt_nat B) W hW.tw.fd).mono fun _ _ ⟨e, hM, hb⟩ => ⟨e, hM, hW.next hM.fd hb⟩
  have KW : Hid (∀ W, FdM k Bf T W → Tc k Bf T R N K B w W → Calls Tryz.prog 72 #[.pointer (some ⟨Bf, 0, none⟩), .int .u8 (Cd.pt B : Nat), .int .u8 2] W fun e w' => ∃ A, e = .returned (.func (.func 83) #[] #[.pointer (some ⟨A + 1, 0, none⟩), .pointer (some ⟨A, 0, none⟩), .pointer (some ⟨A + 1 + 1, 0, none⟩)]) ∧ PwB A k Bf T (Cd.pt B) 2 w' ∧ Tc k Bf T R N K B w w') := fun W hM hW =>
    ((callsIn_wide (n := 1)).1 (cpowers_calls 1 Bf (Cd.pt B) 2 W)).mono fun e w' ⟨he, hw⟩ => by
      subst hw
      exact ⟨W.heap.size, he, pwB_new hM, hW.below ((((Below.refl _ W).alloc (Nat.le_refl _) _).alloc (by simp) _).alloc (by simp; omega) _)⟩
  have KF : Hid (∀ A W, PwB A k Bf T (Cd.pt B) 2 W → Tc k Bf T R N K B w W → Calls Tryz.prog 71 #[.int .i64 (S : Nat), .func (.func 83) #[] #[.pointer (some ⟨A + 1, 0, none⟩), .pointer (some ⟨A, 0, none⟩), .pointer (some ⟨A + 1 + 1, 0, none⟩)]] W fun e w' => ∃ v, e = .returned v ∧ Hid (Ow w' R v (Cd.rts B S) ∧ FdM k Bf T w' ∧ But (· = T) w w') ∧ Tc k Bf T R N K B w w') := fun A W hP hW =>
    (cfirst_calls A k Bf T S (Cd.pt B) 2 (Cd.pt_lt _) (by decide) (by have := h.m; omega) W hP).mono fun e w' ⟨v, he, hO, hb⟩ => by
      rw [pws_rts] at hO
      exact ⟨v, he, ⟨hO.mono (hR ▸ hW.size), hP.fd.below hb, (hW.below hb).tw.but⟩, hW.below hb⟩
  obtain ⟨b, hb⟩ : ∃ b, Cd.pt B = b := ⟨_, rfl⟩
  rw [hb] at KP KW KF
  have HT : Hid (Tc k Bf T R N K B w W0) := hT
  have hC := hT.cb
  clear hF h hS hT hb
  have c0 := (hC).c0
  have c1 := (hC).c1
  have c2 := (hC).c2
  clear hC
  go_enter Tryz.func55, Tryz.ntmps55
  go_wp2_with fail
  refine K1.mono ?_
  rintro e w1 ⟨rfl, hb1⟩
  clear K1
  clear c0 c1 c2
  have hT0 : Tc k Bf T R N K B w w1.drew := HT.out.below hb1.drew
  have hC := (HT.out.below hb1).cb
  clear hb1
  have c0 := (hC).c0
  have c1 := (hC).c1
  have c2 := (hC).c2
  clear hC
  go_wp2
  go_region_held3 (fun w' => w'.cell? ⟨R, 0, none⟩ = some (.int .i64 (N : Nat)) ∧ w'.cell? ⟨R, 1, none⟩ = some (.int .i64 (K : Nat)) ∧ w'.cell? ⟨R, 2, none⟩ = some (.int .i64 (B : Nat)))
    (first | (exact ⟨hT4.cb.c0, hT4.cb.c1, hT4.cb.c2⟩) | (exact ⟨hT3.cb.c0, hT3.cb.c1, hT3.cb.c2⟩) | (exact ⟨hT2.cb.c0, hT2.cb.c1, hT2.cb.c2⟩) | (exact ⟨hT1.cb.c0, hT1.cb.c1, hT1.cb.c2⟩) | (go_keep; done))
    (first
      | (go_at_call 43; with_reducible refine (KS.out _ hT0).mono ?_; rintro e w2 ⟨rfl, hT1⟩)
      | (go_at_call 73; with_reducible refine (KP.out _ hT1).mono ?_; rintro e w3 ⟨rfl, hM2, hT2⟩)
      | (go_at_call 72; with_reducible refine (KW.out _ hM2 hT2).mono ?_; rintro e w4 ⟨A, rfl, hP3, hT3⟩)
      | (go_at_call 71; with_reducible refine (KF.out A _ hP3 hT3).mono ?_; rintro e w5 ⟨v, rfl, HO, hT4⟩))
  go_wp2
  go_ret
  subst hR
  exact ⟨_, rfl, HO.out⟩
theorem croots_calls (k Bf T N K B S : Nat) (h : Cod N K B) (hS : N - K = S) (w : World) (hF : Fd k Bf T w) :
    Calls Tryz.prog 55 #[.pointer (some ⟨Bf, 0, none⟩), .agg #[.int .i64 (N : Nat), .int .i64 (K : Nat), .int .i64 (B : Nat)]] w fun e w' => ∃ v, e = .returned v ∧ Ow w' w.heap.size v (Cd.rts B S) ∧ Fd k Bf T w' ∧ But (· = T) w w' :=
  (croots_made k Bf T N K B S h hS w hF).mono fun _ _ ⟨v, e, hO, hM, hb⟩ => ⟨v, e, hO, hM.fd, hb⟩

set_option maxRecDepth 100000 in
set_option maxHeartbeats 1000000 in
theorem chas_calls (k Bf T N K B S n c : Nat) (q : Option Addr) (xs : List Nat) (h : Cod N K B) (hS : N - K = S) (w : World) (hF : Fd k Bf T w) (hs : Bs w q n xs) (hq : Off T n q) :
    Calls Tryz.prog 38 #[.pointer (some ⟨Bf, 0, none⟩), .agg #[.int .i64 (N : Nat), .int .i64 (K : Nat), .int .i64 (B : Nat)], .slice q n c] w fun e w' => e = .returned (.bool (decide (Cd.IsW N S B xs))) ∧ Fd k Bf T w' ∧ But (· = T) w w' := by
  obtain ⟨b, hb⟩ : ∃ b, decide (Cd.IsW N S B xs) = b := ⟨_, rfl⟩
  rw [hb]
  have HD : Hid (decide (Cd.IsW N S B xs) = b) := hb
  clear hb
  have hT := tc_new hF (N : Int) (K : Int) (B : Int)
  obtain ⟨R, hR⟩ : ∃ R, w.heap.size = R := ⟨_, rfl⟩
  obtain ⟨W0, hW0⟩ : ∃ W0, w.alloc (.cells #[.int .i64 (N : Nat), .int .i64 (K : Nat), .int .i64 (B : Nat)] 26) = W0 := ⟨_, rfl⟩
  rw [hW0, hR] at hT
  have K1 := cusable_calls (some ⟨Bf, 0, none⟩) true (N : Int) (K : Int) (B : Int) (by rw [h.yes]; rfl) W0
  have KR : Hid (∀ W, Fd k Bf T W → Calls Tryz.prog 55 #[.pointer (some ⟨Bf, 0, none⟩), .agg #[.int .i64 (N : Nat), .int .i64 (K : Nat), .int .i64 (B : Nat)]] W fun e w' => ∃ v, e = .returned v ∧ Ow w' W.heap.size v (Cd.rts B S) ∧ Fd k Bf T w' ∧ But (· = T) W w') := fun W hW => croots_calls k Bf T N K B S h hS W hW
  have HT : Hid (Tc k Bf T R N K B w W0 ∧ S ≤ 10000000 ∧ T < R ∧ Bs w q n xs ∧ Off T n q ∧ xs.length = n) := ⟨hT, by have := h.m; omega, hR ▸ hF.lt, hs, hq, hs.len⟩
  have hC := hT.cb
  have hS6 : (S : Int) ≤ 10000000 := by have := h.m; omega
  clear hF h hS hT hs hq
  have c0 := (hC).c0
  have c1 := (hC).c1
  have c2 := (hC).c2
  clear hC
  by_cases hn : n = N
  · subst hn
    go_enter Tryz.func38, Tryz.ntmps38
    go_wp2_with fail
    refine K1.mono ?_
    rintro e w1 ⟨rfl, hb1⟩
    clear K1
    clear c0 c1 c2
    have hT1 := HT.out.1.below hb1
    have hC := hT1.cb
    have KR1 := KR.out w1 hT1.tw.fd
    have HT1 : Hid (Tc k Bf T R n K B w w1) := hT1
    clear hb1 hT1 KR
    have c0 := (hC).c0
    have c1 := (hC).c1
    have c2 := (hC).c2
    clear hC
    go_wp2_with fail
    refine KR1.mono ?_
    rintro e w2 ⟨v, rfl, hO, hF, hb⟩
    clear KR1
    clear c0 c1 c2
    have hT2 := HT1.out.next hF hb
    obtain ⟨p, d, rfl, S2, C2, hQ⟩ := hO.tell (n := S) (Cd.rts_byt B S) (Cd.rts_length B S)
    have HT2 : Hid (Tc k Bf T R n K B w w2 ∧ Bs w2 p S (Cd.rts B S) ∧ Off T S p) := ⟨hT2, S2, hQ T (by have := HT1.out.size; have := HT.out.2.2.1; omega)⟩
    clear hO hF hb S2 hQ hT2
    go_wp2
    go_loopw [24] (fun i wr => ∃ t : Nat, t ≤ S ∧ i = .int .i64 (t : Int) ∧ (∀ j, j < t → vl xs (Cd.pt (B + j)) = 0) ∧ Fd k Bf T wr ∧ But (· = T) w2 wr) (fun i _ => S - (intOf i).toNat)
    case atStart => exact ⟨0, by omega, rfl, fun j hj => absurd hj (Nat.not_lt_zero j), HT2.out.1.tw.fd, But.refl _ _⟩
    case round =>
      obtain ⟨t, ht, rfl, hz, hF, hB⟩ := hrel
      have HZ : Hid (∀ j, j < t → vl xs (Cd.pt (B + j)) = 0) := hz
      clear hz
      by_cases hlt : t < S
      · have hi : (t : Int) < (S : Int) := by omega
        have hi0 : (0 : Int) ≤ (t : Int) := by omega
        obtain ⟨a, rfl, _, ca⟩ := (HT2.out.2.1.but hB HT2.out.2.2).cell t hlt
        rw [Cd.rts_at hlt] at ca
        have hbx := Cd.pt_lt (B + t)
        obtain ⟨x, hx⟩ : ∃ x, Cd.pt (B + t) = x := ⟨_, rfl⟩
        rw [hx] at ca hbx
        have KA := vat_calls k Bf T n c x q xs hbx wr hF ((HT.out.2.2.2.1.but HT2.out.1.tw.but HT.out.2.2.2.2.1).but hB HT.out.2.2.2.2.1) HT.out.2.2.2.2.1
        obtain ⟨y, hy⟩ : ∃ y, vl xs x = y := ⟨_, rfl⟩
        rw [hy] at KA
        have HB : Hid (But (· = T) w2 wr ∧ vl xs (Cd.pt (B + t)) = y) := ⟨hB, by rw [hx]; exact hy⟩
        clear hB hF hx hy
        by_cases h0 : y = 0
        · subst h0
          go_wp2_with fail
          refine KA.mono ?_
          rintro e w3 ⟨rfl, hF, hb⟩
          clear KA
          have HF : Hid (Fd k Bf T w3 ∧ But (· = T) w2 w3) := ⟨hF, HB.out.1.trans hb⟩
          clear hF hb ca
          go_wp2
          go_roundw
          case rel => exact ⟨t + 1, by omega, by go_num, fun j hj => by
            rcases Nat.lt_or_ge j t with h1 | h1
            · exact HZ.out j h1
            · obtain rfl : j = t := by omega
              exact HB.out.2, HF.out⟩
          case measure => simp [intOf]; omega
        · have h0' : ((y : Int) != 0) = true := by simp; omega
          have HN : Hid (b = false) := by show b = false; rw [← HD.out]; exact decide_eq_false fun hw => h0 (by rw [← HB.out.2]; exact hw.2 t hlt)
          go_wp2_with fail
          refine KA.mono ?_
          rintro e w3 ⟨rfl, hF, hb⟩
          clear KA
          have HF : Hid (Fd k Bf T w3 ∧ But (· = T) w w3) := ⟨hF, (HT2.out.1.tw.but.trans HB.out.1).trans hb⟩
          clear hF hb ca
          go_wp2
          go_ret
          exact ⟨by rw [HN.out]; rfl, HF.out⟩
      · obtain rfl : t = S := by omega
        have HN : Hid (b = true) := by show b = true; rw [← HD.out]; exact decide_eq_true ⟨HT.out.2.2.2.2.2, HZ.out⟩
        have HF : Hid (Fd k Bf T wr ∧ But (· = T) w wr) := ⟨hF, HT2.out.1.tw.but.trans hB⟩
        clear hF hB
        go_wp2
        go_ret
        exact ⟨by rw [HN.out]; rfl, HF.out⟩
  · have hno : b = false := by rw [← HD.out]; exact decide_eq_false fun hw => hn (by rw [← hw.1]; exact HT.out.2.2.2.2.2.symm)
    have hni : ((n : Int) != (N : Int)) = true := by simp; omega
    subst hno
    go_enter Tryz.func38, Tryz.ntmps38
    go_wp2_with fail
    refine K1.mono ?_
    rintro e w1 ⟨rfl, hb1⟩
    clear K1
    clear c0 c1 c2
    have hT1 := HT.out.1.below hb1
    have hC := hT1.cb
    have HT1 : Hid (Tc k Bf T R N K B w w1) := hT1
    clear hb1 hT1 KR
    have c0 := (hC).c0
    have c1 := (hC).c1
    have c2 := (hC).c2
    clear hC
    go_wp2
    go_ret
    exact ⟨rfl, HT1.out.tw.fd, HT1.out.tw.but⟩
set_option maxRecDepth 100000 in
set_option maxHeartbeats 1000000 in
theorem chas_none (P : Option Addr) (N K B : Int) (q : Option Addr) (n c : Nat) (hc : (P.isSome && cdB N K B) = false) (w : World) :
    Calls Tryz.prog 38 #[.pointer P, .agg #[.int .i64 N, .int .i64 K, .int .i64 B], .slice q n c] w fun e w' => e = .returned (.bool false) ∧ Below w.heap.size w w' := by
  obtain ⟨R, hR⟩ : ∃ R, w.heap.size = R := ⟨_, rfl⟩
  obtain ⟨W0, hW0⟩ : ∃ W0, w.alloc (.cells #[.int .i64 N, .int .i64 K, .int .i64 B] 26) = W0 := ⟨_, rfl⟩
  have hb0 : Below w.heap.size w W0 := hW0 ▸ (Below.refl _ w).alloc (Nat.le_refl _) _
  have hC : Cb W0 R N K B := by rw [← hW0, ← hR]; exact cb_new w _ _ _
  have K1 := cusable_calls P false N K B hc W0
  have HB : Hid (Below w.heap.size w W0) := hb0
  clear hb0 hc
  have c0 := (hC).c0
  have c1 := (hC).c1
  have c2 := (hC).c2
  clear hC
  go_enter Tryz.func38, Tryz.ntmps38
  go_wp2_with fail
  refine K1.mono ?_
  rintro e w1 ⟨rfl, hb1⟩
  clear K1
  clear c0 c1 c2
  have HZ : Hid (Below w.heap.size w w1) := HB.out.trans (hb1.mono HB.out.size)
  clear hb1
  go_wp2
  go_ret
  exact ⟨rfl, HZ.out⟩
end Go.Proofs
