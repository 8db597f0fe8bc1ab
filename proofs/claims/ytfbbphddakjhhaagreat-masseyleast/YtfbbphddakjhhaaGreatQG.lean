/- The walks of the document's answer of layer 14 (erratumref14): register and Massey. Conditions: lists of at most 300 bytes. -/
import Derived.Maps.AppendAt
import Derived.Deep.RegionLaw
import Derived.Test.YtfbbphddakjhhaaGreatNU
import Derived.Test.YtfbbphddakjhhaaGreatMS
import Derived.Test.YtfbbphddakjhhaaGreatNS
import Derived.Test.YtfbbphddakjhhaaGreatNR
import Derived.Test.YtfbbphddakjhhaaGreatMG
namespace Go.Proofs
open Go.RowKit Go.ChangeShapes Go.WideShapes
attribute [local go_sem ↓ high] builtin_ap
attribute [local go_sem] ap_sem
open Pol (IsN Dg ofL Byt)
open Ms (sysL)
open Mx (IsSol)

/-- 'append(xs, b)' of a slice that is owned, and where the new one lies. -/
theorem run_append_at1 (W : World) (base : Nat) (v : Value) (xs : List Nat) (b : Nat) (hown : Ow W base v xs) (hn : xs.length ≤ 1000000000) (hb : base ≤ W.heap.size) :
    ∃ g c W', (Builtin.append_ #[22, 22] 22 #[v, .slice (some ⟨W.heap.size, 0, none⟩) 1 1]).run Tryz.prog (W.alloc (.cells #[.int .u8 (b : Nat)] 5)) = .ok (.slice (some ⟨g, 0, none⟩) (xs.length + 1) c) W' ∧ Ow W' base (.slice (some ⟨g, 0, none⟩) (xs.length + 1) c) (xs ++ [b]) ∧ But (fun k => v.ownBlock = some k) W W' ∧ (v.ownBlock = some g ∨ W.heap.size ≤ g) := by
  obtain ⟨i, hi, hz, hsz, hby⟩ := info_parts info_u8
  obtain ⟨v', W', h1, h2, h3, _, h5⟩ := run_append_own_at (P := Tryz.prog) (W.alloc (.cells #[.int .u8 (b : Nat)] 5)) base 22 22 5 i (.int .u8 0) 1 1 Tryz.underlying22 hi hz hsz hby rfl (by decide) v xs.length (ob xs) (hown.alloc _) ⟨W.heap.size, 0, none⟩ 1 1 [.int .u8 (b : Nat)] rfl (fun j y hj => by
    match j, hj with
    | 0, hj =>
      show (W.alloc _).cell? ⟨W.heap.size, 0, none⟩ = _
      rw [World.cell?_alloc_at _ _ _ _ rfl]; exact hj) (fun y hy => by simp at hy; subst hy; rfl) (by unfold maxLen; omega) (by omega) (by simp; omega)
  have h2' : Ow W' base v' (xs ++ [b]) := by
    unfold Ow
    rw [List.length_append, show ob (xs ++ [b]) = ob xs ++ [.int .u8 (b : Nat)] by simp [ob]]
    exact h2
  rcases h2'.shape with ⟨_, h0⟩ | ⟨g, c, rfl, hg, -⟩
  · exact absurd (congrArg List.length h0) (by simp)
  · rw [List.length_append] at h1 h2' h5
    have hgr := h3
    refine ⟨g, c, W', h1, h2', ⟨h3.os, h3.tape, h3.output, by have := h3.size; simp at this; omega, fun k hk hs => (hgr.block k (by simp; omega) (fun e => hs e.symm)).trans (Below.heap_alloc _ _ _ hk)⟩, ?_⟩
    rcases h5 with h | h
    · exact .inl h.symm
    · have e : some g = some (W.alloc (.cells #[.int .u8 (b : Nat)] 5)).heap.size := h
      have e2 := Option.some.inj e
      simp at e2
      exact .inr (by omega)

/-- A matrix in a box whose cells grow, and a list that grows, apart from one another. -/
structure Rg (w W : World) (R : Nat) (rows cols : Int) (v1 v2 : Value) (xs ys : List Nat) : Prop where
  mb : Mb W R (.int .i64 rows) (.int .i64 cols) v1
  fz : W.frozen? ⟨R, 2, none⟩ = false
  o1 : Ow W (R + 1) v1 xs
  o2 : Ow W (R + 1) v2 ys
  ne : ∀ k, v1.ownBlock = some k → v2.ownBlock = some k → False
  bl : Below R w W
  sz : R + 1 ≤ W.heap.size
section
variable {w W : World} {R : Nat} {rows cols : Int} {v1 v2 : Value} {xs ys : List Nat}
theorem Rg.below {W' : World} (h : Rg w W R rows cols v1 v2 xs ys) (hb : Below W.heap.size W W') : Rg w W' R rows cols v1 v2 xs ys :=
  ⟨h.mb.below hb, (hb.frozen (p := ⟨R, 2, none⟩) h.mb.blt).trans h.fz, h.o1.below hb, h.o2.below hb, h.ne, h.bl.trans (hb.mono (by have := h.sz; omega)), Nat.le_trans h.sz hb.size⟩
/-- A cell more. -/
theorem Rg.push1 (h : Rg w W R rows cols v1 v2 xs ys) (x : Nat) (hn : xs.length ≤ 1000000) :
    ∃ g c W', (Builtin.append_ #[22, 22] 22 #[v1, .slice (some ⟨W.heap.size, 0, none⟩) 1 1]).run Tryz.prog (W.alloc (.cells #[.int .u8 (x : Nat)] 5)) = .ok (.slice (some ⟨g, 0, none⟩) (xs.length + 1) c) W' ∧ W'.cell? ⟨R, 2, none⟩ = some v1 ∧ W'.frozen? ⟨R, 2, none⟩ = false ∧
      Rg w (W'.setCell ⟨R, 2, none⟩ (.slice (some ⟨g, 0, none⟩) (xs.length + 1) c)) R rows cols (.slice (some ⟨g, 0, none⟩) (xs.length + 1) c) v2 (xs ++ [x]) ys := by
  obtain ⟨g, c, W', hap, hO, hB, hg⟩ := run_append_at1 W (R + 1) v1 xs x h.o1 (by omega) h.sz
  have hn1 : ∀ k, v1.ownBlock = some k → R + 1 ≤ k := fun k hk => (h.o1.lt k hk).1
  have hM := h.mb.but hB (fun e => by have := hn1 R e; omega)
  have hf : W'.frozen? ⟨R, 2, none⟩ = false := (hB.frozen (p := ⟨R, 2, none⟩) h.mb.blt (fun e => by have := hn1 R e; omega)).trans h.fz
  have hset : But (· = R) W' (W'.setCell ⟨R, 2, none⟩ (.slice (some ⟨g, 0, none⟩) (xs.length + 1) c)) := (But.refl (· = R) W').setCell (p := ⟨R, 2, none⟩) (.inl rfl) _
  have c2 := hM.c2
  have hsz : R + 1 ≤ W'.heap.size := Nat.le_trans h.sz hB.size
  refine ⟨g, c, W', hap, c2, hf, ⟨⟨?_, ?_, ?_⟩, ?_, ?_, ?_, ?_, ?_, Nat.le_trans hsz hset.size⟩⟩
  · exact (World.cell?_setCell_other _ _ _ _ (by intro c; cases c)).trans hM.c0
  · exact (World.cell?_setCell_other _ _ _ _ (by intro c; cases c)).trans hM.c1
  · simp [go_sem, c2]
  · rw [World.frozen?_setCell]; exact hf
  · exact hO.block fun i hi => hset.block i (hO.lt i hi).2 (by have := (hO.lt i hi).1; omega)
  · refine h.o2.block fun k hk => ?_
    have h3 := h.o2.lt k hk
    exact (hset.block k (Nat.lt_of_lt_of_le h3.2 hB.size) (by omega)).trans (hB.block k h3.2 (fun e => h.ne k e hk))
  · intro k hk hk2
    have e : some g = some k := hk
    cases e
    rcases hg with hg | hg
    · exact h.ne _ hg hk2
    · have h3 := h.o2.lt _ hk2; omega
  · exact (h.bl.trans ⟨hB.os, hB.tape, hB.output, hB.size, fun k hk => hB.block k (by have := h.sz; omega) (fun e => by have := hn1 k e; omega)⟩).trans (hset.below (by omega) (fun k hk => by omega))
/-- A byte more of the other. -/
theorem Rg.push2 (h : Rg w W R rows cols v1 v2 xs ys) (x : Nat) (hn : ys.length ≤ 1000000) :
    ∃ g c W', (Builtin.append_ #[22, 22] 22 #[v2, .slice (some ⟨W.heap.size, 0, none⟩) 1 1]).run Tryz.prog (W.alloc (.cells #[.int .u8 (x : Nat)] 5)) = .ok (.slice (some ⟨g, 0, none⟩) (ys.length + 1) c) W' ∧
      Rg w W' R rows cols v1 (.slice (some ⟨g, 0, none⟩) (ys.length + 1) c) xs (ys ++ [x]) := by
  obtain ⟨g, c, W', hap, hO, hB, hg⟩ := run_append_at1 W (R + 1) v2 ys x h.o2 (by omega) h.sz
  have hn1 : ∀ k, v2.ownBlock = some k → R + 1 ≤ k := fun k hk => (h.o2.lt k hk).1
  have hM := h.mb.but hB (fun e => by have := hn1 R e; omega)
  have hf : W'.frozen? ⟨R, 2, none⟩ = false := (hB.frozen (p := ⟨R, 2, none⟩) h.mb.blt (fun e => by have := hn1 R e; omega)).trans h.fz
  refine ⟨g, c, W', hap, ⟨hM, hf, ?_, hO, ?_, ?_, Nat.le_trans h.sz hB.size⟩⟩
  · refine h.o1.block fun k hk => ?_
    have h3 := h.o1.lt k hk
    exact hB.block k h3.2 (fun e => h.ne k hk e)
  · intro k hk hk2
    have e : some g = some k := hk2
    cases e
    rcases hg with hg | hg
    · exact h.ne _ hk hg
    · have h3 := h.o1.lt _ hk; omega
  · exact h.bl.trans ⟨hB.os, hB.tape, hB.output, hB.size, fun k hk => hB.block k (by have := h.sz; omega) (fun e => by have := hn1 k e; omega)⟩
end
theorem rg_new (w : World) (rows cols : Int) : Rg w (w.alloc (.cells #[.int .i64 rows, .int .i64 cols, .slice none 0 0] 95)) w.heap.size rows cols (.slice none 0 0) (.slice none 0 0) [] [] :=
  ⟨mb_new w _ _ _, by simp [go_sem], ow_nil _ _, ow_nil _ _, (fun _ e _ => by cases e), (Below.refl _ w).alloc (Nat.le_refl _) _, by simp⟩

theorem tk_snoc (l : List Nat) (k : Nat) (hk : k < l.length) : l.take (k + 1) = l.take k ++ [l.getD k 0] := by rw [List.take_add_one]; simp [List.getD, hk]
theorem sysL_at {L : Nat} {s : List Nat} (hs : Byt s) {r u : Nat} (hr : r < s.length - L) (hu : u < L) : (sysL L s).getD (r * L + u) 0 = s.getD (L + r - (u + 1)) 0 := by
  unfold Ms.sysL
  rw [Mx.cells_at _ hr hu]
  exact GF.of_val _ (hs _)
/-- What register tells. -/
def RegO (xs : List Nat) (L : Nat) (zs : List Nat) (ok : Bool) : Prop := (ok = true ∧ IsN zs (ofL zs) ∧ Ms.Mk (ofL xs) xs.length (ofL zs) L) ∨ (ok = false ∧ zs = [] ∧ ∀ C, ¬ Ms.Mk (ofL xs) xs.length C L)

set_option maxRecDepth 100000 in
set_option maxHeartbeats 4000000 in
theorem r14reg_calls (q : Option Addr) (n c L : Nat) (xs : List Nat) (hL : L ≤ n) (hn : n ≤ 300) (w : World) (hs : Bs w q n xs) :
    Calls Tryz.prog 31 #[.slice q n c, .int .i64 (L : Nat)] w fun e w' => ∃ v ok, e = .returned (.tuple #[v, .bool ok]) ∧ ∃ zs, RegO xs L zs ok ∧ Ow w' w.heap.size v zs ∧ Below w.heap.size w w' := by
  obtain ⟨R, hR⟩ : ∃ R, w.heap.size = R := ⟨_, rfl⟩
  obtain ⟨rw_, hrw⟩ : ∃ rw_, n - L = rw_ := ⟨_, rfl⟩
  obtain ⟨ts, hts⟩ : ∃ ts, sysL L xs = ts := ⟨_, rfl⟩
  have hlx := hs.len
  have htl : ts.length = rw_ * L := by rw [← hts, Ms.sysL_length, hlx, hrw]
  have HS : Hid (Bs w q n xs ∧ sysL L xs = ts ∧ ts.length = rw_ * L ∧ xs.length = n ∧ n - L = rw_ ∧ w.heap.size = R ∧ L + rw_ = n ∧ ts.length ≤ 90000) := ⟨hs, hts, htl, hlx, hrw, hR, by omega, by rw [htl]; exact Nat.mul_le_mul (show rw_ ≤ 300 by omega) (show L ≤ 300 by omega)⟩
  have hrwi : (n : Int) - (L : Int) = (rw_ : Int) := by omega
  have hwr := wrap_nat rw_ (by omega)
  obtain ⟨W0, hW0⟩ : ∃ W0, w.alloc (.cells #[.int .i64 (rw_ : Int), .int .i64 (L : Int), .slice none 0 0] 95) = W0 := ⟨_, rfl⟩
  have H0 : Hid (Rg w W0 R rw_ L (.slice none 0 0) (.slice none 0 0) [] []) := by rw [← hW0, ← hR]; exact rg_new w _ _
  have HW0 : Hid (w.alloc (.cells #[.int .i64 (rw_ : Int), .int .i64 (L : Int), .slice none 0 0] 95) = W0) := hW0
  clear hs hts htl hlx hrw hW0
  go_enter Tryz.func31, Tryz.ntmps31
  go_wp2
  rw [HW0.out]
  clear HW0
  go_loopw [7, 8] (fun v2 idx wr => ∃ (r : Nat) (q2 : Option Addr) (m2 c2 : Nat), r ≤ rw_ ∧ idx = .int .i64 ((L + r : Nat) : Int) ∧ v2 = .slice q2 m2 c2 ∧ Hid (∃ q1 m1 c1, Rg w wr R rw_ L (.slice q1 m1 c1) (.slice q2 m2 c2) (ts.take (r * L)) ((xs.drop L).take r))) (fun _ idx _ => n - (intOf idx).toNat)
  case atStart => exact ⟨0, none, 0, 0, Nat.zero_le _, rfl, rfl, (⟨none, 0, 0, by rw [Nat.zero_mul, List.take_zero, List.take_zero]; exact H0.out⟩ : ∃ q1 m1 c1, Rg w W0 R rw_ L (.slice q1 m1 c1) (.slice none 0 0) (ts.take (0 * L)) ((xs.drop L).take 0))⟩
  case round =>
    obtain ⟨r, q2, m2, c2, hr, rfl, rfl, HR0⟩ := hrel
    obtain ⟨q1, m1, c1, hG0⟩ := HR0.out
    have HG : Hid (Rg w wr R rw_ L (.slice q1 m1 c1) (.slice q2 m2 c2) (ts.take (r * L)) ((xs.drop L).take r)) := hG0
    obtain ⟨i, hi⟩ : ∃ i, L + r = i := ⟨_, rfl⟩
    rw [hi]
    have hi3 : i ≤ 300 := by have := HS.out.2.2.2.2.2.2.1; omega
    have HI : Hid (L + r = i ∧ r ≤ rw_) := ⟨hi, hr⟩
    clear HR0 hG0 hi
    by_cases hlt : i < n
    · have hii : (i : Int) < (n : Int) := by omega
      have hi0 : (0 : Int) ≤ (i : Int) := by omega
      have hwi1 := wrap_nat (i + 1) (by omega)
      obtain ⟨Wa, hWa⟩ : ∃ Wa, Wa = wr := ⟨_, rfl⟩
      subst hWa
      go_wp2
      go_loopw [9] (fun jj wr => ∃ (u : Nat), u ≤ L ∧ jj = .int .i64 ((u + 1 : Nat) : Int) ∧ Hid (∃ q1 m1 c1, Rg w wr R rw_ L (.slice q1 m1 c1) (.slice q2 m2 c2) (ts.take (r * L + u)) ((xs.drop L).take r))) (fun jj _ => L + 1 - (intOf jj).toNat)
      case atStart => exact ⟨0, Nat.zero_le _, rfl, (⟨q1, m1, c1, HG.out⟩ : ∃ q1 m1 c1, Rg w Wa R rw_ L (.slice q1 m1 c1) (.slice q2 m2 c2) (ts.take (r * L + 0)) ((xs.drop L).take r))⟩
      case round =>
        obtain ⟨u, hu, rfl, HU0⟩ := hrel
        obtain ⟨q3, m3, c3, hU1⟩ := HU0.out
        have HU : Hid (Rg w wr R rw_ L (.slice q3 m3 c3) (.slice q2 m2 c2) (ts.take (r * L + u)) ((xs.drop L).take r)) := hU1
        clear HU0 hU1
        obtain ⟨j, hj⟩ : ∃ j, u + 1 = j := ⟨_, rfl⟩
        rw [hj]
        have hj3 : j ≤ 301 := by omega
        by_cases hjL : u < L
        · have hji : (j : Int) ≤ (L : Int) := by omega
          obtain ⟨t, ht⟩ : ∃ t, i - j = t := ⟨_, rfl⟩
          have hti : (i : Int) - (j : Int) = (t : Int) := by have := HI.out.1; omega
          have hwt := wrap_nat t (by omega)
          have ht0 : (0 : Int) ≤ (t : Int) := by omega
          have htn : (t : Int) < (n : Int) := by omega
          obtain ⟨a, ea, la, ca⟩ := (HS.out.1.below (HS.out.2.2.2.2.2.1.symm ▸ HU.out.bl)).cell t (by omega)
          obtain ⟨x, hx⟩ : ∃ x, xs.getD t 0 = x := ⟨_, rfl⟩
          rw [hx] at ca
          have hrr : r < rw_ := by have := HI.out.1; have := HS.out.2.2.2.2.2.2.1; omega
          have hk9 : r * L + u < ts.length := by rw [HS.out.2.2.1]; exact Mx.cell_lt hrr hjL
          have htk : ts.take (r * L + u + 1) = ts.take (r * L + u) ++ [x] := by
            rw [tk_snoc ts _ hk9, ← hx, ← HS.out.2.1, sysL_at HS.out.1.byte (by rw [HS.out.2.2.2.1, HS.out.2.2.2.2.1]; exact hrr) hjL, HI.out.1, hj, ht]
          have hUd := HU.out.below (Below.refl _ wr).drew
          obtain ⟨g7, c7, W7, hap, cw7, fw7, hG7⟩ := hUd.push1 x (by rw [List.length_take]; have := HS.out.2.2.2.2.2.2.2; omega)
          obtain ⟨m7, hm7⟩ : ∃ m7, (ts.take (r * L + u)).length + 1 = m7 := ⟨_, rfl⟩
          rw [hm7] at hap hG7
          rw [← htk] at hG7
          have HN : Hid (∃ q1 m1 c1, Rg w (W7.setCell ⟨R, 2, none⟩ (.slice (some ⟨g7, 0, none⟩) m7 c7)) R rw_ L (.slice q1 m1 c1) (.slice q2 m2 c2) (ts.take (r * L + (u + 1))) ((xs.drop L).take r)) := ⟨_, _, _, hG7⟩
          rw [show wr.drew.heap.size = wr.heap.size from rfl, show wr.drew.alloc (.cells #[.int .u8 (x : Nat)] 5) = (wr.alloc (.cells #[.int .u8 (x : Nat)] 5)).drew from rfl] at hap
          have ha1 := ap_ok hap
          have ha2 := ap_v hap
          have ha3 := ap_w hap
          have hgm := HU.out.mb
          have b0 := (hgm).c0
          have b1 := (hgm).c1
          have b2 := (hgm).c2
          have hw1 := World.new_ne wr (a.add t) ca
          have hw2 : (wr.alloc (.cells #[.int .u8 (x : Nat)] 5)).cell? ⟨R, 2, none⟩ = some (.slice q3 m3 c3) := (hgm.below ((Below.refl _ wr).alloc (Nat.le_refl _) _)).c2
          subst ea
          have HJ : Hid (u + 1 = j ∧ u < L) := ⟨hj, hjL⟩
          clear hx ht hj hrr hk9 htk hUd hap hG7 hm7 hgm la
          go_wp2
          go_region
          all_goals
            clear b0 b1 b2
            go_wp2
            go_roundw
            case rel => exact ⟨u + 1, HJ.out.2, by rw [← HJ.out.1]; go_num, HN⟩
            case measure => simp [intOf]; have := HJ.out.1; omega
        · obtain rfl : L = u := by omega
          have hji : ¬ (j : Int) ≤ (L : Int) := by omega
          obtain ⟨a, ea, la, ca⟩ := (HS.out.1.below (HS.out.2.2.2.2.2.1.symm ▸ HU.out.bl)).cell i hlt
          obtain ⟨x, hx⟩ : ∃ x, xs.getD i 0 = x := ⟨_, rfl⟩
          rw [hx] at ca
          obtain ⟨g7, c7, W7, hap, hG7⟩ := HU.out.push2 x (by rw [List.length_take, List.length_drop]; have := HS.out.2.2.2.1; omega)
          have htk : (xs.drop L).take (r + 1) = (xs.drop L).take r ++ [x] := by
            rw [tk_snoc _ _ (by rw [List.length_drop, HS.out.2.2.2.1]; have := HI.out.1; omega), Pol.getD_drop, Nat.add_comm r L, HI.out.1, hx]
          obtain ⟨m7, hm7⟩ : ∃ m7, ((xs.drop L).take r).length + 1 = m7 := ⟨_, rfl⟩
          rw [hm7] at hap hG7
          rw [← htk] at hG7
          have HN : Hid (∃ q1 m1 c1, Rg w W7 R rw_ L (.slice q1 m1 c1) (.slice (some ⟨g7, 0, none⟩) m7 c7) (ts.take ((r + 1) * L)) ((xs.drop L).take (r + 1))) := ⟨_, _, _, by rw [Nat.succ_mul]; exact hG7⟩
          have ha1 := ap_ok hap
          have ha2 := ap_v hap
          have ha3 := ap_w hap
          subst ea
          clear hx htk hap hG7 hm7 la hj
          go_wp2
          go_roundw
          case rel => exact ⟨r + 1, _, m7, c7, by have := HI.out; have := HS.out.2.2.2.2.2.2.1; omega, by rw [← Nat.add_assoc, HI.out.1]; go_num, rfl, HN⟩
          case measure => simp [intOf]; omega
    · have hrr : r = rw_ := by have := HI.out; have := HS.out.2.2.2.2.2.2.1; omega
      subst hrr
      obtain ⟨bs, hbs⟩ : ∃ bs, xs.drop L = bs := ⟨_, rfl⟩
      have hbl : bs.length = r := by rw [← hbs, List.length_drop, HS.out.2.2.2.1, HS.out.2.2.2.2.1]
      have hbb : Byt bs := hbs ▸ Pol.byt_drop HS.out.1.byte L
      have h9 := HG.out
      rw [← HS.out.2.2.1, List.take_length, hbs, ← hbl, List.take_length, hbl] at h9
      have htb : Byt ts := by rw [← HS.out.2.1]; exact Ms.sysL_byt L xs
      obtain ⟨mt, hmt⟩ : ∃ mt, r * L = mt := ⟨_, rfl⟩
      obtain ⟨q5, c5, e5, S5, C5, -⟩ := h9.o1.tell (n := mt) htb (by rw [HS.out.2.2.1, hmt])
      obtain ⟨q6, c6, e6, S6, C6, -⟩ := h9.o2.tell (n := r) hbb hbl
      obtain ⟨rfl, rfl, rfl⟩ : q5 = q1 ∧ mt = m1 ∧ c5 = c1 := by cases e5; exact ⟨rfl, rfl, rfl⟩
      obtain ⟨rfl, rfl, rfl⟩ : q6 = q2 ∧ r = m2 ∧ c6 = c2 := by cases e6; exact ⟨rfl, rfl, rfl⟩
      clear e5 e6
      obtain ⟨zs, ok, hE⟩ := slO_exists (r : Int) (L : Int) mt ts r bs
      have K1 := rsolve_calls (r : Int) (L : Int) q5 q6 mt c5 r c6 ts bs zs ok hE C5 wr S5 S6
      have hgm := h9.mb
      have HE : Hid (SlO (r : Int) (L : Int) mt ts r bs zs ok ∧ xs.drop L = bs ∧ r * L = mt ∧ Below R w wr) := ⟨hE, hbs, hmt, h9.bl⟩
      have b0 := (hgm).c0
      have b1 := (hgm).c1
      have b2 := (hgm).c2
      clear hE hbs hbl hbb h9 htb hmt S5 C5 S6 C6 hgm
      go_wp2_with fail
      refine K1.mono ?_
      rintro e w5 ⟨v5, rfl, hO5, hb5⟩
      clear K1
      have HB5 : Hid (Below R w w5 ∧ R ≤ w5.heap.size) := by
        have h1 := HE.out.2.2.2
        have h2 := HS.out.2.2.2.2.2.1
        have h3 := h1.size
        have h4 := hb5.size
        exact ⟨h1.trans (hb5.mono (by omega)), by omega⟩
      cases ok with
      | false =>
        have hz0 : ∀ C, ¬ Ms.Mk (ofL xs) xs.length C L := by
          rcases HE.out.1 with ⟨h1, _⟩ | ⟨_, _, h3⟩
          · cases h1
          · have h4 := h3 (right_nat (by omega) (by omega) HE.out.2.2.1.symm) rfl
            rw [Int.toNat_natCast, Int.toNat_natCast, ← HE.out.2.1, ← HS.out.2.1] at h4
            exact Ms.sys_none (by rw [HS.out.2.2.2.1]; exact hL) (by rw [HS.out.2.2.2.1, HS.out.2.2.2.2.1]; exact h4)
        have HZ : Hid (∀ C, ¬ Ms.Mk (ofL xs) xs.length C L) := hz0
        clear hz0 hO5 hb5
        clear b0 b1 b2
        go_wp2
        go_ret2
        exact ⟨_, false, rfl, [], .inr ⟨rfl, rfl, HZ.out⟩, ow_nil _ _, HS.out.2.2.2.2.2.1.symm ▸ HB5.out.1⟩
      | true =>
        have hz0 : IsSol (xs.length - L) L (sysL L xs) (xs.drop L) zs := by
          rcases HE.out.1 with ⟨_, _, _, h4⟩ | ⟨h1, _⟩
          · rw [Int.toNat_natCast, Int.toNat_natCast] at h4
            rw [HS.out.2.2.2.1, HS.out.2.2.2.2.1, HS.out.2.1, HE.out.2.1]
            exact h4
          · cases h1
        have hmk := Ms.isSol_mk (by rw [HS.out.2.2.2.1]; exact hL) hz0
        obtain ⟨q7, c7, rfl, S7, -, -⟩ := hO5.tell hz0.byt hz0.len
        obtain ⟨W6, hW6⟩ : ∃ W6, w5.alloc (.cells #[.int .u8 1] 5) = W6 := ⟨_, rfl⟩
        have hb6 : Below w5.heap.size w5 W6 := hW6 ▸ (Below.refl _ w5).alloc (Nat.le_refl _) _
        have hO6 : Ow W6 w5.heap.size (.slice (some ⟨w5.heap.size, 0, none⟩) 1 1) [1] := by rw [← hW6]; exact ow_one w5 (Nat.le_refl _) 1
        obtain ⟨v8, W8, hap, hO8, hg8⟩ := run_append_list W6 w5.heap.size _ [1] q7 L c7 zs hO6 (S7.below hb6) (by simp; omega) hb6.size
        have hb8 : Below w5.heap.size w5 W8 := hb6.grown hg8 hb6.size (fun k hk => (hO6.lt k hk).1)
        obtain ⟨ns, hns, -⟩ := Pol.isN_of_bd (Pol.ofL_bd (1 :: zs))
        have hbz : Byt (1 :: zs) := fun i => by
          cases i with
          | zero => exact (by decide : (1 : Nat) < 256)
          | succ i => exact hz0.byt i
        obtain ⟨q9, c9, rfl, S9, C9, -⟩ := hO8.tell (n := L + 1) hbz (by show (1 :: zs).length = _; rw [List.length_cons, hz0.len])
        have KN := rnorm_calls q9 (L + 1) c9 (1 :: zs) ns hns (by omega) C9 W8 S9
        have HZ : Hid (IsN ns (ofL (1 :: zs)) ∧ Ms.Mk (ofL xs) xs.length (ofL (1 :: zs)) L ∧ Below w5.heap.size w5 W8) := ⟨hns, hmk, hb8⟩
        have ha1 := ap_ok hap
        have ha2 := ap_v hap
        have ha3 := ap_w hap
        clear hz0 hmk hO5 S7 hb6 hO6 hap hO8 hg8 hb8 hns hbz S9 C9 hb5
        clear b0 b1 b2
        go_wp2_with fail
        refine KN.mono ?_
        rintro e w9 ⟨v9, rfl, hO9, hb9⟩
        clear KN
        have HW : Hid (Ow w9 w.heap.size v9 ns ∧ Below w.heap.size w w9) := by
          rw [HS.out.2.2.2.2.2.1]
          have h1 := HB5.out.2
          have h2 := HZ.out.2.2.size
          exact ⟨hO9.mono (by omega), HB5.out.1.trans ((HZ.out.2.2.mono h1).trans (hb9.mono (by omega)))⟩
        clear hO9 hb9 ha1 ha2 ha3
        go_wp2
        go_ret2
        exact ⟨_, true, rfl, ns, .inl ⟨rfl, by rw [HZ.out.1.eq]; exact HZ.out.1, by rw [HZ.out.1.eq]; exact HZ.out.2.1⟩, HW.out⟩
theorem isN_unit : IsN [1] (ofL [1]) := ⟨fun _ => by decide, fun i => by
  match i with
  | 0 => exact (by decide : (1 : Nat) < 256)
  | i + 1 => exact (by decide : (0 : Nat) < 256), rfl⟩
theorem ofL_unit : ofL [1] = Pol.one := by
  funext i
  unfold Pol.ofL Pol.one
  match i with
  | 0 => rfl
  | i + 1 => rfl
set_option maxRecDepth 100000 in
set_option maxHeartbeats 4000000 in
theorem r14massey_calls (q : Option Addr) (n c L : Nat) (xs : List Nat) (hn : n ≤ 300) (hL : Ms.Least (ofL xs) n L) (w : World) (hs : Bs w q n xs) :
    Calls Tryz.prog 18 #[.slice q n c] w fun e w' => ∃ v, e = .returned (.tuple #[v, .int .i64 (L : Nat)]) ∧ ∃ zs, Ms.IsMas xs zs L ∧ Ow w' w.heap.size v zs ∧ Below w.heap.size w w' := by
  have HS : Hid (Bs w q n xs ∧ xs.length = n ∧ Ms.Least (ofL xs) n L) := ⟨hs, hs.len, hL⟩
  clear hs hL
  go_enter Tryz.func18, Tryz.ntmps18
  go_wp2
  go_loopw [4] (fun jj wr => ∃ j : Nat, j ≤ n ∧ jj = .int .i64 (j : Int) ∧ Hid ((∀ M, M < j → ∀ D, ¬ Ms.Mk (ofL xs) n D M) ∧ Below w.heap.size w wr)) (fun jj _ => n - (intOf jj).toNat)
  case atStart => exact ⟨0, Nat.zero_le _, rfl, (⟨fun M hM => absurd hM (Nat.not_lt_zero M), Below.refl _ _⟩ : (∀ M, M < 0 → ∀ D, ¬ Ms.Mk (ofL xs) n D M) ∧ Below w.heap.size w w)⟩
  case round =>
    obtain ⟨j, hj, rfl, HJ⟩ := hrel
    by_cases hlt : j < n
    · have hji : (j : Int) < (n : Int) := by omega
      have KR := r14reg_calls q n c j xs hj hn wr (HS.out.1.below HJ.out.2)
      go_wp2_with fail
      refine KR.mono ?_
      rintro e w1 ⟨v, ok, rfl, zs, hz, hO, hb⟩
      clear KR
      have hz' : Hid (RegO xs j zs ok) := hz
      cases ok with
      | false =>
        have HZ : Hid ((∀ M, M < j + 1 → ∀ D, ¬ Ms.Mk (ofL xs) n D M) ∧ Below w.heap.size w w1) := by
          refine ⟨fun M hM D hD => ?_, HJ.out.2.trans (hb.mono HJ.out.2.size)⟩
          by_cases e : M = j
          · subst e
            rcases hz'.out with ⟨h1, _⟩ | ⟨_, _, h3⟩
            · cases h1
            · exact h3 D (by rw [HS.out.2.1]; exact hD)
          · exact HJ.out.1 M (by omega) D hD
        clear hz hO hb
        go_wp2
        go_roundw
        case rel => exact ⟨j + 1, by omega, by go_num, HZ⟩
        case measure => simp [intOf]; omega
      | true =>
        have HZ : Hid (j = L ∧ Ms.IsMas xs zs L ∧ Ow w1 w.heap.size v zs ∧ Below w.heap.size w w1) := by
          rcases hz'.out with ⟨_, h2, h3⟩ | ⟨h1, _⟩
          · have h4 := Ms.least_of h3 (fun M hM D => by rw [HS.out.2.1]; exact HJ.out.1 M hM D)
            have h5 := HS.out.2.2
            rw [← HS.out.2.1] at h5
            have e := h4.unique h5
            subst e
            exact ⟨rfl, ⟨h3, h4, h2⟩, hO.mono HJ.out.2.size, HJ.out.2.trans (hb.mono HJ.out.2.size)⟩
          · cases h1
        obtain ⟨rfl, -⟩ := HZ.out
        clear hz hO hb
        go_wp2
        go_ret2
        exact ⟨_, rfl, zs, HZ.out.2⟩
    · obtain rfl : n = j := by omega
      have HZ : Hid (n = L ∧ Ms.IsMas xs [1] L ∧ Ow (wr.alloc (.cells #[.int .u8 1] 5)) w.heap.size (.slice (some ⟨wr.heap.size, 0, none⟩) 1 1) [1] ∧ Below w.heap.size w (wr.alloc (.cells #[.int .u8 1] 5))) := by
        have h3 : Ms.Mk (ofL xs) xs.length (ofL [1]) xs.length := by rw [ofL_unit]; exact Ms.mk_full _ _ _ rfl (Ms.one_bd.mono_le (by omega))
        have h4 := Ms.least_of h3 (fun M hM D => by rw [HS.out.2.1] at hM ⊢; exact HJ.out.1 M hM D)
        have h5 := HS.out.2.2
        rw [← HS.out.2.1] at h5
        have e := h4.unique h5
        rw [HS.out.2.1] at e
        subst e
        exact ⟨rfl, ⟨by have := h3; rw [HS.out.2.1] at this ⊢; exact this, by have := h4; rw [HS.out.2.1] at this ⊢; exact this, isN_unit⟩, ow_one wr HJ.out.2.size 1, HJ.out.2.alloc HJ.out.2.size _⟩
      obtain ⟨rfl, -⟩ := HZ.out
      go_wp2
      go_ret2
      exact ⟨_, rfl, [1], HZ.out.2⟩
end Go.Proofs
