/- The walk of euclid.Steps: how many steps are done till what is left is short. Conditions: a field that Of has made; lists of at most a thousand bytes, apart from its table. -/
import Derived.Test.YthnlcdfonbnjcaaGreatQS
namespace Go.Proofs
open Go.RowKit Go.Shelf Go.ChangeShapes Go.WideShapes
open Pol (IsN Dg ofL Byt)
open Eu (Er Gr IsRun)
attribute [local go_sem] Oper.semAt_some

/-- How many steps the last row tells. -/
def tl0 (xs : List ERow) : Nat := match xs.getLast? with | some x => x.t | none => 0
theorem tl0_snoc (xs : List ERow) (x : ERow) : tl0 (xs ++ [x]) = x.t := by unfold tl0; rw [List.getLast?_concat]
/-- Between two rounds: the box holds the last number that came. -/
structure StpI (A T : Nat) (w0 : World) (xs : List ERow) (X : World) : Prop where
  c : X.cell? ⟨A, 0, none⟩ = some (.int .i64 ((tl0 xs : Nat) : Int))
  f : X.frozen? ⟨A, 0, none⟩ = false
  bt : But (fun k => k = T ∨ A ≤ k) w0 X
theorem StpI.but {A T : Nat} {w0 X Y : World} {xs : List ERow} (h : StpI A T w0 xs X) {S : Nat → Prop} (hb : But S X Y) (hA : ¬ S A) (hS : ∀ k, S k → k = T ∨ A ≤ k) : StpI A T w0 xs Y :=
  ⟨(hb.cell (p := ⟨A, 0, none⟩) (World.block_lt_of_cell? _ _ h.c) hA).trans h.c, (hb.frozen (p := ⟨A, 0, none⟩) (World.block_lt_of_cell? _ _ h.c) hA).trans h.f, h.bt.trans (hb.mono hS)⟩
theorem stpI_own {A T base : Nat} {w0 : World} (hA : A < base) : OwnFrom base (StpI A T w0) := fun _ _ _ _ h hg hr =>
  h.but (But.grown hg) (fun e => by have := (hr A e).1; omega) (fun k e => .inr (by have := (hr k e).1; omega))

set_option maxRecDepth 100000 in
set_option maxHeartbeats 4000000 in
theorem estp_in (D : Nat) (hD : 3 ≤ D) (f : Option Addr) (q p : Option Addr) (n c m d : Nat) (z : Int) (T : Nat) (w : World) (hT : T < w.heap.size + 5) (hTA : ¬ T = w.heap.size) (Sp : List ERow → Prop) (Ef : World → Prop) (hE : OwnFrom (w.heap.size + 5) (fun (_ : Unit) W => Ef W))
    (hseq : ∀ w2, StB (w.heap.size + 1) (.pointer f) q p n c m d z w2 → Below w.heap.size w w2 → w2.heap.size = w.heap.size + 5 → SeqRows Fence.wide (D - 1) Tryz.prog 52 #[.pointer (some ⟨w.heap.size + 1, 0, none⟩), .pointer (some ⟨w.heap.size + 1 + 1, 0, none⟩), .pointer (some ⟨w.heap.size + 1 + 1 + 1, 0, none⟩), .pointer (some ⟨w.heap.size + 1 + 1 + 1 + 1, 0, none⟩)] ERow.enc w.heap.size T (ERow.Gv w2.heap.size) ERow.Cl Sp Ef w2) :
    CallsIn Fence.wide D Tryz.prog 12 #[.pointer f, .slice q n c, .slice p m d, .int .i64 z] w fun e w' => ∃ xs, e = .returned (.int .i64 ((tl0 xs : Nat) : Int)) ∧ Sp xs ∧ Ef w' ∧ But (· = T) w w' := by
  have HSQ : Hid (∀ w2, StB (w.heap.size + 1) (.pointer f) q p n c m d z w2 → Below w.heap.size w w2 → w2.heap.size = w.heap.size + 5 → SeqRows Fence.wide (D - 1) Tryz.prog 52 #[.pointer (some ⟨w.heap.size + 1, 0, none⟩), .pointer (some ⟨w.heap.size + 1 + 1, 0, none⟩), .pointer (some ⟨w.heap.size + 1 + 1 + 1, 0, none⟩), .pointer (some ⟨w.heap.size + 1 + 1 + 1 + 1, 0, none⟩)] ERow.enc w.heap.size T (ERow.Gv w2.heap.size) ERow.Cl Sp Ef w2) := hseq
  have HE : Hid (OwnFrom (w.heap.size + 5) (fun (_ : Unit) W => Ef W)) := hE
  have hTt : T < w.heap.size + 5 ∧ ¬ T = w.heap.size := ⟨hT, hTA⟩
  clear hseq hE hT hTA
  obtain ⟨A, hA⟩ : ∃ A, w.heap.size = A := ⟨_, rfl⟩
  obtain ⟨w1, hw1⟩ : ∃ w1, w.alloc (.cells #[.int .i64 0] 3) = w1 := ⟨_, rfl⟩
  have hc1 : w1.cell? ⟨A, 0, none⟩ = some (.int .i64 0) := by rw [← hw1, ← hA]; simp [go_sem]
  have hf1 : w1.frozen? ⟨A, 0, none⟩ = false := by rw [← hw1, ← hA]; simp [go_sem]
  have hs1 : w1.heap.size = A + 1 := by rw [← hw1, ← hA]; simp
  have hb1 : Below A w w1 := by rw [← hw1, ← hA]; exact (Below.refl _ w).alloc (Nat.le_refl _) _
  have K := esteps_calls (D - 1) f q p n c m d z w1
  rw [hs1] at K
  have hst := stB_new w1 (.pointer f) q p n c m d z
  rw [hs1] at hst
  obtain ⟨w2, hw2⟩ : ∃ w2, (((w1.alloc (.cells #[.pointer f] 29)).alloc (.cells #[.slice q n c] 22)).alloc (.cells #[.slice p m d] 22)).alloc (.cells #[.int .i64 z] 3) = w2 := ⟨_, rfl⟩
  have hb2 : Below (A + 1) w1 w2 := by rw [← hw2, ← hs1]; exact ((((Below.refl _ w1).alloc (Nat.le_refl _) _).alloc (by simp) _).alloc (by simp; omega) _).alloc (by simp; omega) _
  have hs2 : w2.heap.size = A + 5 := by rw [← hw2]; simp [hs1]
  rw [hw2] at hst K
  have hc2 := (hb2.cell (p := ⟨A, 0, none⟩) (Nat.lt_succ_self A)).trans hc1
  have hf2 := (hb2.frozen (p := ⟨A, 0, none⟩) (Nat.lt_succ_self A)).trans hf1
  have hB2 : Below A w w2 := hb1.trans (hb2.mono (by omega))
  have hsq := HSQ.out w2 (hA.symm ▸ hst) (hA.symm ▸ hB2) (hA.symm ▸ hs2)
  rw [hA] at hsq hTt HE
  have HS := hsq
  clear HSQ hst hc1 hf1 hb1 hb2 hw2 hsq
  refine callsIn_of_wp_marks Tryz.func12 rfl trivial ?_ rfl
  simp only [Tryz.ntmps12, List.size_toArray, List.length_cons, List.length_nil, Nat.reduceAdd, Nat.reduceSub, Array.replicate_succ, Array.replicate_zero, List.push_toArray, List.append_toArray, List.nil_append, List.cons_append]
  have hfn : ∀ f, Fence.wide.fn f := fun _ => trivial
  have hD1 : 1 ≤ D := by omega
  have HW : Hid (w.alloc (.cells #[.int .i64 0] 3) = w1) := hw1
  clear hw1
  gi_wp2_with fail
  rw [HW.out]
  refine K.mono ?_
  rintro e w3 ⟨rfl, rfl⟩
  clear K HW hs1
  gi_wp2_with fail
  rw [hs2] at HS
  have hTA := hTt.2
  have hI0 : StpI A T w [] w2 := ⟨hc2, hf2, (But.of_below (hA.symm ▸ hB2))⟩
  clear hc2 hf2 hB2
  refine wpIn_rangeFunc_rows rfl hD1 (gf := 52) (lb := #[.pointer (some ⟨A + 1, 0, none⟩), .pointer (some ⟨A + 1 + 1, 0, none⟩), .pointer (some ⟨A + 1 + 1 + 1, 0, none⟩), .pointer (some ⟨A + 1 + 1 + 1 + 1, 0, none⟩)]) rfl trivial (enters_of Tryz.func52 (by kernel_rfl) rfl)
    (encs := ERow.enc) (fun _ => rfl) A T (by omega) (by omega) (Gv := ERow.Gv (A + 5)) (Cl := ERow.Cl) (Sp := Sp) (Ef := Ef) HS
    (StpI A T w) (stpI_own (by omega)) (fun s X Y Z h hZ _ hb => h.but hb (by omega) (fun k hk => by rcases hk with h | h <;> omega)) (fun s X Y h hb => h.but hb id (fun _ h => h.elim)) gv_own (fun x X Y h hb => h.butS hb (fun _ _ _ h => h) (fun _ _ _ h => h)) (by rw [hs2]; exact HE.out) hI0
    (fun x a' W => a' = { tmps := #[.pointer f, .slice q n c, .slice p m d, .int .i64 z, undef, undef, undef, undef, .int .i64 0, .pointer (some ⟨A, 0, none⟩), .int .i64 x.t, .pointer f, .slice q n c, .slice p m d, .int .i64 z, .func (.func 52) #[] #[.pointer (some ⟨A + 1, 0, none⟩), .pointer (some ⟨A + 1 + 1, 0, none⟩), .pointer (some ⟨A + 1 + 1 + 1, 0, none⟩), .pointer (some ⟨A + 1 + 1 + 1 + 1, 0, none⟩)], .int .i64 x.t, x.val, undef, undef], defers := [] }) (fun _ _ _ _ _ _ h _ _ => h) ?assign ?body ?done
  case assign =>
    rintro l ⟨t, q1, q2, q3, q4, n1, c1, n2, c2, n3, c3, n4, c4, s, v⟩ W K hW hK
    have HK : Hid (∀ (a' : Act) (W' : World), But (fun _ => False) W W' → _ → K a' W') := hK
    clear hK hI0 HS
    dsimp only [ERow.enc, ERow.val, rwV] at HK ⊢
    gi_wp2
    exact HK.out _ _ (But.refl _ W) rfl
  case body =>
    rintro l pre x a' W hI hG rfl
    have hc := hI.c
    have hf := hI.f
    have hS : But (· = A) W (W.setCell ⟨A, 0, none⟩ (.int .i64 x.t)) := (But.refl (· = A) W).setCell (p := ⟨A, 0, none⟩) (.inl rfl) _
    have HZ : Hid (But (· = A) W (W.setCell ⟨A, 0, none⟩ (.int .i64 x.t)) ∧ StpI A T w (pre ++ [x]) (W.setCell ⟨A, 0, none⟩ (.int .i64 x.t))) :=
      ⟨hS, by rw [tl0_snoc]; simp [go_sem, hc], by simp [go_sem, hf], hI.bt.trans (hS.mono fun k e => .inr (by omega))⟩
    clear hI hG hS hI0 HS
    gi_wp2
    exact HZ.out
  case done =>
    intro M xs W hM hSp hI hEf hK
    have hc := hI.c
    obtain ⟨t, ht⟩ : ∃ t, tl0 xs = t := ⟨_, rfl⟩
    rw [ht] at hc
    have HZ : Hid (Sp xs ∧ StpI A T w xs W ∧ Ef W ∧ tl0 xs = t) := ⟨hSp, hI, hEf, ht⟩
    clear hSp hI hEf hI0 HS ht
    gi_wp2
    have hg2 := grownBy_putObj' W M (.deferred none)
    have hI' := HZ.out.2.1
    refine ⟨by simp, .inl ⟨_, _, rfl, run_takeDeferred hK, ?_⟩⟩
    refine ⟨_, results_tmp rfl _ _ _, xs, by rw [HZ.out.2.2.2]; rfl, HZ.out.1, ?_, ?_⟩
    · exact HE.out () _ _ _ HZ.out.2.2.1 hg2 (fun r e => by cases e; exact ⟨by omega, _, hK, rfl⟩)
    · have h1 := hI'.bt.trans ((But.grown hg2).mono (T := fun k => k = T ∨ A ≤ k) (fun k e => by cases e; exact .inr (by omega)))
      exact ⟨h1.os, h1.tape, h1.output, h1.size, fun k hk hs => h1.block k hk (by rintro (h | h); · exact hs h
                                                                                  · omega)⟩

/-- Steps, of a field. -/
theorem estp_calls (B T kf k N n c m d : Nat) (q p : Option Addr) (z : Int) (hz : (if z < 0 then 0 else z) = (k : Int)) (xs ys ss vs : List Nat) (hR : IsRun xs ys k ss vs N) (hn : n ≤ 1000) (hm : m ≤ 1000) (w : World) (hF : Fd kf B T w) (ta : Tl w T q n c xs) (tb : Tl w T p m d ys) :
    Calls Tryz.prog 12 #[.pointer (some ⟨B, 0, none⟩), .slice q n c, .slice p m d, .int .i64 z] w fun e w' => e = .returned (.int .i64 (N : Nat)) ∧ Fd kf B T w' ∧ But (· = T) w w' := by
  have hT := hF.lt
  have hB := hF.blt
  refine (callsIn_wide (n := 4)).1 ((estp_in 4 (by omega) (some ⟨B, 0, none⟩) q p n c m d z T w (by omega) (by omega) (SpR N ss vs) (Fd kf B T) (fd_own (by omega) (by omega)) fun w2 hst hb hs => ?_).mono ?_)
  · exact esteps1_rows 3 (by omega) (w.heap.size + 1) B w.heap.size T kf k N n c m d q p z hz xs ys ss vs hR hn hm w2 hst (hF.below hb) (ta.below hb) (tb.below hb) (by omega) (ta.bs.off (Nat.le_refl _)) (fun g hg => by omega) (by omega) (by omega)
  · rintro e w' ⟨zs, rfl, ⟨x, hx, hxt, -⟩, hE, hb⟩
    have e1 : tl0 zs = N := by unfold tl0; rw [hx]; exact hxt
    rw [e1]
    exact ⟨rfl, hE, hb⟩
end Go.Proofs
