/- The walks of euclid.Run and of euclid.Steps: what is left, by what it is a multiple, and how many steps that takes; a nil field does none. Conditions: a field that Of has made; lists of at most a thousand bytes, apart from its table. -/
import Derived.Sort.QuietIn
import Derived.Test.YthnlcdfonbnjcaaGreatQR
namespace Go.Proofs
open Go.RowKit Go.Shelf Go.ChangeShapes Go.WideShapes
open Pol (IsN Dg ofL Byt)
open Eu (Er Gr IsRun)
attribute [local go_sem] Oper.semAt_some

theorem But.grown {W W' : World} {row : Option Nat} (hg : W.grownBy W' row) : But (fun k => row = some k) W W' := ⟨hg.os, hg.tape, hg.output, hg.size, fun k hk hs => hg.block k hk (fun e => hs e.symm)⟩
theorem Bs.grown {W W' : World} {row : Option Nat} {q : Option Addr} {n : Nat} {xs : List Nat} (h : Bs W q n xs) (hg : W.grownBy W' row) (hr : ∀ r, row = some r → ∃ o : Obj, W.heap[r]? = some o ∧ o.isCells = false) : Bs W' q n xs :=
  ⟨h.len, h.max, fun i hi => by
    obtain ⟨a, e, hl, hc⟩ := h.cell i hi
    exact ⟨a, e, Nat.lt_of_lt_of_le hl hg.size, cell_kept hc hg hr⟩, h.byte⟩
theorem ERow.Gv.grown {H : Nat} {x : ERow} {W W' : World} {row : Option Nat} (h : x.Gv H W) (hg : W.grownBy W' row) (hr : ∀ r, row = some r → ∃ o : Obj, W.heap[r]? = some o ∧ o.isCells = false) : x.Gv H W' := ⟨h.s.grown hg hr, h.sl, h.so, h.v.grown hg hr, h.vl, h.vo⟩
theorem ERow.Gv.butS {H : Nat} {x : ERow} {S : Nat → Prop} {W W' : World} (h : x.Gv H W) (hb : But S W W') (h2 : 0 < x.n2 → ∀ a, x.q2 = some a → ¬ S a.block) (h4 : 0 < x.n4 → ∀ a, x.q4 = some a → ¬ S a.block) : x.Gv H W' := ⟨h.s.butS hb h2, h.sl, h.so, h.v.butS hb h4, h.vl, h.vo⟩

/-- Between two rounds: the box holds the last rows that came. -/
structure RunI (A H T : Nat) (w0 : World) (xs : List ERow) (X : World) : Prop where
  u : ∃ u0 u1 u2 u3, RwB A u0 u1 u2 u3 X ∧ (xs = [] → u1 = .slice none 0 0 ∧ u3 = .slice none 0 0) ∧ ∀ x, xs.getLast? = some x → u1 = .slice x.q2 x.n2 x.c2 ∧ u3 = .slice x.q4 x.n4 x.c4
  gv : ∀ x, xs.getLast? = some x → x.Gv H X
  bt : But (fun k => k = T ∨ A ≤ k) w0 X
theorem RunI.but {A H T : Nat} {w0 X Y : World} {xs : List ERow} (h : RunI A H T w0 xs X) {S : Nat → Prop} (hb : But S X Y) (hA : ¬ S A) (hg : ∀ x, xs.getLast? = some x → x.Gv H Y) (hS : ∀ k, S k → k = T ∨ A ≤ k) : RunI A H T w0 xs Y := by
  obtain ⟨⟨u0, u1, u2, u3, h1, h2, h3⟩, h4, h5⟩ := h
  exact ⟨⟨u0, u1, u2, u3, h1.but hb hA, h2, h3⟩, hg, h5.trans (hb.mono hS)⟩
theorem runI_own {A H T base : Nat} {w0 : World} (hA : A < base) : OwnFrom base (RunI A H T w0) := fun _ _ _ _ h hg hr => by
  refine h.but (But.grown hg) (fun e => by have := (hr A e).1; omega) (fun x hx => (h.gv x hx).grown hg fun r e => (hr r e).2) (fun k e => .inr (by have := (hr k e).1; omega))
theorem gv_own {H base : Nat} : OwnFrom base (ERow.Gv H) := fun _ _ _ _ h hg hr => h.grown hg fun r e => (hr r e).2

set_option maxRecDepth 100000 in
set_option maxHeartbeats 4000000 in
theorem erun_in (D : Nat) (hD : 3 ≤ D) (f : Option Addr) (q p : Option Addr) (n c m d : Nat) (z : Int) (T : Nat) (w : World) (hT : T < w.heap.size + 5) (hTA : ¬ T = w.heap.size) (Sp : List ERow → Prop) (Ef : World → Prop) (hE : OwnFrom (w.heap.size + 5) (fun (_ : Unit) W => Ef W))
    (hseq : ∀ w2, StB (w.heap.size + 1) (.pointer f) q p n c m d z w2 → Below w.heap.size w w2 → w2.heap.size = w.heap.size + 5 → SeqRows Fence.wide (D - 1) Tryz.prog 52 #[.pointer (some ⟨w.heap.size + 1, 0, none⟩), .pointer (some ⟨w.heap.size + 1 + 1, 0, none⟩), .pointer (some ⟨w.heap.size + 1 + 1 + 1, 0, none⟩), .pointer (some ⟨w.heap.size + 1 + 1 + 1 + 1, 0, none⟩)] ERow.enc w.heap.size T (ERow.Gv w2.heap.size) ERow.Cl Sp Ef w2) :
    CallsIn Fence.wide D Tryz.prog 14 #[.pointer f, .slice q n c, .slice p m d, .int .i64 z] w fun e w' => ∃ xs u1 u3, e = .returned (.tuple #[u1, u3]) ∧ Sp xs ∧ (xs = [] → u1 = .slice none 0 0 ∧ u3 = .slice none 0 0) ∧ (∀ x, xs.getLast? = some x → u1 = .slice x.q2 x.n2 x.c2 ∧ u3 = .slice x.q4 x.n4 x.c4 ∧ x.Gv (w.heap.size + 5) w') ∧ Ef w' ∧ But (· = T) w w' := by
  have HSQ : Hid (∀ w2, StB (w.heap.size + 1) (.pointer f) q p n c m d z w2 → Below w.heap.size w w2 → w2.heap.size = w.heap.size + 5 → SeqRows Fence.wide (D - 1) Tryz.prog 52 #[.pointer (some ⟨w.heap.size + 1, 0, none⟩), .pointer (some ⟨w.heap.size + 1 + 1, 0, none⟩), .pointer (some ⟨w.heap.size + 1 + 1 + 1, 0, none⟩), .pointer (some ⟨w.heap.size + 1 + 1 + 1 + 1, 0, none⟩)] ERow.enc w.heap.size T (ERow.Gv w2.heap.size) ERow.Cl Sp Ef w2) := hseq
  have HE : Hid (OwnFrom (w.heap.size + 5) (fun (_ : Unit) W => Ef W)) := hE
  have hTt : T < w.heap.size + 5 ∧ ¬ T = w.heap.size := ⟨hT, hTA⟩
  clear hseq hE hT hTA
  obtain ⟨A, hA⟩ : ∃ A, w.heap.size = A := ⟨_, rfl⟩
  obtain ⟨w1, hw1⟩ : ∃ w1, w.alloc (.cells #[.slice none 0 0, .slice none 0 0, .slice none 0 0, .slice none 0 0] 67) = w1 := ⟨_, rfl⟩
  have hz1 : RwB A (.slice none 0 0) (.slice none 0 0) (.slice none 0 0) (.slice none 0 0) w1 := by rw [← hw1, ← hA]; exact RwB.new w _ _ _ _ _
  have hs1 : w1.heap.size = A + 1 := by rw [← hw1, ← hA]; simp
  have hb1 : Below A w w1 := by rw [← hw1, ← hA]; exact (Below.refl _ w).alloc (Nat.le_refl _) _
  have K := esteps_calls (D - 1) f q p n c m d z w1
  rw [hs1] at K
  have hst := stB_new w1 (.pointer f) q p n c m d z
  rw [hs1] at hst
  obtain ⟨w2, hw2⟩ : ∃ w2, (((w1.alloc (.cells #[.pointer f] 29)).alloc (.cells #[.slice q n c] 22)).alloc (.cells #[.slice p m d] 22)).alloc (.cells #[.int .i64 z] 3) = w2 := ⟨_, rfl⟩
  have hb2 : Below (A + 1) w1 w2 := by rw [← hw2, ← hs1]; exact ((((Below.refl _ w1).alloc (Nat.le_refl _) _).alloc (by simp) _).alloc (by simp; omega) _).alloc (by simp; omega) _
  have hs2 : w2.heap.size = A + 5 := by rw [← hw2]; simp [hs1]
  rw [hw2] at hst K
  have hz2 := hz1.below (hs1.symm ▸ hb2)
  have hB2 : Below A w w2 := hb1.trans (hb2.mono (by omega))
  have hsq := HSQ.out w2 (hA.symm ▸ hst) (hA.symm ▸ hB2) (hA.symm ▸ hs2)
  rw [hA] at hsq hTt HE
  have HS := hsq
  clear HSQ hst hz1 hb1 hb2 hw2 hsq
  refine callsIn_of_wp_marks Tryz.func14 rfl trivial ?_ rfl
  simp only [Tryz.ntmps14, List.size_toArray, List.length_cons, List.length_nil, Nat.reduceAdd, Nat.reduceSub, Array.replicate_succ, Array.replicate_zero, List.push_toArray, List.append_toArray, List.nil_append, List.cons_append]
  have hfn : ∀ f, Fence.wide.fn f := fun _ => trivial
  have hD1 : 1 ≤ D := by omega
  gi_wp2_with fail
  refine K.mono ?_
  rintro e w3 ⟨rfl, rfl⟩
  clear K hw1 hs1
  gi_wp2_with fail
  rw [hs2] at HS
  have hTA := hTt.2
  have hI0 : RunI A (A + 5) T w [] w2 := ⟨⟨_, _, _, _, hz2, fun _ => ⟨rfl, rfl⟩, fun x hx => by cases hx⟩, fun x hx => (by cases hx), (But.of_below (hA.symm ▸ hB2))⟩
  clear hz2 hB2
  refine wpIn_rangeFunc_rows rfl hD1 (gf := 52) (lb := #[.pointer (some ⟨A + 1, 0, none⟩), .pointer (some ⟨A + 1 + 1, 0, none⟩), .pointer (some ⟨A + 1 + 1 + 1, 0, none⟩), .pointer (some ⟨A + 1 + 1 + 1 + 1, 0, none⟩)]) rfl trivial (enters_of Tryz.func52 (by kernel_rfl) rfl)
    (encs := ERow.enc) (fun _ => rfl) A T (by omega) (by omega) (Gv := ERow.Gv (A + 5)) (Cl := ERow.Cl) (Sp := Sp) (Ef := Ef) HS
    (RunI A (A + 5) T w) (runI_own (by omega)) ?hIT ?hIB gv_own (fun x X Y h hb => h.butS hb (fun _ _ _ h => h) (fun _ _ _ h => h)) (by rw [hs2]; exact HE.out) hI0
    (fun x a' W => ∃ R, a' = { tmps := #[.pointer f, .slice q n c, .slice p m d, .int .i64 z, undef, undef, undef, undef, .slice none 0 0, .slice none 0 0, .pointer (some ⟨A, 0, none⟩), undef, .pointer (some ⟨R, 0, none⟩), .pointer f, .slice q n c, .slice p m d, .int .i64 z, .func (.func 52) #[] #[.pointer (some ⟨A + 1, 0, none⟩), .pointer (some ⟨A + 1 + 1, 0, none⟩), .pointer (some ⟨A + 1 + 1 + 1, 0, none⟩), .pointer (some ⟨A + 1 + 1 + 1 + 1, 0, none⟩)], .int .i64 x.t, x.val, undef, undef, undef, undef, undef, undef, undef], defers := [] } ∧ A + 5 ≤ R ∧ RwB R (.slice x.q1 x.n1 x.c1) (.slice x.q2 x.n2 x.c2) (.slice x.q3 x.n3 x.c3) (.slice x.q4 x.n4 x.c4) W) ?hAx ?assign ?body ?done
  case hIT =>
    intro s X Y Z h hZ hc hb
    refine h.but hb (by omega) (fun x hx => (h.gv x hx).butS hb ?_ ?_) (fun k hk => by rcases hk with h | h <;> omega)
    · rintro h0 a e (h1 | h1)
      · exact (h.gv x hx).so T (by omega) h0 a e h1
      · exact (hc x hx).1 h0 a e h1
    · rintro h0 a e (h1 | h1)
      · exact (h.gv x hx).vo T (by omega) h0 a e h1
      · exact (hc x hx).2 h0 a e h1
  case hIB =>
    intro s X Y h hb
    exact h.but hb id (fun x hx => (h.gv x hx).butS hb (fun _ _ _ h => h) (fun _ _ _ h => h)) (fun _ h => h.elim)
  case hAx =>
    rintro x a' _ X Y row ⟨R, h1, h2, h3⟩ hg hr
    have hr' : ∀ r, row = some r → ∃ o : Obj, X.heap[r]? = some o ∧ o.isCells = false := fun r e => (hr r e).2
    exact ⟨R, h1, h2, cell_kept h3.c0 hg hr', cell_kept h3.c1 hg hr', cell_kept h3.c2 hg hr', cell_kept h3.c3 hg hr', (frozen_kept h3.c0 hg hr').trans h3.f0, (frozen_kept h3.c1 hg hr').trans h3.f1, (frozen_kept h3.c2 hg hr').trans h3.f2, (frozen_kept h3.c3 hg hr').trans h3.f3⟩
  case assign =>
    rintro l ⟨t, q1, q2, q3, q4, n1, c1, n2, c2, n3, c3, n4, c4, s, v⟩ W K hW hK
    have HK : Hid (∀ (a' : Act) (W' : World), But (fun _ => False) W W' → _ → K a' W') := hK
    clear hK hI0 HS
    dsimp only [ERow.enc, ERow.val, rwV] at HK ⊢
    gi_wp2
    refine HK.out _ _ ((But.refl _ W).alloc _) ⟨W.heap.size, rfl, by omega, RwB.new W _ _ _ _ _⟩
  case body =>
    rintro l pre x a' W hI hG ⟨R, rfl, hR5, hRw⟩
    obtain ⟨u0, u1, u2, u3, hAw, -, -⟩ := hI.u
    have hS := But.set4 W A (.slice x.q1 x.n1 x.c1) (.slice x.q2 x.n2 x.c2) (.slice x.q3 x.n3 x.c3) (.slice x.q4 x.n4 x.c4)
    have hAs := hAw.set (.slice x.q1 x.n1 x.c1) (.slice x.q2 x.n2 x.c2) (.slice x.q3 x.n3 x.c3) (.slice x.q4 x.n4 x.c4)
    have HZ : Hid (But (· = A) W (set4 W A (.slice x.q1 x.n1 x.c1) (.slice x.q2 x.n2 x.c2) (.slice x.q3 x.n3 x.c3) (.slice x.q4 x.n4 x.c4)) ∧ RunI A (A + 5) T w (pre ++ [x]) (set4 W A (.slice x.q1 x.n1 x.c1) (.slice x.q2 x.n2 x.c2) (.slice x.q3 x.n3 x.c3) (.slice x.q4 x.n4 x.c4))) := by
      refine ⟨hS, ⟨_, _, _, _, hAs, fun e => by simp at e, fun y hy => ?_⟩, fun y hy => ?_, hI.bt.trans (hS.mono fun k e => .inr (by omega))⟩
      · rw [List.getLast?_concat] at hy; cases hy; exact ⟨rfl, rfl⟩
      · rw [List.getLast?_concat] at hy; cases hy
        exact hG.butS hS (fun h0 a e h => hG.so A (by omega) h0 a e h) (fun h0 a e h => hG.vo A (by omega) h0 a e h)
    unfold set4 at HZ
    obtain ⟨k0, k1, k2, k3, f0, f1, f2, f3⟩ := hAw
    obtain ⟨r0, r1, r2, r3, -⟩ := hRw
    clear hI hG hS hAs hI0 HS
    gi_wp2
    exact HZ.out
  case done =>
    intro M xs W hM hSp hI hEf hK
    obtain ⟨u0, u1, u2, u3, hAw, he, hx⟩ := hI.u
    obtain ⟨k0, k1, k2, k3, -⟩ := id hAw
    have HZ : Hid (Sp xs ∧ RunI A (A + 5) T w xs W ∧ Ef W ∧ (xs = [] → u1 = .slice none 0 0 ∧ u3 = .slice none 0 0) ∧ ∀ x, xs.getLast? = some x → u1 = .slice x.q2 x.n2 x.c2 ∧ u3 = .slice x.q4 x.n4 x.c4) := ⟨hSp, hI, hEf, he, hx⟩
    clear hSp hI hEf he hx hI0 HS hAw
    gi_wp2
    gi_quiet (fail)
    gi_wp2
    have hK' : (W.drewN nq).heap[M]? = some (.deferred (some [])) := hK
    have hg1 : W.grownBy (W.drewN nq) none := ⟨rfl, rfl, rfl, Nat.le_refl _, fun _ _ _ => rfl⟩
    have hg2 := grownBy_putObj' (W.drewN nq) M (.deferred none)
    have hr2 : ∀ r, some M = some r → ∃ o : Obj, (W.drewN nq).heap[r]? = some o ∧ o.isCells = false := fun r e => by cases e; exact ⟨_, hK', rfl⟩
    have hI' := HZ.out.2.1
    refine ⟨by simp, .inl ⟨_, _, rfl, run_takeDeferred hK', ?_⟩⟩
    refine ⟨_, results_tmp2 rfl _ _ _, xs, u1, u3, rfl, HZ.out.1, HZ.out.2.2.2.1, fun x hx => ⟨(HZ.out.2.2.2.2 x hx).1, (HZ.out.2.2.2.2 x hx).2, ?_⟩, ?_, ?_⟩
    · rw [hA]
      exact ((hI'.gv x hx).grown hg1 (fun r e => by cases e)).grown hg2 hr2
    · exact HE.out () _ _ _ (HE.out () _ _ _ HZ.out.2.2.1 hg1 (fun r e => by cases e)) hg2 (fun r e => by cases e; exact ⟨by omega, _, hK', rfl⟩)
    · have h1 := (hI'.bt.trans ((But.grown hg1).mono (T := fun k => k = T ∨ A ≤ k) (fun k e => by cases e))).trans ((But.grown hg2).mono (T := fun k => k = T ∨ A ≤ k) (fun k e => by cases e; exact .inr (by omega)))
      exact ⟨h1.os, h1.tape, h1.output, h1.size, fun k hk hs => h1.block k hk (by rintro (h | h); · exact hs h
                                                                                  · omega)⟩

theorem erow_len {x : ERow} {H a : Nat} {W : World} {ss : List Nat} (h : x.Gv H W) (hs : x.s = ss) (ha : ss.length = a) : x.n2 = a := by rw [← ha, ← hs]; exact h.s.len.symm
theorem erow_lenv {x : ERow} {H a : Nat} {W : World} {vs : List Nat} (h : x.Gv H W) (hs : x.v = vs) (ha : vs.length = a) : x.n4 = a := by rw [← ha, ← hs]; exact h.v.len.symm
theorem fd_own {kf B T base : Nat} (hB : B < base) (hT : T < base) : OwnFrom base (fun (_ : Unit) W => Fd kf B T W) := fun _ _ _ _ h hg hr =>
  h.but (But.grown hg) (fun e => by have := (hr B e).1; omega) (fun e => by have := (hr T e).1; omega)

/-- Run, of a field. -/
theorem erun_calls (B T kf k N n c m d a1 a2 : Nat) (q p : Option Addr) (z : Int) (hz : (if z < 0 then 0 else z) = (k : Int)) (xs ys ss vs : List Nat) (hR : IsRun xs ys k ss vs N) (l1 : ss.length = a1) (l2 : vs.length = a2) (hn : n ≤ 1000) (hm : m ≤ 1000) (w : World) (hF : Fd kf B T w) (ta : Tl w T q n c xs) (tb : Tl w T p m d ys) :
    Calls Tryz.prog 14 #[.pointer (some ⟨B, 0, none⟩), .slice q n c, .slice p m d, .int .i64 z] w fun e w' => ∃ q2 c2 q4 c4, e = .returned (.tuple #[.slice q2 a1 c2, .slice q4 a2 c4]) ∧ Tl w' T q2 a1 c2 ss ∧ Tl w' T q4 a2 c4 vs ∧ Fd kf B T w' ∧ But (· = T) w w' := by
  have hT := hF.lt
  have hB := hF.blt
  refine (callsIn_wide (n := 4)).1 ((erun_in 4 (by omega) (some ⟨B, 0, none⟩) q p n c m d z T w (by omega) (by omega) (SpR N ss vs) (Fd kf B T) (fd_own (by omega) (by omega)) fun w2 hst hb hs => ?_).mono ?_)
  · exact esteps1_rows 3 (by omega) (w.heap.size + 1) B w.heap.size T kf k N n c m d q p z hz xs ys ss vs hR hn hm w2 hst (hF.below hb) (ta.below hb) (tb.below hb) (by omega) (ta.bs.off (Nat.le_refl _)) (fun g hg => by omega) (by omega) (by omega)
  · rintro e w' ⟨zs, u1, u3, rfl, ⟨x, hx, hxt, hxs, hxv⟩, -, hu, hE, hb⟩
    obtain ⟨rfl, rfl, hG⟩ := hu x hx
    rw [erow_len hG hxs l1, erow_lenv hG hxv l2]
    have e1 := erow_len hG hxs l1
    have e2 := erow_lenv hG hxv l2
    obtain ⟨g1, g2, g3, g4, g5, g6⟩ := hG
    rw [hxs, e1] at g1
    rw [hxv, e2] at g4
    rw [e1] at g2 g3
    rw [e2] at g5 g6
    exact ⟨_, _, _, _, rfl, ⟨g1, g2, g3 T (by omega)⟩, ⟨g4, g5, g6 T (by omega)⟩, hE, hb⟩
end Go.Proofs
