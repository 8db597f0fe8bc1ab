/- The walks of euclid.steps and of its iterator: Euclid's rows, one after the other, till what is left is short. Conditions: a field that Of has made; lists of at most a thousand bytes, apart from its table and from what a round writes. -/
import Derived.Sort.CutIn
import Derived.Sort.LoopGhostIn
import Derived.Test.YthnlcdfonbnjcaaGreatQQ
import Derived.Test.YthnlcdfonbnjcaaGreatNU
import Derived.Test.YthnlcdfonbnjcaaGreatQP
import Derived.Test.YthnlcdfonbnjcaaGreatMG
namespace Go.Proofs
open Go.RowKit Go.Shelf Go.ChangeShapes Go.WideShapes
open Pol (IsN Dg ofL Byt)
open Eu (Er Gr IsRun)
attribute [local go_sem] Oper.semAt_some

/-- steps: a closure over four boxes. -/
theorem esteps_calls (D : Nat) (f : Option Addr) (q p : Option Addr) (n c m d : Nat) (z : Int) (w : World) :
    CallsIn Fence.wide D Tryz.prog 28 #[.pointer f, .slice q n c, .slice p m d, .int .i64 z] w fun e w' => e = .returned (.func (.func 52) #[] #[.pointer (some ⟨w.heap.size, 0, none⟩), .pointer (some ⟨w.heap.size + 1, 0, none⟩), .pointer (some ⟨w.heap.size + 1 + 1, 0, none⟩), .pointer (some ⟨w.heap.size + 1 + 1 + 1, 0, none⟩)]) ∧ (((w.alloc (.cells #[.pointer f] 29)).alloc (.cells #[.slice q n c] 22)).alloc (.cells #[.slice p m d] 22)).alloc (.cells #[.int .i64 z] 3) = w' := by
  refine callsIn_of_wp Tryz.func28 rfl trivial ?_ rfl
  simp only [Tryz.ntmps28, List.size_toArray, List.length_cons, List.length_nil, Nat.reduceAdd, Nat.reduceSub, Array.replicate_succ, Array.replicate_zero, List.push_toArray, List.append_toArray, List.nil_append, List.cons_append]
  gi_wp2
  go_ret
  exact ⟨rfl, rfl⟩

/-- What the iterator's boxes hold. -/
structure StB (P : Nat) (f : Value) (q p : Option Addr) (n c m d : Nat) (z : Int) (W : World) : Prop where
  cf : W.cell? ⟨P, 0, none⟩ = some f
  ca : W.cell? ⟨P + 1, 0, none⟩ = some (.slice q n c)
  cb : W.cell? ⟨P + 1 + 1, 0, none⟩ = some (.slice p m d)
  cz : W.cell? ⟨P + 1 + 1 + 1, 0, none⟩ = some (.int .i64 z)
theorem StB.blt {P : Nat} {f : Value} {q p : Option Addr} {n c m d : Nat} {z : Int} {W : World} (h : StB P f q p n c m d z W) : P + 1 + 1 + 1 < W.heap.size := World.block_lt_of_cell? _ _ h.cz
theorem StB.but {P : Nat} {f : Value} {q p : Option Addr} {n c m d : Nat} {z : Int} {S : Nat → Prop} {W W' : World} (h : StB P f q p n c m d z W) (hb : But S W W') (hs : ∀ k, P ≤ k → k < P + 4 → ¬ S k) : StB P f q p n c m d z W' :=
  ⟨(hb.cell (p := ⟨P, 0, none⟩) (World.block_lt_of_cell? _ _ h.cf) (hs _ (Nat.le_refl _) (by show P < P + 4; omega))).trans h.cf, (hb.cell (p := ⟨P + 1, 0, none⟩) (World.block_lt_of_cell? _ _ h.ca) (hs _ (by show P ≤ P + 1; omega) (by show P + 1 < P + 4; omega))).trans h.ca, (hb.cell (p := ⟨P + 1 + 1, 0, none⟩) (World.block_lt_of_cell? _ _ h.cb) (hs _ (by show P ≤ P + 1 + 1; omega) (by show P + 1 + 1 < P + 4; omega))).trans h.cb, (hb.cell (p := ⟨P + 1 + 1 + 1, 0, none⟩) (World.block_lt_of_cell? _ _ h.cz) (hs _ (by show P ≤ P + 1 + 1 + 1; omega) (by show P + 1 + 1 + 1 < P + 4; omega))).trans h.cz⟩
theorem stB_new (w : World) (f : Value) (q p : Option Addr) (n c m d : Nat) (z : Int) : StB w.heap.size f q p n c m d z ((((w.alloc (.cells #[f] 29)).alloc (.cells #[.slice q n c] 22)).alloc (.cells #[.slice p m d] 22)).alloc (.cells #[.int .i64 z] 3)) :=
  ⟨by simp [go_sem], by simp [go_sem], by simp [go_sem], by simp [go_sem]⟩

/-- How many steps are done, and the rows then. -/
structure ERow where
  t : Nat
  q1 : Option Addr
  q2 : Option Addr
  q3 : Option Addr
  q4 : Option Addr
  n1 : Nat
  c1 : Nat
  n2 : Nat
  c2 : Nat
  n3 : Nat
  c3 : Nat
  n4 : Nat
  c4 : Nat
  s : List Nat
  v : List Nat
/-- The rows' value. -/
def ERow.val (x : ERow) : Value := rwV (.slice x.q1 x.n1 x.c1) (.slice x.q2 x.n2 x.c2) (.slice x.q3 x.n3 x.c3) (.slice x.q4 x.n4 x.c4)
/-- What a round is told. -/
def ERow.enc (x : ERow) : Array Value := #[.int .i64 x.t, x.val]
/-- What lies in memory then. -/
structure ERow.Gv (H : Nat) (x : ERow) (W : World) : Prop where
  s : Bs W x.q2 x.n2 x.s
  sl : x.n2 ≤ x.c2
  so : ∀ g, g < H → Off g x.n2 x.q2
  v : Bs W x.q4 x.n4 x.v
  vl : x.n4 ≤ x.c4
  vo : ∀ g, g < H → Off g x.n4 x.q4
/-- A block in which nothing of it lies. -/
def ERow.Cl (x : ERow) (Z : Nat) : Prop := Off Z x.n2 x.q2 ∧ Off Z x.n4 x.q4
/-- What has come at the end. -/
def SpR (N : Nat) (ss vs : List Nat) (xs : List ERow) : Prop := ∃ x, xs.getLast? = some x ∧ x.t = N ∧ x.s = ss ∧ x.v = vs
/-- Apart from what is written. -/
def O4 (T A l Z n : Nat) (q : Option Addr) : Prop := Off T n q ∧ Off A n q ∧ Off l n q ∧ Off Z n q
/-- Euclid's rows, t steps gone. -/
structure Eus (W : World) (k C N t : Nat) (ss vs : List Nat) (T A l Z H : Nat) (x : ERow) (r u : List Nat) : Prop where
  er : Er k (ofL r) (ofL x.s) (ofL u) (ofL x.v) (N - t) (ofL ss) (ofL vs)
  gr : ∃ a b c d, Gr C (ofL r) (ofL x.s) (ofL u) (ofL x.v) a b c d
  ns : IsN x.s (ofL x.s)
  nu : IsN u (ofL u)
  nv : IsN x.v (ofL x.v)
  et : x.t = t
  b1 : Bs W x.q1 x.n1 r
  l1 : x.n1 ≤ x.c1
  m1 : x.n1 ≤ 5000
  o1 : O4 T A l Z x.n1 x.q1
  gv : x.Gv H W
  o2 : O4 T A l Z x.n2 x.q2
  b3 : Bs W x.q3 x.n3 u
  l3 : x.n3 ≤ x.c3
  o3 : O4 T A l Z x.n3 x.q3
  o4 : O4 T A l Z x.n4 x.q4
theorem Eus.sizes {W : World} {k C N t : Nat} {ss vs : List Nat} {T A l Z H : Nat} {x : ERow} {r u : List Nat} (h : Eus W k C N t ss vs T A l Z H x r u) : x.n2 ≤ C ∧ x.n3 ≤ C ∧ x.n4 ≤ C ∧ Dg x.n2 (ofL x.s) := by
  obtain ⟨a, b, c, d, g⟩ := h.gr
  have h2 := h.ns.len g.ds
  have h3 := h.nu.dg.le g.bu
  have h4 := h.nv.dg.le g.bv
  have e2 := h.gv.s.len
  have e3 := h.b3.len
  have e4 := h.gv.v.len
  have g1 := g.vr
  have g2 := g.us
  have g3 := g.vs
  refine ⟨by omega, by omega, by omega, ?_⟩
  have := g.ds
  rw [← h2, e2] at this
  exact this
theorem Eus.but {W W' : World} {k C N t : Nat} {ss vs : List Nat} {T A l Z H : Nat} {x : ERow} {r u : List Nat} (h : Eus W k C N t ss vs T A l Z H x r u) {S : Nat → Prop} (hb : But S W W') (hs : ∀ g, S g → g = T ∨ g = A ∨ g = l ∨ g = Z) : Eus W' k C N t ss vs T A l Z H x r u := by
  have ho : ∀ {n : Nat} {q : Option Addr}, O4 T A l Z n q → 0 < n → ∀ a, q = some a → ¬ S a.block := fun o h0 a e hS => by
    rcases hs _ hS with h1 | h1 | h1 | h1
    · exact o.1 h0 a e h1
    · exact o.2.1 h0 a e h1
    · exact o.2.2.1 h0 a e h1
    · exact o.2.2.2 h0 a e h1
  exact ⟨h.er, h.gr, h.ns, h.nu, h.nv, h.et, h.b1.butS hb (ho h.o1), h.l1, h.m1, h.o1, ⟨h.gv.s.butS hb (ho h.o2), h.gv.sl, h.gv.so, h.gv.v.butS hb (ho h.o4), h.gv.vl, h.gv.vo⟩, h.o2, h.b3.butS hb (ho h.o3), h.l3, h.o3, h.o4⟩

theorem wrap_step (n : Nat) (h : n ≤ 1000000000) : IntKind.i64.wrap ((n : Int) + 1) = ((n + 1 : Nat) : Int) := by
  rw [IntKind.wrap_i64]; omega
theorem cells_set4 {W : World} {Z : Nat} {g1 g2 : Nat} {u1 u2 : Value} (h : W.cell? ⟨g1, 0, none⟩ = some u1 ∧ W.cell? ⟨g2, 0, none⟩ = some u2) (h1 : ¬ g1 = Z) (h2 : ¬ g2 = Z) (v0 v1 v2 v3 : Value) : ((((W.setCell ⟨Z, 0, none⟩ v0).setCell ⟨Z, 1, none⟩ v1).setCell ⟨Z, 2, none⟩ v2).setCell ⟨Z, 3, none⟩ v3).cell? ⟨g1, 0, none⟩ = some u1 ∧ ((((W.setCell ⟨Z, 0, none⟩ v0).setCell ⟨Z, 1, none⟩ v1).setCell ⟨Z, 2, none⟩ v2).setCell ⟨Z, 3, none⟩ v3).cell? ⟨g2, 0, none⟩ = some u2 :=
  ⟨((But.set4 W Z v0 v1 v2 v3).cell (p := ⟨g1, 0, none⟩) (World.block_lt_of_cell? _ _ h.1) h1).trans h.1, ((But.set4 W Z v0 v1 v2 v3).cell (p := ⟨g2, 0, none⟩) (World.block_lt_of_cell? _ _ h.2) h2).trans h.2⟩
/-- Behind the first statement: both rows lie in a block of their own. -/
structure Fst (W X : World) (R Z P4 : Nat) (q : Option Addr) (n c : Nat) (q2 : Option Addr) (n2 c2 : Nat) (sl : List Nat) : Prop where
  bt : Below R W X
  zR : R ≤ Z
  rw : RwB Z (.slice q n c) (.slice q2 n2 c2) (.slice none 0 0) (.slice (some ⟨P4, 0, none⟩) 1 1) X
  s2 : Bs X q2 n2 sl
  l2 : n2 ≤ c2
  o2 : ∀ g, g < R → Off g n2 q2
  z2 : Off Z n2 q2
  s4 : Bs X (some ⟨P4, 0, none⟩) 1 [1]
  o4 : R ≤ P4
  z4 : ¬ P4 = Z
theorem fst_set {W X : World} {R Z P4 : Nat} {q q2 : Option Addr} {n c n2 c2 : Nat} {sl : List Nat} {u0 u1 u2 u3 : Value} (hb : Below R W X) (hr : R ≤ X.heap.size) (hz : RwB Z u0 u1 u2 u3 X) (hzR : R ≤ Z) (hs : Bs X q2 n2 sl) (hl : n2 ≤ c2) (ho : ∀ g, g < R → Off g n2 q2) (hz2 : Off Z n2 q2) (hs4 : Bs X (some ⟨P4, 0, none⟩) 1 [1]) (ho4 : R ≤ P4) (hz4 : ¬ P4 = Z) :
    Fst W ((((X.setCell ⟨Z, 0, none⟩ (.slice q n c)).setCell ⟨Z, 1, none⟩ (.slice q2 n2 c2)).setCell ⟨Z, 2, none⟩ (.slice none 0 0)).setCell ⟨Z, 3, none⟩ (.slice (some ⟨P4, 0, none⟩) 1 1)) R Z P4 q n c q2 n2 c2 sl := by
  have hS := But.set4 X Z (.slice q n c) (.slice q2 n2 c2) (.slice none 0 0) (.slice (some ⟨P4, 0, none⟩) 1 1)
  have hW := hz.set (.slice q n c) (.slice q2 n2 c2) (.slice none 0 0) (.slice (some ⟨P4, 0, none⟩) 1 1)
  unfold set4 at hS hW
  exact ⟨hb.trans (hS.below hr (fun k e => by cases e; exact hzR)), hzR, hW, hs.butS hS (fun h0 a e => hz2 h0 a e), hl, ho, hz2, hs4.butS hS (fun _ a e => by cases e; exact hz4), ho4, hz4⟩
theorem one_lit (w : World) : Bs (w.alloc (.cells #[.int .u8 1] 5)) (some ⟨w.heap.size, 0, none⟩) 1 [1] := bs_lits w _ [1] _ 1 rfl rfl rfl rfl (by simp)
theorem fst_nsz {W w2 : World} {R : Nat} {q q2 : Option Addr} {n c n2 c2 : Nat} {sl : List Nat} (hb : Below R W w2) (hr : R ≤ w2.heap.size) (hs : Bs w2 q2 n2 sl) (hl : n2 ≤ c2) (ho : ∀ g, g < R → Off g n2 q2) :
    Fst W ((w2.alloc (.cells #[.int .u8 1] 5)).alloc (.cells #[.slice q n c, .slice q2 n2 c2, .slice none 0 0, .slice (some ⟨w2.heap.size, 0, none⟩) 1 1] 67)) R (w2.heap.size + 1) w2.heap.size q n c q2 n2 c2 sl := by
  have hW := RwB.new (w2.alloc (.cells #[.int .u8 1] 5)) (.slice q n c) (.slice q2 n2 c2) (.slice none 0 0) (.slice (some ⟨w2.heap.size, 0, none⟩) 1 1) 67
  exact ⟨(hb.alloc hr _).alloc (by simp; omega) _, by omega, by simpa using hW, (hs.alloc _).alloc _, hl, ho, hs.off (by omega), (one_lit w2).alloc _, hr, by omega⟩
theorem fst_nzs {W w2 : World} {R : Nat} {q q2 : Option Addr} {n c n2 c2 : Nat} {sl : List Nat} (hb : Below R W w2) (hr : R ≤ w2.heap.size) (hs : Bs w2 q2 n2 sl) (hl : n2 ≤ c2) (ho : ∀ g, g < R → Off g n2 q2) :
    Fst W ((w2.alloc (.cells #[.slice q n c, .slice q2 n2 c2, .slice none 0 0, .slice (some ⟨w2.heap.size + 1, 0, none⟩) 1 1] 67)).alloc (.cells #[.int .u8 1] 5)) R w2.heap.size (w2.heap.size + 1) q n c q2 n2 c2 sl := by
  have hW := RwB.new w2 (.slice q n c) (.slice q2 n2 c2) (.slice none 0 0) (.slice (some ⟨w2.heap.size + 1, 0, none⟩) 1 1) 67
  have h1 := one_lit (w2.alloc (.cells #[.slice q n c, .slice q2 n2 c2, .slice none 0 0, .slice (some ⟨w2.heap.size + 1, 0, none⟩) 1 1] 67))
  exact ⟨(hb.alloc hr _).alloc (by simp; omega) _, hr, hW.below ((Below.refl _ _).alloc (Nat.le_refl _) _), (hs.alloc _).alloc _, hl, ho, hs.off (Nat.le_refl _), by simpa using h1, by omega, by omega⟩
theorem fst_snz {W w2 : World} {R : Nat} {q q2 : Option Addr} {n c n2 c2 : Nat} {sl : List Nat} (hb : Below R W w2) (hr : R + 1 ≤ w2.heap.size) (hs : Bs w2 q2 n2 sl) (hl : n2 ≤ c2) (ho : ∀ g, g < R → Off g n2 q2) (h4 : Bs w2 (some ⟨R, 0, none⟩) 1 [1]) :
    Fst W (w2.alloc (.cells #[.slice q n c, .slice q2 n2 c2, .slice none 0 0, .slice (some ⟨R, 0, none⟩) 1 1] 67)) R w2.heap.size R q n c q2 n2 c2 sl :=
  ⟨hb.alloc (by omega) _, by omega, RwB.new w2 _ _ _ _ _, hs.alloc _, hl, ho, hs.off (Nat.le_refl _), h4.alloc _, Nat.le_refl _, by omega⟩
set_option maxRecDepth 100000 in
set_option maxHeartbeats 4000000 in
theorem esteps1_rows (D : Nat) (hD : 1 ≤ D) (P B A T kf k N n c m d : Nat) (q p : Option Addr) (z : Int) (hz : (if z < 0 then 0 else z) = (k : Int)) (xs ys ss vs : List Nat) (hR : IsRun xs ys k ss vs N) (hn : n ≤ 1000) (hm : m ≤ 1000) (w : World)
    (hB : StB P (.pointer (some ⟨B, 0, none⟩)) q p n c m d z w) (hF : Fd kf B T w) (ta : Tl w T q n c xs) (tb : Tl w T p m d ys) (hA : A < w.heap.size) (oA : Off A n q) (hPB : ∀ g, g = B ∨ g = T ∨ g = A → g < P) (hAB : ¬ A = B) (hAT : ¬ A = T) :
    SeqRows Fence.wide D Tryz.prog 52 #[.pointer (some ⟨P, 0, none⟩), .pointer (some ⟨P + 1, 0, none⟩), .pointer (some ⟨P + 1 + 1, 0, none⟩), .pointer (some ⟨P + 1 + 1 + 1, 0, none⟩)] ERow.enc A T (ERow.Gv w.heap.size) ERow.Cl (SpR N ss vs) (Fd kf B T) w :=
  fun l J W hW hl hlW hJ hY h0 => by
  have hbW : But (fun _ => False) w W := (But.of_below hW)
  have hBW := hB.but hbW (fun _ _ _ h => h)
  have hFW := hF.below hW
  obtain ⟨sl, hsl, -⟩ := Pol.isN_of_bd (Pol.ofL_bd ys)
  obtain ⟨n2, hn2⟩ : ∃ n2, sl.length = n2 := ⟨_, rfl⟩
  obtain ⟨R, hRs⟩ : ∃ R, W.heap.size = R := ⟨_, rfl⟩
  obtain ⟨hqa, hqb⟩ : W.cell? ⟨P + 1, 0, none⟩ = some (.slice q n c) ∧ W.cell? ⟨P + 1 + 1, 0, none⟩ = some (.slice p m d) := ⟨hBW.ca, hBW.cb⟩
  have hPR : P + 1 + 1 + 1 < R := hRs ▸ hBW.blt
  have KN : Hid (∀ X r, X.heap.size = r → Below R W X → Calls Tryz.prog 39 #[.slice p m d] X fun e X' => ∃ q2 c2, e = .returned (.slice q2 n2 c2) ∧ Hid (Bs X' q2 n2 sl ∧ n2 ≤ c2 ∧ (∀ g, g < r → Off g n2 q2) ∧ Below R W X' ∧ r ≤ X'.heap.size) ∧ (X'.cell? ⟨P + 1, 0, none⟩ = some (.slice q n c) ∧ X'.cell? ⟨P + 1 + 1, 0, none⟩ = some (.slice p m d)) ∧ Below X.heap.size X X') := fun X r hr hX => by
    refine (pnorm_calls p m d ys sl hsl (by omega) tb.le X ((tb.bs.below hW).below (hRs ▸ hX))).mono ?_
    rintro e X' ⟨v, rfl, hO, hb⟩
    obtain ⟨q2, c2, rfl, S, C, O⟩ := hO.tell hsl.byt hn2
    have hbb := hX.trans (hb.mono (by have := hX.size; omega))
    refine ⟨q2, c2, rfl, (⟨S, C, hr ▸ O, hbb, hr ▸ hb.size⟩ : _ ∧ _ ∧ _ ∧ _ ∧ _), ⟨(hbb.cell (p := ⟨P + 1, 0, none⟩) ?_).trans hqa, (hbb.cell (p := ⟨P + 1 + 1, 0, none⟩) ?_).trans hqb⟩, hb⟩
    · show P + 1 < R; omega
    · show P + 1 + 1 < R; omega
  obtain ⟨So, hSo⟩ : ∃ o, (Obj.cells #[.int .u8 1] 5) = o := ⟨_, rfl⟩
  obtain ⟨Zo, hZo⟩ : ∃ o, (Obj.cells #[.slice none 0 0, .slice none 0 0, .slice none 0 0, .slice none 0 0] 67) = o := ⟨_, rfl⟩
  have KS := KN.out (W.alloc So).drew (R + 1) (by rw [← hRs]; simp) (by rw [← hRs]; exact ((Below.refl _ W).alloc (Nat.le_refl _) _).drew)
  have KZ := KN.out (W.alloc Zo).drew (R + 1) (by rw [← hRs]; simp) (by rw [← hRs]; exact ((Below.refl _ W).alloc (Nat.le_refl _) _).drew)
  have KSZ := KN.out ((W.alloc So).alloc Zo).drew (R + 2) (by rw [← hRs]; simp) (by rw [← hRs]; exact (((Below.refl _ W).alloc (Nat.le_refl _) _).alloc (by simp) _).drew)
  have KZS := KN.out ((W.alloc Zo).alloc So).drew (R + 2) (by rw [← hRs]; simp) (by rw [← hRs]; exact (((Below.refl _ W).alloc (Nat.le_refl _) _).alloc (by simp) _).drew)
  have K0 := KN.out W.drew R hRs (Below.refl _ W).drew
  have hzZ : RwB R (.slice none 0 0) (.slice none 0 0) (.slice none 0 0) (.slice none 0 0) (W.alloc Zo).drew := by rw [← hRs, ← hZo]; exact (RwB.new W _ _ _ _ _).below (Below.refl _ _).drew
  have hzZS : RwB R (.slice none 0 0) (.slice none 0 0) (.slice none 0 0) (.slice none 0 0) ((W.alloc Zo).alloc So).drew := by rw [← hRs, ← hZo]; exact (RwB.new W _ _ _ _ _).below ((Below.refl _ _).alloc (Nat.le_refl _) _).drew
  have hzSZ : RwB (R + 1) (.slice none 0 0) (.slice none 0 0) (.slice none 0 0) (.slice none 0 0) ((W.alloc So).alloc Zo).drew := by
    have := (RwB.new (W.alloc So) (.slice none 0 0) (.slice none 0 0) (.slice none 0 0) (.slice none 0 0) 67).below (Below.refl _ _).drew
    rw [hZo] at this
    rw [← hRs]; simpa using this
  have hsS : Bs (W.alloc So).drew (some ⟨R, 0, none⟩) 1 [1] := by rw [← hRs, ← hSo]; exact (one_lit W).drew
  have hsSZ : Bs ((W.alloc So).alloc Zo).drew (some ⟨R, 0, none⟩) 1 [1] := by rw [← hRs, ← hSo]; exact ((one_lit W).alloc _).drew
  have hsZS : Bs ((W.alloc Zo).alloc So).drew (some ⟨R + 1, 0, none⟩) 1 [1] := by
    have := (one_lit (W.alloc Zo)).drew
    rw [← hRs, ← hSo]; simpa using this
  subst hSo hZo
  have na1 : ¬ P + 1 = R := by omega
  have na2 : ¬ P + 1 + 1 = R := by omega
  have nb1 : ¬ P + 1 = R + 1 := by omega
  have nb2 : ¬ P + 1 + 1 = R + 1 := by omega
  obtain ⟨cf, ca, cb, cz⟩ := id hBW
  refine callsIn_of_wp Tryz.func52 rfl trivial ?_ rfl
  simp only [Tryz.ntmps52, List.size_toArray, List.length_cons, List.length_nil, Nat.reduceAdd, Nat.reduceSub, Array.replicate_succ, Array.replicate_zero, List.push_toArray, List.append_toArray, List.nil_append, List.cons_append]
  have hfn : ∀ f, Fence.wide.fn f := fun _ => trivial
  have hmx : Tryz.prog.follows .mixedOrders = true := by kernel_rfl
  gi_wp2
  gi_cut [6] from 8 (fun v wc => ∃ Z, v = .pointer (some ⟨Z, 0, none⟩) ∧ Hid (∃ P4 q2 c2, Fst W wc R Z P4 q n c q2 n2 c2 sl))
  case first =>
    refine wpIn_wide.2 ?_
    go_region_held3 (fun w' => w'.cell? ⟨P + 1, 0, none⟩ = some (.slice q n c) ∧ w'.cell? ⟨P + 1 + 1, 0, none⟩ = some (.slice p m d))
      (first | (with_reducible exact hk2) | (with_reducible exact cells_set4 hk2 na1 na2 _ _ _ _) | (with_reducible exact cells_set4 hk2 nb1 nb2 _ _ _ _) | (with_reducible exact cells_set4 hk3 na1 na2 _ _ _ _) | (go_keep; done))
      (first
        | (go_at_call 39; with_reducible refine K0.mono ?_; rintro e w2 ⟨q2, c2, rfl, H2, hk2, hb2⟩)
        | (go_at_call 39; with_reducible refine KS.mono ?_; rintro e w2 ⟨q2, c2, rfl, H2, hk2, hb2⟩; have hs4 := hsS.below hb2)
        | (go_at_call 39; with_reducible refine KZ.mono ?_; rintro e w2 ⟨q2, c2, rfl, H2, hk2, hb2⟩; have hz := hzZ.below hb2; have z0 := hz.f0; have z1 := hz.f1; have z2 := hz.f2; have z3 := hz.f3; have z4 := hz.c0; have z5 := hz.c1; have z6 := hz.c2; have z7 := hz.c3; have ha2 : Below w2.heap.size w2 (w2.alloc (.cells #[.int .u8 1] 5)) := (Below.refl _ w2).alloc (Nat.le_refl _) _; have hk3 : (w2.alloc (.cells #[.int .u8 1] 5)).cell? ⟨P + 1, 0, none⟩ = some (.slice q n c) ∧ (w2.alloc (.cells #[.int .u8 1] 5)).cell? ⟨P + 1 + 1, 0, none⟩ = some (.slice p m d) := ⟨(ha2.cell (World.block_lt_of_cell? _ _ hk2.1)).trans hk2.1, (ha2.cell (World.block_lt_of_cell? _ _ hk2.2)).trans hk2.2⟩; have hy := hz.below ha2; have y0 := hy.f0; have y1 := hy.f1; have y2 := hy.f2; have y3 := hy.f3; have y4 := hy.c0; have y5 := hy.c1; have y6 := hy.c2; have y7 := hy.c3)
        | (go_at_call 39; with_reducible refine KSZ.mono ?_; rintro e w2 ⟨q2, c2, rfl, H2, hk2, hb2⟩; have hs4 := hsSZ.below hb2; have hz := hzSZ.below hb2; have z0 := hz.f0; have z1 := hz.f1; have z2 := hz.f2; have z3 := hz.f3; have z4 := hz.c0; have z5 := hz.c1; have z6 := hz.c2; have z7 := hz.c3)
        | (go_at_call 39; with_reducible refine KZS.mono ?_; rintro e w2 ⟨q2, c2, rfl, H2, hk2, hb2⟩; have hs4 := hsZS.below hb2; have hz := hzZS.below hb2; have z0 := hz.f0; have z1 := hz.f1; have z2 := hz.f2; have z3 := hz.f3; have z4 := hz.c0; have z5 := hz.c1; have z6 := hz.c2; have z7 := hz.c3))
    all_goals (simp only [Exit.then]; first | gi_step | go_step)
    all_goals gi_meet
    case rel => exact ⟨_, rfl, (⟨_, _, _, fst_nsz H2.out.2.2.2.1 H2.out.2.2.2.2 H2.out.1 H2.out.2.1 H2.out.2.2.1⟩ : ∃ P4 q2 c2, Fst W _ R _ P4 q n c q2 n2 c2 sl)⟩
    case rel => exact ⟨_, rfl, (⟨_, _, _, fst_nzs H2.out.2.2.2.1 H2.out.2.2.2.2 H2.out.1 H2.out.2.1 H2.out.2.2.1⟩ : ∃ P4 q2 c2, Fst W _ R _ P4 q n c q2 n2 c2 sl)⟩
    case rel => exact ⟨_, rfl, (⟨_, _, _, fst_snz H2.out.2.2.2.1 H2.out.2.2.2.2 H2.out.1 H2.out.2.1 (fun g hg => H2.out.2.2.1 g (by omega)) hs4⟩ : ∃ P4 q2 c2, Fst W _ R _ P4 q n c q2 n2 c2 sl)⟩
    case rel => exact ⟨_, rfl, (⟨_, _, _, fst_set H2.out.2.2.2.1 (by have := H2.out.2.2.2.2; omega) hz (by omega) H2.out.1 H2.out.2.1 (fun g hg => H2.out.2.2.1 g (by omega)) (H2.out.2.2.1 _ (by omega)) hs4 (by omega) (by omega)⟩ : ∃ P4 q2 c2, Fst W _ R _ P4 q n c q2 n2 c2 sl)⟩
    case rel => exact ⟨_, rfl, (⟨_, _, _, fst_set (H2.out.2.2.2.1.trans (ha2.mono (by have := H2.out.2.2.2.2; omega))) (by have := H2.out.2.2.2.2; simp; omega) hy (Nat.le_refl _) (H2.out.1.alloc _) H2.out.2.1 (fun g hg => H2.out.2.2.1 g (by omega)) (H2.out.2.2.1 _ (by omega)) (one_lit w2) (by have := H2.out.2.2.2.2; omega) (by have := H2.out.2.2.2.2; omega)⟩ : ∃ P4 q2 c2, Fst W _ R _ P4 q n c q2 n2 c2 sl)⟩
    case rel => exact ⟨_, rfl, (⟨_, _, _, fst_set H2.out.2.2.2.1 (by have := H2.out.2.2.2.2; omega) hz (Nat.le_refl _) H2.out.1 H2.out.2.1 (fun g hg => H2.out.2.2.1 g (by omega)) (H2.out.2.2.1 _ (by omega)) hs4 (by omega) (by omega)⟩ : ∃ P4 q2 c2, Fst W _ R _ P4 q n c q2 n2 c2 sl)⟩
  case rest =>
    obtain ⟨Z, rfl, HFs⟩ := hcut
    obtain ⟨P4, q2, c2, hFs⟩ := HFs.out
    obtain ⟨a, ha, hda⟩ := Pol.dg_list xs
    obtain ⟨b, hb, hdb⟩ := Pol.dg_list ys
    rw [ta.bs.len] at ha
    rw [tb.bs.len] at hb
    have hZR := hFs.zR
    have hwR : w.heap.size ≤ R := by have := hW.size; omega
    have hTw := hF.lt
    have hBw := hF.blt
    have hZoff : ∀ g, g < R → ¬ g = Z := fun g hg e => by omega
    have hAZ : ¬ A = Z := hZoff A (by omega)
    have hbwc : But (fun _ => False) W wc := (But.of_below (hRs.symm ▸ hFs.bt))
    have hJ0 : J [] wc := hJ [] W wc Z h0 (by omega) (fun x hx => by cases hx) (hbwc.mono fun _ h => h.elim)
    have hL0 : ∃ x r u, RwB Z (.slice x.q1 x.n1 x.c1) (.slice x.q2 x.n2 x.c2) (.slice x.q3 x.n3 x.c3) (.slice x.q4 x.n4 x.c4) wc ∧ StB P (.pointer (some ⟨B, 0, none⟩)) q p n c m d z wc ∧ Fd kf B T wc ∧ Eus wc k (a + b + 1) N 0 ss vs T A l Z w.heap.size x r u := by
      refine ⟨⟨0, q, q2, none, some ⟨P4, 0, none⟩, n, c, n2, c2, 0, 0, 1, 1, sl, [1]⟩, xs, [], hFs.rw, hBW.but hbwc (fun _ _ _ h => h), hFW.but hbwc id id, ?_⟩
      have er := hR.er
      have hPo : ∀ g, g < R → Off g 1 (some ⟨P4, 0, none⟩) := fun g hg _ a e => by
        cases e; show ¬ P4 = g; have := hFs.o4; omega
      have hnil : ∀ g, Off g 0 none := fun _ h => absurd h (Nat.lt_irrefl 0)
      have hbn : Bs wc none 0 [] := ⟨rfl, by decide, fun i hi => absurd hi (Nat.not_lt_zero i), Pol.byt_nil⟩
      have hba : Bs wc q n xs := (ta.bs.below hW).butS hbwc (fun _ _ _ h => h)
      have hoZ : Off Z n q := (ta.bs.below hW).off (by omega)
      have hol : Off l n q := ta.bs.off hl
      have hgv : ERow.Gv w.heap.size ⟨0, q, q2, none, some ⟨P4, 0, none⟩, n, c, n2, c2, 0, 0, 1, 1, sl, [1]⟩ wc := ⟨hFs.s2, hFs.l2, fun g hg => hFs.o2 g (by omega), hFs.s4, Nat.le_refl _, fun g hg => hPo g (by omega)⟩
      refine ⟨?_, ?_, by rw [hsl.eq]; exact hsl, ?_, ?_, rfl, hba, ta.le, (by show n ≤ 5000; omega), ⟨ta.off, oA, hol, hoZ⟩, hgv, ⟨hFs.o2 T (by omega), hFs.o2 A (by omega), hFs.o2 l (by omega), hFs.z2⟩, hbn, Nat.le_refl _, ⟨hnil _, hnil _, hnil _, hnil _⟩, ⟨hPo T (by omega), hPo A (by omega), hPo l (by omega), fun _ a e => by cases e; exact hFs.z4⟩⟩
      · rw [hsl.eq, Pol.ofL_nil, Eu.one_isN.eq, Nat.sub_zero]; exact er
      · rw [hsl.eq, Pol.ofL_nil, Eu.one_isN.eq]; exact ⟨_, _, _, _, Gr.start hda hdb⟩
      · rw [Pol.ofL_nil]; exact Pol.isN_nil
      · rw [Eu.one_isN.eq]; exact Eu.one_isN
    have HY : Hid (∀ pre x X, J pre X → x.Gv w.heap.size X → YieldAt Fence.wide (D - 1) Tryz.prog l x.enc X fun e Y => e = .returned (.bool true) ∧ J (pre ++ [x]) Y ∧ But (fun k => k = A ∨ k = l) X Y) := hY
    have HJ : Hid (∀ s X Y, J s X → (∀ x, s.getLast? = some x → x.Cl Z) → But (fun k => k = T ∨ k = Z) X Y → J s Y) := fun s X Y h1 h2 h3 => hJ s X Y Z h1 (by omega) h2 h3
    have HG : Hid (N ≤ 1000 ∧ IsRun xs ys k ss vs N ∧ a + b + 1 ≤ 2001 ∧ R ≤ Z ∧ w.heap.size ≤ R ∧ l < R ∧ w.heap.size ≤ l ∧ A < w.heap.size ∧ T < w.heap.size ∧ B < w.heap.size ∧ P + 1 + 1 + 1 < w.heap.size ∧ ¬ A = B ∧ ¬ A = T ∧ (∀ g, g = B ∨ g = T ∨ g = A → g < P))   := ⟨by have := hR.count hdb; omega, hR, by omega, hZR, hwR, by omega, hl, hA, hTw, hBw, hB.blt, hAB, hAT, hPB⟩
    obtain ⟨C, hC⟩ : ∃ C, a + b + 1 = C := ⟨_, rfl⟩
    rw [hC] at hL0 HG
    have HL0 := hL0
    clear hL0 hFs HFs hR hda hdb ha hb hC hbwc hJ hY h0 hBW hFW ta tb oA hPB hAB hAT KN K0 KS KZ KSZ KZS hzZ hzZS hzSZ hsS hsSZ hsZS hZoff hAZ hsl hn2
    gi_wp2
    gi_loopg [7] (N + 1) (fun g v wr => ∃ t : Nat, t + g = N + 1 ∧ t ≤ N ∧ v = .int .i64 (t : Int) ∧ (∃ pre, J pre wr ∧ ∀ x, pre.getLast? = some x → x.Cl Z) ∧ Hid (∃ x r u, RwB Z (.slice x.q1 x.n1 x.c1) (.slice x.q2 x.n2 x.c2) (.slice x.q3 x.n3 x.c3) (.slice x.q4 x.n4 x.c4) wr ∧ StB P (.pointer (some ⟨B, 0, none⟩)) q p n c m d z wr ∧ Fd kf B T wr ∧ Eus wr k C N t ss vs T A l Z w.heap.size x r u))
    case atStart => exact ⟨0, by omega, by omega, rfl, ⟨[], hJ0, fun x hx => by cases hx⟩, HL0⟩
    case round =>
      obtain ⟨t, htg, htN, rfl, ⟨pre, hJp, hcp⟩, HL⟩ := hrel
      obtain ⟨⟨t0, q1, q2, q3, q4, n1, c1, n2, c2, n3, c3, n4, c4, s, v⟩, r, u, hW0, hS0, hF0, hE⟩ := HL.out
      obtain rfl : t0 = t := hE.et
      obtain ⟨z2, z3, z4, hds⟩ : n2 ≤ C ∧ n3 ≤ C ∧ n4 ≤ C ∧ Dg n2 (ofL s) := hE.sizes
      obtain ⟨x, hx⟩ : ∃ x : ERow, ⟨t0, q1, q2, q3, q4, n1, c1, n2, c2, n3, c3, n4, c4, s, v⟩ = x := ⟨_, rfl⟩
      have hxe : x.enc = #[.int .i64 t0, .agg #[.slice q1 n1 c1, .slice q2 n2 c2, .slice q3 n3 c3, .slice q4 n4 c4]] := by rw [← hx]; rfl
      rw [hx] at hE
      have hclx : x.Cl Z := ⟨hE.o2.2.2.2, hE.o4.2.2.2⟩
      have hdr : But (fun k => k = A ∨ k = l) wr wr.drew := (But.refl _ wr).drew
      have hJd : J pre wr.drew := HJ.out pre wr wr.drew hJp hcp (But.refl _ wr).drew
      have hAl : ∀ g, g < w.heap.size → ¬ g = A → ¬ (g = A ∨ g = l) := fun g h1 h2 h3 => by have := HG.out; omega
      have hYx := HY.out pre x wr.drew hJd ⟨hE.gv.s.drew, hE.gv.sl, hE.gv.so, hE.gv.v.drew, hE.gv.vl, hE.gv.vo⟩
      rw [hxe] at hYx
      have hZA : ¬ (Z = A ∨ Z = l) := by have := HG.out; omega
      have HC : Hid (∀ X, But (fun k => k = A ∨ k = l) wr X → RwB Z (.slice q1 n1 c1) (.slice q2 n2 c2) (.slice q3 n3 c3) (.slice q4 n4 c4) X ∧ StB P (.pointer (some ⟨B, 0, none⟩)) q p n c m d z X ∧ Fd kf B T X ∧ Eus X k C N t0 ss vs T A l Z w.heap.size x r u) := fun X hX => by
        have g := HG.out
        refine ⟨hW0.but hX hZA, hS0.but hX (fun i h1 h2 h3 => ?_), hF0.but hX (hAl B (by omega) (by omega)) (hAl T (by omega) (by omega)), hE.but hX (fun i hi => by rcases hi with h | h <;> simp [h])⟩
        rcases h3 with h3 | h3
        · have := g.2.2.2.2.2.2.2.2.2.2.2.2.2 A (.inr (.inr rfl)); omega
        · omega
      have KD : Hid (∀ X, But (fun k => k = A ∨ k = l) wr X → Calls Tryz.prog 15 #[.slice q2 n2 c2] X fun e X' => e = .returned (.int .i64 ((n2 : Int) - 1)) ∧ Hid (Below X.heap.size X X') ∧ But (fun k => k = A ∨ k = l) wr X') := fun X hX => by
        have h1 : Eus X k C N t0 ss vs T A l Z w.heap.size x r u := (HC.out X hX).2.2.2
        have h2 : Bs X q2 n2 s := by have := h1.gv.s; rw [← hx] at this; exact this
        refine (pdeg_calls q2 n2 c2 s n2 hds X h2).mono ?_
        rintro e X' ⟨rfl, hb⟩
        exact ⟨rfl, hb, hX.trans (But.of_below hb)⟩
      have HJs : Hid (∀ X Y, J (pre ++ [x]) X → Below X.heap.size X Y → J (pre ++ [x]) Y) := fun X Y h1 h2 => HJ.out _ _ _ h1 (fun y hy => by rw [List.getLast?_concat] at hy; cases hy; exact hclx) (But.of_below h2)
      obtain ⟨⟨w0, w1, w2, w3, -⟩, ⟨-, -, -, cz⟩, -⟩ := HC.out wr (But.refl _ wr)
      have HX : Hid (⟨t0, q1, q2, q3, q4, n1, c1, n2, c2, n3, c3, n4, c4, s, v⟩ = x ∧ x.Cl Z ∧ n2 ≤ C ∧ n3 ≤ C ∧ n4 ≤ C ∧ Dg n2 (ofL s)) := ⟨hx, hclx, z2, z3, z4, hds⟩
      obtain ⟨fn, tmps, assign, body, hy, hRd⟩ := hYx
      have hb3i := hn
      obtain ⟨bb, hbb⟩ : ∃ bb : Bool, decide ((k : Int) ≤ (n2 : Int) - 1) = bb := ⟨_, rfl⟩
      clear hW0 hS0 hF0 hE hx hxe hclx hds hJd hJp hcp hAl hZA z2 z3 z4
      gi_wp2
      gi_cut [29] from 17 (fun s wc => s = .bool bb ∧ Hid (J (pre ++ [x]) wc ∧ But (fun k => k = A ∨ k = l) wr wc))
      case first =>
        gi_region_with_o (first
          | (refine hRd.mono ?_; rintro e W3 ⟨rfl, hJ3, hb3⟩; have hB3 := hdr.trans hb3; obtain ⟨⟨k0, k1, k2, k3, -⟩, ⟨-, -, -, k4⟩, -⟩ := HC.out W3 hB3)
          | (gi_at_call 15; refine (callsIn_wide.2 (KD.out _ hB3)).mono ?_; rintro e W4 ⟨rfl, hb4, hB4⟩; have hJ4 := HJs.out _ _ hJ3 hb4.out; obtain ⟨⟨m0, m1, m2, m3, -⟩, ⟨-, -, -, m4⟩, -⟩ := HC.out W4 hB4))
        all_goals (simp only [Exit.then, Act.put, List.getElem_toArray, List.getElem_cons_succ, List.getElem_cons_zero, List.setIfInBounds_toArray, List.set_cons_zero, List.set_cons_succ]; gi_step)
        all_goals gi_meet
        all_goals exact ⟨rfl, (⟨hJ4, hB4⟩ : _ ∧ _)⟩
      case rest =>
        obtain ⟨rfl, hcc⟩ := hcut
        have hJc := hcc.out.1
        obtain ⟨hRw, hSt, hFc, hE⟩ := HC.out wc hcc.out.2
        rw [← HX.out.1] at hE
        have her : Er k (ofL r) (ofL s) (ofL u) (ofL v) (N - t0) (ofL ss) (ofL vs) := hE.er
        have hinv := her.inv HX.out.2.2.2.2.2
        have b1 : Bs wc q1 n1 r := hE.b1
        have b2 : Bs wc q2 n2 s := hE.gv.s
        have b3 : Bs wc q3 n3 u := hE.b3
        have b4 : Bs wc q4 n4 v := hE.gv.v
        clear hy hRd hb3i w0 w1 w2 w3 cz KD
        cases bb with
        | false =>
          have hkn := of_decide_eq_false hbb
          rcases hinv with ⟨hk, hN0, hS, hV⟩ | ⟨e, N', Q, tt, he, hke, hN1, hQ, htt, heq, her'⟩
          · have hZ : Hid ((∃ xs, SpR N ss vs xs ∧ J xs wc ∧ Fd kf B T wc)) := by
              refine ⟨pre ++ [x], ⟨x, List.getLast?_concat, ?_, ?_, ?_⟩, hJc, hFc⟩
              · rw [← HX.out.1]; show t0 = N; omega
              · rw [← HX.out.1]
                exact (show IsN s (ofL s) from hE.ns).unique (by rw [← hS]; exact HG.out.2.1.s)
              · rw [← HX.out.1]
                exact (show IsN v (ofL v) from hE.nv).unique (by rw [← hV]; exact HG.out.2.1.v)
            clear hJc hRw hSt hFc hE her b1 b2 b3 b4 hS hV hk hN0 hkn hbb
            gi_wp2
            go_end0
            exact ⟨⟨_, rfl⟩, hZ.out⟩
          · omega
        | true =>
          have hkn := of_decide_eq_true hbb
          rcases hinv with ⟨hk, hN0, hS, hV⟩ | ⟨e, N', Q, tt, rfl, hke, hN1, hQ, htt, heq, her'⟩
          · omega
          · obtain ⟨qs, ts, bb, hD, hql, -⟩ := isDiv_exists r s
            obtain ⟨rfl, hqs, hts⟩ : bb = true ∧ IsN qs Q ∧ IsN ts tt := by
              rcases hD with ⟨_, h0, _, _⟩ | ⟨h1, e', P1, P2, hd, h2, h3, h4, h5⟩
              · exact absurd (h0.unique HX.out.2.2.2.2.2) (by omega)
              · obtain rfl : e' = e := by have := hd.unique HX.out.2.2.2.2.2; omega
                obtain ⟨f1, f2⟩ := Pol.div_unique h2.dg.fin hQ hd h4 htt (h5.symm.trans heq)
                exact ⟨h1, f1 ▸ h2, f2 ▸ h3⟩
            obtain ⟨ms, hms, hml⟩ := Pol.isN_mul qs v
            obtain ⟨us, hus, -⟩ := Pol.isN_add u ms
            obtain ⟨n5, hn5⟩ : ∃ n5, qs.length = n5 := ⟨_, rfl⟩
            obtain ⟨n6, hn6⟩ : ∃ n6, ts.length = n6 := ⟨_, rfl⟩
            obtain ⟨n7, hn7⟩ : ∃ n7, ms.length = n7 := ⟨_, rfl⟩
            obtain ⟨n8, hn8⟩ : ∃ n8, us.length = n8 := ⟨_, rfl⟩
            have hsz := HX.out
            have hgg := HG.out
            have hm1 : n1 ≤ 5000 := hE.m1
            have e1 := b1.len
            have e4 := b4.len
            have hTw : T < w.heap.size := hgg.2.2.2.2.2.2.2.2.1
            have K := eturn_calls kf B T q1 q2 q3 q4 n1 c1 (e + 1) c2 n3 c3 n4 c4 n5 n6 n7 n8 r s u v qs ts ms us hD hms hus hn5 hn6 hn7 hn8 (by omega) (by omega) (by omega) (by omega) (by omega) (by omega) wc hFc ⟨b1, hE.l1, hE.o1.1⟩ ⟨b2, hE.gv.sl, hE.o2.1⟩ ⟨b3, hE.l3, hE.o3.1⟩ ⟨b4, hE.gv.vl, hE.o4.1⟩
            have HQ : Hid (IsN ts (ofL ts) ∧ IsN us (ofL us) ∧ N - t0 = N' + 1 ∧ Er k (ofL s) (ofL ts) (ofL v) (ofL us) N' (ofL ss) (ofL vs) ∧ ∃ a' b' c' d', Gr C (ofL s) (ofL ts) (ofL v) (ofL us) a' b' c' d') := by
              have eus : ofL us = Pol.add (ofL u) (Pol.mul Q (ofL v)) := by rw [hus.eq, hms.eq, hqs.eq]
              refine ⟨by rw [hts.eq]; exact hts, by rw [hus.eq]; exact hus, hN1, ?_, ?_⟩
              · rw [eus, hts.eq]; exact her'
              · rw [eus, hts.eq]
                obtain ⟨x1, x2, x3, x4, hg⟩ := (show ∃ a b c d, Gr C (ofL r) (ofL s) (ofL u) (ofL v) a b c d from hE.gr)
                obtain rfl : x2 = e + 1 := hg.ds.unique HX.out.2.2.2.2.2
                obtain ⟨s', v', _, hg'⟩ := hg.step hQ htt heq
                exact ⟨_, _, _, _, hg'⟩
            have hwt := wrap_step t0 (by omega)
            have ht1 : t0 + 1 ≤ N := by omega
            obtain ⟨w0, w1, w2, w3, -⟩ := id hRw
            have cfc := hSt.cf
            have HE : Hid (RwB Z (.slice q1 n1 c1) (.slice q2 (e + 1) c2) (.slice q3 n3 c3) (.slice q4 n4 c4) wc ∧ StB P (.pointer (some ⟨B, 0, none⟩)) q p n c m d z wc ∧ Fd kf B T wc ∧ Eus wc k C N t0 ss vs T A l Z w.heap.size ⟨t0, q1, q2, q3, q4, n1, c1, e + 1, c2, n3, c3, n4, c4, s, v⟩ r u ∧ J (pre ++ [x]) wc) := ⟨hRw, hSt, hFc, hE, hJc⟩
            unfold rwV at K
            clear hJc hRw hSt hFc hE her b1 b2 b3 b4 hkn hbb hsz hgg hm1 e1 e4 hD hql hqs hts hms hml hus hn5 hn6 hn7 hn8 hQ htt heq her' hN1 hke
            gi_wp2_with fail
            refine (callsIn_wide.2 K).mono ?_
            rintro e_ w5 ⟨q6, c6, q8, c8, rfl, S6, S8, hF5, hb5⟩
            have hZT : ¬ Z = T := by have := HG.out; omega
            have hz5 := HE.out.1.but hb5 hZT
            have hbS := But.set4 w5 Z (.slice q2 (e + 1) c2) (.slice q6 n6 c6) (.slice q4 n4 c4) (.slice q8 n8 c8)
            have hrS := hz5.set (.slice q2 (e + 1) c2) (.slice q6 n6 c6) (.slice q4 n4 c4) (.slice q8 n8 c8)
            unfold set4 at hbS hrS
            obtain ⟨W6, hW6⟩ : ∃ W6, (((w5.setCell ⟨Z, 0, none⟩ (.slice q2 (e + 1) c2)).setCell ⟨Z, 1, none⟩ (.slice q6 n6 c6)).setCell ⟨Z, 2, none⟩ (.slice q4 n4 c4)).setCell ⟨Z, 3, none⟩ (.slice q8 n8 c8) = W6 := ⟨_, rfl⟩
            rw [hW6] at hbS hrS
            have HN : Hid (J (pre ++ [x]) W6 ∧ (∀ y, (pre ++ [x]).getLast? = some y → y.Cl Z) ∧ (∃ x r u, RwB Z (.slice x.q1 x.n1 x.c1) (.slice x.q2 x.n2 x.c2) (.slice x.q3 x.n3 x.c3) (.slice x.q4 x.n4 x.c4) W6 ∧ StB P (.pointer (some ⟨B, 0, none⟩)) q p n c m d z W6 ∧ Fd kf B T W6 ∧ Eus W6 k C N (t0 + 1) ss vs T A l Z w.heap.size x r u)) := by
              have hgg := HG.out
              have hE := HE.out.2.2.2.1
              have hbT : But (fun k => k = T ∨ k = Z) wc W6 := (hb5.mono fun _ h => .inl h).trans (hbS.mono fun _ h => .inr h)
              have hlast : ∀ y, (pre ++ [x]).getLast? = some y → y.Cl Z := fun y hy => by rw [List.getLast?_concat] at hy; cases hy; exact HX.out.2.1
              have hE6 := hE.but hbT (fun g hg => by rcases hg with h | h <;> simp [h])
              have hZw : Z < wc.heap.size := HE.out.1.blt
              have hlw : l < wc.heap.size := by omega
              have o6 : O4 T A l Z n6 q6 := ⟨S6.2.2 T (by omega), S6.2.2 A (by omega), S6.2.2 l (by omega), S6.2.2 Z (by omega)⟩
              have o8 : O4 T A l Z n8 q8 := ⟨S8.2.2 T (by omega), S8.2.2 A (by omega), S8.2.2 l (by omega), S8.2.2 Z (by omega)⟩
              have b6 : Bs W6 q6 n6 ts := S6.1.butS hbS (fun h0 a e => o6.2.2.2 h0 a e)
              have b8 : Bs W6 q8 n8 us := S8.1.butS hbS (fun h0 a e => o8.2.2.2 h0 a e)
              refine ⟨HJ.out _ _ _ HE.out.2.2.2.2 hlast hbT, hlast, ⟨t0 + 1, q2, q6, q4, q8, e + 1, c2, n6, c6, n4, c4, n8, c8, ts, us⟩, s, v, hrS, HE.out.2.1.but hbT (fun i h1 h2 h3 => ?_), hF5.but hbS (by omega) (by omega), ?_⟩
              · rcases h3 with h3 | h3
                · have := hgg.2.2.2.2.2.2.2.2.2.2.2.2.2 T (.inr (.inl rfl)); omega
                · omega
              · refine ⟨?_, HQ.out.2.2.2.2, HQ.out.1, hE.nv, HQ.out.2.1, rfl, hE6.gv.s, hE.gv.sl, ?_, hE.o2, ⟨b6, S6.2.1, fun g hg => S6.2.2 g (by omega), b8, S8.2.1, fun g hg => S8.2.2 g (by omega)⟩, o6, hE6.gv.v, hE.gv.vl, hE.o4, o8⟩
                · rw [show N - (t0 + 1) = N' by have := HQ.out.2.2.1; omega]; exact HQ.out.2.2.2.1
                · show e + 1 ≤ 5000; have := HX.out; omega
            obtain ⟨m0, m1, m2, m3, f0, f1, f2, f3⟩ := id hz5
            have HW : Hid ((((w5.setCell ⟨Z, 0, none⟩ (.slice q2 (e + 1) c2)).setCell ⟨Z, 1, none⟩ (.slice q6 n6 c6)).setCell ⟨Z, 2, none⟩ (.slice q4 n4 c4)).setCell ⟨Z, 3, none⟩ (.slice q8 n8 c8) = W6) := hW6
            have hN1 := HG.out.1
            clear hbS hrS hW6 S6 S8 hF5 hb5 hz5 K w0 w1 w2 w3 cfc
            gi_wp2
            rw [HW.out]
            go_roundg (N - t0)
            case measure => omega
            case rel => exact ⟨t0 + 1, by omega, ht1, by go_num, ⟨_, HN.out.1, HN.out.2.1⟩, HN.out.2.2⟩

end Go.Proofs
