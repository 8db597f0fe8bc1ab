/- Texts laid together: MxR, GBes. Each says its own conditions. -/
import Derived.Deep.RegionHeldLaw
import Derived.Test.YtbikchgkglllkaaGreatNA
import Derived.Test.YtbikchgkglllkaaGreatMG
import Derived.Test.YtbikchgkglllkaaGreatNB
/- The walks of matrix.inside, Right, piece and Row. Conditions: ints; a matrix whose cells are bytes. -/
namespace Go.Proofs
open Go.RowKit Go.ChangeShapes Go.WideShapes
open Mx (Mat cells upd prt lay)
open Pol (Byt ofL)
attribute [local go_sem ↓ high] builtin_ap
attribute [local go_sem] ap_sem

theorem wrap_nat (n : Nat) (h : n ≤ 1000000000) : IntKind.i64.wrap (n : Int) = (n : Int) := by
  rw [IntKind.wrap_i64]; omega
/-- A side that may be. -/
def side (z : Int) : Bool := decide (0 ≤ z) && decide (z ≤ 300)
theorem side_true {z : Int} : side z = true ↔ 0 ≤ z ∧ z ≤ 300 := by simp [side]

set_option maxRecDepth 100000 in
set_option maxHeartbeats 1000000 in
theorem minside_calls (q : Option Addr) (n c : Nat) (zs : List Int) (b : Bool) (hb : zs.all side = b) (w : World) (hs : Ns .i64 w q n zs) (hn : n ≤ 1000) :
    Calls Tryz.prog 59 #[.slice q n c] w fun e w' => e = .returned (.bool b) ∧ w' = w := by
  have HS : Hid (Ns .i64 w q n zs ∧ zs.all side = b) := ⟨hs, hb⟩
  clear hs hb
  go_enter Tryz.func59, Tryz.ntmps59
  go_wp2
  go_loopw [7] (fun i wr => ∃ t : Nat, t ≤ n ∧ i = .int .i64 (t : Int) ∧ (zs.take t).all side = true ∧ wr = w) (fun i _ => n - (intOf i).toNat)
  case atStart => exact ⟨0, by omega, rfl, rfl, rfl⟩
  case round =>
    obtain ⟨t, ht, rfl, hall, rfl⟩ := hrel
    by_cases hlt : t < n
    · have hti : (t : Int) < (n : Int) := by omega
      obtain ⟨a, rfl, _, ca⟩ := HS.out.1.cell t hlt
      have hlen := HS.out.1.len
      have hz : zs[t]? = some (zs.getD t 0) := by rw [List.getElem?_eq_getElem (by omega)]; simp [List.getD, List.getElem?_eq_getElem (show t < zs.length by omega)]
      obtain ⟨z, hze⟩ : ∃ z, zs.getD t 0 = z := ⟨_, rfl⟩
      rw [hze] at ca hz
      have HT : Hid ((zs.take (t + 1)).all side = ((zs.take t).all side && side z)) := by
        show (zs.take (t + 1)).all side = _
        rw [List.take_add_one, hz, List.all_append]; simp
      have HA : Hid (∀ x ∈ zs, x = x) := fun _ _ => rfl
      have HM : Hid (z ∈ zs) := List.mem_of_getElem? hz
      have hall' : Hid ((zs.take t).all side = true) := hall
      clear hall hz hze hlen
      by_cases h1 : z < 0
      · have hF : b = false := by
          rw [← HS.out.2, Bool.eq_false_iff]
          intro h; have := side_true.1 (List.all_eq_true.1 h z HM.out); omega
        subst hF
        go_wp2
        go_ret
        exact ⟨rfl, rfl⟩
      · by_cases h2 : 300 < z
        · have hF : b = false := by
            rw [← HS.out.2, Bool.eq_false_iff]
            intro h; have := side_true.1 (List.all_eq_true.1 h z HM.out); omega
          subst hF
          go_wp2
          go_ret
          exact ⟨rfl, rfl⟩
        · have hN : Hid ((zs.take (t + 1)).all side = true) := by
            show (zs.take (t + 1)).all side = true
            rw [HT.out, hall'.out, Bool.true_and]; exact side_true.2 ⟨by omega, by omega⟩
          go_wp2
          go_roundw
          case rel => exact ⟨t + 1, by omega, by go_num, hN.out, trivial⟩
          case measure => simp [intOf]; omega
    · obtain rfl : t = n := by omega
      have hF : b = true := by rw [← HS.out.2, ← hall, List.take_of_length_le (by rw [HS.out.1.len]; exact Nat.le_refl _)]
      subst hF
      clear hall
      go_wp2
      go_ret
      exact ⟨rfl, rfl⟩

/-- Numbers in a new block. -/
theorem ns_two (w : World) (x y : Int) (hx : (Lit.int .i64 x).wf = true) (hy : (Lit.int .i64 y).wf = true) : Ns .i64 (w.alloc (.cells #[.int .i64 x, .int .i64 y] 3)) (some ⟨w.heap.size, 0, none⟩) 2 [x, y] := by
  refine ⟨rfl, by decide, fun i hi => ⟨_, rfl, by simp, ?_⟩, fun z hz => ?_⟩
  · match i, hi with
    | 0, _ => show (w.alloc _).cell? ⟨w.heap.size, 0, none⟩ = _; rw [World.cell?_alloc_at _ _ _ _ rfl]; rfl
    | 1, _ => show (w.alloc _).cell? ⟨w.heap.size, 1, none⟩ = _; rw [World.cell?_alloc_at _ _ _ _ rfl]; rfl
  · simp at hz; rcases hz with rfl | rfl <;> assumption
theorem ns_one (w : World) (x : Int) (hx : (Lit.int .i64 x).wf = true) : Ns .i64 (w.alloc (.cells #[.int .i64 x] 3)) (some ⟨w.heap.size, 0, none⟩) 1 [x] := by
  refine ⟨rfl, by decide, fun i hi => ⟨_, rfl, by simp, ?_⟩, fun z hz => ?_⟩
  · match i, hi with
    | 0, _ => show (w.alloc _).cell? ⟨w.heap.size, 0, none⟩ = _; rw [World.cell?_alloc_at _ _ _ _ rfl]; rfl
  · simp at hz; rcases hz with rfl; assumption
/-- Is it right? -/
def rightB (R C : Int) (n : Nat) : Bool := side R && side C && decide ((n : Int) = R * C)
theorem wf_i64 {z : Int} (h1 : -9223372036854775808 ≤ z) (h2 : z < 9223372036854775808) : (Lit.int .i64 z).wf = true := by
  simp [Lit.wf]; exact ⟨h1, by omega⟩

set_option maxRecDepth 100000 in
set_option maxHeartbeats 1000000 in
theorem mright_calls (R C : Int) (q : Option Addr) (n c : Nat) (b : Bool) (hb : rightB R C n = b) (hR1 : -9223372036854775808 ≤ R) (hR2 : R < 9223372036854775808) (hC1 : -9223372036854775808 ≤ C) (hC2 : C < 9223372036854775808) (w : World) :
    Calls Tryz.prog 48 #[.agg #[.int .i64 R, .int .i64 C, .slice q n c]] w fun e w' => e = .returned (.bool b) ∧ Below w.heap.size w w' := by
  have hs := ns_two (w.alloc (.cells #[.int .i64 R, .int .i64 C, .slice q n c] 43)) R C (wf_i64 hR1 hR2) (wf_i64 hC1 hC2)
  rw [show (w.alloc (.cells #[.int .i64 R, .int .i64 C, .slice q n c] 43)).heap.size = w.heap.size + 1 by simp] at hs
  have K := minside_calls _ 2 2 [R, C] _ rfl _ hs (by decide)
  have HB : Hid (rightB R C n = b) := hb
  clear hs hb
  have e1 : [R, C].all side = (side R && side C) := by simp
  rw [e1] at K
  by_cases h1 : (side R && side C) = true
  · rw [h1] at K
    have h2 := side_true.1 (Bool.and_eq_true_iff.1 h1).1
    have h3 := side_true.1 (Bool.and_eq_true_iff.1 h1).2
    have h4 : 0 ≤ R * C := Int.mul_nonneg h2.1 h3.1
    have h5 : R * C ≤ 90000 := by
      have := Int.mul_le_mul h2.2 h3.2 h3.1 (by decide)
      omega
    obtain ⟨m, hm⟩ : ∃ m : Int, R * C = m := ⟨_, rfl⟩
    have hbb : b = decide ((n : Int) = m) := by rw [← HB.out, rightB, h1, Bool.true_and, hm]
    rw [hm] at h4 h5
    subst hbb
    clear h1 h2 h3 hR1 hR2 hC1 hC2 HB
    go_enter Tryz.func48, Tryz.ntmps48
    go_wp2_with fail
    refine (K).mono ?_
    rintro e w1 ⟨rfl, rfl⟩
    clear K
    by_cases hnm : (n : Int) = m
    · go_wp2
      go_ret
      exact ⟨by rw [decide_eq_true hnm]; rfl, ((Below.refl _ w).alloc (Nat.le_refl _) _).alloc (by simp) _⟩
    · go_wp2
      go_ret
      exact ⟨by first | rfl | simp [hnm], ((Below.refl _ w).alloc (Nat.le_refl _) _).alloc (by simp) _⟩
  · rw [Bool.not_eq_true] at h1
    rw [h1] at K
    have hbb : b = false := by rw [← HB.out, rightB, h1, Bool.false_and]
    subst hbb
    clear HB hR1 hR2 hC1 hC2 h1
    go_enter Tryz.func48, Tryz.ntmps48
    go_wp2_with fail
    refine (K).mono ?_
    rintro e w1 ⟨rfl, rfl⟩
    clear K
    go_wp2
    go_ret
    exact ⟨rfl, ((Below.refl _ w).alloc (Nat.le_refl _) _).alloc (by simp) _⟩

/-- Where a row's cells begin. -/
def rowAt (q : Option Addr) (C o : Nat) : Option Addr := if C = 0 then q else q.map (fun x => x.add o)
theorem rowAt_bs {W : World} {q : Option Addr} {n R C i o : Nat} {xs : List Nat} (h : Bs W q n xs) (hn : n = R * C) (hi : i < R) (ho : o = i * C) : Bs W (rowAt q C o) C (Mx.rowL C xs i) := by
  have h1 : o + C ≤ n := by rw [hn, ho, ← Nat.succ_mul]; exact Nat.mul_le_mul_right _ hi
  have e : (List.range C).map (fun i => xs.getD (o + i) 0) = Mx.rowL C xs i := by
    refine Mx.list_ext (by rw [Mx.rowL_length (h.len.trans hn) hi]; simp) fun j hj => ?_
    simp at hj
    rw [Mx.getD_range_map _ _ _ hj, Mx.rowL_at C xs i j hj, ho]
  unfold rowAt
  by_cases h0 : C = 0
  · rw [if_pos h0, ← e]
    subst h0
    exact ⟨rfl, by omega, fun i hi => absurd hi (Nat.not_lt_zero i), fun i => by simp⟩
  · rw [if_neg h0]
    have := bs_sub h (n + n + 1) o (o + C) (by omega) h1 (by omega)
    rw [Nat.add_sub_cancel_left, e, if_neg (by omega)] at this
    exact this
theorem rowAt_off {T n : Nat} {q : Option Addr} (h : Off T n q) (o C : Nat) (hC : o + C ≤ n) : Off T C (rowAt q C o) := by
  intro h0 a e
  unfold rowAt at e
  rw [if_neg (by omega)] at e
  cases q with
  | none => cases e
  | some b => cases e; rw [block_add]; exact h (by omega) b rfl
set_option maxRecDepth 100000 in
set_option maxHeartbeats 1000000 in
theorem mpiece_calls (R C i o : Nat) (q : Option Addr) (n c : Nat) (hi : i < R) (hn : n = R * C) (ho : o = i * C) (hc : n ≤ c) (hR : R ≤ 300) (hC : C ≤ 600) (w : World) :
    Calls Tryz.prog 68 #[.agg #[.int .i64 (R : Nat), .int .i64 (C : Nat), .slice q n c], .int .i64 (i : Nat)] w fun e w' => e = .returned (.slice (rowAt q C o) C C) ∧ Below w.heap.size w w' := by
  have e1 : (i : Int) * (C : Int) = (o : Int) := by rw [ho]; exact (Int.natCast_mul i C).symm
  have e2 : ((i : Int) + 1) * (C : Int) = (o : Int) + (C : Int) := by rw [Int.add_mul, e1, Int.one_mul]
  have h1 : o + C ≤ n := by rw [hn, ho, ← Nat.succ_mul]; exact Nat.mul_le_mul_right _ hi
  have h2 : n ≤ 180000 := by rw [hn]; exact Nat.mul_le_mul hR hC
  have h0o : C = 0 → o = 0 := fun e => by rw [ho, e, Nat.mul_zero]
  have hoC : o + C - o = C := by omega
  have h3 : o + C ≤ c := by omega
  have h4 : o + C ≤ 180000 := by omega
  have h5 : (o : Int) + (C : Int) ≤ (c : Int) := by omega
  have hi300 : i < 300 := by omega
  clear hn ho hc
  by_cases h0 : C = 0
  · subst h0
    obtain rfl : o = 0 := h0o rfl
    clear hoC h0o
    go_enter Tryz.func68, Tryz.ntmps68
    go_wp2
    go_quiet (fail)
    go_wp2
    go_ret
    exact ⟨by simp [rowAt], Below.drewN ((Below.refl _ w).alloc (Nat.le_refl _) _) _⟩
  · clear h0o
    go_enter Tryz.func68, Tryz.ntmps68
    go_wp2
    go_quiet (fail)
    go_wp2
    go_ret
    exact ⟨by simp [rowAt, h0, hoC], Below.drewN ((Below.refl _ w).alloc (Nat.le_refl _) _) _⟩

theorem right_nat {R C n : Nat} (hR : R ≤ 300) (hC : C ≤ 300) (hn : n = R * C) : rightB (R : Int) (C : Int) n = true := by
  unfold rightB
  rw [side_true.2 ⟨by omega, by omega⟩, side_true.2 ⟨by omega, by omega⟩, Bool.true_and, Bool.true_and, decide_eq_true]
  rw [hn]; exact Int.natCast_mul R C
/-- A matrix' box. -/
structure Mb (W : World) (B : Nat) (v0 v1 v2 : Value) : Prop where
  c0 : W.cell? ⟨B, 0, none⟩ = some v0
  c1 : W.cell? ⟨B, 1, none⟩ = some v1
  c2 : W.cell? ⟨B, 2, none⟩ = some v2
theorem Mb.blt {W : World} {B : Nat} {v0 v1 v2 : Value} (h : Mb W B v0 v1 v2) : B < W.heap.size := World.block_lt_of_cell? _ _ h.c0
theorem Mb.but {S : Nat → Prop} {W W' : World} {B : Nat} {v0 v1 v2 : Value} (h : Mb W B v0 v1 v2) (hb : But S W W') (hs : ¬ S B) : Mb W' B v0 v1 v2 :=
  ⟨(hb.cell (p := ⟨B, 0, none⟩) h.blt hs).trans h.c0, (hb.cell (p := ⟨B, 1, none⟩) h.blt hs).trans h.c1, (hb.cell (p := ⟨B, 2, none⟩) h.blt hs).trans h.c2⟩
theorem Mb.below {W W' : World} {B : Nat} {v0 v1 v2 : Value} (h : Mb W B v0 v1 v2) (hb : Below W.heap.size W W') : Mb W' B v0 v1 v2 := h.but (But.of_below (S := fun _ => False) hb) id
theorem mb_new (w : World) (v0 v1 v2 : Value) : Mb (w.alloc (.cells #[v0, v1, v2] 43)) w.heap.size v0 v1 v2 := ⟨by simp [go_sem], by simp [go_sem], by simp [go_sem]⟩

end Go.Proofs
/- The walk of gauss.beside. Conditions: right matrices of as many rows. -/
namespace Go.Proofs
open Go.RowKit Go.ChangeShapes Go.WideShapes
open Mx (Mat cells upd prt lay mx rowL bes)
open Pol (Byt ofL)

/-- A copy whose run is known, at a step of a region that draws its order. -/
theorem step_cp {ops : Array Oper} {o : Oper} {a : Act} {w : World} {K : Act → World → Prop} {Q : Exit → Act → World → Prop} {E : Prop} (hg : o.guard = none) (s x : Operand) (t : TypeId) (ho : o.op = .call { callee := .builtin .copy, args := #[s, x], argTypes := #[t, t] })
    {v u r : Value} {ty : TypeId} {W' : World} (hcp : (Builtin.copy_ #[t, t] ty #[v, u]).run Tryz.prog w = .ok r W') (hty : o.type = ty) (hs : a.eval s = v) (hx : a.eval x = u) (hK : K (a.put o.dst r) W') : if Region.wanted o (yielded ops a.tmps) = true then Oper.wp Tryz.prog o a w K Q else E := by
  have hw : Region.wanted o (yielded ops a.tmps) = true := by simp [Region.wanted, hg]
  rw [if_pos hw]
  subst hs hx hty
  unfold Oper.wp
  simp only [execOp, ho, resolve, invoke, builtin, Sem.run_bind, Sem.run_pure, Result.andThen_ok, List.map_toArray, List.map_cons, List.map_nil, hcp]
  exact hK
namespace Mx
/-- As far as row t. -/
def besT (Ca : Nat) (M N : Mat) (t : Nat) : Mat := fun a b => if a < t then bes Ca M N a b else 0
theorem bes_next {R Ca Cb t : Nat} {xs ys : List Nat} (hx : xs.length = R * Ca) (hy : ys.length = R * Cb) (ht : t < R) :
    Eq R (Ca + Cb) (lay (lay (besT Ca (mx Ca xs) (mx Cb ys) t) t 0 (rowL Ca xs t)) t Ca (rowL Cb ys t)) (besT Ca (mx Ca xs) (mx Cb ys) (t + 1)) := fun a b _ hb => by
  have l1 := rowL_length hx ht
  have l2 := rowL_length hy ht
  unfold lay besT
  rw [l1, l2]
  by_cases e : a = t
  · subst e
    rw [if_pos (Nat.lt_succ_self a)]
    unfold bes
    by_cases h : b < Ca
    · rw [if_neg (by omega), if_pos ⟨rfl, by omega, by omega⟩, if_pos h, Nat.sub_zero, rowL_mx Ca xs a b h]
    · rw [if_pos ⟨rfl, by omega, by omega⟩, if_neg h, rowL_mx Cb ys a _ (by omega)]
  · rw [if_neg (fun k => e k.1), if_neg (fun k => e k.1)]
    by_cases h : a < t
    · rw [if_pos h, if_pos (by omega)]
    · rw [if_neg h, if_neg (by omega)]
end Mx

/-- A work that is not laid yet. -/
structure Z4 (W : World) (B : Nat) : Prop where
  c0 : W.cell? ⟨B, 0, none⟩ = some (.int .i64 0)
  c1 : W.cell? ⟨B, 1, none⟩ = some (.int .i64 0)
  c2 : W.cell? ⟨B, 2, none⟩ = some (.slice none 0 0)
  c3 : W.cell? ⟨B, 3, none⟩ = some (.pointer none)
  f0 : W.frozen? ⟨B, 0, none⟩ = false
  f1 : W.frozen? ⟨B, 1, none⟩ = false
  f2 : W.frozen? ⟨B, 2, none⟩ = false
  f3 : W.frozen? ⟨B, 3, none⟩ = false
theorem Z4.blt {W : World} {B : Nat} (h : Z4 W B) : B < W.heap.size := World.block_lt_of_cell? _ _ h.c0
theorem Z4.but {S : Nat → Prop} {W W' : World} {B : Nat} (h : Z4 W B) (hb : But S W W') (hs : ¬ S B) : Z4 W' B :=
  ⟨(hb.cell (p := ⟨B, 0, none⟩) h.blt hs).trans h.c0, (hb.cell (p := ⟨B, 1, none⟩) h.blt hs).trans h.c1, (hb.cell (p := ⟨B, 2, none⟩) h.blt hs).trans h.c2, (hb.cell (p := ⟨B, 3, none⟩) h.blt hs).trans h.c3,
   (hb.frozen (p := ⟨B, 0, none⟩) h.blt hs).trans h.f0, (hb.frozen (p := ⟨B, 1, none⟩) h.blt hs).trans h.f1, (hb.frozen (p := ⟨B, 2, none⟩) h.blt hs).trans h.f2, (hb.frozen (p := ⟨B, 3, none⟩) h.blt hs).trans h.f3⟩
theorem but_set4 (W : World) (B : Nat) (v0 v1 v2 v3 : Value) : But (· = B) W ((((W.setCell ⟨B, 0, none⟩ v0).setCell ⟨B, 1, none⟩ v1).setCell ⟨B, 2, none⟩ v2).setCell ⟨B, 3, none⟩ v3) :=
  ((((But.refl (· = B) W).setCell (p := ⟨B, 0, none⟩) (.inl rfl) v0).setCell (p := ⟨B, 1, none⟩) (.inl rfl) v1).setCell (p := ⟨B, 2, none⟩) (.inl rfl) v2).setCell (p := ⟨B, 3, none⟩) (.inl rfl) v3
/-- A matrix that is not laid yet. -/
structure Z3 (W : World) (B : Nat) : Prop where
  c0 : W.cell? ⟨B, 0, none⟩ = some (.int .i64 0)
  c1 : W.cell? ⟨B, 1, none⟩ = some (.int .i64 0)
  c2 : W.cell? ⟨B, 2, none⟩ = some (.slice none 0 0)
  f0 : W.frozen? ⟨B, 0, none⟩ = false
  f1 : W.frozen? ⟨B, 1, none⟩ = false
  f2 : W.frozen? ⟨B, 2, none⟩ = false
theorem Z3.blt {W : World} {B : Nat} (h : Z3 W B) : B < W.heap.size := World.block_lt_of_cell? _ _ h.c0
theorem Z3.but {S : Nat → Prop} {W W' : World} {B : Nat} (h : Z3 W B) (hb : But S W W') (hs : ¬ S B) : Z3 W' B :=
  ⟨(hb.cell (p := ⟨B, 0, none⟩) h.blt hs).trans h.c0, (hb.cell (p := ⟨B, 1, none⟩) h.blt hs).trans h.c1, (hb.cell (p := ⟨B, 2, none⟩) h.blt hs).trans h.c2,
   (hb.frozen (p := ⟨B, 0, none⟩) h.blt hs).trans h.f0, (hb.frozen (p := ⟨B, 1, none⟩) h.blt hs).trans h.f1, (hb.frozen (p := ⟨B, 2, none⟩) h.blt hs).trans h.f2⟩
theorem Z3.below {W W' : World} {B : Nat} (h : Z3 W B) (hb : Below W.heap.size W W') : Z3 W' B := h.but (But.of_below (S := fun _ => False) hb) id
theorem z3_new (w : World) : Z3 (w.alloc (.cells #[.int .i64 0, .int .i64 0, .slice none 0 0] 43)) w.heap.size := ⟨by simp [go_sem], by simp [go_sem], by simp [go_sem], by simp [go_sem], by simp [go_sem], by simp [go_sem]⟩
theorem load_set3 {W : World} {B : Nat} (h : Z3 W B) (v0 v1 v2 : Value) :
    (loadVar 43 ⟨B, 0, none⟩).run Tryz.prog (((W.setCell ⟨B, 0, none⟩ v0).setCell ⟨B, 1, none⟩ v1).setCell ⟨B, 2, none⟩ v2) = .ok (.agg #[v0, v1, v2]) (((W.setCell ⟨B, 0, none⟩ v0).setCell ⟨B, 1, none⟩ v1).setCell ⟨B, 2, none⟩ v2) := by
  have h0 := h.c0
  have h1 := h.c1
  have h2 := h.c2
  exact load3 (by simp [go_sem, h0]) (by simp [go_sem, h1]) (by simp [go_sem, h2])
theorem but_set3 (W : World) (B : Nat) (v0 v1 v2 : Value) : But (· = B) W (((W.setCell ⟨B, 0, none⟩ v0).setCell ⟨B, 1, none⟩ v1).setCell ⟨B, 2, none⟩ v2) :=
  (((But.refl (· = B) W).setCell (p := ⟨B, 0, none⟩) (.inl rfl) v0).setCell (p := ⟨B, 1, none⟩) (.inl rfl) v1).setCell (p := ⟨B, 2, none⟩) (.inl rfl) v2

end Go.Proofs
