/- Texts laid together: MxR, GBes. Each says its own conditions. -/
import Derived.Deep.RegionHeldLaw
import Derived.Test.YtnphdldcfdpflaaGreatNA
import Derived.Test.YtnphdldcfdpflaaGreatMG
import Derived.Test.YtnphdldcfdpflaaGreatNB
/- The walks of matrix.inside, Right, piece and Row. Conditions: ints; a matrix whose cells are bytes. -/
namespace Go.Proofs
open Go.RowKit Go.ChangeShapes Go.WideShapes
open Mx (Mat cells upd prt lay)
open Pol (Byt ofL)
attribute [local go_sem ↓ high] builtin_ap
attribute [local go_sem] ap_sem

theorem wrap_nat (n : Nat) (h : n ≤ 1000000000) : IntKind.i64.wrap (n : Int) = (n : Int) := by
  rw [IntKind.wrap_i64]; omega
/-- A side that may be. -/
def side (z : Int) : Bool := decide (0 ≤ z) && decide (z ≤ 300)
theorem side_true {z : Int} : side z = true ↔ 0 ≤ z ∧ z ≤ 300 := by simp [side]

set_option maxRecDepth 100000 in
set_option maxHeartbeats 1000000 in
theorem minside_calls (q : Option Addr) (n c : Nat) (zs : List Int) (b : Bool) (hb : zs.all side = b) (w : World) (hs : Ns .i64 w q n zs) (hn : n ≤ 1000) :
    Calls Tryz.prog 49 #[.slice q n c] w fun e w' => e = .returned (.bool b) ∧ w' = w := by
  have HS : Hid (Ns .i64 w q n zs ∧ zs.all side = b) := ⟨hs, hb⟩
  clear hs hb
  go_enter Tryz.func49, Tryz.ntmps49
  go_wp2
  go_loopw [7] (fun i wr => ∃ t : Nat, t ≤ n ∧ i = .int .i64 (t : Int) ∧ (zs.take t).all side = true ∧ wr = w) (fun i _ => n - (intOf i).toNat)
  case atStart => exact ⟨0, by omega, rfl, rfl, rfl⟩
  case round =>
    obtain ⟨t, ht, rfl, hall, rfl⟩ := hrel
    by_cases hlt : t < n
    · have hti : (t : Int) < (n : Int) := by omega
      obtain ⟨a, rfl, _, ca⟩ := HS.out.1.cell t hlt
      have hlen := HS.out.1.len
      have hz : zs[t]? = some (zs.getD t 0) := by rw [List.getElem?_eq_getElem (by omega)]; simp [List.getD, List.getElem?_eq_getElem (show t < zs.length by omega)]
      obtain ⟨z, hze⟩ : ∃ z, zs.getD t 0 = z := ⟨_, rfl⟩
      rw [hze] at ca hz
      have HT : Hid ((zs.take (t + 1)).all side = ((zs.take t).all side && side z)) := by
        show (zs.take (t + 1)).all side = _
        rw [List.take_add_one, hz, List.all_append]; simp
      have HA : Hid (∀ x ∈ zs, x = x) := fun _ _ => rfl
      have HM : Hid (z ∈ zs) := List.mem_of_getElem? hz
      have hall' : Hid ((zs.take t).all side = true) := hall
      clear hall hz hze hlen
      by_cases h1 : z < 0
      · have hF : b = false := by
          rw [← HS.out.2, Bool.eq_false_iff]
          intro h; have := side_true.1 (List.all_eq_true.1 h z HM.out); omega
        subst hF
        go_wp2
        go_ret
        exact ⟨rfl, rfl⟩
      · by_cases h2 : 300 < z
        · have hF : b = false := by
            rw [← HS.out.2, Bool.eq_false_iff]
            intro h; have := side_true.1 (List.all_eq_true.1 h z HM.out); omega
          subst hF
          go_wp2
          go_ret
          exact ⟨rfl, rfl⟩
        · have hN : Hid ((zs.take (t + 1)).all side = true) := by
            show (zs.take (t + 1)).all side = true
            rw [HT.out, hall'.out, Bool.true_and]; exact side_true.2 ⟨by omega, by omega⟩
          go_wp2
          go_roundw
          case rel => exact ⟨t + 1, by omega, by go_num, hN.out, trivial⟩
          case measure => simp [intOf]; omega
    · obtain rfl : t = n := by omega
      have hF : b = true := by rw [← HS.out.2, ← hall, List.take_of_length_le (by rw [HS.out.1.len]; exact Nat.le_refl _)]
      subst hF
      clear hall
      go_wp2
      go_ret
      exact ⟨rfl, rfl⟩

/-- Numbers in a new block. -/
theorem ns_two (w : World) (x y : Int) (hx : (Lit.int .i64 x).wf = true) (hy : (Lit.int .i64 y).wf = true) : Ns .i64 (w.alloc (.cells #[.int .i64 x, .int .i64 y] 3)) (some ⟨w.heap.size, 0, none⟩) 2 [x, y] := by
  refine ⟨rfl, by decide, fun i hi => ⟨_, rfl, by simp, ?_⟩, fun z hz => ?_⟩
  · match i, hi with
    | 0, _ => show (w.alloc _).cell? ⟨w.heap.size, 0, none⟩ = _; rw [World.cell?_alloc_at _ _ _ _ rfl]; rfl
    | 1, _ => show (w.alloc _).cell? ⟨w.heap.size, 1, none⟩ = _; rw [World.cell?_alloc_at _ _ _ _ rfl]; rfl
  · simp at hz; rcases hz with rfl | rfl <;> assumption
theorem ns_one (w : World) (x : Int) (hx : (Lit.int .i64 x).wf = true) : Ns .i64 (w.alloc (.cells #[.int .i64 x] 3)) (some ⟨w.heap.size, 0, none⟩) 1 [x] := by
  refine ⟨rfl, by decide, fun i hi => ⟨_, rfl, by simp, ?_⟩, fun z hz => ?_⟩
  · match i, hi with
    | 0, _ => show (w.alloc _).cell? ⟨w.heap.size, 0, none⟩ = _; rw [World.cell?_alloc_at _ _ _ _ rfl]; rfl
  · simp at hz; rcases hz with rfl; assumption
/-- Is it right? -/
def rightB (R C : Int) (n : Nat) : Bool := side R && side C && decide ((n : Int) = R * C)
theorem wf_i64 {z : Int} (h1 : -9223372036854775808 ≤ z) (h2 : z < 9223372036854775808) : (Lit.int .i64 z).wf = true := by
  simp [Lit.wf]; exact ⟨h1, by omega⟩

set_option maxRecDepth 100000 in
set_option maxHeartbeats 1000000 in
theorem mright_calls (R C : Int) (q : Option Addr) (n c : Nat) (b : Bool) (hb : rightB R C n = b) (hR1 : -9223372036854775808 ≤ R) (hR2 : R < 9223372036854775808) (hC1 : -9223372036854775808 ≤ C) (hC2 : C < 9223372036854775808) (w : World) :
    Calls Tryz.prog 39 #[.agg #[.int .i64 R, .int .i64 C, .slice q n c]] w fun e w' => e = .returned (.bool b) ∧ Below w.heap.size w w' := by
  have hs := ns_two (w.alloc (.cells #[.int .i64 R, .int .i64 C, .slice q n c] 24)) R C (wf_i64 hR1 hR2) (wf_i64 hC1 hC2)
  rw [show (w.alloc (.cells #[.int .i64 R, .int .i64 C, .slice q n c] 24)).heap.size = w.heap.size + 1 by simp] at hs
  have K := minside_calls _ 2 2 [R, C] _ rfl _ hs (by decide)
  have HB : Hid (rightB R C n = b) := hb
  clear hs hb
  have e1 : [R, C].all side = (side R && side C) := by simp
  rw [e1] at K
  by_cases h1 : (side R && side C) = true
  · rw [h1] at K
    have h2 := side_true.1 (Bool.and_eq_true_iff.1 h1).1
    have h3 := side_true.1 (Bool.and_eq_true_iff.1 h1).2
    have h4 : 0 ≤ R * C := Int.mul_nonneg h2.1 h3.1
    have h5 : R * C ≤ 90000 := by
      have := Int.mul_le_mul h2.2 h3.2 h3.1 (by decide)
      omega
    obtain ⟨m, hm⟩ : ∃ m : Int, R * C = m := ⟨_, rfl⟩
    have hbb : b = decide ((n : Int) = m) := by rw [← HB.out, rightB, h1, Bool.true_and, hm]
    rw [hm] at h4 h5
    subst hbb
    clear h1 h2 h3 hR1 hR2 hC1 hC2 HB
    go_enter Tryz.func39, Tryz.ntmps39
    go_wp2_with fail
    refine (K).mono ?_
    rintro e w1 ⟨rfl, rfl⟩
    clear K
    by_cases hnm : (n : Int) = m
    · go_wp2
      go_ret
      exact ⟨by rw [decide_eq_true hnm]; rfl, ((Below.refl _ w).alloc (Nat.le_refl _) _).alloc (by simp) _⟩
    · go_wp2
      go_ret
      exact ⟨by first | rfl | simp [hnm], ((Below.refl _ w).alloc (Nat.le_refl _) _).alloc (by simp) _⟩
  · rw [Bool.not_eq_true] at h1
    rw [h1] at K
    have hbb : b = false := by rw [← HB.out, rightB, h1, Bool.false_and]
    subst hbb
    clear HB hR1 hR2 hC1 hC2 h1
    go_enter Tryz.func39, Tryz.ntmps39
    go_wp2_with fail
    refine (K).mono ?_
    rintro e w1 ⟨rfl, rfl⟩
    clear K
    go_wp2
    go_ret
    exact ⟨rfl, ((Below.refl _ w).alloc (Nat.le_refl _) _).alloc (by simp) _⟩

/-- Where a row's cells begin. -/
def rowAt (q : Option Addr) (C o : Nat) : Option Addr := if C = 0 then q else q.map (fun x => x.add o)
theorem rowAt_bs {W : World} {q : Option Addr} {n R C i o : Nat} {xs : List Nat} (h : Bs W q n xs) (hn : n = R * C) (hi : i < R) (ho : o = i * C) : Bs W (rowAt q C o) C (Mx.rowL C xs i) := by
  have h1 : o + C ≤ n := by rw [hn, ho, ← Nat.succ_mul]; exact Nat.mul_le_mul_right _ hi
  have e : (List.range C).map (fun i => xs.getD (o + i) 0) = Mx.rowL C xs i := by
    refine Mx.list_ext (by rw [Mx.rowL_length (h.len.trans hn) hi]; simp) fun j hj => ?_
    simp at hj
    rw [Mx.getD_range_map _ _ _ hj, Mx.rowL_at C xs i j hj, ho]
  unfold rowAt
  by_cases h0 : C = 0
  · rw [if_pos h0, ← e]
    subst h0
    exact ⟨rfl, by omega, fun i hi => absurd hi (Nat.not_lt_zero i), fun i => by simp⟩
  · rw [if_neg h0]
    have := bs_sub h (n + n + 1) o (o + C) (by omega) h1 (by omega)
    rw [Nat.add_sub_cancel_left, e, if_neg (by omega)] at this
    exact this
theorem rowAt_off {T n : Nat} {q : Option Addr} (h : Off T n q) (o C : Nat) (hC : o + C ≤ n) : Off T C (rowAt q C o) := by
  intro h0 a e
  unfold rowAt at e
  rw [if_neg (by omega)] at e
  cases q with
  | none => cases e
  | some b => cases e; rw [block_add]; exact h (by omega) b rfl
set_option maxRecDepth 100000 in
set_option maxHeartbeats 1000000 in
theorem mpiece_calls (R C i o : Nat) (q : Option Addr) (n c : Nat) (hi : i < R) (hn : n = R * C) (ho : o = i * C) (hc : n ≤ c) (hR : R ≤ 300) (hC : C ≤ 600) (w : World) :
    Calls Tryz.prog 47 #[.agg #[.int .i64 (R : Nat), .int .i64 (C : Nat), .slice q n c], .int .i64 (i : Nat)] w fun e w' => e = .returned (.slice (rowAt q C o) C C) ∧ Below w.heap.size w w' := by
  have e1 : (i : Int) * (C : Int) = (o : Int) := by rw [ho]; exact (Int.natCast_mul i C).symm
  have e2 : ((i : Int) + 1) * (C : Int) = (o : Int) + (C : Int) := by rw [Int.add_mul, e1, Int.one_mul]
  have h1 : o + C ≤ n := by rw [hn, ho, ← Nat.succ_mul]; exact Nat.mul_le_mul_right _ hi
  have h2 : n ≤ 180000 := by rw [hn]; exact Nat.mul_le_mul hR hC
  have h0o : C = 0 → o = 0 := fun e => by rw [ho, e, Nat.mul_zero]
  have hoC : o + C - o = C := by omega
  have h3 : o + C ≤ c := by omega
  have h4 : o + C ≤ 180000 := by omega
  have h5 : (o : Int) + (C : Int) ≤ (c : Int) := by omega
  have hi300 : i < 300 := by omega
  clear hn ho hc
  by_cases h0 : C = 0
  · subst h0
    obtain rfl : o = 0 := h0o rfl
    clear hoC h0o
    go_enter Tryz.func47, Tryz.ntmps47
    go_wp2
    go_quiet (fail)
    go_wp2
    go_ret
    exact ⟨by simp [rowAt], Below.drewN ((Below.refl _ w).alloc (Nat.le_refl _) _) _⟩
  · clear h0o
    go_enter Tryz.func47, Tryz.ntmps47
    go_wp2
    go_quiet (fail)
    go_wp2
    go_ret
    exact ⟨by simp [rowAt, h0, hoC], Below.drewN ((Below.refl _ w).alloc (Nat.le_refl _) _) _⟩

theorem right_nat {R C n : Nat} (hR : R ≤ 300) (hC : C ≤ 300) (hn : n = R * C) : rightB (R : Int) (C : Int) n = true := by
  unfold rightB
  rw [side_true.2 ⟨by omega, by omega⟩, side_true.2 ⟨by omega, by omega⟩, Bool.true_and, Bool.true_and, decide_eq_true]
  rw [hn]; exact Int.natCast_mul R C
/-- A matrix' box. -/
structure Mb (W : World) (B : Nat) (v0 v1 v2 : Value) : Prop where
  c0 : W.cell? ⟨B, 0, none⟩ = some v0
  c1 : W.cell? ⟨B, 1, none⟩ = some v1
  c2 : W.cell? ⟨B, 2, none⟩ = some v2
theorem Mb.blt {W : World} {B : Nat} {v0 v1 v2 : Value} (h : Mb W B v0 v1 v2) : B < W.heap.size := World.block_lt_of_cell? _ _ h.c0
theorem Mb.but {S : Nat → Prop} {W W' : World} {B : Nat} {v0 v1 v2 : Value} (h : Mb W B v0 v1 v2) (hb : But S W W') (hs : ¬ S B) : Mb W' B v0 v1 v2 :=
  ⟨(hb.cell (p := ⟨B, 0, none⟩) h.blt hs).trans h.c0, (hb.cell (p := ⟨B, 1, none⟩) h.blt hs).trans h.c1, (hb.cell (p := ⟨B, 2, none⟩) h.blt hs).trans h.c2⟩
theorem Mb.below {W W' : World} {B : Nat} {v0 v1 v2 : Value} (h : Mb W B v0 v1 v2) (hb : Below W.heap.size W W') : Mb W' B v0 v1 v2 := h.but (But.of_below (S := fun _ => False) hb) id
theorem mb_new (w : World) (v0 v1 v2 : Value) : Mb (w.alloc (.cells #[v0, v1, v2] 24)) w.heap.size v0 v1 v2 := ⟨by simp [go_sem], by simp [go_sem], by simp [go_sem]⟩

set_option maxRecDepth 100000 in
set_option maxHeartbeats 1000000 in
theorem mrow_calls (R C i : Nat) (q : Option Addr) (n c : Nat) (xs : List Nat) (hi : i < R) (hn : n = R * C) (hc : n ≤ c) (hR : R ≤ 300) (hC : C ≤ 300) (w : World) (hs : Bs w q n xs) :
    Calls Tryz.prog 62 #[.agg #[.int .i64 (R : Nat), .int .i64 (C : Nat), .slice q n c], .int .i64 (i : Nat)] w fun e w' => ∃ v, e = .returned v ∧ Ow w' w.heap.size v (Mx.rowL C xs i) ∧ Below w.heap.size w w' := by
  obtain ⟨o, ho⟩ : ∃ o, o = i * C := ⟨_, rfl⟩
  obtain ⟨A, hA⟩ : ∃ A, w.heap.size = A := ⟨_, rfl⟩
  obtain ⟨W0, hW0⟩ : ∃ W0, w.alloc (.cells #[.int .i64 (R : Nat), .int .i64 (C : Nat), .slice q n c] 24) = W0 := ⟨_, rfl⟩
  have hS0 : Below w.heap.size w W0 := hW0 ▸ (Below.refl _ w).alloc (Nat.le_refl _) _
  have HB : Hid (Mb W0 A (.int .i64 (R : Nat)) (.int .i64 (C : Nat)) (.slice q n c)) := by rw [← hA, ← hW0]; exact mb_new w _ _ _
  have K1 := mright_calls (R : Int) (C : Int) q n c true (right_nat hR hC hn) (by omega) (by omega) (by omega) (by omega) W0
  have K2 : Hid (∀ W, Calls Tryz.prog 47 #[.agg #[.int .i64 (R : Nat), .int .i64 (C : Nat), .slice q n c], .int .i64 (i : Nat)] W fun e w' => e = .returned (.slice (rowAt q C o) C C) ∧ Below W.heap.size W w') := fun W => mpiece_calls R C i o q n c hi hn ho hc hR (by omega) W
  have HS : Hid (Bs w q n xs ∧ n = R * C ∧ o = i * C ∧ Below w.heap.size w W0) := ⟨hs, hn, ho, hS0⟩
  have hiR : (i : Int) < (R : Int) := by omega
  clear hs hn ho hS0
  have b0 := (HB.out).c0
  have b1 := (HB.out).c1
  have b2 := (HB.out).c2
  go_enter Tryz.func62, Tryz.ntmps62
  go_wp2_with fail
  refine K1.mono ?_
  rintro e w1 ⟨rfl, hb1⟩
  clear K1
  clear b0 b1 b2
  have HT1 : Hid (Mb w1 A (.int .i64 (R : Nat)) (.int .i64 (C : Nat)) (.slice q n c) ∧ Below w.heap.size w w1) := ⟨HB.out.below hb1, HS.out.2.2.2.trans (hb1.mono HS.out.2.2.2.size)⟩
  clear hb1
  have b0 := (HT1.out.1).c0
  have b1 := (HT1.out.1).c1
  have b2 := (HT1.out.1).c2
  go_wp2_with fail
  refine (K2.out w1).mono ?_
  rintro e w2 ⟨rfl, hb2⟩
  clear b0 b1 b2
  have h2 : Below w.heap.size w w2 := HT1.out.2.trans (hb2.mono HT1.out.2.size)
  have hB2 := rowAt_bs (HS.out.1.below h2) HS.out.2.1 hi HS.out.2.2.1
  obtain ⟨v3, w3, hap, hO, hg⟩ := run_append_list w2 w.heap.size (.slice none 0 0) [] (rowAt q C o) C C _ (ow_nil _ _) hB2 (by simp; omega) h2.size
  have HO : Hid (Ow w3 w.heap.size v3 (Mx.rowL C xs i) ∧ Below w.heap.size w w3) := ⟨hO, h2.grown hg h2.size (fun k hk => by cases hk)⟩
  have ha1 := ap_ok hap
  have ha2 := ap_v hap
  have ha3 := ap_w hap
  clear hap hO hg hB2 h2 hb2 K2
  go_wp2
  go_ret
  exact ⟨_, rfl, HO.out⟩
end Go.Proofs
/- The walk of gauss.beside. Conditions: right matrices of as many rows. -/
namespace Go.Proofs
open Go.RowKit Go.ChangeShapes Go.WideShapes
open Mx (Mat cells upd prt lay mx rowL bes)
open Pol (Byt ofL)

/-- A copy whose run is known, at a step of a region that draws its order. -/
theorem step_cp {ops : Array Oper} {o : Oper} {a : Act} {w : World} {K : Act → World → Prop} {Q : Exit → Act → World → Prop} {E : Prop} (hg : o.guard = none) (s x : Operand) (t : TypeId) (ho : o.op = .call { callee := .builtin .copy, args := #[s, x], argTypes := #[t, t] })
    {v u r : Value} {ty : TypeId} {W' : World} (hcp : (Builtin.copy_ #[t, t] ty #[v, u]).run Tryz.prog w = .ok r W') (hty : o.type = ty) (hs : a.eval s = v) (hx : a.eval x = u) (hK : K (a.put o.dst r) W') : if Region.wanted o (yielded ops a.tmps) = true then Oper.wp Tryz.prog o a w K Q else E := by
  have hw : Region.wanted o (yielded ops a.tmps) = true := by simp [Region.wanted, hg]
  rw [if_pos hw]
  subst hs hx hty
  unfold Oper.wp
  simp only [execOp, ho, resolve, invoke, builtin, Sem.run_bind, Sem.run_pure, Result.andThen_ok, List.map_toArray, List.map_cons, List.map_nil, hcp]
  exact hK
namespace Mx
/-- As far as row t. -/
def besT (Ca : Nat) (M N : Mat) (t : Nat) : Mat := fun a b => if a < t then bes Ca M N a b else 0
theorem bes_next {R Ca Cb t : Nat} {xs ys : List Nat} (hx : xs.length = R * Ca) (hy : ys.length = R * Cb) (ht : t < R) :
    Eq R (Ca + Cb) (lay (lay (besT Ca (mx Ca xs) (mx Cb ys) t) t 0 (rowL Ca xs t)) t Ca (rowL Cb ys t)) (besT Ca (mx Ca xs) (mx Cb ys) (t + 1)) := fun a b _ hb => by
  have l1 := rowL_length hx ht
  have l2 := rowL_length hy ht
  unfold lay besT
  rw [l1, l2]
  by_cases e : a = t
  · subst e
    rw [if_pos (Nat.lt_succ_self a)]
    unfold bes
    by_cases h : b < Ca
    · rw [if_neg (by omega), if_pos ⟨rfl, by omega, by omega⟩, if_pos h, Nat.sub_zero, rowL_mx Ca xs a b h]
    · rw [if_pos ⟨rfl, by omega, by omega⟩, if_neg h, rowL_mx Cb ys a _ (by omega)]
  · rw [if_neg (fun k => e k.1), if_neg (fun k => e k.1)]
    by_cases h : a < t
    · rw [if_pos h, if_pos (by omega)]
    · rw [if_neg h, if_neg (by omega)]
end Mx

/-- A work that is not laid yet. -/
structure Z4 (W : World) (B : Nat) : Prop where
  c0 : W.cell? ⟨B, 0, none⟩ = some (.int .i64 0)
  c1 : W.cell? ⟨B, 1, none⟩ = some (.int .i64 0)
  c2 : W.cell? ⟨B, 2, none⟩ = some (.slice none 0 0)
  c3 : W.cell? ⟨B, 3, none⟩ = some (.pointer none)
  f0 : W.frozen? ⟨B, 0, none⟩ = false
  f1 : W.frozen? ⟨B, 1, none⟩ = false
  f2 : W.frozen? ⟨B, 2, none⟩ = false
  f3 : W.frozen? ⟨B, 3, none⟩ = false
theorem Z4.blt {W : World} {B : Nat} (h : Z4 W B) : B < W.heap.size := World.block_lt_of_cell? _ _ h.c0
theorem Z4.but {S : Nat → Prop} {W W' : World} {B : Nat} (h : Z4 W B) (hb : But S W W') (hs : ¬ S B) : Z4 W' B :=
  ⟨(hb.cell (p := ⟨B, 0, none⟩) h.blt hs).trans h.c0, (hb.cell (p := ⟨B, 1, none⟩) h.blt hs).trans h.c1, (hb.cell (p := ⟨B, 2, none⟩) h.blt hs).trans h.c2, (hb.cell (p := ⟨B, 3, none⟩) h.blt hs).trans h.c3,
   (hb.frozen (p := ⟨B, 0, none⟩) h.blt hs).trans h.f0, (hb.frozen (p := ⟨B, 1, none⟩) h.blt hs).trans h.f1, (hb.frozen (p := ⟨B, 2, none⟩) h.blt hs).trans h.f2, (hb.frozen (p := ⟨B, 3, none⟩) h.blt hs).trans h.f3⟩
theorem z4_new (w : World) : Z4 (w.alloc (.cells #[.int .i64 0, .int .i64 0, .slice none 0 0, .pointer none] 85)) w.heap.size := ⟨by simp [go_sem], by simp [go_sem], by simp [go_sem], by simp [go_sem], by simp [go_sem], by simp [go_sem], by simp [go_sem], by simp [go_sem]⟩

theorem load_set4 {W : World} {B : Nat} (h : Z4 W B) (v0 v1 v2 v3 : Value) :
    (loadVar 85 ⟨B, 0, none⟩).run Tryz.prog ((((W.setCell ⟨B, 0, none⟩ v0).setCell ⟨B, 1, none⟩ v1).setCell ⟨B, 2, none⟩ v2).setCell ⟨B, 3, none⟩ v3) = .ok (.agg #[v0, v1, v2, v3]) ((((W.setCell ⟨B, 0, none⟩ v0).setCell ⟨B, 1, none⟩ v1).setCell ⟨B, 2, none⟩ v2).setCell ⟨B, 3, none⟩ v3) := by
  have h0 := h.c0
  have h1 := h.c1
  have h2 := h.c2
  have h3 := h.c3
  exact load4 (by simp [go_sem, h0]) (by simp [go_sem, h1]) (by simp [go_sem, h2]) (by simp [go_sem, h3])
theorem but_set4 (W : World) (B : Nat) (v0 v1 v2 v3 : Value) : But (· = B) W ((((W.setCell ⟨B, 0, none⟩ v0).setCell ⟨B, 1, none⟩ v1).setCell ⟨B, 2, none⟩ v2).setCell ⟨B, 3, none⟩ v3) :=
  ((((But.refl (· = B) W).setCell (p := ⟨B, 0, none⟩) (.inl rfl) v0).setCell (p := ⟨B, 1, none⟩) (.inl rfl) v1).setCell (p := ⟨B, 2, none⟩) (.inl rfl) v2).setCell (p := ⟨B, 3, none⟩) (.inl rfl) v3
/-- A matrix that is not laid yet. -/
structure Z3 (W : World) (B : Nat) : Prop where
  c0 : W.cell? ⟨B, 0, none⟩ = some (.int .i64 0)
  c1 : W.cell? ⟨B, 1, none⟩ = some (.int .i64 0)
  c2 : W.cell? ⟨B, 2, none⟩ = some (.slice none 0 0)
  f0 : W.frozen? ⟨B, 0, none⟩ = false
  f1 : W.frozen? ⟨B, 1, none⟩ = false
  f2 : W.frozen? ⟨B, 2, none⟩ = false
theorem Z3.blt {W : World} {B : Nat} (h : Z3 W B) : B < W.heap.size := World.block_lt_of_cell? _ _ h.c0
theorem Z3.but {S : Nat → Prop} {W W' : World} {B : Nat} (h : Z3 W B) (hb : But S W W') (hs : ¬ S B) : Z3 W' B :=
  ⟨(hb.cell (p := ⟨B, 0, none⟩) h.blt hs).trans h.c0, (hb.cell (p := ⟨B, 1, none⟩) h.blt hs).trans h.c1, (hb.cell (p := ⟨B, 2, none⟩) h.blt hs).trans h.c2,
   (hb.frozen (p := ⟨B, 0, none⟩) h.blt hs).trans h.f0, (hb.frozen (p := ⟨B, 1, none⟩) h.blt hs).trans h.f1, (hb.frozen (p := ⟨B, 2, none⟩) h.blt hs).trans h.f2⟩
theorem Z3.below {W W' : World} {B : Nat} (h : Z3 W B) (hb : Below W.heap.size W W') : Z3 W' B := h.but (But.of_below (S := fun _ => False) hb) id
theorem z3_new (w : World) : Z3 (w.alloc (.cells #[.int .i64 0, .int .i64 0, .slice none 0 0] 24)) w.heap.size := ⟨by simp [go_sem], by simp [go_sem], by simp [go_sem], by simp [go_sem], by simp [go_sem], by simp [go_sem]⟩
theorem load_set3 {W : World} {B : Nat} (h : Z3 W B) (v0 v1 v2 : Value) :
    (loadVar 24 ⟨B, 0, none⟩).run Tryz.prog (((W.setCell ⟨B, 0, none⟩ v0).setCell ⟨B, 1, none⟩ v1).setCell ⟨B, 2, none⟩ v2) = .ok (.agg #[v0, v1, v2]) (((W.setCell ⟨B, 0, none⟩ v0).setCell ⟨B, 1, none⟩ v1).setCell ⟨B, 2, none⟩ v2) := by
  have h0 := h.c0
  have h1 := h.c1
  have h2 := h.c2
  exact load3 (by simp [go_sem, h0]) (by simp [go_sem, h1]) (by simp [go_sem, h2])
theorem but_set3 (W : World) (B : Nat) (v0 v1 v2 : Value) : But (· = B) W (((W.setCell ⟨B, 0, none⟩ v0).setCell ⟨B, 1, none⟩ v1).setCell ⟨B, 2, none⟩ v2) :=
  (((But.refl (· = B) W).setCell (p := ⟨B, 0, none⟩) (.inl rfl) v0).setCell (p := ⟨B, 1, none⟩) (.inl rfl) v1).setCell (p := ⟨B, 2, none⟩) (.inl rfl) v2

set_option maxRecDepth 100000 in
set_option maxHeartbeats 4000000 in
theorem gbeside_calls (p : Option Addr) (R Ca Cb C n : Nat) (qa qb : Option Addr) (na ca nb cb : Nat) (xs ys : List Nat) (hC : C = Ca + Cb) (hn : n = R * C) (hna : na = R * Ca) (hnb : nb = R * Cb) (hca : na ≤ ca) (hcb : nb ≤ cb) (hR : R ≤ 300) (hCa : Ca ≤ 300) (hCb : Cb ≤ 300) (w : World) (hx : Bs w qa na xs) (hy : Bs w qb nb ys) :
    Calls Tryz.prog 50 #[.pointer p, .agg #[.int .i64 (R : Nat), .int .i64 (Ca : Nat), .slice qa na ca], .agg #[.int .i64 (R : Nat), .int .i64 (Cb : Nat), .slice qb nb cb]] w fun e w' => ∃ G, e = .returned (.agg #[.int .i64 (R : Nat), .int .i64 (C : Nat), .slice (some ⟨G, 0, none⟩) n n, .pointer p]) ∧ Wk w' w.heap.size G n R C (bes Ca (mx Ca xs) (mx Cb ys)) ∧ Below w.heap.size w w' := by
  obtain ⟨A, hA⟩ : ∃ A, w.heap.size = A := ⟨_, rfl⟩
  have hsum : (Ca : Int) + (Cb : Int) = (C : Int) := by omega
  have K1 : Hid (∀ W, Calls Tryz.prog 58 #[.pointer p, .int .i64 (R : Nat), .int .i64 (C : Nat)] W fun e w' => ∃ G, e = .returned (.agg #[.int .i64 (R : Nat), .int .i64 (C : Nat), .slice (some ⟨G, 0, none⟩) n n, .pointer p]) ∧ Wk w' W.heap.size G n R C (fun _ _ => 0) ∧ Below W.heap.size W w') := fun W => gblank_calls R C n p hn hR (by omega) W
  have HS : Hid (Bs w qa na xs ∧ Bs w qb nb ys ∧ na = R * Ca ∧ nb = R * Cb ∧ n = R * C) := ⟨hx, hy, hna, hnb, hn⟩
  have hC6 : C ≤ 600 := by omega
  have hCaC : Ca ≤ C := by omega
  have hCb2 : C - Ca = Cb := by omega
  have HC : Hid (C = Ca + Cb) := hC
  obtain ⟨P3, hP3⟩ : ∃ P3, ((w.alloc (.cells #[.int .i64 (R : Nat), .int .i64 (Ca : Nat), .slice qa na ca] 24)).alloc (.cells #[.int .i64 (R : Nat), .int .i64 (Cb : Nat), .slice qb nb cb] 24)).alloc (.cells #[.int .i64 0, .int .i64 0, .slice none 0 0, .pointer none] 85) = P3 := ⟨_, rfl⟩
  have HP : Hid (Mb P3 A (.int .i64 (R : Nat)) (.int .i64 (Ca : Nat)) (.slice qa na ca) ∧ Mb P3 (A + 1) (.int .i64 (R : Nat)) (.int .i64 (Cb : Nat)) (.slice qb nb cb) ∧ Z4 P3 (A + 2) ∧ Below w.heap.size w P3 ∧ P3.heap.size = A + 3) := by
    have s1 : (w.alloc (.cells #[.int .i64 (R : Nat), .int .i64 (Ca : Nat), .slice qa na ca] 24)).heap.size = A + 1 := by rw [← hA]; simp
    have s2 : ((w.alloc (.cells #[.int .i64 (R : Nat), .int .i64 (Ca : Nat), .slice qa na ca] 24)).alloc (.cells #[.int .i64 (R : Nat), .int .i64 (Cb : Nat), .slice qb nb cb] 24)).heap.size = A + 2 := by rw [← hA]; simp
    have m1 := mb_new w (.int .i64 (R : Nat)) (.int .i64 (Ca : Nat)) (.slice qa na ca)
    have m2 := mb_new (w.alloc (.cells #[.int .i64 (R : Nat), .int .i64 (Ca : Nat), .slice qa na ca] 24)) (.int .i64 (R : Nat)) (.int .i64 (Cb : Nat)) (.slice qb nb cb)
    have m3 := z4_new ((w.alloc (.cells #[.int .i64 (R : Nat), .int .i64 (Ca : Nat), .slice qa na ca] 24)).alloc (.cells #[.int .i64 (R : Nat), .int .i64 (Cb : Nat), .slice qb nb cb] 24))
    rw [hA] at m1
    rw [s1] at m2
    rw [s2] at m3
    rw [← hP3]
    exact ⟨m1.below (((Below.refl _ _).alloc (Nat.le_refl _) _).alloc (by simp) _), m2.below ((Below.refl _ _).alloc (Nat.le_refl _) _), m3, (((Below.refl _ w).alloc (Nat.le_refl _) _).alloc (by simp) _).alloc (by simp; omega) _, by rw [← hA]; simp⟩
  clear hx hy hna hnb hn hC
  have a0 := (HP.out.1).c0
  have a1 := (HP.out.1).c1
  have a2 := (HP.out.1).c2
  have c0 := (HP.out.2.1).c0
  have c1 := (HP.out.2.1).c1
  have c2 := (HP.out.2.1).c2
  go_enter Tryz.func50, Tryz.ntmps50
  go_wp2_with fail
  refine (K1.out _).mono ?_
  rintro e w1 ⟨G, rfl, hW1, hb1⟩
  clear K1
  clear a0 a1 a2
  clear c0 c1 c2
  obtain ⟨X, hX⟩ : ∃ X, w1.heap.size = X := ⟨_, rfl⟩
  obtain ⟨W2, hW2⟩ : ∃ W2, w1.alloc (.cells #[.int .i64 (R : Nat), .int .i64 (C : Nat), .slice (some ⟨G, 0, none⟩) n n, .pointer p] 85) = W2 := ⟨_, rfl⟩
  have HT : Hid (Mb W2 A (.int .i64 (R : Nat)) (.int .i64 (Ca : Nat)) (.slice qa na ca) ∧ Mb W2 (A + 1) (.int .i64 (R : Nat)) (.int .i64 (Cb : Nat)) (.slice qb nb cb) ∧ Z4 W2 (A + 2) ∧ Wb W2 X R C G n (.pointer p) ∧ Wk W2 (A + 3) G n R C (fun _ _ => 0) ∧ Below w.heap.size w W2 ∧ A + 3 ≤ G ∧ G < X ∧ X < W2.heap.size) := by
    have h1 : Below w1.heap.size w1 W2 := hW2 ▸ (Below.refl _ w1).alloc (Nat.le_refl _) _
    have hlt := hW1.lt
    rw [HP.out.2.2.2.2] at hW1 hlt
    have hb2 : Below P3.heap.size P3 W2 := hb1.trans (h1.mono hb1.size)
    refine ⟨HP.out.1.below hb2, HP.out.2.1.below hb2, HP.out.2.2.1.but (But.of_below (S := fun _ => False) hb2) id, ?_, hW1.below h1, HP.out.2.2.2.1.trans (hb2.mono HP.out.2.2.2.1.size), hlt.1, hX ▸ hlt.2, ?_⟩
    · rw [← hX, ← hW2]; exact wb_new w1 R C G n _
    · rw [← hX, ← hW2]; simp
  have hNA : ¬ A = G := by have := HT.out.2.2.2.2.2.2.1; omega
  have hNB : ¬ A + 1 = G := by have := HT.out.2.2.2.2.2.2.1; omega
  have hNX : ¬ X = G := by have := HT.out.2.2.2.2.2.2.2.1; omega
  clear hW1 hb1 HP
  have b0 := (HT.out.2.2.2.1).c0
  have b1 := (HT.out.2.2.2.1).c1
  have b2 := (HT.out.2.2.2.1).c2
  have b3 := (HT.out.2.2.2.1).c3
  go_wp2
  clear b0 b1 b2 b3
  clear hW2
  go_loopw [21] (fun i wr => ∃ t : Nat, t ≤ R ∧ i = .int .i64 (t : Int) ∧ Wk wr (A + 3) G n R C (Mx.besT Ca (mx Ca xs) (mx Cb ys) t) ∧ But (· = G) W2 wr) (fun i _ => R - (intOf i).toNat)
  case atStart => exact ⟨0, by omega, rfl, HT.out.2.2.2.2.1.congr fun a b _ _ => by unfold Mx.besT; rw [if_neg (Nat.not_lt_zero a)], But.refl _ _⟩
  case round =>
    obtain ⟨t, ht, rfl, hW, hB⟩ := hrel
    by_cases hlt : t < R
    · have hti : (t : Int) < (R : Int) := by omega
      obtain ⟨o, ho⟩ : ∃ o, o = t * C := ⟨_, rfl⟩
      obtain ⟨M, hM⟩ : ∃ M, Mx.besT Ca (mx Ca xs) (mx Cb ys) t = M := ⟨_, rfl⟩
      rw [hM] at hW
      have HK : Hid (∀ W, But (· = G) W2 W → Wb W X R C G n (.pointer p) ∧ Mb W A (.int .i64 (R : Nat)) (.int .i64 (Ca : Nat)) (.slice qa na ca) ∧ Mb W (A + 1) (.int .i64 (R : Nat)) (.int .i64 (Cb : Nat)) (.slice qb nb cb) ∧ Bs W qa na xs ∧ Bs W qb nb ys) := fun W hb => by
        have hg : ∀ {q : Option Addr} {m : Nat} {zs : List Nat}, Bs w q m zs → Bs W q m zs := fun {q m zs} h => by
          have h2 := h.below HT.out.2.2.2.2.2.1
          exact h2.but hb (fun h0 a e e2 => by
            obtain ⟨a', e', hl, _⟩ := h.cell 0 h0
            rw [e] at e'; cases e'
            have := HT.out.2.2.2.2.2.2.1; omega)
        exact ⟨HT.out.2.2.2.1.but hb hNX, HT.out.1.but hb hNA, HT.out.2.1.but hb hNB, hg HS.out.1, hg HS.out.2.1⟩
      have K2 : Hid (∀ N W, But (· = G) W2 W ∧ Wk W (A + 3) G n R C N → Calls Tryz.prog 59 #[.agg #[.int .i64 (R : Nat), .int .i64 (C : Nat), .slice (some ⟨G, 0, none⟩) n n, .pointer p], .int .i64 (t : Nat)] W fun e w' => e = .returned (.slice (some ⟨G, o, none⟩) C C) ∧ But (· = G) W2 w' ∧ Wk w' (A + 3) G n R C N) := fun N W hW => by
        refine (grow_calls G n R C t o (.pointer p) hlt HS.out.2.2.2.2 ho hR hC6 W).mono ?_
        rintro e w' ⟨rfl, hb⟩
        exact ⟨rfl, hW.1.trans (But.of_below hb), hW.2.below hb⟩
      have K3 : Hid (∀ W, But (· = G) W2 W ∧ Wk W (A + 3) G n R C M → Calls Tryz.prog 62 #[.agg #[.int .i64 (R : Nat), .int .i64 (Ca : Nat), .slice qa na ca], .int .i64 (t : Nat)] W fun e w' => ∃ q c, e = .returned (.slice q Ca c) ∧ But (· = G) W2 w' ∧ ∃ W'', (Builtin.copy_ #[22, 22] 3 #[.slice (some ⟨G, o, none⟩) C C, .slice q Ca c]).run Tryz.prog w' = .ok (.int .i64 (Ca : Nat)) W'' ∧ But (· = G) W2 W'' ∧ Wk W'' (A + 3) G n R C (lay M t 0 (rowL Ca xs t))) := fun W hW => by
        have hk := HK.out W hW.1
        refine (mrow_calls R Ca t qa na ca xs hlt HS.out.2.2.1 hca hR hCa W hk.2.2.2.1).mono ?_
        rintro e w' ⟨v, rfl, hO, hb⟩
        obtain ⟨q, c, rfl, hS, -, -⟩ := hO.tell (n := Ca) (Mx.rowL_byt HS.out.1.byte t) (Mx.rowL_length (HS.out.1.len.trans HS.out.2.2.1) hlt)
        have hb' := hW.1.trans (But.of_below (S := (· = G)) hb)
        obtain ⟨W'', hcp, hW'', hb''⟩ := run_copy_part w' 3 (A + 3) G n R C t 0 C C Ca c (some ⟨G, o, none⟩) q M _ hlt (by omega) (hW.2.below hb) (fun _ => by rw [ho, Nat.add_zero]) hS hCaC
        exact ⟨q, c, rfl, hb', W'', hcp, hb'.trans hb'', hW''⟩
      have K4 : Hid (∀ dp W, (0 < Cb → dp = some ⟨G, o + Ca, none⟩) → But (· = G) W2 W ∧ Wk W (A + 3) G n R C (lay M t 0 (rowL Ca xs t)) → Calls Tryz.prog 62 #[.agg #[.int .i64 (R : Nat), .int .i64 (Cb : Nat), .slice qb nb cb], .int .i64 (t : Nat)] W fun e w' => ∃ q c, e = .returned (.slice q Cb c) ∧ But (· = G) W2 w' ∧ ∃ W'', (Builtin.copy_ #[22, 22] 3 #[.slice dp Cb Cb, .slice q Cb c]).run Tryz.prog w' = .ok (.int .i64 (Cb : Nat)) W'' ∧ Hid (Wk W'' (A + 3) G n R C (Mx.besT Ca (mx Ca xs) (mx Cb ys) (t + 1)) ∧ But (· = G) W2 W'')) := fun dp W hdp hW => by
        have hk := HK.out W hW.1
        refine (mrow_calls R Cb t qb nb cb ys hlt HS.out.2.2.2.1 hcb hR hCb W hk.2.2.2.2).mono ?_
        rintro e w' ⟨v, rfl, hO, hb⟩
        obtain ⟨q, c, rfl, hS, -, -⟩ := hO.tell (n := Cb) (Mx.rowL_byt HS.out.2.1.byte t) (Mx.rowL_length (HS.out.2.1.len.trans HS.out.2.2.2.1) hlt)
        have hb' := hW.1.trans (But.of_below (S := (· = G)) hb)
        obtain ⟨W'', hcp, hW'', hb''⟩ := run_copy_part w' 3 (A + 3) G n R C t Ca Cb Cb Cb c dp q _ _ hlt (by omega) (hW.2.below hb) (fun h0 => by rw [hdp h0, ho]) hS (Nat.le_refl _)
        refine ⟨q, c, rfl, hb', W'', hcp, ?_, hb'.trans hb''⟩
        have := Mx.bes_next (R := R) (t := t) (HS.out.1.len.trans HS.out.2.2.1) (HS.out.2.1.len.trans HS.out.2.2.2.1) hlt
        rw [hM, ← HC.out] at this
        exact hW''.congr this
      have HK5 : Hid (∀ W, But (· = G) W2 W → W.cell? ⟨X, 0, none⟩ = some (.int .i64 (R : Nat)) ∧ W.cell? ⟨X, 1, none⟩ = some (.int .i64 (C : Nat)) ∧ W.cell? ⟨X, 2, none⟩ = some (.slice (some ⟨G, 0, none⟩) n n) ∧ W.cell? ⟨X, 3, none⟩ = some (.pointer p) ∧ W.cell? ⟨A, 0, none⟩ = some (.int .i64 (R : Nat)) ∧ W.cell? ⟨A, 1, none⟩ = some (.int .i64 (Ca : Nat)) ∧ W.cell? ⟨A, 2, none⟩ = some (.slice qa na ca)) := fun W hb => by
        have h := HK.out W hb
        exact ⟨h.1.c0, h.1.c1, h.1.c2, h.1.c3, h.2.1.c0, h.2.1.c1, h.2.1.c2⟩
      have hT0 : But (· = G) W2 wr.drew ∧ Wk wr.drew (A + 3) G n R C M := ⟨hB.drew, hW.drew⟩
      have hk0 := HK.out _ hB
      have b0 := (hk0.1).c0
      have b1 := (hk0.1).c1
      have b2 := (hk0.1).c2
      have b3 := (hk0.1).c3
      have a0 := (hk0.2.1).c0
      have a1 := (hk0.2.1).c1
      have a2 := (hk0.2.1).c2
      clear hW hB ho hM hk0
      go_wp2
      go_region_held_law (fun w' => w'.cell? ⟨X, 0, none⟩ = some (.int .i64 (R : Nat)) ∧ w'.cell? ⟨X, 1, none⟩ = some (.int .i64 (C : Nat)) ∧ w'.cell? ⟨X, 2, none⟩ = some (.slice (some ⟨G, 0, none⟩) n n) ∧ w'.cell? ⟨X, 3, none⟩ = some (.pointer p) ∧ w'.cell? ⟨A, 0, none⟩ = some (.int .i64 (R : Nat)) ∧ w'.cell? ⟨A, 1, none⟩ = some (.int .i64 (Ca : Nat)) ∧ w'.cell? ⟨A, 2, none⟩ = some (.slice qa na ca))
        (first | exact HK5.out _ hT0.1 | exact HK5.out _ hT3.1 | exact HK5.out _ hT4 | exact HK5.out _ hT5.1)
        (first
          | (go_at_call 59; refine (K2.out M _ hT0).mono ?_; rintro e w3 ⟨rfl, hT3⟩)
          | (go_at_call 62; refine (K3.out _ hT3).mono ?_; rintro e w4 ⟨q4, c4, rfl, hT4, w5, hcp, hT5⟩)
          | (refine step_cp rfl (.tmp 26) (.tmp 29) 22 rfl hcp rfl rfl rfl ?_; simp only [Act.put, List.getElem_toArray, List.getElem_cons_succ, List.getElem_cons_zero, List.setIfInBounds_toArray, List.set_cons_succ, List.set_cons_zero]))
      clear a0 a1 a2
      clear b0 b1 b2 b3
      clear K3 hcp hT0 hT3 hT4
      have hk0 := HK.out _ hT5.1
      have b0 := (hk0.1).c0
      have b1 := (hk0.1).c1
      have b2 := (hk0.1).c2
      have b3 := (hk0.1).c3
      have a0 := (hk0.2.1).c0
      have a1 := (hk0.2.1).c1
      have a2 := (hk0.2.1).c2
      have c0 := (hk0.2.2.1).c0
      have c1 := (hk0.2.2.1).c1
      have c2 := (hk0.2.2.1).c2
      have hT5' : But (· = G) W2 w5.drew ∧ Wk w5.drew (A + 3) G n R C (lay M t 0 (rowL Ca xs t)) := ⟨hT5.1.drew, hT5.2.drew⟩
      clear hT5 hk0
      have HK6 : Hid (∀ W, But (· = G) W2 W → W.cell? ⟨X, 0, none⟩ = some (.int .i64 (R : Nat)) ∧ W.cell? ⟨X, 1, none⟩ = some (.int .i64 (C : Nat)) ∧ W.cell? ⟨X, 2, none⟩ = some (.slice (some ⟨G, 0, none⟩) n n) ∧ W.cell? ⟨X, 3, none⟩ = some (.pointer p) ∧ W.cell? ⟨A, 1, none⟩ = some (.int .i64 (Ca : Nat)) ∧ W.cell? ⟨A + 1, 0, none⟩ = some (.int .i64 (R : Nat)) ∧ W.cell? ⟨A + 1, 1, none⟩ = some (.int .i64 (Cb : Nat)) ∧ W.cell? ⟨A + 1, 2, none⟩ = some (.slice qb nb cb)) := fun W hb => by
        have h := HK.out W hb
        exact ⟨h.1.c0, h.1.c1, h.1.c2, h.1.c3, h.2.1.c1, h.2.2.1.c0, h.2.2.1.c1, h.2.2.1.c2⟩
      have hCaI : (Ca : Int) ≤ (C : Int) := by omega
      obtain ⟨dp, hdp⟩ : ∃ dp, (if C = Ca then (some ⟨G, o, none⟩ : Option Addr) else some ⟨G, o + Ca, none⟩) = dp := ⟨_, rfl⟩
      have K6 : Hid (∀ W, But (· = G) W2 W ∧ Wk W (A + 3) G n R C (lay M t 0 (rowL Ca xs t)) → _) := fun W hW => K4.out dp W (fun h => by rw [← hdp, if_neg (by omega)]) hW
      clear K4 HK HK5
      go_wp2
      go_region_held_law (fun w' => w'.cell? ⟨X, 0, none⟩ = some (.int .i64 (R : Nat)) ∧ w'.cell? ⟨X, 1, none⟩ = some (.int .i64 (C : Nat)) ∧ w'.cell? ⟨X, 2, none⟩ = some (.slice (some ⟨G, 0, none⟩) n n) ∧ w'.cell? ⟨X, 3, none⟩ = some (.pointer p) ∧ w'.cell? ⟨A, 1, none⟩ = some (.int .i64 (Ca : Nat)) ∧ w'.cell? ⟨A + 1, 0, none⟩ = some (.int .i64 (R : Nat)) ∧ w'.cell? ⟨A + 1, 1, none⟩ = some (.int .i64 (Cb : Nat)) ∧ w'.cell? ⟨A + 1, 2, none⟩ = some (.slice qb nb cb))
        (first | exact HK6.out _ hT5'.1 | exact HK6.out _ hT6.1 | exact HK6.out _ hT7 | exact HK6.out _ hT8.out.2)
        (first
          | (go_at_call 59; refine (K2.out _ _ hT5').mono ?_; rintro e w6 ⟨rfl, hT6⟩)
          | (go_at_call 62; refine (K6.out _ hT6).mono ?_; rintro e w7 ⟨q7, c7, rfl, hT7, w8, hcp, hT8⟩)
          | (refine step_cp rfl (.tmp 36) (.tmp 39) 22 rfl hcp rfl rfl rfl ?_; simp only [Act.put, List.getElem_toArray, List.getElem_cons_succ, List.getElem_cons_zero, List.setIfInBounds_toArray, List.set_cons_succ, List.set_cons_zero]))
      clear K2 K6 HK6 hT5' hT6 hT7 hcp hdp
      clear a0 a1 a2
      clear b0 b1 b2 b3
      clear c0 c1 c2
      go_wp2
      go_roundw
      case rel => exact ⟨t + 1, by omega, by go_num, hT8.out⟩
      case measure => simp [intOf]; omega
    · obtain rfl : t = R := by omega
      have HZ : Hid (Wk wr A G n t C (bes Ca (mx Ca xs) (mx Cb ys)) ∧ Below A w wr ∧ A + 3 ≤ G) := by
        have hs := HT.out.2.2.2.2.2.2.1
        refine ⟨(hW.mono (by omega)).congr fun a b ha _ => by unfold Mx.besT; rw [if_pos ha], ?_, hs⟩
        have h1 := HT.out.2.2.2.2.2.1
        have h2 := h1.size
        rw [hA] at h1 h2
        exact h1.trans (hB.below h2 (fun k hk => by omega))
      have hz := HT.out.2.2.1.but hB (by have := HT.out.2.2.2.2.2.2.1; omega)
      have hb := HT.out.2.2.2.1.but hB hNX
      clear hW hB
      have b0 := (hb).c0
      have b1 := (hb).c1
      have b2 := (hb).c2
      have b3 := (hb).c3
      have z0 := (hz).c0
      have z1 := (hz).c1
      have z2 := (hz).c2
      have z3 := (hz).c3
      have f0 := hz.f0
      have f1 := hz.f1
      have f2 := hz.f2
      have f3 := hz.f3
      have HZ4 : Hid (Z4 wr (A + 2)) := hz
      clear hb hz
      go_wp2
      have hbt := but_set4 wr (A + 2) (.int .i64 (t : Nat)) (.int .i64 (C : Nat)) (.slice (some ⟨G, 0, none⟩) n n) (.pointer p)
      subst hA
      exact bodyPost_ret (results_cell Tryz.results50 rfl (load_set4 HZ4.out _ _ _ _)) rfl ⟨G, rfl, HZ.out.1.but hbt (by have := HZ.out.2.2; omega), HZ.out.2.1.trans (hbt.below HZ.out.2.1.size (fun k hk => by omega))⟩
end Go.Proofs
