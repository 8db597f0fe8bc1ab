/- Texts laid together: EnD, EnC, EnF. Each says its own conditions. -/
import Derived.Test.YtjnkkokhkooegaaGreatNW
import Derived.Test.YtjnkkokhkooegaaGreatNR
/- The walks of encode's demands (given, right, long) and of first, which goes through them in order. Conditions: as many demands as a list may have; each one's closure tells its answer in whatever world comes after. -/
namespace Go.Proofs
open Go.RowKit Go.ChangeShapes Go.WideShapes

/-- What has to hold, and the error if it does not: the closure's function, what it has caught, the error, the answer. -/
structure Dm where
  F : Nat
  A : Array Value
  E : Nat
  b : Bool
/-- The error of the first that does not hold. -/
def fe : List Dm → Nat
  | [] => 0
  | d :: ds => if d.b then fe ds else d.E
/-- Demands in memory, from the block G on. -/
structure Dms (w : World) (G : Nat) (ds : List Dm) : Prop where
  fn : ∀ (i : Nat) (d : Dm), ds[i]? = some d → w.cell? ⟨G, i * 2, none⟩ = some (.func (.func d.F) #[] d.A)
  er : ∀ (i : Nat) (d : Dm), ds[i]? = some d → w.cell? ⟨G, i * 2 + 1, none⟩ = some (.int .u16 (d.E : Nat))
  en : ∀ (i : Nat) (d : Dm), ds[i]? = some d → ∀ W, Sem.run Tryz.prog (callFunc d.F d.A) W = .ok (.enter d.F d.A) W
  calls : ∀ (i : Nat) (d : Dm), ds[i]? = some d → ∀ W, Below w.heap.size w W → Calls Tryz.prog d.F d.A W fun e w' => e = .returned (.bool d.b) ∧ Below W.heap.size W w'
theorem Dms.lt {w : World} {G : Nat} {ds : List Dm} (h : Dms w G ds) {i : Nat} {d : Dm} (hd : ds[i]? = some d) : G < w.heap.size := World.block_lt_of_cell? _ _ (h.fn i d hd)
theorem fe_drop {ds : List Dm} {t : Nat} {d : Dm} (h : ds[t]? = some d) : fe (ds.drop t) = if d.b then fe (ds.drop (t + 1)) else d.E := by
  have hl : t < ds.length := (List.getElem?_eq_some_iff.1 h).1
  have e : ds.drop t = d :: ds.drop (t + 1) := by rw [List.drop_eq_getElem_cons hl, (List.getElem?_eq_some_iff.1 h).2]
  rw [e]; rfl

set_option maxRecDepth 100000 in
set_option maxHeartbeats 1000000 in
theorem efirst_calls (G m c : Nat) (ds : List Dm) (hm : ds.length = m) (hm3 : m ≤ 1000) (w : World) (hD : Dms w G ds) :
    Calls Tryz.prog 61 #[.slice (some ⟨G, 0, none⟩) m c] w fun e w' => e = .returned (.int .u16 (fe ds : Nat)) ∧ Below w.heap.size w w' := by
  have HD : Hid (Dms w G ds ∧ ds.length = m) := ⟨hD, hm⟩
  have hm3i : (m : Int) ≤ 1000 := by omega
  clear hD hm
  go_enter Tryz.func61, Tryz.ntmps61
  go_wp2
  go_loopw [7] (fun i wr => ∃ t : Nat, t ≤ m ∧ i = .int .i64 (t : Int) ∧ fe ds = fe (ds.drop t) ∧ Below w.heap.size w wr) (fun i _ => m - (intOf i).toNat)
  case atStart => exact ⟨0, by omega, rfl, rfl, Below.refl _ _⟩
  case round =>
    obtain ⟨t, ht, rfl, he, hB⟩ := hrel
    by_cases hlt : t < m
    · have hi : (t : Int) < (m : Int) := by omega
      have hi0 : (0 : Int) ≤ (t : Int) := by omega
      obtain ⟨d, hd⟩ : ∃ d, ds[t]? = some d := ⟨ds[t]'(by rw [HD.out.2]; exact hlt), List.getElem?_eq_getElem (by rw [HD.out.2]; exact hlt)⟩
      have hlG := HD.out.1.lt hd
      have c0 := (hB.cell (p := ⟨G, t * 2, none⟩) hlG).trans (HD.out.1.fn t d hd)
      have c1 := (hB.cell (p := ⟨G, t * 2 + 1, none⟩) hlG).trans (HD.out.1.er t d hd)
      have KF : Hid (∀ W, Below w.heap.size w W → Calls Tryz.prog d.F d.A W fun e w' => e = .returned (.bool d.b) ∧ Below W.heap.size W w') := HD.out.1.calls t d hd
      have hen := HD.out.1.en t d hd
      have hf := fe_drop hd
      obtain ⟨F, A, E, b⟩ := d
      have HZ : Hid (fe ds = if b then fe (ds.drop (t + 1)) else E) := he.trans hf
      have HB : Hid (Below w.heap.size w wr) := hB
      dsimp only at c0 c1 KF hen
      clear hd hlG hf he hB
      go_wp2_with fail
      refine (KF.out _ (HB.out.alloc HB.out.size _)).mono ?_
      rintro e w1 ⟨rfl, hb⟩
      have c4 := (hb.cell (p := ⟨wr.heap.size, 1, none⟩) (by simp)).trans (show (wr.alloc (.cells #[.func (.func F) #[] A, .int .u16 (E : Nat)] 115)).cell? ⟨wr.heap.size, 1, none⟩ = some (.int .u16 (E : Nat)) by simp [go_sem])
      have HW : Hid (Below w.heap.size w w1) := (HB.out.alloc HB.out.size _).trans (hb.mono (HB.out.alloc HB.out.size _).size)
      clear hb KF HB hen c0 c1
      cases b with
      | true =>
        go_wp2
        go_roundw
        case rel => exact ⟨t + 1, by omega, by go_num, HZ.out, HW.out⟩
        case measure => simp [intOf]; omega
      | false =>
        go_wp2
        go_ret
        exact ⟨by rw [HZ.out]; rfl, HW.out⟩
    · obtain rfl : t = m := by omega
      have hz : fe ds = 0 := by rw [he, List.drop_of_length_le (by rw [HD.out.2]; exact Nat.le_refl _)]; rfl
      have HW : Hid (Below w.heap.size w wr ∧ fe ds = 0) := ⟨hB, hz⟩
      clear hB he hz
      go_wp2
      go_ret
      exact ⟨by rw [HW.out.2]; rfl, HW.out.1⟩
end Go.Proofs
/- The walks of encode's demands: given, right and long, and of their closures. Conditions: as much memory as there is. -/
namespace Go.Proofs
open Go.RowKit Go.ChangeShapes Go.WideShapes

theorem load2d {W : World} {B : Nat} {v0 v1 : Value} (h0 : W.cell? ⟨B, 0, none⟩ = some v0) (h1 : W.cell? ⟨B, 1, none⟩ = some v1) : (loadVar 115 ⟨B, 0, none⟩).run Tryz.prog W = .ok (.agg #[v0, v1]) W := by
  have hl := run_loadCells_list (P := Tryz.prog) W ⟨B, 0, none⟩ [v0, v1] (fun j v hj => by
    have hadd : (⟨B, 0, none⟩ : Addr).add j = ⟨B, j, none⟩ := by unfold Addr.add; split <;> simp_all
    rw [hadd]
    match j, hj with
    | 0, hj => rw [h0]; exact hj
    | 1, hj => rw [h1]; exact hj)
  have ha : (isAgg 115).run Tryz.prog W = .ok true W := Tryz.isAgg115 W
  have hl' : (loadCells ⟨B, 0, none⟩ 2).run Tryz.prog W = .ok #[v0, v1] W := hl
  simp [loadVar, Sem.run_bind, ha, hl']

set_option maxRecDepth 100000 in
theorem eright1_calls (a : Nat) (N K B : Int) (w : World) (h : Cb w a N K B) :
    Calls Tryz.prog 78 #[.pointer (some ⟨a, 0, none⟩)] w fun e w' => e = .returned (.bool (cdB N K B)) ∧ Below w.heap.size w w' := by
  have K1 := cright_calls N K B w
  have c0 := (h).c0
  have c1 := (h).c1
  have c2 := (h).c2
  clear h
  cases hc : cdB N K B with
  | false =>
    rw [cdE_no hc] at K1
    clear hc
    go_enter Tryz.func78, Tryz.ntmps78
    go_wp2_with fail
    refine K1.mono ?_
    rintro e w1 ⟨rfl, hb⟩
    go_wp2
    go_ret
    exact ⟨rfl, hb⟩
  | true =>
    rw [cdE_yes hc] at K1
    clear hc
    go_enter Tryz.func78, Tryz.ntmps78
    go_wp2_with fail
    refine K1.mono ?_
    rintro e w1 ⟨rfl, hb⟩
    go_wp2
    go_ret
    exact ⟨rfl, hb⟩
set_option maxRecDepth 100000 in
theorem eright_calls (N K B : Int) (w : World) :
    Calls Tryz.prog 62 #[.agg #[.int .i64 N, .int .i64 K, .int .i64 B]] w fun e w' => ∃ a, e = .returned (.agg #[.func (.func 78) #[] #[.pointer (some ⟨a, 0, none⟩)], .int .u16 10]) ∧ Cb w' a N K B ∧ Below w.heap.size w w' := by
  have HX : Hid (∀ o o', Below w.heap.size w ((w.alloc o).alloc o')) := fun o o' => ((Below.refl _ w).alloc (Nat.le_refl _) _).alloc (by simp) _
  go_enter Tryz.func62, Tryz.ntmps62
  go_wp2
  exact bodyPost_ret (results_cell Tryz.results62 rfl (load2d (by simp [go_sem]) (by simp [go_sem]))) rfl ⟨w.heap.size, rfl, ⟨by simp [go_sem], by simp [go_sem], by simp [go_sem]⟩, HX.out _ _⟩
set_option maxRecDepth 100000 in
theorem elong1_calls (a b n c : Nat) (q : Option Addr) (k : Int) (w : World) (h : w.cell? ⟨a, 0, none⟩ = some (.slice q n c)) (h' : w.cell? ⟨b, 0, none⟩ = some (.int .i64 k)) :
    Calls Tryz.prog 79 #[.pointer (some ⟨a, 0, none⟩), .pointer (some ⟨b, 0, none⟩)] w fun e w' => e = .returned (.bool ((n : Int) == k)) ∧ Below w.heap.size w w' := by
  go_enter Tryz.func79, Tryz.ntmps79
  go_wp2
  go_ret
  exact ⟨rfl, Below.refl _ _⟩
set_option maxRecDepth 100000 in
theorem elong_calls (q : Option Addr) (n c : Nat) (k : Int) (w : World) :
    Calls Tryz.prog 63 #[.slice q n c, .int .i64 k] w fun e w' => ∃ a b, e = .returned (.agg #[.func (.func 79) #[] #[.pointer (some ⟨a, 0, none⟩), .pointer (some ⟨b, 0, none⟩)], .int .u16 12]) ∧ w'.cell? ⟨a, 0, none⟩ = some (.slice q n c) ∧ w'.cell? ⟨b, 0, none⟩ = some (.int .i64 k) ∧ Below w.heap.size w w' := by
  have HX : Hid (∀ o o' o'', Below w.heap.size w (((w.alloc o).alloc o').alloc o'')) := fun o o' o'' => (((Below.refl _ w).alloc (Nat.le_refl _) _).alloc (by simp) _).alloc (by simp; omega) _
  go_enter Tryz.func63, Tryz.ntmps63
  go_wp2
  exact bodyPost_ret (results_cell Tryz.results63 rfl (load2d (by simp [go_sem]) (by simp [go_sem]))) rfl ⟨w.heap.size, w.heap.size + 1, rfl, by simp [go_sem], by simp [go_sem], HX.out _ _ _⟩
end Go.Proofs
/- The demands of encode in memory, and first of them: of two and of three. Conditions: none but that they lie there. -/
namespace Go.Proofs
open Go.RowKit Go.ChangeShapes Go.WideShapes

def dmR (a : Nat) (N K B : Int) : Dm := ⟨78, #[.pointer (some ⟨a, 0, none⟩)], 10, cdB N K B⟩
def dmL (a b n : Nat) (k : Int) : Dm := ⟨79, #[.pointer (some ⟨a, 0, none⟩), .pointer (some ⟨b, 0, none⟩)], 12, (n : Int) == k⟩
theorem at2 {d0 d1 : Dm} {p : Nat → Dm → Prop} (h0 : p 0 d0) (h1 : p 1 d1) : ∀ (i : Nat) (d : Dm), [d0, d1][i]? = some d → p i d := fun i d h => by
  match i, h with
  | 0, h => cases h; exact h0
  | 1, h => cases h; exact h1
theorem efirst2_calls (N K B k : Int) (q : Option Addr) (n c a2 a3 a4 r : Nat) (hr : fe [dmR a2 N K B, dmL a3 a4 n k] = r) (W : World) (h2 : Cb W a2 N K B) (h3 : W.cell? ⟨a3, 0, none⟩ = some (.slice q n c)) (h4 : W.cell? ⟨a4, 0, none⟩ = some (.int .i64 k)) :
    Calls Tryz.prog 61 #[.slice (some ⟨W.heap.size, 0, none⟩) 2 2] (W.alloc (.cells #[.func (.func 78) #[] #[.pointer (some ⟨a2, 0, none⟩)], .int .u16 10, .func (.func 79) #[] #[.pointer (some ⟨a3, 0, none⟩), .pointer (some ⟨a4, 0, none⟩)], .int .u16 12] 115)) fun e w' => e = .returned (.int .u16 (r : Nat)) ∧ Below W.heap.size W w' := by
  subst hr
  have hb0 := fun o => (Below.refl W.heap.size W).alloc (Nat.le_refl _) o
  refine (efirst_calls W.heap.size 2 2 [dmR a2 N K B, dmL a3 a4 n k] rfl (by omega) _ ⟨?_, ?_, ?_, ?_⟩).mono fun e w' ⟨he, hb⟩ => ⟨he, (hb0 _).trans (hb.mono (hb0 _).size)⟩
  · exact at2 (by simp [go_sem, dmR]) (by simp [go_sem, dmL])
  · exact at2 (by simp [go_sem, dmR]) (by simp [go_sem, dmL])
  · exact at2 (fun W => by unfold dmR; go_simp) (fun W => by unfold dmL; go_simp)
  · refine at2 (fun W' hb => ?_) (fun W' hb => ?_)
    · have hb1 := (hb0 _).trans (hb.mono (hb0 _).size)
      exact eright1_calls a2 N K B W' (h2.below hb1)
    · have hb1 := (hb0 _).trans (hb.mono (hb0 _).size)
      exact elong1_calls a3 a4 n c q k W' ((hb1.cell (p := ⟨a3, 0, none⟩) (World.block_lt_of_cell? _ _ h3)).trans h3) ((hb1.cell (p := ⟨a4, 0, none⟩) (World.block_lt_of_cell? _ _ h4)).trans h4)
theorem fe2 (a2 a3 a4 n : Nat) (N K B k : Int) : fe [dmR a2 N K B, dmL a3 a4 n k] = if cdB N K B = true then (if (n : Int) = k then 0 else 12) else 10 := by
  cases hc : cdB N K B <;> simp [fe, dmR, dmL, hc]
end Go.Proofs
