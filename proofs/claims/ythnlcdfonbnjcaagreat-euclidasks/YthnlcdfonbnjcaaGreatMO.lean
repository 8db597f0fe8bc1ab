/- Texts laid together: Own, App, App1, OwS, RefAny. Each says its own conditions. -/
import Derived.Test.YthnlcdfonbnjcaaGreatProg
import Derived.WalkKit
import Derived.OneCell
import Derived.OwnWalk
import Derived.Laws.OwnMore
import Derived.Laws.MakeOwn
import Derived.Maps.AppendAt
import Derived.Deep.LoopGhost
import Derived.BigQuiet
import Derived.Test.YthnlcdfonbnjcaaGreatMB
/- Slices of bytes that a call has made itself: owned, grown by append, made by make. Conditions: bounds on lengths. -/
namespace Go.Proofs
open Go.RowKit

/-- The cells of bytes. -/
def ob (xs : List Nat) : List Value := xs.map fun x => .int .u8 (x : Nat)
theorem ob_length (xs : List Nat) : (ob xs).length = xs.length := by simp [ob]
theorem ob_at (xs : List Nat) (i : Nat) (hi : i < xs.length) : (ob xs)[i]? = some (.int .u8 (xs.getD i 0 : Nat)) := by
  simp [ob, List.getD, hi]
/-- The slice v owns the bytes xs, in a block from base on. -/
def Ow (W : World) (base : Nat) (v : Value) (xs : List Nat) : Prop := W.ownsRow base 5 1 v xs.length (ob xs)
theorem ow_nil (W : World) (base : Nat) : Ow W base (.slice none 0 0) [] := World.ownsRow_nil _ _ _ _
section
variable {W : World} {base : Nat} {v : Value} {xs : List Nat}
theorem Ow.alloc (h : Ow W base v xs) (o : Obj) : Ow (W.alloc o) base v xs := World.ownsRow.alloc h o
theorem Ow.drew (h : Ow W base v xs) : Ow W.drew base v xs := World.ownsRow.drew h
theorem Ow.mono (h : Ow W base v xs) {b : Nat} (hb : b ≤ base) : Ow W b v xs := by
  refine ⟨h.1, h.2.imp id ?_⟩
  rintro ⟨g, cap, cur, h1, h2, h3⟩
  exact ⟨g, cap, cur, h1, Nat.le_trans hb h2, h3⟩
theorem Ow.lt (h : Ow W base v xs) : ∀ k, v.ownBlock = some k → base ≤ k ∧ k < W.heap.size := World.ownsRow.lt h
theorem Ow.block {W' : World} (h : Ow W base v xs) (hb : ∀ k, v.ownBlock = some k → W'.heap[k]? = W.heap[k]?) : Ow W' base v xs := by
  refine ⟨h.1, h.2.imp id ?_⟩
  rintro ⟨g, cap, cur, rfl, h2, h3, h4⟩
  exact ⟨g, cap, cur, rfl, h2, (hb g rfl).trans h3, h4⟩
theorem Ow.below {W' : World} (h : Ow W base v xs) (hb : Below W.heap.size W W') : Ow W' base v xs := h.block fun k hk => hb.block k (h.lt k hk).2
theorem Ow.other (h : Ow W base v xs) {p : Addr} (hp : v.ownBlock ≠ some p.block) (u : Value) : Ow (W.setCell p u) base v xs :=
  h.block fun k hk => Below.heap_setCell _ _ _ _ (by rintro rfl; exact hp hk)
/-- What an owned slice looks like. -/
theorem Ow.shape (h : Ow W base v xs) : (v = .slice none 0 0 ∧ xs = []) ∨ ∃ g cap, v = .slice (some ⟨g, 0, none⟩) xs.length cap ∧ base ≤ g ∧ g < W.heap.size ∧ xs.length ≤ cap ∧ cap ≤ maxLen ∧
    (∀ i, i < xs.length → W.cell? ⟨g, i, none⟩ = some (.int .u8 (xs.getD i 0 : Nat))) ∧ ∀ i, W.frozen? ⟨g, i, none⟩ = false := by
  have h0 := h
  rcases h.2 with ⟨h1, h2⟩ | ⟨g, cap, cur, h1, h2, h3, h4, h5, _⟩
  · exact .inl ⟨h1, List.length_eq_zero_iff.1 h2⟩
  · subst h1
    refine .inr ⟨g, cap, rfl, h2, (h0.lt g rfl).2, h4, h5, fun i hi => ?_, fun i => World.ownsRow.frozenAt h0 i⟩
    rw [World.ownsRow.cellAt h0 i (by omega)]
    exact ob_at xs i hi
/-- An owned slice is read as any other. -/
theorem Ow.bs (h : Ow W base v xs) (hx : ∀ i, xs.getD i 0 < 256) : ∃ q c, v = .slice q xs.length c ∧ Bs W q xs.length xs := by
  rcases h.shape with ⟨rfl, rfl⟩ | ⟨g, cap, rfl, _, h3, h4, h5, h6, _⟩
  · exact ⟨none, 0, rfl, rfl, by simp, fun i hi => absurd hi (Nat.not_lt_zero i), hx⟩
  · refine ⟨some ⟨g, 0, none⟩, cap, rfl, rfl, by unfold maxLen at h5; omega, fun i hi => ⟨_, rfl, h3, ?_⟩, hx⟩
    have hadd : (⟨g, 0, none⟩ : Addr).add i = ⟨g, i, none⟩ := by unfold Addr.add; split <;> simp_all
    rw [hadd]
    exact h6 i hi
theorem Ow.at {g n cap : Nat} (h : Ow W base (.slice (some ⟨g, 0, none⟩) n cap) xs) (hn : n = xs.length) (i : Nat) (hi : i < n) : W.cell? ⟨g, i, none⟩ = some (.int .u8 (xs.getD i 0 : Nat)) ∧ W.frozen? ⟨g, i, none⟩ = false := by
  subst hn
  rw [World.ownsRow.cellAt h i (by omega)]
  exact ⟨ob_at xs i hi, World.ownsRow.frozenAt h i⟩
theorem ob_set (xs : List Nat) (i x : Nat) : ob (xs.set i x) = (ob xs).set i (.int .u8 (x : Nat)) := by simp [ob, List.map_set]
theorem Ow.set {g n cap : Nat} (h : Ow W base (.slice (some ⟨g, 0, none⟩) n cap) xs) (hn : n = xs.length) (i x : Nat) : Ow (W.setCell ⟨g, i, none⟩ (.int .u8 (x : Nat))) base (.slice (some ⟨g, 0, none⟩) n cap) (xs.set i x) := by
  subst hn
  have := (World.ownsRow.stored h i (.int .u8 (x : Nat))).1
  unfold Ow
  rw [ob_set, List.length_set]
  exact this
end
theorem info_u8 : (Tryz.prog.info? 5).map (fun i => (i.zero, i.size, i.bytes)) = some (some (.int .u8 0), 1, 1) := by kernel_rfl
/-- make([]byte, n). -/
theorem make_bytes (n : Nat) (hn : n ≤ 281474976710656) (w : World) :
    (Instr.makeSlice 22 (.int .i64 (n : Int)) (.int .i64 (n : Int))).run Tryz.prog w = .ok (.slice (some ⟨w.heap.size, 0, none⟩) n n) (w.alloc (.cells (madeCells #[.int .u8 0] n) 5)) := by
  obtain ⟨i, hi, hz, hs, hb⟩ := info_parts info_u8
  have hr := run_make (P := Tryz.prog) w 22 5 i (.int .u8 0) Tryz.underlying22 hi hz .i64 .i64 n n (by omega) (Int.le_refl _) (by rw [hb]; omega) (by omega)
  simp only [Int.toNat_natCast, hs, Nat.mul_one] at hr
  exact hr
theorem ow_made (W : World) {base : Nat} (hb : base ≤ W.heap.size) (n : Nat) (hn : n ≤ 281474976710656) : Ow (W.alloc (.cells (madeCells #[.int .u8 0] n) 5)) base (.slice (some ⟨W.heap.size, 0, none⟩) n n) (List.replicate n 0) := by
  have h := World.ownsRow_lit (base := base) (e := 5) (size := 1) W (madeCells #[.int .u8 0] n) n hb (by unfold maxLen; omega) (by rw [size_madeCells]; omega)
  unfold Ow
  rw [List.length_replicate]
  rw [toList_madeCells_one] at h
  have e : ob (List.replicate n 0) = List.replicate n (.int .u8 0) := by simp [ob]
  rw [e]
  exact h

end Go.Proofs
/- append of bytes, walked by its run's own result: ahead of the walk its result is told; in the walk it is put in. Conditions: bounds on lengths. -/
namespace Go.Proofs
open Go.RowKit

/-- What an append tells, and the world behind it. -/
def apV (P : Program) (ats : Array TypeId) (ty : TypeId) (args : Array Value) (W : World) : Value := match (Builtin.append_ ats ty args).run P W with | .ok v _ => v | _ => undef
def apW (P : Program) (ats : Array TypeId) (ty : TypeId) (args : Array Value) (W : World) : World := match (Builtin.append_ ats ty args).run P W with | .ok _ W' => W' | _ => W
/-- An append that goes through. -/
def ApOk (P : Program) (ats : Array TypeId) (ty : TypeId) (args : Array Value) (W : World) : Prop := ∃ v W', (Builtin.append_ ats ty args).run P W = .ok v W'
section
variable {P : Program} {ats : Array TypeId} {ty : TypeId} {args : Array Value} {W W' : World} {v : Value}
def apSem (ats : Array TypeId) (ty : TypeId) (args : Array Value) : Sem Next := do pure (.value (← Builtin.append_ ats ty args))
theorem builtin_ap (cs : Array Bool) : builtin .append ats ty cs args = apSem ats ty args := rfl
theorem ap_sem (h : ApOk P ats ty args W) : (apSem ats ty args).run P W = .ok (.value (apV P ats ty args W)) (apW P ats ty args W) := by
  obtain ⟨v, W', e⟩ := h
  unfold apSem apV apW
  simp [e, Result.andThen]
theorem ap_ok (h : (Builtin.append_ ats ty args).run P W = .ok v W') : ApOk P ats ty args W := ⟨v, W', h⟩
theorem ap_v (h : (Builtin.append_ ats ty args).run P W = .ok v W') : apV P ats ty args W = v := by unfold apV; rw [h]
theorem ap_w (h : (Builtin.append_ ats ty args).run P W = .ok v W') : apW P ats ty args W = W' := by unfold apW; rw [h]
end
/-- 'append(xs, ys[:m]...)' of a slice that is owned: the run itself, ahead of the walk. -/
theorem run_append_bytes (W : World) (base : Nat) (v : Value) (xs : List Nat) (ad : Addr) (c : Nat) (ys : List Nat) (hown : Ow W base v xs)
    (hc : ∀ j, j < ys.length → W.cell? (ad.add j) = some (.int .u8 (ys.getD j 0 : Nat))) (hn : xs.length + ys.length ≤ 10000000000) (hb : base ≤ W.heap.size) :
    ∃ v' W', (Builtin.append_ #[22, 22] 22 #[v, .slice (some ad) ys.length c]).run Tryz.prog W = .ok v' W' ∧ Ow W' base v' (xs ++ ys) ∧ W.grownBy W' v.ownBlock := by
  obtain ⟨i, hi, hz, hsz, hby⟩ := info_parts info_u8
  obtain ⟨v', W', h1, h2, h3, _⟩ := run_append_own (P := Tryz.prog) W base 22 22 5 i (.int .u8 0) 1 1 Tryz.underlying22 hi hz hsz hby rfl (by decide) v xs.length (ob xs) hown ad ys.length c (ob ys) (by rw [ob_length, Nat.mul_one]) (fun j u hj => by
      have hl : j < ys.length := by
        rw [← ob_length ys]
        exact (List.getElem?_eq_some_iff.1 hj).1
      rw [hc j hl]
      rw [ob_at ys j hl] at hj
      exact hj) (fun u hu => by
      simp [ob] at hu
      obtain ⟨x, _, rfl⟩ := hu
      rfl) (by unfold maxLen; omega) (by omega) hb
  refine ⟨v', W', h1, ?_, h3⟩
  unfold Ow
  have e : ob (xs ++ ys) = ob xs ++ ob ys := by simp [ob]
  rw [e, List.length_append]
  exact h2

end Go.Proofs
/- 'append(xs, b)' of a slice that is owned. Conditions: bounds on lengths. -/
namespace Go.Proofs
open Go.RowKit
/-- 'append(xs, b)' of a slice that is owned, b in a new block of its own. -/
theorem run_append_one (W : World) (base : Nat) (v : Value) (xs : List Nat) (b : Nat) (hown : Ow W base v xs) (hn : xs.length ≤ 1000000000) (hb : base ≤ W.heap.size) :
    ∃ g c W', (Builtin.append_ #[22, 22] 22 #[v, .slice (some ⟨W.heap.size, 0, none⟩) 1 1]).run Tryz.prog (W.alloc (.cells #[.int .u8 (b : Nat)] 5)) = .ok (.slice (some ⟨g, 0, none⟩) (xs ++ [b]).length c) W' ∧ Ow W' base (.slice (some ⟨g, 0, none⟩) (xs ++ [b]).length c) (xs ++ [b]) ∧ ∀ n, n ≤ base → Below n W W' := by
  obtain ⟨v', W', h1, h2, h3⟩ := run_append_bytes (W.alloc (.cells #[.int .u8 (b : Nat)] 5)) base v xs ⟨W.heap.size, 0, none⟩ 1 [b] (hown.alloc _) (fun j hj => by
    have hj1 : j < 1 := hj
    obtain rfl : j = 0 := by omega
    show (W.alloc _).cell? ⟨W.heap.size, 0, none⟩ = _
    rw [World.cell?_alloc_at _ _ _ _ rfl]; rfl) (by simp; omega) (by simp; omega)
  rcases h2.shape with ⟨_, h0⟩ | ⟨g, c, rfl, _⟩
  · exact absurd (congrArg List.length h0) (by simp)
  · exact ⟨g, c, W', h1, h2, fun n hn' => ((Below.refl n W).alloc (by omega) _).grown h3 (by simp; omega) (fun k hk => Nat.le_trans hn' (hown.lt k hk).1)⟩
end Go.Proofs
/- An owned slice is a slice. Nothing of the program but its types. -/
namespace Go.Proofs
open Go.RowKit
end Go.Proofs
/- The walk of the document's comparison of two lists (erratumref01.Same), whatever they hold. Condition: both are read. -/
namespace Go.Proofs
open Go.RowKit Go.ChangeShapes Go.WideShapes

set_option maxRecDepth 100000 in
set_option maxHeartbeats 1000000 in
theorem same_any (q p : Option Addr) (n m c d : Nat) (xs ys : List Nat) (b : Bool) (hb : b = true ↔ xs = ys) (w : World) (h1 : Bs w q n xs) (h2 : Bs w p m ys) :
    Calls Tryz.prog 23 #[.slice q n c, .slice p m d] w fun e w' => e = .returned (.bool b) ∧ Below w.heap.size w w' := by
  have hmax := h1.max
  have hl1 := h1.len
  have hl2 := h2.len
  by_cases hnm : n = m
  · subst hnm
    have HS : Hid (Bs w q n xs ∧ Bs w p n ys) := ⟨h1, h2⟩
    have HE : Hid ((∀ i, i < n → xs.getD i 0 = ys.getD i 0) → b = true) := fun h => hb.2 (by
      apply List.ext_getElem?
      intro i
      by_cases hi : i < n
      · have := h i hi
        simp only [List.getD, List.getElem?_eq_getElem (show i < xs.length by omega), List.getElem?_eq_getElem (show i < ys.length by omega), Option.getD_some] at this
        rw [List.getElem?_eq_getElem (show i < xs.length by omega), List.getElem?_eq_getElem (show i < ys.length by omega), this]
      · rw [List.getElem?_eq_none (by omega), List.getElem?_eq_none (by omega)])
    have HN : Hid (∀ i, xs.getD i 0 ≠ ys.getD i 0 → b = false) := fun i h => by
      cases hbb : b with
      | false => rfl
      | true => rw [hb.1 hbb] at h; exact absurd rfl h
    clear h1 h2 hl1 hl2 hb
    go_enter Tryz.func23, Tryz.ntmps23
    go_wp2
    go_loopw [5] (fun i wr => ∃ k : Nat, k ≤ n ∧ i = .int .i64 (k : Int) ∧ (∀ i, i < k → xs.getD i 0 = ys.getD i 0) ∧ Below w.heap.size w wr) (fun i _ => n - (intOf i).toNat)
    case atStart => exact ⟨0, by omega, rfl, fun i hi => absurd hi (Nat.not_lt_zero i), Below.refl _ _⟩
    case round =>
      obtain ⟨k, hk, rfl, hsame, hB⟩ := hrel
      by_cases hlt : k < n
      · have hi : (k : Int) < (n : Int) := by omega
        have hi0 : (0 : Int) ≤ (k : Int) := by omega
        obtain ⟨a, rfl, la, ca⟩ := HS.out.1.cell k hlt
        obtain ⟨b', rfl, lb, cb⟩ := HS.out.2.cell k hlt
        replace ca := (hB.cell (p := a.add k) (by rw [block_add]; exact la)).trans ca
        replace cb := (hB.cell (p := b'.add k) (by rw [block_add]; exact lb)).trans cb
        have HK : Hid (∀ i, i < k → xs.getD i 0 = ys.getD i 0) := hsame
        have HNk := HN.out k
        have HX : Hid (xs.getD k 0 = ys.getD k 0 → ∀ i, i < k + 1 → xs.getD i 0 = ys.getD i 0) := fun e i hi' => by
          by_cases h' : i = k
          · subst h'; exact e
          · exact HK.out i (by omega)
        obtain ⟨x, hx⟩ : ∃ x, xs.getD k 0 = x := ⟨_, rfl⟩
        obtain ⟨y, hy⟩ : ∃ y, ys.getD k 0 = y := ⟨_, rfl⟩
        rw [hx] at ca HNk HX
        rw [hy] at cb HNk HX
        have HB : Hid (Below w.heap.size w wr) := hB
        clear hx hy la lb hB hsame HK
        by_cases hxy : x = y
        · subst hxy
          have HX' : Hid (∀ i, i < k + 1 → xs.getD i 0 = ys.getD i 0) := HX.out rfl
          clear HX HNk
          go_wp2
          go_quiet (fail)
          go_wp2
          go_roundw
          case rel => exact ⟨k + 1, by omega, by go_num, HX'.out, ⟨HB.out.os, HB.out.tape, HB.out.output, HB.out.size, HB.out.block⟩⟩
          case measure => simp [intOf]; omega
        · have hbf := HNk hxy
          subst hbf
          have hne : ((x : Int) != (y : Int)) = true := by simp; omega
          clear HX HNk hxy HE HN
          go_wp2
          go_quiet (fail)
          go_wp2
          go_ret
          exact ⟨rfl, ⟨HB.out.os, HB.out.tape, HB.out.output, HB.out.size, HB.out.block⟩⟩
      · have e8 : k = n := by omega
        subst e8
        have hbt := HE.out hsame
        subst hbt
        have HB : Hid (Below w.heap.size w wr) := hB
        clear hB hsame HE HN
        go_wp2
        go_ret
        exact ⟨rfl, HB.out⟩
  · have hbf : b = false := by
      cases hbb : b with
      | false => rfl
      | true => have := congrArg List.length (hb.1 hbb); omega
    subst hbf
    have hne : ((n : Int) != (m : Int)) = true := by simp; omega
    clear h1 h2 hl1 hl2 hb hnm hmax
    go_enter Tryz.func23, Tryz.ntmps23
    go_wp2
    go_ret
    exact ⟨rfl, Below.refl _ _⟩
end Go.Proofs
