/- The walks of check.sums, of its iterator and of check.Apart: the places that two lists have both, each with its two bytes' sum, and those at which it is not 0. Conditions: lists of at most a million bytes. -/
import Derived.Sort.CutIn
import Derived.Test.YtjnkkokhkooegaaGreatMV
import Derived.Test.YtjnkkokhkooegaaGreatOK
import Derived.Test.YtjnkkokhkooegaaGreatMG
import Derived.Test.YtjnkkokhkooegaaGreatNU
namespace Go.Proofs
open Go.RowKit Go.Shelf Go.ChangeShapes Go.WideShapes
attribute [local go_sem] Oper.semAt_some

theorem xor_ne_zero {a b : Nat} : a ^^^ b = 0 ↔ a = b := by
  constructor
  · intro h
    have h1 : a ^^^ b ^^^ b = b := by rw [h, Nat.zero_xor]
    rwa [Nat.xor_assoc, Nat.xor_self, Nat.xor_zero] at h1
  · rintro rfl; exact Nat.xor_self a
/-- A place, and the sum there. -/
abbrev smv (xs ys : List Nat) (t : Nat) (x : Tm t) : Array Value := #[.int .i64 ((x.1 : Nat) : Int), .int .u8 ((xs.getD x.1 0 ^^^ ys.getD x.1 0 : Nat) : Int)]
/-- The first k places. -/
def upT (t : Nat) : Nat → List (Tm t)
  | 0 => []
  | k + 1 => if h : k < t then upT t k ++ [⟨k, h⟩] else upT t k
theorem upT_length (t : Nat) : ∀ k, k ≤ t → (upT t k).length = k
  | 0, _ => rfl
  | k + 1, h => by rw [upT, dif_pos (by omega), List.length_append, upT_length t k (by omega)]; rfl
theorem upT_succ (t k : Nat) (h : k < t) : upT t (k + 1) = upT t k ++ [⟨k, h⟩] := by rw [upT, dif_pos h]
/-- The places that have come at which two lists are unlike. -/
def apF (xs ys : List Nat) {t : Nat} (pre : List (Tm t)) : List Nat := (pre.map (·.1)).filter fun i => xs.getD i 0 != ys.getD i 0
theorem apF_yes {xs ys : List Nat} {t : Nat} {pre : List (Tm t)} {x : Tm t} (h : xs.getD x.1 0 ≠ ys.getD x.1 0) : apF xs ys (pre ++ [x]) = apF xs ys pre ++ [x.1] := by
  unfold apF; rw [List.map_append, List.filter_append]
  congr 1
  rw [List.map_cons, List.filter_cons_of_pos (p := fun i => xs.getD i 0 != ys.getD i 0) (bne_iff_ne.2 h)]; rfl
theorem apF_no {xs ys : List Nat} {t : Nat} {pre : List (Tm t)} {x : Tm t} (h : xs.getD x.1 0 = ys.getD x.1 0) : apF xs ys (pre ++ [x]) = apF xs ys pre := by
  unfold apF; rw [List.map_append, List.filter_append]
  have : ([x].map (·.1)).filter (fun i => xs.getD i 0 != ys.getD i 0) = [] := by
    rw [List.filter_eq_nil_iff]; intro i hi; simp at hi; subst hi; rw [bne_iff_ne]; exact fun hn => hn h
  rw [this, List.append_nil]
theorem upT_map (t : Nat) : ∀ k, k ≤ t → (upT t k).map (·.1) = List.range k
  | 0, _ => rfl
  | k + 1, h => by rw [upT_succ t k (by omega), List.map_append, upT_map t k (by omega), List.range_succ]; rfl
theorem apF_all (xs ys : List Nat) : apF xs ys (upT (min xs.length ys.length) (min xs.length ys.length)) = Cd.ap xs ys := by
  unfold apF Cd.ap; rw [upT_map _ _ (Nat.le_refl _)]
theorem apF_length (xs ys : List Nat) {t : Nat} (pre : List (Tm t)) : (apF xs ys pre).length ≤ pre.length := by
  unfold apF; exact Nat.le_trans (List.length_filter_le _ _) (by simp)
/-- Naturals as integers, as values. -/
theorem ozn_snoc (L : List Nat) (x : Nat) : (L ++ [x]).map (fun i : Nat => (i : Int)) = L.map (fun i : Nat => (i : Int)) ++ [(x : Int)] := by simp

/-- A round keeps both boxes and both lists. -/
def KeepsQ (A B : Nat) (q p : Option Addr) (n m : Nat) (W W' : World) : Prop := KeepsP A q n W W' ∧ KeepsP B p m W W'
theorem keepsQ_t {A B n m : Nat} {q p : Option Addr} {X Y Z : World} (h : KeepsQ A B q p n m X Y) (k : KeepsQ A B q p n m Y Z) : KeepsQ A B q p n m X Z := ⟨keepsP_t h.1 k.1, keepsP_t h.2 k.2⟩
theorem keepsQ_b {A B n m : Nat} {q p : Option Addr} (W : World) (l : Nat) (o o' : Obj) (hl : W.heap[l]? = some o) (ho : o.isCells = false) : KeepsQ A B q p n m W (W.putObj l o') := ⟨keepsP_b W l o o' hl ho, keepsP_b W l o o' hl ho⟩

theorem sums_calls (D : Nat) (q p : Option Addr) (n c m d : Nat) (w : World) :
    CallsIn Fence.wide D Tryz.prog 40 #[.slice q n c, .slice p m d] w fun e w' => e = .returned (.func (.func 57) #[] #[.pointer (some ⟨w.heap.size, 0, none⟩), .pointer (some ⟨w.heap.size + 1, 0, none⟩)]) ∧ (w.alloc (.cells #[.slice q n c] 22)).alloc (.cells #[.slice p m d] 22) = w' := by
  refine callsIn_of_wp Tryz.func40 rfl trivial ?_ rfl
  simp only [Tryz.ntmps40, List.size_toArray, List.length_cons, List.length_nil, Nat.reduceAdd, Nat.reduceSub, Array.replicate_succ, Array.replicate_zero, List.push_toArray, List.append_toArray, List.nil_append, List.cons_append]
  gi_wp2
  go_ret
  exact ⟨rfl, rfl⟩

/-- What a round tells, in one word. -/
theorem ret_two {e : Ending} {p q : Prop} (h : (e = .returned (.bool true) ∧ p) ∨ (e = .returned (.bool false) ∧ q)) : ∃ b : Bool, e = .returned (.bool b) ∧ Hid ((b = true ∧ p) ∨ (b = false ∧ q)) := by
  rcases h with ⟨rfl, h⟩ | ⟨rfl, h⟩
  · exact ⟨true, rfl, .inl ⟨rfl, h⟩⟩
  · exact ⟨false, rfl, .inr ⟨rfl, h⟩⟩
set_option maxRecDepth 100000 in
set_option maxHeartbeats 2000000 in
theorem sums1_stops (D : Nat) (hD : 1 ≤ D) (A B : Nat) (q p : Option Addr) (n c m d t : Nat) (xs ys : List Nat) (ht : min n m = t) (w : World) (hA : A < w.heap.size) (hB : B < w.heap.size) (cA : w.cell? ⟨A, 0, none⟩ = some (.slice q n c)) (cB : w.cell? ⟨B, 0, none⟩ = some (.slice p m d)) (hs : Bs w q n xs) (hy : Bs w p m ys) :
    SeqStopsK Fence.wide D Tryz.prog 57 #[.pointer (some ⟨A, 0, none⟩), .pointer (some ⟨B, 0, none⟩)] (smv xs ys t) (KeepsQ A B q p n m) (fun zs => zs = upT t t) (fun _ => True) t w :=
  fun l J Jx W hW hJ hJx hY h0 => by
  have cAW := (hW.cell (p := ⟨A, 0, none⟩) hA).trans cA
  have cBW := (hW.cell (p := ⟨B, 0, none⟩) hB).trans cB
  have HS : Hid (Bs W q n xs ∧ Bs W p m ys) := ⟨hs.below hW, hy.below hW⟩
  have hmn := hs.max
  have HY : Hid (∀ pre x W1, J pre W1 → pre.length < t → YieldAt Fence.wide (D - 1) Tryz.prog l (smv xs ys t x) W1 fun e W' => (e = .returned (.bool true) ∧ J (pre ++ [x]) W' ∧ KeepsQ A B q p n m W1 W') ∨ (e = .returned (.bool false) ∧ Jx (pre ++ [x]) W')) := hY
  have HJ : Hid (AbidesFrom W.heap.size J) := hJ
  have HN : Hid (t ≤ n ∧ t ≤ m) := by show t ≤ n ∧ t ≤ m; omega
  have hti : (t : Int) ≤ 9223372036854775807 := by omega
  clear hs hy hW cA cB hY hJ hJx hmn
  refine callsIn_of_wp Tryz.func57 rfl trivial ?_ rfl
  simp only [Tryz.ntmps57, List.size_toArray, List.length_cons, List.length_nil, Nat.reduceAdd, Nat.reduceSub, Array.replicate_succ, Array.replicate_zero, List.push_toArray, List.append_toArray, List.nil_append, List.cons_append]
  have hfn : ∀ f, Fence.wide.fn f := fun _ => trivial
  gi_upto_region 0 with fail
  gi_cut [9, 10] from 26 (fun s z wc => s = .int .i64 (t : Int) ∧ z = .int .i64 0 ∧ wc = W)
  case first =>
    rcases Nat.lt_or_ge m n with h | h
    · have hmi : (m : Int) < (n : Int) := by omega
      have e : (m : Int) = (t : Int) := by omega
      clear h ht
      gi_wp2
      gi_meet
      case rel => exact ⟨by first | rfl | rw [e] | exact congrArg _ (by omega), rfl, rfl⟩
    · have hmi : ((m : Int) < (n : Int)) = False := eq_false (by omega)
      have e : (n : Int) = (t : Int) := by omega
      clear h ht
      gi_wp2
      all_goals first
        | (exfalso; have hx := of_eq_false hmi; omega)
        | (gi_meet
           case rel => exact ⟨by first | rfl | rw [e] | exact congrArg _ (by omega), rfl, rfl⟩)
  case rest =>
    obtain ⟨rfl, rfl, rfl⟩ := hcut
    clear ht
    gi_wp2
    gi_loopw [10] (fun i wr => ∃ j : Nat, j ≤ t ∧ i = .int .i64 (j : Int) ∧ J (upT t j) wr ∧ wr.cell? ⟨A, 0, none⟩ = some (.slice q n c) ∧ wr.cell? ⟨B, 0, none⟩ = some (.slice p m d) ∧ Hid ((∀ i, i < n → ∃ a, q = some a ∧ wr.cell? (a.add i) = some (.int .u8 (xs.getD i 0 : Nat))) ∧ ∀ i, i < m → ∃ a, p = some a ∧ wr.cell? (a.add i) = some (.int .u8 (ys.getD i 0 : Nat))))
      (fun i _ => t - (intOf i).toNat)
    case atStart =>
      refine ⟨0, Nat.zero_le _, rfl, h0, cAW, cBW, (⟨fun i hi => ?_, fun i hi => ?_⟩ : _ ∧ _)⟩
      · obtain ⟨a, e, _, hc⟩ := HS.out.1.cell i hi
        exact ⟨a, e, hc⟩
      · obtain ⟨a, e, _, hc⟩ := HS.out.2.cell i hi
        exact ⟨a, e, hc⟩
    case round =>
      obtain ⟨j, hj, rfl, hJs, hca, hcb, HC⟩ := hrel
      by_cases hlt : j < t
      · have hji : (j : Int) < (t : Int) := by omega
        have hj0 : (0 : Int) ≤ (j : Int) := by omega
        have hjn : (j : Int) < (n : Int) := by have := HN.out; omega
        have hjm : (j : Int) < (m : Int) := by have := HN.out; omega
        obtain ⟨a1, ha1, ca1⟩ := HC.out.1 j (by have := HN.out; omega)
        obtain ⟨a2, ha2, ca2⟩ := HC.out.2 j (by have := HN.out; omega)
        have hx1 := HS.out.1.byte j
        have hx2 := HS.out.2.byte j
        have hxo := u8_xor_nat _ _ hx1 hx2
        have hYk := HY.out (upT t j) ⟨j, hlt⟩ wr.drew (HJ.out _ _ _ none hJs ⟨rfl, rfl, rfl, Nat.le_refl _, fun _ _ _ => rfl⟩ (fun r e => by cases e)) (by rw [upT_length t j (by omega)]; exact hlt)
        rw [← upT_succ t j hlt] at hYk
        dsimp only [smv] at hYk
        obtain ⟨b1, hb1⟩ : ∃ b1, xs.getD j 0 = b1 := ⟨_, rfl⟩
        obtain ⟨b2, hb2⟩ : ∃ b2, ys.getD j 0 = b2 := ⟨_, rfl⟩
        rw [hb1, hb2] at hYk hxo
        rw [hb1] at ca1
        rw [hb2] at ca2
        obtain ⟨fn, tmps, assign, body, hy, hR⟩ := hYk
        subst ha1 ha2
        clear hb1 hb2 hx1 hx2 hJs h0
        have hmx : Tryz.prog.follows .mixedOrders = true := by kernel_rfl
        gi_wp2
        gi_cut [25] from 26 (fun s wc => ∃ b : Bool, s = .bool (!b) ∧ Hid ((b = true ∧ J (upT t (j + 1)) wc ∧ KeepsQ A B (some a1) (some a2) n m wr.drew wc) ∨ (b = false ∧ Jx (upT t (j + 1)) wc)))
        case first =>
          gi_region_with_o (refine hR.mono ?_; rintro e W3 hor; obtain ⟨b, rfl, hO⟩ := ret_two hor; clear hor)
          all_goals
            simp only [Exit.then, Act.put, List.getElem_toArray, List.getElem_cons_succ, List.getElem_cons_zero, List.setIfInBounds_toArray, List.set_cons_zero, List.set_cons_succ]
            gi_step
            gi_meet
            case rel => exact ⟨_, rfl, hO⟩
        case rest =>
          obtain ⟨b, rfl, hO⟩ := hcut
          cases b with
          | true =>
            have HZ : Hid (J (upT t (j + 1)) wc ∧ KeepsQ A B (some a1) (some a2) n m wr.drew wc) := by
              rcases hO.out with ⟨_, h⟩ | ⟨h, _⟩
              · exact h
              · cases h
            clear hO hy hR
            gi_wp2
            go_roundw
            case rel => exact ⟨j + 1, by omega, by go_num, HZ.out.1, HZ.out.2.1.1 _ (by rw [World.cell?_drew]; exact hca), HZ.out.2.2.1 _ (by rw [World.cell?_drew]; exact hcb), (⟨fun i hi => by obtain ⟨a, e, h⟩ := HC.out.1 i hi; exact ⟨a, e, HZ.out.2.1.2 a e i hi _ (by rw [World.cell?_drew]; exact h)⟩, fun i hi => by obtain ⟨a, e, h⟩ := HC.out.2 i hi; exact ⟨a, e, HZ.out.2.2.2 a e i hi _ (by rw [World.cell?_drew]; exact h)⟩⟩ : _ ∧ _)⟩
            case measure => simp [intOf]; omega
          | false =>
            have HZ : Hid (Jx (upT t (j + 1)) wc) := by
              rcases hO.out with ⟨h, _⟩ | ⟨_, h⟩
              · cases h
              · exact h
            clear hO hy hR
            gi_wp2
            refine bodyPost_ret (results_none rfl _ _ _) rfl ?_
            exact ⟨⟨_, rfl⟩, .inr ⟨_, trivial, HZ.out⟩⟩
      · obtain rfl : j = t := by omega
        have hji : ((j : Int) < (j : Int)) = False := eq_false (by omega)
        have HZ : Hid (J (upT j j) wr) := hJs
        clear hJs h0 HC
        gi_wp2
        go_end0
        exact ⟨⟨_, rfl⟩, .inl ⟨_, rfl, HZ.out⟩⟩
end Go.Proofs
