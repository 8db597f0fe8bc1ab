/- The walks of field.eachBy and field.pairsBy, at a table's Mul and at shift.Mul. Conditions: bytes; lists of at most a thousand million; a table that is new or made. -/
import Derived.Test.YtphhehppcfddgaaGreatFd
import Derived.Test.YtphhehppcfddgaaGreatOwn
namespace Go.Proofs
open Go.RowKit Go.ChangeShapes Go.WideShapes

theorem Any.lt {B : Nat} {W : World} (h : Any B W) : B < W.heap.size := h.elim (·.tb.lt) (·.tb.lt)
/-- A list does not lie in block T. -/
def Off (T n : Nat) (q : Option Addr) : Prop := 0 < n → ∀ a, q = some a → ¬ a.block = T
theorem Off.le {T n m : Nat} {q : Option Addr} (h : Off T n q) (hm : m ≤ n) : Off T m q := fun h0 => h (by omega)
theorem Bs.but {T : Nat} {W W' : World} {q : Option Addr} {n : Nat} {xs : List Nat} (h : Bs W q n xs) (hb : But (· = T) W W') (hs : Off T n q) : Bs W' q n xs :=
  ⟨h.len, h.max, fun i hi => by
    obtain ⟨a, e, hl, hc⟩ := h.cell i hi
    exact ⟨a, e, Nat.lt_of_lt_of_le hl hb.size, (hb.cell (p := a.add i) (by rw [block_add]; exact hl) (by rw [block_add]; exact hs (by omega) a e)).trans hc⟩, h.byte⟩
theorem Bs.off {W : World} {q : Option Addr} {n T : Nat} {xs : List Nat} (h : Bs W q n xs) (hT : W.heap.size ≤ T) : Off T n q := fun h0 a e => by
  obtain ⟨b, e', hl, _⟩ := h.cell 0 h0
  obtain rfl : b = a := Option.some.inj (e'.symm.trans e)
  omega
/-- A list that was told: it reads, it has room, and it lies in no block ahead of those that its call made. -/
theorem Ow.told {W : World} {base : Nat} {v : Value} {xs : List Nat} (h : Ow W base v xs) (hx : ∀ i, xs.getD i 0 < 256) : ∃ q c, v = .slice q xs.length c ∧ Bs W q xs.length xs ∧ xs.length ≤ c ∧ ∀ T, T < base → Off T xs.length q := by
  obtain ⟨q, c, e, hb⟩ := h.bs hx
  rcases h.shape with ⟨rfl, rfl⟩ | ⟨g, cap, rfl, h1, _, h3, _⟩
  · cases e
    exact ⟨none, 0, rfl, hb, Nat.le_refl _, fun _ _ h0 => absurd h0 (Nat.lt_irrefl 0)⟩
  · cases e
    refine ⟨_, _, rfl, hb, h3, fun T hT _ a e => ?_⟩
    cases e
    show ¬ g = T
    omega
theorem Ow.but {S : Nat → Prop} {W W' : World} {base : Nat} {v : Value} {xs : List Nat} (h : Ow W base v xs) (hb : But S W W') (hs : ∀ k, base ≤ k → ¬ S k) : Ow W' base v xs :=
  h.block fun k hk => hb.block k (h.lt k hk).2 (hs k (h.lt k hk).1)
/-- The first k of f, and noughts up to n. -/
def fk (f : Nat → Nat) (n k : Nat) : List Nat := (List.range k).map f ++ List.replicate (n - k) 0
theorem fk_length (f : Nat → Nat) (n k : Nat) (hk : k ≤ n) : (fk f n k).length = n := by simp [fk]; omega
theorem fk_zero (f : Nat → Nat) (n : Nat) : fk f n 0 = List.replicate n 0 := by simp [fk]
theorem fk_all (f : Nat → Nat) (n : Nat) : fk f n n = (List.range n).map f := by simp [fk]
theorem fk_set (f : Nat → Nat) (n k : Nat) (hk : k < n) : (fk f n k).set k (f k) = fk f n (k + 1) := by
  apply List.ext_getElem?
  intro i
  by_cases hi : i < n
  · rw [List.getElem?_set]
    by_cases e : k = i
    · subst e
      rw [if_pos rfl, if_pos (by rw [fk_length f n k (by omega)]; exact hk)]
      simp [fk, List.getElem?_append]
    · rw [if_neg e]
      unfold fk
      rw [List.getElem?_append, List.getElem?_append]
      simp only [List.length_map, List.length_range, List.getElem?_map, List.getElem?_replicate]
      by_cases h1 : i < k
      · have h2 : i < k + 1 := by omega
        simp [h1, h2]
      · have h2 : ¬ i < k + 1 := by omega
        have h3 : i - k < n - k := by omega
        have h4 : i - (k + 1) < n - (k + 1) := by omega
        rw [if_neg h1, if_neg h2, if_pos h3, if_pos h4]
  · rw [List.getElem?_eq_none (by rw [List.length_set, fk_length f n k (by omega)]; omega), List.getElem?_eq_none (by rw [fk_length f n (k + 1) (by omega)]; omega)]
theorem range_map (f : Nat → Nat) (xs : List Nat) : (List.range xs.length).map (fun i => f (xs.getD i 0)) = xs.map f := by
  apply List.ext_getElem?
  intro i
  simp only [List.getElem?_map]
  by_cases h : i < xs.length
  · simp [h, List.getD]
  · simp [h]
theorem range_zip (f : Nat → Nat → Nat) (xs ys : List Nat) (h : xs.length = ys.length) : (List.range xs.length).map (fun i => f (xs.getD i 0) (ys.getD i 0)) = List.zipWith f xs ys := by
  apply List.ext_getElem?
  intro i
  simp only [List.getElem?_map, List.getElem?_zipWith]
  by_cases h1 : i < xs.length
  · have h2 : i < ys.length := by omega
    simp [h1, h2, List.getD]
  · have h2 : ¬ i < ys.length := by omega
    simp [h1, h2]

set_option maxRecDepth 100000 in
set_option maxHeartbeats 2000000 in
theorem feach1_calls (T a n c : Nat) (q : Option Addr) (xs : List Nat) (ha : a < 256) (hn : n ≤ 1000000000) (w : World) (hT : Any T w) (h1 : Bs w q n xs) (hq : Off T n q) :
    Calls Tryz.prog 97 #[.func (.func 98) #[.pointer (some ⟨T, 0, none⟩)] #[], .int .u8 a, .slice q n c] w fun e w' => ∃ v, e = .returned v ∧ Ow w' w.heap.size v (xs.map (Gf.mul a)) ∧ Any T w' ∧ But (· = T) w w' := by
  have HA : Hid (a < 256) := ha
  have HS : Hid (Bs w q n xs) := h1
  have HQ : Hid (Off T n q) := hq
  have HT : Hid (Any T w) := hT
  have hTl := hT.lt
  have HO : Hid ((List.range n).map (fun i => Gf.mul a (xs.getD i 0)) = xs.map (Gf.mul a)) := by
    show (List.range n).map _ = _
    rw [← h1.len]; exact range_map (Gf.mul a) xs
  have hmk := make_bytes n (by omega)
  clear h1 hq hT
  go_enter Tryz.func97, Tryz.ntmps97
  go_wp2
  clear hmk
  go_loopw [15] (fun i wr => ∃ k : Nat, k ≤ n ∧ i = .int .i64 (k : Int) ∧ Ow wr w.heap.size (.slice (some ⟨w.heap.size, 0, none⟩) n n) (fk (fun i => Gf.mul a (xs.getD i 0)) n k) ∧ Any T wr ∧ But (· = T) w wr) (fun i _ => n - (intOf i).toNat)
  case atStart =>
    refine ⟨0, by omega, rfl, ?_, HT.out.but ((But.refl (fun _ => False) w).alloc _) id, (But.refl _ w).alloc _⟩
    rw [fk_zero]
    exact ow_made w (Nat.le_refl _) n (by omega)
  case round =>
    obtain ⟨k, hk, rfl, hO, hA, hB⟩ := hrel
    by_cases hlt : k < n
    · have hi : (k : Int) < (n : Int) := by omega
      obtain ⟨a1, e1, la, ca⟩ := HS.out.cell k hlt
      have nq : ¬ (· = T) a1.block := HQ.out (by omega) a1 e1
      have c1 := (hB.cell (p := a1.add k) (by rw [block_add]; exact la) (by first | exact id | (rw [block_add]; exact nq))).trans ca
      have bx := HS.out.byte k
      subst e1
      have HSt := fk_set (fun i => Gf.mul a (xs.getD i 0)) n k hlt
      (try dsimp only at HSt)
      obtain ⟨x, hx⟩ : ∃ x, xs.getD k 0 = x := ⟨_, rfl⟩
      rw [hx] at c1 bx HSt
      have HSet : Hid ((fk (fun i => Gf.mul a (xs.getD i 0)) n k).set k (Gf.mul a x) = fk (fun i => Gf.mul a (xs.getD i 0)) n (k + 1)) := HSt
      have HW : Hid (Ow wr w.heap.size (.slice (some ⟨w.heap.size, 0, none⟩) n n) (fk (fun i => Gf.mul a (xs.getD i 0)) n k) ∧ But (· = T) w wr) := ⟨hO, hB⟩
      clear HSt hx ca la nq hO hB
      go_wp2_with fail
      refine (tmul_e T a x _ HA.out bx rfl _ hA).mono ?_
      rintro e w1 ⟨rfl, hM, hb⟩
      clear hA
      have hO := HW.out.1.but hb (fun k hk e => by omega)
      have hB := HW.out.2.trans hb
      have HW2 : Hid (Ow w1 w.heap.size (.slice (some ⟨w.heap.size, 0, none⟩) n n) (fk (fun i => Gf.mul a (xs.getD i 0)) n k) ∧ But (· = T) w w1) := ⟨hO, hB⟩
      obtain ⟨hc, hf⟩ := hO.at (by rw [fk_length _ n k hk]) k hlt
      have HMd : Hid (Any T w1) := .inr hM
      clear hM
      clear hO hB hb HW
      go_wp2
      go_roundw
      case rel =>
        refine ⟨k + 1, by omega, by go_num, ?_, HMd.out.but ((But.refl (fun k => k = w.heap.size) w1).setCell (p := ⟨w.heap.size, k, none⟩) (.inl rfl) _) (by omega), HW2.out.2.setCell (p := ⟨w.heap.size, k, none⟩) (.inr (by simp)) _⟩
        rw [← HSet.out]
        exact HW2.out.1.set (by rw [fk_length _ n k hk]) k _
      case measure => simp [intOf]; omega
    · have e8 : k = n := by omega
      subst e8
      rw [fk_all, HO.out] at hO
      have HW : Hid (Ow wr w.heap.size (.slice (some ⟨w.heap.size, 0, none⟩) k k) (xs.map (Gf.mul a)) ∧ Any T wr ∧ But (· = T) w wr) := ⟨hO, hA, hB⟩
      clear hO hB hA
      go_wp2
      go_ret
      exact ⟨_, rfl, HW.out⟩


set_option maxRecDepth 100000 in
set_option maxHeartbeats 2000000 in
theorem feach2_calls (a n c : Nat) (q : Option Addr) (xs : List Nat) (ha : a < 256) (hn : n ≤ 1000000000) (w : World) (h1 : Bs w q n xs) :
    Calls Tryz.prog 97 #[.func (.func 64) #[] #[], .int .u8 a, .slice q n c] w fun e w' => ∃ v, e = .returned v ∧ Ow w' w.heap.size v (xs.map (Gf.mul a)) ∧ But (fun _ => False) w w' := by
  have HA : Hid (a < 256) := ha
  have HS : Hid (Bs w q n xs) := h1
  have HO : Hid ((List.range n).map (fun i => Gf.mul a (xs.getD i 0)) = xs.map (Gf.mul a)) := by
    show (List.range n).map _ = _
    rw [← h1.len]; exact range_map (Gf.mul a) xs
  have hmk := make_bytes n (by omega)
  clear h1
  go_enter Tryz.func97, Tryz.ntmps97
  go_wp2
  clear hmk
  go_loopw [15] (fun i wr => ∃ k : Nat, k ≤ n ∧ i = .int .i64 (k : Int) ∧ Ow wr w.heap.size (.slice (some ⟨w.heap.size, 0, none⟩) n n) (fk (fun i => Gf.mul a (xs.getD i 0)) n k) ∧ But (fun _ => False) w wr) (fun i _ => n - (intOf i).toNat)
  case atStart =>
    refine ⟨0, by omega, rfl, ?_, (But.refl _ w).alloc _⟩
    rw [fk_zero]
    exact ow_made w (Nat.le_refl _) n (by omega)
  case round =>
    obtain ⟨k, hk, rfl, hO, hB⟩ := hrel
    by_cases hlt : k < n
    · have hi : (k : Int) < (n : Int) := by omega
      obtain ⟨a1, e1, la, ca⟩ := HS.out.cell k hlt
      have nq : ¬ (fun _ => False) a1.block := id
      have c1 := (hB.cell (p := a1.add k) (by rw [block_add]; exact la) (by first | exact id | (rw [block_add]; exact nq))).trans ca
      have bx := HS.out.byte k
      subst e1
      have HSt := fk_set (fun i => Gf.mul a (xs.getD i 0)) n k hlt
      (try dsimp only at HSt)
      obtain ⟨x, hx⟩ : ∃ x, xs.getD k 0 = x := ⟨_, rfl⟩
      rw [hx] at c1 bx HSt
      have HSet : Hid ((fk (fun i => Gf.mul a (xs.getD i 0)) n k).set k (Gf.mul a x) = fk (fun i => Gf.mul a (xs.getD i 0)) n (k + 1)) := HSt
      have HW : Hid (Ow wr w.heap.size (.slice (some ⟨w.heap.size, 0, none⟩) n n) (fk (fun i => Gf.mul a (xs.getD i 0)) n k) ∧ But (fun _ => False) w wr) := ⟨hO, hB⟩
      clear HSt hx ca la nq hO hB
      go_wp2_with fail
      refine (mul_e a x _ HA.out bx rfl _).mono ?_
      rintro e w1 ⟨rfl, hb0⟩
      have hb : But (fun _ => False) wr w1 := But.of_below hb0
      clear hb0
      have hO := HW.out.1.but hb (fun _ _ => id)
      have hB := HW.out.2.trans hb
      have HW2 : Hid (Ow w1 w.heap.size (.slice (some ⟨w.heap.size, 0, none⟩) n n) (fk (fun i => Gf.mul a (xs.getD i 0)) n k) ∧ But (fun _ => False) w w1) := ⟨hO, hB⟩
      obtain ⟨hc, hf⟩ := hO.at (by rw [fk_length _ n k hk]) k hlt
      skip
      clear hO hB hb HW
      go_wp2
      go_roundw
      case rel =>
        refine ⟨k + 1, by omega, by go_num, ?_, HW2.out.2.setCell (p := ⟨w.heap.size, k, none⟩) (.inr (by simp)) _⟩
        rw [← HSet.out]
        exact HW2.out.1.set (by rw [fk_length _ n k hk]) k _
      case measure => simp [intOf]; omega
    · have e8 : k = n := by omega
      subst e8
      rw [fk_all, HO.out] at hO
      have HW : Hid (Ow wr w.heap.size (.slice (some ⟨w.heap.size, 0, none⟩) k k) (xs.map (Gf.mul a)) ∧ But (fun _ => False) w wr) := ⟨hO, hB⟩
      clear hO hB
      go_wp2
      go_ret
      exact ⟨_, rfl, HW.out⟩

end Go.Proofs
