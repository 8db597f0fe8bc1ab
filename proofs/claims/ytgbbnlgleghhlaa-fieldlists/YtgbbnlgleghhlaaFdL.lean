/- The walks of a field's calls on lists: Each, Pairs, Dot. Conditions: lists of at most a thousand million bytes, no longer than their capacities; a field that Of has made, and lists that do not lie in its table. -/
import Derived.Test.YtgbbnlgleghhlaaFdLnP
import Derived.Deep.RegionHeld3
namespace Go.Proofs
open Go.RowKit Go.ChangeShapes Go.WideShapes

theorem Fd.tabled' {B T : Nat} {W W' : World} (h : Fd 1 B T W) (hm : Any T W') (hb : But (· = T) W W') : Fd 1 B T W' :=
  have hB : ¬ B = T := fun e => (h.tab rfl).2 e.symm
  ⟨h.k1, h.k3, (hb.cell (p := ⟨B, 0, none⟩) h.blt hB).trans h.num, (hb.cell (p := ⟨B, 1, none⟩) h.blt hB).trans h.way, fun e => ⟨hm, (h.tab e).2⟩, Nat.lt_of_lt_of_le h.lt hb.size⟩
theorem But.box {S : Nat → Prop} {w w1 : World} (o : Obj) (h : But S (w.alloc o) w1) : But S w w1 := ((But.refl S w).alloc o).trans h
theorem bleach_calls (a n c : Nat) (q : Option Addr) (xs : List Nat) (ha : a < 256) (hn : n ≤ 1000000000) (hnc : n ≤ c) (w : World) (hs : Bs w q n xs) :
    Calls Try.prog 102 #[.agg #[], .int .u8 a, .slice q n c] w fun e w' => ∃ v, e = .returned v ∧ Ow w' w.heap.size v (xs.map (Gf.mul a)) ∧ Below w.heap.size w w' :=
  (callsIn_wide (n := 3)).1 (bleach_in 3 (by omega) a n c q xs ha hn hnc w hs)
theorem blpairs_calls (n c d : Nat) (q p : Option Addr) (xs ys : List Nat) (hn : n ≤ 1000000000) (hnc : n ≤ c) (hnd : n ≤ d) (w : World) (hs : Bs w q n xs) (hs2 : Bs w p n ys) :
    Calls Try.prog 103 #[.agg #[], .slice q n c, .slice p n d] w fun e w' => ∃ v, e = .returned v ∧ Ow w' w.heap.size v (List.zipWith Gf.mul xs ys) ∧ Below w.heap.size w w' :=
  (callsIn_wide (n := 3)).1 (blpairs_in 3 (by omega) n c d q p xs ys hn hnc hnd w hs hs2)

set_option maxRecDepth 100000 in
set_option maxHeartbeats 1000000 in
theorem bteach_calls (T a n c : Nat) (q : Option Addr) (xs : List Nat) (ha : a < 256) (hn : n ≤ 1000000000) (w : World) (hT : Any T w) (hs : Bs w q n xs) (hq : Off T n q) :
    Calls Try.prog 85 #[.agg #[.pointer (some ⟨T, 0, none⟩)], .int .u8 a, .slice q n c] w fun e w' => ∃ v, e = .returned v ∧ Ow w' w.heap.size v (xs.map (Gf.mul a)) ∧ Any T w' ∧ But (· = T) w w' := by
  have hT' := hT.but ((But.refl (fun _ => False) w).alloc (.cells #[.pointer (some ⟨T, 0, none⟩)] 47)) id
  have hs' := hs.alloc (.cells #[.pointer (some ⟨T, 0, none⟩)] 47)
  go_enter Try.func85, Try.ntmps85
  go_wp2_with fail
  refine (feach1_calls T a n c q xs ha hn _ hT' hs' hq).mono ?_
  rintro e w1 ⟨v, rfl, hO, hA, hB⟩
  go_wp2
  go_ret
  exact ⟨_, rfl, hO.mono (by simp), hA, hB.box _⟩
set_option maxRecDepth 100000 in
set_option maxHeartbeats 1000000 in
theorem bseach_calls (a n c : Nat) (q : Option Addr) (xs : List Nat) (ha : a < 256) (hn : n ≤ 1000000000) (w : World) (hs : Bs w q n xs) :
    Calls Try.prog 92 #[.agg #[], .int .u8 a, .slice q n c] w fun e w' => ∃ v, e = .returned v ∧ Ow w' w.heap.size v (xs.map (Gf.mul a)) ∧ But (fun _ => False) w w' := by
  have hs' := hs.alloc (.cells #[] 53)
  go_enter Try.func92, Try.ntmps92
  go_wp2_with fail
  refine (feach2_calls a n c q xs ha hn _ hs').mono ?_
  rintro e w1 ⟨v, rfl, hO, hB⟩
  go_wp2
  go_ret
  exact ⟨_, rfl, hO.mono (by simp), hB.box _⟩
set_option maxRecDepth 100000 in
set_option maxHeartbeats 1000000 in
theorem btpairs_calls (T n c d : Nat) (q p : Option Addr) (xs ys : List Nat) (hn : n ≤ 1000000000) (w : World) (hT : Any T w) (hs : Bs w q n xs) (hs2 : Bs w p n ys) (hq : Off T n q) (hp : Off T n p) :
    Calls Try.prog 86 #[.agg #[.pointer (some ⟨T, 0, none⟩)], .slice q n c, .slice p n d] w fun e w' => ∃ v, e = .returned v ∧ Ow w' w.heap.size v (List.zipWith Gf.mul xs ys) ∧ Any T w' ∧ But (· = T) w w' := by
  have hT' := hT.but ((But.refl (fun _ => False) w).alloc (.cells #[.pointer (some ⟨T, 0, none⟩)] 47)) id
  have hs' := hs.alloc (.cells #[.pointer (some ⟨T, 0, none⟩)] 47)
  have hs2' := hs2.alloc (.cells #[.pointer (some ⟨T, 0, none⟩)] 47)
  go_enter Try.func86, Try.ntmps86
  go_wp2_with fail
  refine (fpairs1_calls T n c d q p xs ys hn _ hT' hs' hs2' hq hp).mono ?_
  rintro e w1 ⟨v, rfl, hO, hA, hB⟩
  go_wp2
  go_ret
  exact ⟨_, rfl, hO.mono (by simp), hA, hB.box _⟩
set_option maxRecDepth 100000 in
set_option maxHeartbeats 1000000 in
theorem bspairs_calls (n c d : Nat) (q p : Option Addr) (xs ys : List Nat) (hn : n ≤ 1000000000) (w : World) (hs : Bs w q n xs) (hs2 : Bs w p n ys) :
    Calls Try.prog 93 #[.agg #[], .slice q n c, .slice p n d] w fun e w' => ∃ v, e = .returned v ∧ Ow w' w.heap.size v (List.zipWith Gf.mul xs ys) ∧ But (fun _ => False) w w' := by
  have hs' := hs.alloc (.cells #[] 53)
  have hs2' := hs2.alloc (.cells #[] 53)
  go_enter Try.func93, Try.ntmps93
  go_wp2_with fail
  refine (fpairs2_calls n c d q p xs ys hn _ hs' hs2').mono ?_
  rintro e w1 ⟨v, rfl, hO, hB⟩
  go_wp2
  go_ret
  exact ⟨_, rfl, hO.mono (by simp), hB.box _⟩
theorem meach1 (T : Nat) (w : World) : (method 242 47 (.agg #[.pointer (some ⟨T, 0, none⟩)]) "erratum/field.each").run Try.prog w = .ok (85, .agg #[.pointer (some ⟨T, 0, none⟩)]) w := by kernel_rfl
theorem meach2 (w : World) : (method 242 53 (.agg #[]) "erratum/field.each").run Try.prog w = .ok (92, .agg #[]) w := by kernel_rfl
theorem meach3 (w : World) : (method 242 54 (.agg #[]) "erratum/field.each").run Try.prog w = .ok (102, .agg #[]) w := by kernel_rfl
theorem mpairs1 (T : Nat) (w : World) : (method 242 47 (.agg #[.pointer (some ⟨T, 0, none⟩)]) "erratum/field.pairs").run Try.prog w = .ok (86, .agg #[.pointer (some ⟨T, 0, none⟩)]) w := by kernel_rfl
theorem mpairs2 (w : World) : (method 242 53 (.agg #[]) "erratum/field.pairs").run Try.prog w = .ok (93, .agg #[]) w := by kernel_rfl
theorem mpairs3 (w : World) : (method 242 54 (.agg #[]) "erratum/field.pairs").run Try.prog w = .ok (103, .agg #[]) w := by kernel_rfl
set_option maxRecDepth 100000 in
set_option maxHeartbeats 1000000 in
theorem feach_calls (k B T a n c : Nat) (q : Option Addr) (xs : List Nat) (ha : a < 256) (hn : n ≤ 1000000000) (hnc : n ≤ c) (w : World) (h : Fd k B T w) (hs : Bs w q n xs) (hq : Off T n q) :
    Calls Try.prog 16 #[.pointer (some ⟨B, 0, none⟩), .int .u8 a, .slice q n c] w fun e w' => ∃ v, e = .returned v ∧ Ow w' w.heap.size v (xs.map (Gf.mul a)) ∧ Fd k B T w' ∧ But (· = T) w w' := by
  rcases way_lt h.k1 h.k3 with rfl | rfl | rfl
  · have hw : w.cell? ⟨B, 1, none⟩ = some (.iface 47 (.agg #[.pointer (some ⟨T, 0, none⟩)])) := h.way
    have hm := meach1 T
    go_enter Try.func16, Try.ntmps16
    go_wp2_with fail
    refine (bteach_calls T a n c q xs ha hn _ (h.tab rfl).1 hs hq).mono ?_
    rintro e w1 ⟨v, rfl, hO, hA, hB⟩
    go_wp2
    go_ret
    exact ⟨_, rfl, hO, h.tabled' hA hB, hB⟩
  · have hw : w.cell? ⟨B, 1, none⟩ = some (.iface 53 (.agg #[])) := h.way
    have hm := meach2
    go_enter Try.func16, Try.ntmps16
    go_wp2_with fail
    refine (bseach_calls a n c q xs ha hn _ hs).mono ?_
    rintro e w1 ⟨v, rfl, hO, hB⟩
    go_wp2
    go_ret
    exact ⟨_, rfl, hO, h.but hB id id, hB.mono (fun _ => False.elim)⟩
  · have hw : w.cell? ⟨B, 1, none⟩ = some (.iface 54 (.agg #[])) := h.way
    have hm := meach3
    go_enter Try.func16, Try.ntmps16
    go_wp2_with fail
    refine (bleach_calls a n c q xs ha hn hnc _ hs).mono ?_
    rintro e w1 ⟨v, rfl, hO, hB⟩
    go_wp2
    go_ret
    exact ⟨_, rfl, hO, h.below hB, But.of_below hB⟩

theorem bs_take {W : World} {q : Option Addr} {n : Nat} {xs : List Nat} (h : Bs W q n xs) (k : Nat) (hk : k ≤ n) : Bs W q k (xs.take k) := by
  refine ⟨by rw [List.length_take, h.len]; omega, Nat.le_trans hk h.max, fun i hi => ?_, fun i => ?_⟩
  · obtain ⟨a, e, hl, hc⟩ := h.cell i (by omega)
    refine ⟨a, e, hl, ?_⟩
    rw [hc]
    simp [List.getD, hi]
  · by_cases hi : i < k
    · have := h.byte i
      simpa [List.getD, hi] using this
    · simp [List.getD, List.getElem?_take, hi]
theorem zip_take (xs ys : List Nat) (k : Nat) (hk : k = min xs.length ys.length) : List.zipWith Gf.mul (xs.take k) (ys.take k) = List.zipWith Gf.mul xs ys := by
  apply List.ext_getElem?
  intro i
  simp only [List.getElem?_zipWith, List.getElem?_take]
  by_cases hi : i < k
  · simp [hi]
  · rcases (by omega : xs.length ≤ i ∨ ys.length ≤ i) with h | h
    · simp [hi, List.getElem?_eq_none h]
    · simp [hi, List.getElem?_eq_none h]
set_option maxRecDepth 100000 in
set_option maxHeartbeats 1000000 in
theorem fpairs_calls (k B T n m c d : Nat) (q p : Option Addr) (xs ys : List Nat) (hn : n ≤ 1000000000) (hm : m ≤ 1000000000) (hnc : n ≤ c) (hmd : m ≤ d) (w : World) (h : Fd k B T w) (hs : Bs w q n xs) (hs2 : Bs w p m ys) (hq : Off T n q) (hp : Off T m p) :
    Calls Try.prog 15 #[.pointer (some ⟨B, 0, none⟩), .slice q n c, .slice p m d] w fun e w' => ∃ v, e = .returned v ∧ Ow w' w.heap.size v (List.zipWith Gf.mul xs ys) ∧ Fd k B T w' ∧ But (· = T) w w' := by
  have hL1 := hs.len
  have hL2 := hs2.len
  obtain ⟨z, hz⟩ : ∃ z, z = min n m := ⟨_, rfl⟩
  have e1 := bs_take hs z (by omega)
  have e2 := bs_take hs2 z (by omega)
  rw [← zip_take xs ys z (by omega)]
  obtain ⟨us, hus⟩ : ∃ us, xs.take z = us := ⟨_, rfl⟩
  obtain ⟨vs, hvs⟩ : ∃ vs, ys.take z = vs := ⟨_, rfl⟩
  rw [hus] at e1
  rw [hvs] at e2
  rw [hus, hvs]
  clear hus hvs hL1 hL2 hs hs2
  have hcase : (z = n ∧ n ≤ m) ∨ (z = m ∧ m < n) := by omega
  have HS : Hid (Bs w q z us ∧ Bs w p z vs ∧ Off T z q ∧ Off T z p) := ⟨e1, e2, hq.le (by omega), hp.le (by omega)⟩
  have HFd : Hid (Fd k B T w) := h
  clear hz e1 e2 hq hp
  rcases way_lt h.k1 h.k3 with rfl | rfl | rfl
  · have hw : w.cell? ⟨B, 1, none⟩ = some (.iface 47 (.agg #[.pointer (some ⟨T, 0, none⟩)])) := h.way
    have hmm := mpairs1 T
    go_enter Try.func15, Try.ntmps15
    clear h
    rcases hcase with ⟨rfl, hc⟩ | ⟨rfl, hc⟩
    all_goals
      have hi1 : (z : Int) ≤ (c : Int) := by omega
      have hi2 : (z : Int) ≤ (d : Int) := by omega
      go_wp2
      go_region_held3 (fun w' => w'.cell? ⟨B, 1, none⟩ = some (.iface 47 (.agg #[.pointer (some ⟨T, 0, none⟩)])))
        (first | exact hw1 | (go_keep; done))
        (first | (go_at_call 86; refine (btpairs_calls T z c d q p us vs (by omega) _ (HFd.out.drew.tab rfl).1 HS.out.1.drew HS.out.2.1.drew HS.out.2.2.1 HS.out.2.2.2).mono ?_; rintro e w1 ⟨v, rfl, hO, hA, hB⟩; have hw1 := (HFd.out.drew.tabled' hA hB).way))
      go_wp2
      go_ret
      exact ⟨_, rfl, hO, HFd.out.drew.tabled' hA hB, (But.refl _ w).drew.trans hB⟩
  · have hw : w.cell? ⟨B, 1, none⟩ = some (.iface 53 (.agg #[])) := h.way
    have hmm := mpairs2
    go_enter Try.func15, Try.ntmps15
    clear h
    rcases hcase with ⟨rfl, hc⟩ | ⟨rfl, hc⟩
    all_goals
      have hi1 : (z : Int) ≤ (c : Int) := by omega
      have hi2 : (z : Int) ≤ (d : Int) := by omega
      go_wp2
      go_region_held3 (fun w' => w'.cell? ⟨B, 1, none⟩ = some (.iface 53 (.agg #[])))
        (first | exact hw1 | (go_keep; done))
        (first | (go_at_call 93; refine (bspairs_calls z c d q p us vs (by omega) _ HS.out.1.drew HS.out.2.1.drew).mono ?_; rintro e w1 ⟨v, rfl, hO, hB⟩; have hw1 := (HFd.out.drew.but hB id id).way))
      go_wp2
      go_ret
      exact ⟨_, rfl, hO, HFd.out.drew.but hB id id, (But.refl _ w).drew.trans (hB.mono (fun _ => False.elim))⟩
  · have hw : w.cell? ⟨B, 1, none⟩ = some (.iface 54 (.agg #[])) := h.way
    have hmm := mpairs3
    go_enter Try.func15, Try.ntmps15
    clear h
    rcases hcase with ⟨rfl, hc⟩ | ⟨rfl, hc⟩
    all_goals
      have hi1 : (z : Int) ≤ (c : Int) := by omega
      have hi2 : (z : Int) ≤ (d : Int) := by omega
      go_wp2
      go_region_held3 (fun w' => w'.cell? ⟨B, 1, none⟩ = some (.iface 54 (.agg #[])))
        (first | exact hw1 | (go_keep; done))
        (first | (go_at_call 103; refine (blpairs_calls z c d q p us vs (by omega) (by omega) (by omega) _ HS.out.1.drew HS.out.2.1.drew).mono ?_; rintro e w1 ⟨v, rfl, hO, hB⟩; have hw1 := (HFd.out.drew.below hB).way))
      go_wp2
      go_ret
      exact ⟨_, rfl, hO, HFd.out.drew.below hB, (But.refl _ w).drew.trans (But.of_below hB)⟩

/-- All bytes XORed. -/
def xsum (l : List Nat) : Nat := l.foldl (· ^^^ ·) 0
theorem xsum_snoc (l : List Nat) (x : Nat) : xsum (l ++ [x]) = xsum l ^^^ x := by simp [xsum]
theorem xsum_lt (l : List Nat) (h : ∀ i, l.getD i 0 < 256) (k : Nat) : xsum (l.take k) < 256 := by
  induction k with
  | zero => simp [xsum]
  | succ k ih =>
    by_cases hk : k < l.length
    · have e : l.take (k + 1) = l.take k ++ [l.getD k 0] := by
        rw [List.take_add_one, List.getElem?_eq_getElem hk]
        simp [List.getD, hk]
      rw [e, xsum_snoc]
      exact Gf.xor_lt8 ih (h k)
    · have e : l.take (k + 1) = l.take k := by rw [List.take_of_length_le (by omega), List.take_of_length_le (by omega)]
      rw [e]; exact ih
theorem take_snoc (l : List Nat) (k : Nat) (hk : k < l.length) : l.take (k + 1) = l.take k ++ [l.getD k 0] := by
  rw [List.take_add_one, List.getElem?_eq_getElem hk]
  simp [List.getD, hk]
theorem zip_byte (xs ys : List Nat) (hx : ∀ i, xs.getD i 0 < 256) (i : Nat) : (List.zipWith Gf.mul xs ys).getD i 0 < 256 := by
  have h1 := hx i
  simp only [List.getD, List.getElem?_zipWith] at h1 ⊢
  cases h2 : xs[i]? with
  | none => simp
  | some a =>
    cases h3 : ys[i]? with
    | none => simp
    | some b =>
      rw [h2] at h1
      exact Gf.mul_lt a b h1
theorem map_byte (a : Nat) (xs : List Nat) (ha : a < 256) (i : Nat) : (xs.map (Gf.mul a)).getD i 0 < 256 := by
  simp only [List.getD, List.getElem?_map]
  cases xs[i]? with
  | none => simp
  | some b => exact Gf.mul_lt a b ha
set_option maxRecDepth 100000 in
set_option maxHeartbeats 1000000 in
theorem fdot_calls (k B T n m c d : Nat) (q p : Option Addr) (xs ys : List Nat) (hn : n ≤ 1000000000) (hm : m ≤ 1000000000) (hnc : n ≤ c) (hmd : m ≤ d) (w : World) (h : Fd k B T w) (hs : Bs w q n xs) (hs2 : Bs w p m ys) (hq : Off T n q) (hp : Off T m p) :
    Calls Try.prog 17 #[.pointer (some ⟨B, 0, none⟩), .slice q n c, .slice p m d] w fun e w' => e = .returned (.int .u8 (xsum (List.zipWith Gf.mul xs ys) : Nat)) ∧ Fd k B T w' ∧ But (· = T) w w' := by
  have hby := zip_byte xs ys hs.byte
  obtain ⟨zs, hzs⟩ : ∃ zs, List.zipWith Gf.mul xs ys = zs := ⟨_, rfl⟩
  have K := fpairs_calls k B T n m c d q p xs ys hn hm hnc hmd w h hs hs2 hq hp
  rw [hzs] at hby K
  rw [hzs]
  clear hzs
  go_enter Try.func17, Try.ntmps17
  go_wp2_with fail
  refine K.mono ?_
  rintro e w1 ⟨v, rfl, hO, hF, hB⟩
  obtain ⟨qv, cv, rfl, hb⟩ := hO.bs hby
  have HB : Hid (Bs w1 qv zs.length zs ∧ Fd k B T w1 ∧ But (· = T) w w1) := ⟨hb, hF, hB⟩
  have hmax := hb.max
  clear K hO hF hB hb h hs hs2 hq hp
  obtain ⟨L, hL⟩ : ∃ L, zs.length = L := ⟨_, rfl⟩
  rw [hL] at HB hmax
  rw [hL]
  have HL : Hid (zs.length = L) := hL
  have HY : Hid (∀ i, zs.getD i 0 < 256) := hby
  clear hL hby
  go_wp2
  go_loopw [7, 15] (fun s i wr => ∃ k : Nat, k ≤ L ∧ i = .int .i64 (k : Int) ∧ s = .int .u8 (xsum (zs.take k) : Nat) ∧ wr = w1) (fun _ i _ => L - (intOf i).toNat)
  case atStart => exact ⟨0, by omega, rfl, rfl, rfl⟩
  case round =>
    obtain ⟨j, hj, rfl, rfl, rfl⟩ := hrel
    by_cases hlt : j < L
    · have hi : (j : Int) < (L : Int) := by omega
      obtain ⟨a, rfl, la, ca⟩ := HB.out.1.cell j hlt
      have HT : Hid (xsum (zs.take (j + 1)) = xsum (zs.take j) ^^^ zs.getD j 0) := by
        show xsum (zs.take (j + 1)) = _
        rw [take_snoc zs j (by rw [HL.out]; exact hlt), xsum_snoc]
      have h1 := xsum_lt zs HY.out j
      have h2 := HY.out j
      obtain ⟨x, hx⟩ : ∃ x, xsum (zs.take j) = x := ⟨_, rfl⟩
      obtain ⟨y, hy⟩ : ∃ y, zs.getD j 0 = y := ⟨_, rfl⟩
      rw [hx] at HT h1
      rw [hy] at HT h2 ca
      rw [hx]
      have hxor := u8_xor_nat x y h1 h2
      clear hx hy
      go_wp2
      go_roundw
      case rel => exact ⟨j + 1, by omega, by go_num, by rw [HT.out], by trivial⟩
      case measure => simp [intOf]; omega
    · have e8 : j = L := by omega
      subst e8
      have he : zs.take j = zs := List.take_of_length_le (by rw [HL.out]; exact Nat.le_refl _)
      rw [he]
      go_wp2
      go_ret
      exact ⟨rfl, HB.out.2⟩
end Go.Proofs
