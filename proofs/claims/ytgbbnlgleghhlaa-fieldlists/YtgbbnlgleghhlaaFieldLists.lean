/- FieldLists holds for every input: bytes of lists are multiplied each for itself: a list parted anywhere is multiplied in parts; sums go with products. No conditions. -/
import Derived.Test.YtgbbnlgleghhlaaRows
import Derived.Test.YtgbbnlgleghhlaaNums
import Derived.Test.YtgbbnlgleghhlaaCaps
import Derived.Test.YtgbbnlgleghhlaaKnown04
import Derived.Test.YtgbbnlgleghhlaaRefSame
import Derived.Test.YtgbbnlgleghhlaaTold
namespace Go.Proofs.Ytgbbnlgleghhlaa.fieldLists
open Go.ChangeShapes Go.WideShapes Go.ChangeAt Go.RowKit
attribute [local go_sem ↓ high] builtin_ap
attribute [local go_sem] ap_sem

theorem xsum_foldl (l : List Nat) : ∀ a, l.foldl (· ^^^ ·) a = a ^^^ xsum l := by
  induction l with
  | nil => intro a; simp [xsum]
  | cons x l ih =>
    intro a
    show l.foldl (· ^^^ ·) (a ^^^ x) = a ^^^ l.foldl (· ^^^ ·) (0 ^^^ x)
    rw [ih, ih, Nat.zero_xor, Nat.xor_assoc]
theorem xsum_append (l m : List Nat) : xsum (l ++ m) = xsum l ^^^ xsum m := by
  unfold xsum
  rw [List.foldl_append, xsum_foldl m]
  rfl
theorem xsum_map (a : Nat) (l : List Nat) : xsum (l.map (Gf.mul a)) = Gf.mul a (xsum l) := by
  induction l with
  | nil => exact (Gf.mul_zero a).symm
  | cons x l ih =>
    have e1 : xsum (x :: l) = x ^^^ xsum l := by show l.foldl (· ^^^ ·) (0 ^^^ x) = _; rw [xsum_foldl, Nat.zero_xor]
    have e2 : xsum ((x :: l).map (Gf.mul a)) = Gf.mul a x ^^^ xsum (l.map (Gf.mul a)) := by show (l.map (Gf.mul a)).foldl (· ^^^ ·) (0 ^^^ Gf.mul a x) = _; rw [xsum_foldl, Nat.zero_xor]
    rw [e1, e2, ih, Gf.mul_xor_right]
theorem zip_front (xs ys : List Nat) (K : Nat) : List.zipWith Gf.mul (xs.take K) ys = (List.zipWith Gf.mul xs ys).take K := by
  apply List.ext_getElem?
  intro i
  simp only [List.getElem?_zipWith, List.getElem?_take]
  by_cases hi : i < K
  · simp [hi]
  · simp [hi]
theorem zip_both (xs ys : List Nat) (K : Nat) : List.zipWith Gf.mul (xs.take K) (ys.take K) = (List.zipWith Gf.mul xs ys).take K := by
  apply List.ext_getElem?
  intro i
  simp only [List.getElem?_zipWith, List.getElem?_take]
  by_cases hi : i < K
  · simp [hi]
  · simp [hi]
theorem zip_back (xs ys : List Nat) (K N : Nat) (hN : N = min xs.length ys.length) (hK : K ≤ N) : List.zipWith Gf.mul ((List.range (N - K)).map fun i => xs.getD (K + i) 0) ((List.range (N - K)).map fun i => ys.getD (K + i) 0) = (List.zipWith Gf.mul xs ys).drop K := by
  apply List.ext_getElem?
  intro i
  simp only [List.getElem?_zipWith, List.getElem?_map, List.getElem?_drop]
  by_cases hi : i < N - K
  · have h1 : K + i < xs.length := by omega
    have h2 : K + i < ys.length := by omega
    simp [hi, h1, h2, List.getD]
  · rcases (by omega : xs.length ≤ K + i ∨ ys.length ≤ K + i) with h | h
    · simp [hi, List.getElem?_eq_none h]
    · simp [hi, List.getElem?_eq_none h]
theorem zip_map (a : Nat) (xs ys : List Nat) (ha : a < 256) (hx : ∀ i, xs.getD i 0 < 256) (hy : ∀ i, ys.getD i 0 < 256) : List.zipWith Gf.mul (xs.map (Gf.mul a)) ys = (List.zipWith Gf.mul xs ys).map (Gf.mul a) := by
  apply List.ext_getElem?
  intro i
  have h1 := hx i
  have h2 := hy i
  simp only [List.getElem?_zipWith, List.getElem?_map, List.getD] at h1 h2 ⊢
  cases e1 : xs[i]? with
  | none => simp
  | some x =>
    cases e2 : ys[i]? with
    | none => simp
    | some y =>
      rw [e1] at h1
      rw [e2] at h2
      simp only [Option.map_some, Option.getD_some] at h1 h2 ⊢
      rw [Gf.mul_assoc a x y ha h1 h2]
/-- A part of a list that is read, however it came. -/
theorem bs_sub {W : World} {q : Option Addr} {n : Nat} {xs : List Nat} (h : Bs W q n xs) (c K N : Nat) (hK : K ≤ N) (hN : N ≤ n) (hc : n ≤ c) : Bs W (if c = K then q else q.map (fun x => x.add K)) (N - K) ((List.range (N - K)).map fun i => xs.getD (K + i) 0) := by
  by_cases h0 : N - K = 0
  · rw [h0]
    exact ⟨rfl, by omega, fun i hi => absurd hi (Nat.not_lt_zero i), fun i => by simp⟩
  · rw [if_neg (by omega)]
    obtain ⟨a, rfl, _⟩ := h.cell 0 (by omega)
    exact bs_part h a rfl K (N - K) (by omega)
theorem off_sub {T n : Nat} {q : Option Addr} (h : Off T n q) (c K N : Nat) (hN : N ≤ n) : Off T (N - K) (if c = K then q else q.map (fun x => x.add K)) := by
  intro h0 a e
  split at e
  · exact h (by omega) a e
  · cases q with
    | none => cases e
    | some b =>
      cases e
      rw [block_add]
      exact h (by omega) b rfl

theorem run_append_none (W : World) (base : Nat) (v : Value) (xs : List Nat) (c : Nat) (hown : Ow W base v xs) :
    (Builtin.append_ #[22, 22] 22 #[v, .slice none 0 c]).run Try.prog W = .ok v W := by
  obtain ⟨i, hi, hz, hsz, hby⟩ := info_parts info_u8
  have ht := Try.underlying22
  rcases hown.2 with ⟨rfl, _⟩ | ⟨g, cap, cur, rfl, _, hgb, hle, _⟩
  · simp [Builtin.append_, run_underlying ht, sizeOf, typeInfo, hi, Builtin.lenOf, Builtin.firstCells]
  · simp [Builtin.append_, run_underlying ht, sizeOf, typeInfo, hi, Builtin.lenOf, Builtin.firstCells, hle, storeCells]
theorem run_append_list (W : World) (base : Nat) (v : Value) (xs : List Nat) (q : Option Addr) (n c : Nat) (ys : List Nat) (hown : Ow W base v xs) (hs : Bs W q n ys) (hn : xs.length + n ≤ 10000000000) (hb : base ≤ W.heap.size) :
    ∃ v' W', (Builtin.append_ #[22, 22] 22 #[v, .slice q n c]).run Try.prog W = .ok v' W' ∧ Ow W' base v' (xs ++ ys) ∧ W.grownBy W' v.ownBlock := by
  have hl := hs.len
  cases q with
  | none =>
    have h0 : n = 0 := by
      rcases Nat.eq_zero_or_pos n with h | h
      · exact h
      · obtain ⟨_, e, _⟩ := hs.cell 0 h; cases e
    subst h0
    obtain rfl : ys = [] := List.length_eq_zero_iff.1 hl
    exact ⟨v, W, run_append_none W base v xs c hown, by rw [List.append_nil]; exact hown, ⟨rfl, rfl, rfl, Nat.le_refl _, fun _ _ _ => rfl⟩⟩
  | some ad =>
    subst hl
    exact run_append_bytes W base v xs ad c ys hown (fun j hj => by
      obtain ⟨a, e, _, hc⟩ := hs.cell j hj
      cases e
      exact hc) hn hb

theorem bs_at {W : World} {ad : Addr} {n : Nat} {xs : List Nat} (h : Bs W (some ad) n xs) (i x : Nat) (hi : i < n) (hx : xs.getD i 0 = x) : W.cell? (ad.add i) = some (.int .u8 (x : Nat)) := by
  obtain ⟨a, e, _, hc⟩ := h.cell i hi
  cases e
  rw [hc, hx]
set_option maxRecDepth 100000 in
set_option maxHeartbeats 8000000 in
theorem walk (j : Nat) (q : Option Addr) (n c : Nat) (xs : List Nat) (p : Option Addr) (m d : Nat) (ys : List Nat) (a at_ : Nat) (w : World) (hj : j < 256) (S_l : Bs w q n xs) (hc : n ≤ c ∧ c ≤ 140737488351232) (S_m : Bs w p m ys) (hd : m ≤ d ∧ d ≤ 140737488351232) (ha : a < 256) (hat : at_ < 65536) :
    Calls Try.prog 6 #[.int .u8 j, .slice q n c, .slice p m d, .int .u8 a, .int .u16 at_] w fun e w' => e = .returned (.bool true) ∧ Below w.heap.size w w' := by
  obtain ⟨k, hk⟩ : ∃ k : Nat, 1 + j % 3 = k := ⟨_, rfl⟩
  have hk1 : 1 ≤ k := by omega
  have hk3 : k ≤ 3 := by omega
  have hki : (1 : Int) + (j : Int) % 3 = (k : Int) := by omega
  clear hk
  have HB : Below w.heap.size w w := Below.refl _ _
  go_enter Try.func6, Try.ntmps6
  go_wp2_with fail
  refine (fof_calls k hk1 hk3 _).mono ?_
  rintro e w1 ⟨B_f, T_f, rfl, HF_f, hb, hlB, hlT⟩
  have HL_f : w.heap.size ≤ T_f := Nat.le_trans HB.size hlT
  have Q_l_f := S_l.off hlT
  have Q_m_f := S_m.off hlT
  replace HB := HB.trans (hb.mono HB.size)
  replace S_l := S_l.below hb
  replace S_m := S_m.below hb
  clear hb hlB hlT
  by_cases hbig : 300 < n
  · have hbi : (300 : Int) < (n : Int) := by omega
    go_wp2_with fail
    refine (known04_calls _).mono ?_
    rintro e w2 ⟨rfl, hb⟩
    replace HB := HB.trans (hb.mono HB.size)
    replace HF_f := HF_f.below hb
    replace S_l := S_l.below hb
    replace S_m := S_m.below hb
    clear hb
    go_wp2
    go_ret
    exact ⟨rfl, HB⟩
  have hbi : ¬ (300 : Int) < (n : Int) := by omega
  by_cases hbig2 : 300 < m
  · have hbi2 : (300 : Int) < (m : Int) := by omega
    go_wp2_with fail
    refine (known04_calls _).mono ?_
    rintro e w2 ⟨rfl, hb⟩
    replace HB := HB.trans (hb.mono HB.size)
    replace HF_f := HF_f.below hb
    replace S_l := S_l.below hb
    replace S_m := S_m.below hb
    clear hb
    go_wp2
    go_ret
    exact ⟨rfl, HB⟩
  have hbi2 : ¬ (300 : Int) < (m : Int) := by omega
  have hn : n ≤ 1000000000 := by omega
  have hm : m ≤ 1000000000 := by omega
  have hnc := hc.1
  have hmd := hd.1
  have HE : Hid (∀ i, (xs.map (Gf.mul a)).getD i 0 < 256) := map_byte a xs ha
  have HEn : Hid ((xs.map (Gf.mul a)).length = n) := by
    show (xs.map (Gf.mul a)).length = n
    rw [List.length_map]; exact S_l.len
  have HX : Hid ((∀ i, xs.getD i 0 < 256) ∧ (∀ i, ys.getD i 0 < 256)) := ⟨S_l.byte, S_m.byte⟩
  have hlx := S_l.len
  have hly := S_m.len
  obtain ⟨N, hN⟩ : ∃ N, N = min n m := ⟨_, rfl⟩
  obtain ⟨K, hK⟩ : ∃ K, at_ % (N + 1) = K := ⟨_, rfl⟩
  have hKN : K ≤ N := by have := Nat.mod_lt at_ (by omega : 0 < N + 1); omega
  have hKi : (at_ : Int) % ((N : Int) + 1) = (K : Int) := by
    rw [← hK]
    rfl
  obtain ⟨zs, hzs⟩ : ∃ zs, List.zipWith Gf.mul xs ys = zs := ⟨_, rfl⟩
  have hzl : zs.length = N := by rw [← hzs, List.length_zipWith]; omega
  have H1 : Hid (List.zipWith Gf.mul (xs.take K) ys = zs.take K) := by
    show _ = _
    rw [← hzs]; exact zip_front xs ys K
  have H2 : Hid (List.zipWith Gf.mul (xs.take K) (ys.take K) = zs.take K) := by
    show _ = _
    rw [← hzs]; exact zip_both xs ys K
  have H3 : Hid (List.zipWith Gf.mul ((List.range (N - K)).map fun i => xs.getD (K + i) 0) ((List.range (N - K)).map fun i => ys.getD (K + i) 0) = zs.drop K) := by
    show _ = _
    rw [← hzs]; exact zip_back xs ys K N (by omega) hKN
  have H4 : Hid (List.zipWith Gf.mul (xs.map (Gf.mul a)) ys = zs.map (Gf.mul a)) := by
    show _ = _
    rw [← hzs]; exact zip_map a xs ys ha HX.out.1 HX.out.2
  have HZ : Hid (List.zipWith Gf.mul xs ys = zs) := hzs
  have HZb : Hid (∀ i, zs.getD i 0 < 256) := by
    show ∀ i, zs.getD i 0 < 256
    rw [← hzs]; exact zip_byte xs ys HX.out.1
  have HZt : Hid (∀ i, (zs.take K).getD i 0 < 256) := by
    show ∀ i, (zs.take K).getD i 0 < 256
    rw [← H2.out]; exact zip_byte _ _ (bs_take S_l K (by omega)).byte
  have HZd : Hid (∀ i, (zs.drop K).getD i 0 < 256) := by
    show ∀ i, (zs.drop K).getD i 0 < 256
    rw [← H3.out]; exact zip_byte _ _ (bs_sub S_l c K N hKN (by omega) hnc).byte
  have HZi : Hid (∀ i, i < N → Gf.mul (xs.getD i 0) (ys.getD i 0) = zs.getD i 0) := by
    intro i hi
    have h1 : i < xs.length := by omega
    have h2 : i < ys.length := by omega
    rw [← hzs]
    simp [List.getD, List.getElem?_zipWith, h1, h2]
  have HNl : Hid (zs.length = N) := hzl
  clear hzs hzl hK hlx hly
  have hcase : (N = n ∧ n ≤ m) ∨ (N = m ∧ m < n) := by omega
  clear hN
  have hnot : ∀ (x : Bool) (w : World), (Op.unary .not (.bool x)).run Try.prog w = .ok (.bool (!x)) w := fun _ _ => rfl
  obtain ⟨q1, hq1⟩ : ∃ q1, (if c = K then q else Option.map (fun x => x.add K) q) = q1 := ⟨_, rfl⟩
  obtain ⟨p1, hp1⟩ : ∃ p1, (if d = K then p else Option.map (fun x => x.add K) p) = p1 := ⟨_, rfl⟩
  have hKc : (K : Int) ≤ (c : Int) := by omega
  have hKd : (K : Int) ≤ (d : Int) := by omega
  have hNc : (N : Int) ≤ (c : Int) := by omega
  have hNd : (N : Int) ≤ (d : Int) := by omega
  have hKNi : (K : Int) ≤ (N : Int) := by omega
  obtain ⟨y1, hy1⟩ : ∃ y1, xsum (zs.take K) = y1 := ⟨_, rfl⟩
  obtain ⟨y2, hy2⟩ : ∃ y2, xsum (zs.drop K) = y2 := ⟨_, rfl⟩
  have hy18 : y1 < 256 := by rw [← hy1]; exact xsum_lt zs HZb.out K
  have hy28 : y2 < 256 := by
    have := xsum_lt (zs.drop K) HZd.out (zs.drop K).length
    rw [List.take_length] at this
    rw [← hy2]; exact this
  have hxor := u8_xor_nat y1 y2 hy18 hy28
  have hD : xsum zs = y1 ^^^ y2 := by rw [← hy1, ← hy2, ← xsum_append, List.take_append_drop]
  have hD8 : y1 ^^^ y2 < 256 := Gf.xor_lt8 hy18 hy28
  obtain ⟨D, hDq⟩ : ∃ D, y1 ^^^ y2 = D := ⟨_, rfl⟩
  rw [hDq] at hxor hD hD8
  have KD1 : Hid (∀ W, Fd k B_f T_f W → Bs W q n xs → Bs W p m ys → Calls Try.prog 17 #[.pointer (some ⟨B_f, 0, none⟩), .slice q n c, .slice p m d] W fun e w' => e = .returned (.int .u8 (D : Nat)) ∧ Fd k B_f T_f w' ∧ But (· = T_f) W w') := fun W h1 h2 h3 => by
    have := fdot_calls k B_f T_f n m c d q p xs ys hn hm hnc hmd W h1 h2 h3 Q_l_f Q_m_f
    rw [HZ.out, hD] at this
    exact this
  have KD2 : Hid (∀ W, Fd k B_f T_f W → Bs W q n xs → Bs W p m ys → Calls Try.prog 17 #[.pointer (some ⟨B_f, 0, none⟩), .slice q K c, .slice p K d] W fun e w' => e = .returned (.int .u8 (y1 : Nat)) ∧ Fd k B_f T_f w' ∧ But (· = T_f) W w') := fun W h1 h2 h3 => by
    have := fdot_calls k B_f T_f K K c d q p (xs.take K) (ys.take K) (by omega) (by omega) (by omega) (by omega) W h1 (bs_take h2 K (by omega)) (bs_take h3 K (by omega)) (Q_l_f.le (by omega)) (Q_m_f.le (by omega))
    rw [H2.out, hy1] at this
    exact this
  have KD3 : Hid (∀ W, Fd k B_f T_f W → Bs W q n xs → Bs W p m ys → Calls Try.prog 17 #[.pointer (some ⟨B_f, 0, none⟩), .slice q1 (N - K) (c - K), .slice p1 (N - K) (d - K)] W fun e w' => e = .returned (.int .u8 (y2 : Nat)) ∧ Fd k B_f T_f w' ∧ But (· = T_f) W w') := fun W h1 h2 h3 => by
    have e1 := bs_sub h2 c K N hKN (by omega) hnc
    have e2 := bs_sub h3 d K N hKN (by omega) hmd
    have e3 := off_sub Q_l_f c K N (by omega)
    have e4 := off_sub Q_m_f d K N (by omega)
    rw [hq1] at e1 e3
    rw [hp1] at e2 e4
    have := fdot_calls k B_f T_f (N - K) (N - K) (c - K) (d - K) q1 p1 _ _ (by omega) (by omega) (by omega) (by omega) W h1 e1 e2 e3 e4
    rw [H3.out, hy2] at this
    exact this
  have KP3 : Hid (∀ W, Fd k B_f T_f W → Bs W q n xs → Bs W p m ys → Calls Try.prog 15 #[.pointer (some ⟨B_f, 0, none⟩), .slice q1 (N - K) (c - K), .slice p1 (N - K) (d - K)] W fun e w' => ∃ v, e = .returned v ∧ Ow w' W.heap.size v (zs.drop K) ∧ Fd k B_f T_f w' ∧ But (· = T_f) W w') := fun W h1 h2 h3 => by
    have e1 := bs_sub h2 c K N hKN (by omega) hnc
    have e2 := bs_sub h3 d K N hKN (by omega) hmd
    have e3 := off_sub Q_l_f c K N (by omega)
    have e4 := off_sub Q_m_f d K N (by omega)
    rw [hq1] at e1 e3
    rw [hp1] at e2 e4
    have := fpairs_calls k B_f T_f (N - K) (N - K) (c - K) (d - K) q1 p1 _ _ (by omega) (by omega) (by omega) (by omega) W h1 e1 e2 e3 e4
    rw [H3.out] at this
    exact this
  have KD4 : Hid (∀ W qe ce, Fd k B_f T_f W → Bs W qe n (xs.map (Gf.mul a)) → n ≤ ce → Off T_f n qe → Bs W p m ys → Calls Try.prog 17 #[.pointer (some ⟨B_f, 0, none⟩), .slice qe n ce, .slice p m d] W fun e w' => e = .returned (.int .u8 (Gf.mul a D : Nat)) ∧ Fd k B_f T_f w' ∧ But (· = T_f) W w') := fun W qe ce h1 h2 h3 h4 h5 => by
    have := fdot_calls k B_f T_f n m ce d qe p (xs.map (Gf.mul a)) ys hn hm h3 hmd W h1 h2 h5 h4 Q_m_f
    rw [H4.out, xsum_map, hD] at this
    exact this
  have KM : Hid (∀ W, Fd k B_f T_f W → Calls Try.prog 12 #[.pointer (some ⟨B_f, 0, none⟩), .int .u8 a, .int .u8 (D : Nat)] W fun e w' => e = .returned (.int .u8 (Gf.mul a D : Nat)) ∧ Fd k B_f T_f w' ∧ But (· = T_f) W w') := fun W h1 => fmul_calls k B_f T_f a D ha hD8 W h1
  have KE : Hid (∀ W i x, xs.getD i 0 = x → Fd k B_f T_f W → Calls Try.prog 12 #[.pointer (some ⟨B_f, 0, none⟩), .int .u8 a, .int .u8 (x : Nat)] W fun e w' => e = .returned (.int .u8 (Gf.mul a x : Nat)) ∧ Fd k B_f T_f w' ∧ But (· = T_f) W w') := fun W i x hx h1 => fmul_calls k B_f T_f a x ha (by rw [← hx]; exact HX.out.1 i) W h1
  have KZ : Hid (∀ W i x y z, i < N → xs.getD i 0 = x → ys.getD i 0 = y → zs.getD i 0 = z → Fd k B_f T_f W → Calls Try.prog 12 #[.pointer (some ⟨B_f, 0, none⟩), .int .u8 (x : Nat), .int .u8 (y : Nat)] W fun e w' => e = .returned (.int .u8 (z : Nat)) ∧ Fd k B_f T_f w' ∧ But (· = T_f) W w') := fun W i x y z hi hx hy hz h1 => fmul_e k B_f T_f x y z (by rw [← hx]; exact HX.out.1 i) (by rw [← hy]; exact HX.out.2 i) (by rw [← hx, ← hy, ← hz]; exact HZi.out i hi) W h1
  have HM : Hid (∀ i, i < n → (xs.map (Gf.mul a)).getD i 0 = Gf.mul a (xs.getD i 0)) := by
    intro i hi
    have h1 : i < xs.length := by rw [S_l.len]; exact hi
    simp [List.getD, h1]
  clear hy1 hy2 hD hDq hD8 hy18 hy28
  have HNnm : Hid (∀ r : Nat, r < N → (r : Int) < (n : Int) ∧ (r : Int) < (m : Int)) := fun r h => by omega
  obtain ⟨LI, hLI⟩ : ∃ LI : World → Option Addr → Prop, ∀ W qe, LI W qe ↔ (Bs W q n xs ∧ Bs W p m ys ∧ Bs W qe n (xs.map (Gf.mul a))) := ⟨_, fun _ _ => Iff.rfl⟩
  have HLI : Hid (∀ W qe, LI W qe ↔ (Bs W q n xs ∧ Bs W p m ys ∧ Bs W qe n (xs.map (Gf.mul a)))) := hLI
  clear hLI
  rcases hcase with ⟨rfl, hcs⟩ | ⟨rfl, hcs⟩
  all_goals
    go_wp2_with fail
    refine (fpairs_calls k B_f T_f _ _ c d q p xs ys hn hm hnc hmd _ HF_f S_l S_m Q_l_f Q_m_f).mono ?_
    rintro e w2 ⟨v, rfl, hO, hF, hb⟩
    obtain ⟨q_a, c_a, rfl, S_a, C_a, hQ⟩ := hO.tell (n := N) (HZ.out ▸ HZb.out) (HZ.out ▸ HNl.out)
    clear hO
    have Q_a_f := hQ _ HF_f.lt
    clear hQ
    replace HB := HB.trans (hb.below HB.size (by rintro k rfl; exact HL_f))
    replace S_l := S_l.but hb Q_l_f
    replace S_m := S_m.but hb Q_m_f
    clear HF_f hb
    have HF_f := hF
    clear hF
    rw [HZ.out] at S_a
    go_wp2_with fail
    refine (fpairs_calls k B_f T_f K _ c d q p (xs.take K) ys (by omega) hm (by omega) hmd _ HF_f (bs_take S_l K (by omega)) S_m (Q_l_f.le (by omega)) Q_m_f).mono ?_
    rintro e w3 ⟨v, rfl, hO, hF, hb⟩
    obtain ⟨q_u, c_u, rfl, S_u, C_u, hQ⟩ := hO.tell (n := K) (H1.out ▸ HZt.out) (by rw [H1.out, List.length_take, HNl.out]; omega)
    clear hO
    have Q_u_f := hQ _ HF_f.lt
    clear hQ
    replace HB := HB.trans (hb.below HB.size (by rintro k rfl; exact HL_f))
    replace S_l := S_l.but hb Q_l_f
    replace S_m := S_m.but hb Q_m_f
    replace S_a := S_a.but hb Q_a_f
    clear HF_f hb
    have HF_f := hF
    clear hF
    rw [H1.out] at S_u
    go_wp2
    replace HB := HB.drew
    replace HF_f := HF_f.drew
    replace S_l := S_l.drew
    replace S_m := S_m.drew
    replace S_a := S_a.drew
    replace S_u := S_u.drew
    go_region_held3 (fun _ => True)
      (first | trivial)
      (first | (go_at_call 15; refine (KP3.out _ HF_f S_l S_m).mono ?_; rintro e wR ⟨v, rfl, hO, hF, hb⟩))
    obtain ⟨q_b, c_b, rfl, S_b, C_b, hQ⟩ := hO.tell (n := N - K) HZd.out (by rw [List.length_drop, HNl.out])
    clear hO hQ
    replace HB := HB.trans (hb.below HB.size (by rintro k rfl; exact HL_f))
    replace S_l := S_l.but hb Q_l_f
    replace S_m := S_m.but hb Q_m_f
    replace S_a := S_a.but hb Q_a_f
    replace S_u := S_u.but hb Q_u_f
    replace HF_f := hF
    clear hF hb
    obtain ⟨v1, W1, hap1, hO1, hg1⟩ := run_append_list wR wR.heap.size (.slice none 0 0) [] q_u K c_u (zs.take K) (ow_nil _ _) S_u (by simp; omega) (Nat.le_refl _)
    have hb1 : Below wR.heap.size wR W1 := (Below.refl _ wR).grown hg1 (Nat.le_refl _) (fun k hk => by cases hk)
    obtain ⟨v2, W2, hap2, hO2, hg2⟩ := run_append_list W1 wR.heap.size v1 _ q_b (N - K) c_b (zs.drop K) hO1 (S_b.below hb1) (by simp; omega) hb1.size
    have hb2 : Below wR.heap.size W1 W2 := (Below.refl _ W1).grown hg2 hb1.size (fun k hk => (hO1.lt k hk).1)
    have hb := hb1.trans hb2
    rw [List.nil_append, List.take_append_drop] at hO2
    obtain ⟨q_v, c_v, rfl, S_v, C_v, hQ⟩ := hO2.tell (n := N) HZb.out HNl.out
    have Q_v_f := hQ _ HF_f.lt
    have ha1 := ap_ok hap1
    have ha2 := ap_v hap1
    have ha3 := ap_w hap1
    have hc1 := ap_ok hap2
    have hc2 := ap_v hap2
    have hc3 := ap_w hap2
    replace HB := HB.trans (hb.mono HB.size)
    replace HF_f := HF_f.below hb
    replace S_l := S_l.below hb
    replace S_m := S_m.below hb
    replace S_a := S_a.below hb
    clear hb hb1 hb2 hO2 hO1 hg1 hg2 hap1 hap2 hQ S_b S_u
    go_wp2_with fail
    refine (feach_calls k B_f T_f a _ c q xs ha hn hnc _ HF_f S_l Q_l_f).mono ?_
    rintro e w4 ⟨v, rfl, hO, hF, hb⟩
    obtain ⟨q_e, c_e, rfl, S_e, C_e, hQ⟩ := hO.tell HE.out HEn.out
    clear hO
    have Q_e_f := hQ _ HF_f.lt
    clear hQ
    replace HB := HB.trans (hb.below HB.size (by rintro k rfl; exact HL_f))
    replace S_l := S_l.but hb Q_l_f
    replace S_m := S_m.but hb Q_m_f
    replace S_a := S_a.but hb Q_a_f
    replace S_v := S_v.but hb Q_v_f
    clear HF_f hb
    have HF_f := hF
    clear hF
    clear ha1 ha2 ha3 hc1 hc2 hc3
    have HS : Hid (Below w.heap.size w w4 ∧ Fd k B_f T_f w4 ∧ Bs w4 q_a N zs ∧ Bs w4 q_v N zs ∧ LI w4 q_e) := ⟨HB, HF_f, S_a, S_v, (HLI.out _ _).2 ⟨S_l, S_m, S_e⟩⟩
    clear HB HF_f S_l S_m S_a S_v S_e
    go_wp2
    go_loopw [19] (fun i wr => ∃ r : Nat, r ≤ N ∧ i = .int .i64 (r : Int) ∧ Below w.heap.size w wr ∧ Fd k B_f T_f wr ∧ Bs wr q_a N zs ∧ Bs wr q_v N zs ∧ LI wr q_e) (fun i _ => N - (intOf i).toNat)
    case atStart => exact ⟨0, by omega, rfl, HS.out⟩
    case round =>
      clear HS
      obtain ⟨r, hr, rfl, HB, HF_f, S_a, S_v, hli⟩ := hrel
      obtain ⟨S_l, S_m, S_e⟩ := (HLI.out _ _).1 hli
      clear hli
      replace HB := HB.drew
      replace HF_f := HF_f.drew
      replace S_l := S_l.drew
      replace S_m := S_m.drew
      replace S_a := S_a.drew
      replace S_v := S_v.drew
      replace S_e := S_e.drew
      by_cases hlt : r < N
      · have hri : (r : Int) < (N : Int) := by omega
        obtain ⟨hrn, hrm⟩ := HNnm.out r hlt
        obtain ⟨aa, hqa, _, _⟩ := S_a.cell r hlt
        obtain ⟨al, hql, _, _⟩ := S_l.cell r (by omega)
        obtain ⟨am, hqm, _, _⟩ := S_m.cell r (by omega)
        obtain ⟨ae, hqe, _, _⟩ := S_e.cell r (by omega)
        have HQ : Hid (Off T_f N q_a ∧ Off T_f N q_v) := ⟨Q_a_f, Q_v_f⟩
        subst hqa hql hqm hqe
        obtain ⟨x, hx⟩ : ∃ x, xs.getD r 0 = x := ⟨_, rfl⟩
        obtain ⟨y, hy⟩ : ∃ y, ys.getD r 0 = y := ⟨_, rfl⟩
        obtain ⟨z, hz⟩ : ∃ z, zs.getD r 0 = z := ⟨_, rfl⟩
        have ht : (xs.map (Gf.mul a)).getD r 0 = Gf.mul a x := by rw [HM.out r (by omega), hx]
        have Hx : Hid (xs.getD r 0 = x ∧ ys.getD r 0 = y ∧ zs.getD r 0 = z ∧ (xs.map (Gf.mul a)).getD r 0 = Gf.mul a x) := ⟨hx, hy, hz, ht⟩
        clear hx hy hz ht
        have c1 := bs_at S_a r z hlt Hx.out.2.2.1
        have c2 := bs_at S_l r x (by omega) Hx.out.1
        have c3 := bs_at S_m r y (by omega) Hx.out.2.1
        have c4 := bs_at S_e r _ (by omega) Hx.out.2.2.2
        have d1 : wr.cell? (aa.add r) = some (.int .u8 (z : Nat)) := c1
        have d2 : wr.cell? (al.add r) = some (.int .u8 (x : Nat)) := c2
        have d3 : wr.cell? (am.add r) = some (.int .u8 (y : Nat)) := c3
        have d4 : wr.cell? (ae.add r) = some (.int .u8 (Gf.mul a x : Nat)) := c4
        clear c1 c2 c3 c4
        go_wp2
        go_region_held3 (fun w' => w'.cell? (aa.add r) = some (.int .u8 (z : Nat)) ∧ w'.cell? (al.add r) = some (.int .u8 (x : Nat)) ∧ w'.cell? (am.add r) = some (.int .u8 (y : Nat)) ∧ w'.cell? (ae.add r) = some (.int .u8 (Gf.mul a x : Nat)))
          (first | exact ⟨bs_at S_a r z hlt Hx.out.2.2.1, bs_at S_l r x (by omega) Hx.out.1, bs_at S_m r y (by omega) Hx.out.2.1, bs_at S_e r _ (by omega) Hx.out.2.2.2⟩ | (go_keep; done))
          (first
            | (go_at_call 12; with_reducible refine (KZ.out _ r x y z hlt Hx.out.1 Hx.out.2.1 Hx.out.2.2.1 HF_f).mono ?_; rintro e wA ⟨rfl, hF, hb⟩; replace HB := HB.trans (hb.below HB.size (by rintro k rfl; exact HL_f)); replace S_l := S_l.but hb Q_l_f; replace S_m := S_m.but hb Q_m_f; replace S_a := S_a.but hb Q_a_f; replace S_v := S_v.but hb Q_v_f; replace S_e := S_e.but hb Q_e_f; clear HF_f hb; have HF_f := hF; clear hF)
            | (go_at_call 12; with_reducible refine (KE.out _ r x Hx.out.1 HF_f).mono ?_; rintro e wA ⟨rfl, hF, hb⟩; replace HB := HB.trans (hb.below HB.size (by rintro k rfl; exact HL_f)); replace S_l := S_l.but hb Q_l_f; replace S_m := S_m.but hb Q_m_f; replace S_a := S_a.but hb Q_a_f; replace S_v := S_v.but hb Q_v_f; replace S_e := S_e.but hb Q_e_f; clear HF_f hb; have HF_f := hF; clear hF))
        go_wp2
        go_roundw
        case rel => exact ⟨r + 1, by omega, by go_num, HB, HF_f, S_a, S_v, (HLI.out _ _).2 ⟨S_l, S_m, S_e⟩⟩
        case measure => simp [intOf]; omega
      · have er : r = N := by omega
        subst er
        go_wp2
        go_region_held3 (fun _ => True)
          (first | trivial)
          (first
            | (go_at_call 8; with_reducible refine (known04_calls _).mono ?_; rintro e wA ⟨rfl, hb⟩; replace HB := HB.trans (hb.mono HB.size); replace HF_f := HF_f.below hb; replace S_l := S_l.below hb; replace S_m := S_m.below hb; replace S_a := S_a.below hb; replace S_v := S_v.below hb; replace S_e := S_e.below hb; clear hb)
            | (go_at_call 14; with_reducible refine (same_calls _ _ _ _ _ _ _ S_a S_v).mono ?_; rintro e wA ⟨rfl, hb⟩; replace HB := HB.trans (hb.mono HB.size); replace HF_f := HF_f.below hb; replace S_l := S_l.below hb; replace S_m := S_m.below hb; replace S_a := S_a.below hb; replace S_v := S_v.below hb; replace S_e := S_e.below hb; clear hb)
            | (go_at_call 17; with_reducible refine (KD1.out _ HF_f S_l S_m).mono ?_; rintro e wA ⟨rfl, hF, hb⟩; replace HB := HB.trans (hb.below HB.size (by rintro k rfl; exact HL_f)); replace S_l := S_l.but hb Q_l_f; replace S_m := S_m.but hb Q_m_f; replace S_a := S_a.but hb Q_a_f; replace S_v := S_v.but hb Q_v_f; replace S_e := S_e.but hb Q_e_f; clear HF_f hb; have HF_f := hF; clear hF)
            | (go_at_call 17; with_reducible refine (KD2.out _ HF_f S_l S_m).mono ?_; rintro e wA ⟨rfl, hF, hb⟩; replace HB := HB.trans (hb.below HB.size (by rintro k rfl; exact HL_f)); replace S_l := S_l.but hb Q_l_f; replace S_m := S_m.but hb Q_m_f; replace S_a := S_a.but hb Q_a_f; replace S_v := S_v.but hb Q_v_f; replace S_e := S_e.but hb Q_e_f; clear HF_f hb; have HF_f := hF; clear hF)
            | (go_at_call 17; with_reducible refine (KD3.out _ HF_f S_l S_m).mono ?_; rintro e wA ⟨rfl, hF, hb⟩; replace HB := HB.trans (hb.below HB.size (by rintro k rfl; exact HL_f)); replace S_l := S_l.but hb Q_l_f; replace S_m := S_m.but hb Q_m_f; replace S_a := S_a.but hb Q_a_f; replace S_v := S_v.but hb Q_v_f; replace S_e := S_e.but hb Q_e_f; clear HF_f hb; have HF_f := hF; clear hF)
            | (go_at_call 17; with_reducible refine (KD4.out _ _ _ HF_f S_e C_e Q_e_f S_m).mono ?_; rintro e wA ⟨rfl, hF, hb⟩; replace HB := HB.trans (hb.below HB.size (by rintro k rfl; exact HL_f)); replace S_l := S_l.but hb Q_l_f; replace S_m := S_m.but hb Q_m_f; replace S_a := S_a.but hb Q_a_f; replace S_v := S_v.but hb Q_v_f; replace S_e := S_e.but hb Q_e_f; clear HF_f hb; have HF_f := hF; clear hF)
            | (go_at_call 12; with_reducible refine (KM.out _ HF_f).mono ?_; rintro e wA ⟨rfl, hF, hb⟩; replace HB := HB.trans (hb.below HB.size (by rintro k rfl; exact HL_f)); replace S_l := S_l.but hb Q_l_f; replace S_m := S_m.but hb Q_m_f; replace S_a := S_a.but hb Q_a_f; replace S_v := S_v.but hb Q_v_f; replace S_e := S_e.but hb Q_e_f; clear HF_f hb; have HF_f := hF; clear hF))
        go_wp2
        go_ret
        exact ⟨rfl, HB⟩

theorem own : ownKnob Try.prog.godebug = none := by kernel_rfl
theorem laidOut : laidOutB Try.prog = true := by kernel_rfl
set_option maxRecDepth 100000 in
theorem lifted (os : Os) (started : os.Started) (H : Type) (enc : TypeId × Value → H) :
    ReturnsInHanded {} Try.checked os 6 .any (Rows.fieldListsSpec.pre6 enc Try.prog Try.f6 Rows.fieldListsRow.domain false) (Rows.fieldListsSpec.post enc Try.prog Try.f6 false true false false) := by
  refine returnsInHanded_of_change_sized (C := Try.checked) own started (by kernel_rfl) Try.func6
    (ChangeSpec.witness6 (enc := enc) (C := Try.checked) false ⟨#[], #[.int .u8 0, .slice none 0 0, .slice none 0 0, .int .u8 0, .int .u16 0], []⟩ 8 (by kernel_rfl) (by kernel_rfl) (by kernel_rfl) (by kernel_rfl)) ?_
  intro W base args ds gs before hval0 hW _ hz _
  have hval : ∀ (j : Nat) t v, Try.f6.params[j]? = some t → args[j]? = some v → Value.okWide Try.prog W .any base t v := hval0
  have hW' := hW
  obtain ⟨p, q, hA0, hV, rfl, _, _⟩ := hW
  have hA : DataW.TrodAll enc Try.prog W 0 (fun _ => true) true Try.f6.params.toList args.toList ds p := hA0
  rw [Try.params6] at hA hval
  obtain ⟨v0, vs0, d0, ds0, p0, q0, hargs, rfl, rfl, h0, r0⟩ := trodAll_cons hA
  obtain ⟨v1, vs1, d1, ds1, p1, q1, rfl, rfl, rfl, h1, r1⟩ := trodAll_cons r0
  obtain ⟨v2, vs2, d2, ds2, p2, q2, rfl, rfl, rfl, h2, r2⟩ := trodAll_cons r1
  obtain ⟨v3, vs3, d3, ds3, p3, q3, rfl, rfl, rfl, h3, r3⟩ := trodAll_cons r2
  obtain ⟨v4, vs4, d4, ds4, p4, q4, rfl, rfl, rfl, h4, r4⟩ := trodAll_cons r3
  obtain ⟨rfl, rfl, rfl⟩ := trodAll_nil r4
  obtain rfl : args = #[v0, v1, v2, v3, v4] := by cases args; simp_all
  obtain ⟨rfl, rfl⟩ := trodVars_none hV
  obtain ⟨a0, rfl, rfl, rfl, w0⟩ := open_int Try.underlying5 (hval 0 5 v0 rfl rfl) h0
  obtain ⟨n0, b0, rfl⟩ := nat_of_u8 w0
  have k1 := h1
  obtain ⟨q1, n1, c1, xs1, rfl, w1, m1⟩ := open_bytes_sz Try.underlying22 Try.underlying5 (by kernel_rfl) (hval 1 22 v1 rfl rfl) h1
  have y1 : n1 ≤ c1 ∧ c1 ≤ 140737488351232 := ⟨m1.1, m1.2 _ fun el sp hd => by have := sized_slice (j := 1) (t := 22) (e := 5) (elems := el) (spare := sp) hz (by kernel_rfl) (by first | (rw [← hd]; done) | (rw [← hd]; rfl)) Try.underlying22; have hbe : Try.checked.prog.bytesOf 5 = 1 := (by kernel_rfl); have hre : reachBytes = 140737488351232 := rfl; rw [hbe, hre] at this; omega⟩
  have k2 := h2
  obtain ⟨q2, n2, c2, xs2, rfl, w2, m2⟩ := open_bytes_sz Try.underlying22 Try.underlying5 (by kernel_rfl) (hval 2 22 v2 rfl rfl) h2
  have y2 : n2 ≤ c2 ∧ c2 ≤ 140737488351232 := ⟨m2.1, m2.2 _ fun el sp hd => by have := sized_slice (j := 2) (t := 22) (e := 5) (elems := el) (spare := sp) hz (by kernel_rfl) (by first | (rw [← hd]; done) | (rw [← hd]; rfl)) Try.underlying22; have hbe : Try.checked.prog.bytesOf 5 = 1 := (by kernel_rfl); have hre : reachBytes = 140737488351232 := rfl; rw [hbe, hre] at this; omega⟩
  obtain ⟨a3, rfl, rfl, rfl, w3⟩ := open_int Try.underlying5 (hval 3 5 v3 rfl rfl) h3
  obtain ⟨n3, b3, rfl⟩ := nat_of_u8 w3
  obtain ⟨a4, rfl, rfl, rfl, w4⟩ := open_int Try.underlying40 (hval 4 40 v4 rfl rfl) h4
  obtain ⟨n4, b4, rfl⟩ := nat_of_u16 w4
  clear hA0 hval0
  simp only [List.append_nil] at hW'
  refine (walk (w := W) n0 q1 n1 c1 xs1 q2 n2 c2 xs2 n3 n4 b0 w1 y1 w2 y2 b3 b4).mono fun e W' ⟨he, bel⟩ => ?_
  subst he
  exact ⟨_, rfl, _, _, _, [], _, [], hW', trodAll_mk1 (shut_bool Try.underlying4 _), (trodAll_cons_mk (shut_int Try.underlying5 w0) (trodAll_cons_mk (shut_same laidOut (by kernel_rfl) (of_decide_eq_true (by kernel_rfl)) k1 bel) (trodAll_cons_mk (shut_same laidOut (by kernel_rfl) (of_decide_eq_true (by kernel_rfl)) k2 bel) (trodAll_cons_mk (shut_int Try.underlying5 w3) (trodAll_cons_mk (shut_int Try.underlying40 w4) trodAll_mk0))))), rfl, bel.frame _, fun h => by cases h⟩
theorem over : Rows.fieldListsRow.holds Try.pinned (OpenSpec.ofChange Rows.fieldListsSpec) :=
  OpenClaim.holds_of_wide 6 Try.f6 rfl rfl rfl rfl rfl rfl rfl ⟨rfl, rfl, rfl, rfl, rfl⟩ rfl rfl rfl rfl rfl (by kernel_rfl) Try.func6 (by kernel_rfl)
    (of_decide_eq_true (by kernel_rfl)) (by unfold Func.isWrapper; first | (rw [if_pos (by decide +kernel)]; kernel_rfl) | (rw [if_neg (by decide +kernel)]; exact ⟨rfl, rfl⟩))
    (fun os started H enc _ => lifted os started H enc)
theorem proved : Rows.FieldListsSaid := over
#print axioms proved
end Go.Proofs.Ytgbbnlgleghhlaa.fieldLists
