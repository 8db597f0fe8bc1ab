/- Texts laid together: CodM, EncM, SynM. Each says its own conditions. -/
import Derived.Test.YtddhefhabhgdfaaGreatMA
import Derived.Test.YtddhefhabhgdfaaGreatMN
/- Codes: their roots, their generator, their parity, their words, as lists. Nothing of the program. -/
namespace Go.Proofs
namespace Cd
open Pol (ofL toL Byt Bd IsN ev vl frL fr)
open GF (al pw)
open Mx (mx cells timesL dot sm)

/-- The power i of 2, as a byte. -/
def pt (i : Nat) : Nat := (al i).val
theorem pt_lt (i : Nat) : pt i < 256 := GF.lt _
theorem of_pt (i : Nat) : GF.of (pt i) = al i := GF.of_self _
theorem pt_ne (i : Nat) : pt i ≠ 0 := fun h => GF.al_ne_zero i (GF.ext h)
theorem powZ_pt (n : Nat) : Gf.powZ 2 (n : Int) = pt n := by
  unfold pt Gf.powZ
  rw [if_neg (by omega), Int.toNat_natCast, GF.al_val]
theorem powZ_any (n : Int) : Gf.powZ 2 n = pt (n % 255).toNat := by
  rw [Gf.powZ_mod 2 n (by decide) (by decide)]; unfold pt; rw [GF.al_val]
theorem pt_mul (i j : Nat) : Gf.mul (pt i) (pt j) = pt (i + j) := by unfold pt; rw [GF.al_add]; rfl
/-- The roots of a code: S powers in a row, from B on. -/
def rts (B S : Nat) : List Nat := (List.range S).map fun j => pt (B + j)
theorem rts_length (B S : Nat) : (rts B S).length = S := by simp [rts]
theorem rts_at {B S j : Nat} (h : j < S) : (rts B S).getD j 0 = pt (B + j) := Mx.getD_range_map S _ j h
theorem rts_succ (B S : Nat) : rts B (S + 1) = rts B S ++ [pt (B + S)] := by unfold rts; rw [List.range_succ, List.map_append]; rfl
theorem mem_rts {B S x : Nat} : x ∈ rts B S ↔ ∃ j, j < S ∧ pt (B + j) = x := by simp [rts]
theorem rts_byt (B S : Nat) : Byt (rts B S) := Pol.byt_of_mem fun x hx => by obtain ⟨j, _, rfl⟩ := mem_rts.1 hx; exact pt_lt _
/-- The generator. -/
def gen (B S : Nat) : List Nat := frL (rts B S)
theorem gen_length (B S : Nat) : (gen B S).length = S + 1 := by unfold gen; rw [Pol.frL_length, rts_length]
theorem gen_isN (B S : Nat) : IsN (gen B S) (fr (rts B S)) := Pol.frL_isN _
theorem gen_zero {B S x : Nat} (hx : x < 256) : vl (gen B S) x = 0 ↔ x ∈ rts B S := Pol.vl_frL _ (rts_byt B S) x hx

/-- Is w a word? -/
def IsW (N S B : Nat) (w : List Nat) : Prop := w.length = N ∧ ∀ j, j < S → vl w (pt (B + j)) = 0
instance (N S B : Nat) (w : List Nat) : Decidable (IsW N S B w) := by unfold IsW; infer_instance
theorem IsW.less {N S T B : Nat} {w : List Nat} (h : IsW N S B w) (hT : T ≤ S) : IsW N T B w := ⟨h.1, fun j hj => h.2 j (by omega)⟩
theorem IsW.val {N S B : Nat} {w : List Nat} (h : IsW N S B w) (j : Nat) (hj : j < S) : ev N (ofL w) (al (B + j)) = 0 := by
  have := h.2 j hj
  rw [Pol.vl_zero_iff, h.1, of_pt] at this
  exact this
theorem isW_ev {N S B : Nat} {w : List Nat} (hl : w.length = N) (h : ∀ j, j < S → ev N (ofL w) (al (B + j)) = 0) : IsW N S B w :=
  ⟨hl, fun j hj => by rw [Pol.vl_zero_iff, hl, of_pt]; exact h j hj⟩
/-- A list as long as words are. -/
def wd (N : Nat) (l : List Nat) : List Nat := (List.range N).map fun i => l.getD i 0
theorem wd_length (N : Nat) (l : List Nat) : (wd N l).length = N := by simp [wd]
theorem wd_at {N i : Nat} (l : List Nat) (h : i < N) : (wd N l).getD i 0 = l.getD i 0 := Mx.getD_range_map N _ i h
theorem wd_byt {l : List Nat} (h : Byt l) (N : Nat) : Byt (wd N l) := fun i => by
  by_cases hi : i < N
  · rw [wd_at l hi]; exact h i
  · rw [Mx.getD_out (by rw [wd_length]; omega)]; decide
theorem ofL_wd {N : Nat} {l : List Nat} (h : Bd N (ofL l)) : ofL (wd N l) = ofL l := by
  funext i
  by_cases hi : i < N
  · unfold Pol.ofL; rw [wd_at l hi]
  · rw [h i (by omega)]; unfold Pol.ofL; rw [Mx.getD_out (by rw [wd_length]; omega)]; rfl
theorem wd_same {N : Nat} {l : List Nat} (h : l.length = N) : wd N l = l := Mx.list_ext (by rw [wd_length, h]) fun i hi => by rw [wd_length] at hi; rw [wd_at l hi]

/-! ## What words are -/
theorem IsW.add {N S B : Nat} {v w : List Nat} (h : IsW N S B v) (k : IsW N S B w) (a : GF) {u : List Nat} (hu : u.length = N) (e : ∀ i, i < N → ofL u i = ofL v i + a * ofL w i) : IsW N S B u := by
  refine isW_ev hu fun j hj => ?_
  have h1 : ev N (ofL u) (al (B + j)) = ev N (Pol.add (ofL v) (Pol.smul a (ofL w))) (al (B + j)) := Pol.ev_congr N _ fun i hi => e i hi
  rw [h1, Pol.ev_add, Pol.ev_smul, h.val j hj, k.val j hj, GF.mul_zero, GF.add_zero]
/-! ## How far words are -/
/-- How many are not nought. -/
def nz (w : List Nat) : Nat := (w.filter fun x => x != 0).length
theorem nz_supp {N : Nat} {w : List Nat} (hl : w.length = N) (bw : Byt w) : nz w = (Pol.supp N (ofL w)).length := by
  have e : w = (List.range N).map fun i => w.getD i 0 := (wd_same hl).symm
  unfold nz Pol.supp
  conv => lhs; rw [e]
  rw [List.filter_map, List.length_map]
  congr 1
  refine List.filter_congr fun i _ => ?_
  show (w.getD i 0 != 0) = decide (GF.of (w.getD i 0) ≠ 0)
  by_cases h : w.getD i 0 = 0
  · rw [h]; rfl
  · have : GF.of (w.getD i 0) ≠ 0 := fun e => h (by rw [← GF.of_val _ (bw i), e]; rfl)
    rw [decide_eq_true this]
    exact bne_iff_ne.2 h
theorem nz_zero {w : List Nat} : nz w = 0 ↔ ∀ i, w.getD i 0 = 0 := by
  unfold nz
  rw [List.length_eq_zero_iff, List.filter_eq_nil_iff]
  constructor
  · intro h i
    by_cases hi : i < w.length
    · have e : w.getD i 0 = w[i] := by simp [List.getD, hi]
      have := h _ (List.getElem_mem hi)
      rw [e]; simpa using this
    · exact Mx.getD_out (by omega)
  · intro h x hx
    obtain ⟨i, hi, rfl⟩ := List.getElem_of_mem hx
    have e : w.getD i 0 = w[i] := by simp [List.getD, hi]
    rw [← e, h i]; decide
/-- A word that is not all nought has more bytes that are not than there are roots. -/
theorem far {N S B : Nat} {w : List Nat} (h : IsW N S B w) (hN : N ≤ 255) (bw : Byt w) (h0 : nz w ≠ 0) : S < nz w := by
  refine Nat.lt_of_not_le fun hle => h0 ?_
  have hz := Pol.far (N := N) (b := B) (S := S) (w := ofL w) hN (h.1 ▸ Pol.ofL_bd w) (by rw [← nz_supp h.1 bw]; exact hle) h.val
  rw [nz_zero]
  intro i
  have := congrFun hz i
  have h2 : GF.of (w.getD i 0) = 0 := this
  rw [← GF.of_val _ (bw i), h2]; rfl

/-! ## Parity -/
/-! ## Another first root -/
end Cd
end Go.Proofs
/- Words of messages, as lists: there is one, and only one. Nothing of the program. -/
namespace Go.Proofs
namespace Cd
open Pol (ofL toL Byt Bd IsN ev vl)
open GF (al pw)

/-- w is the word of the message m. -/
structure IsEnc (N S B : Nat) (m w : List Nat) : Prop where
  word : IsW N S B w
  byt : Byt w
  msg : w.drop S = m
theorem drop_getD (w : List Nat) (S i : Nat) : (w.drop S).getD i 0 = w.getD (S + i) 0 := by simp only [List.getD, List.getElem?_drop]
/-- Words that bear one message are one. -/
theorem IsW.same {N S B : Nat} {v w : List Nat} (h : IsW N S B v) (k : IsW N S B w) (hN : N ≤ 255) (bv : Byt v) (bw : Byt w) (e : v.drop S = w.drop S) : v = w := by
  have hu : ((List.range N).map fun i => v.getD i 0 ^^^ w.getD i 0).length = N := by simp
  obtain ⟨u, hue⟩ : ∃ u, ((List.range N).map fun i => v.getD i 0 ^^^ w.getD i 0) = u := ⟨_, rfl⟩
  rw [hue] at hu
  have ua : ∀ i, i < N → u.getD i 0 = v.getD i 0 ^^^ w.getD i 0 := fun i hi => by rw [← hue, Mx.getD_range_map N _ i hi]
  have bu : Byt u := fun i => by
    by_cases hi : i < N
    · rw [ua i hi]; exact Gf.xor_lt8 (bv i) (bw i)
    · rw [Mx.getD_out (by omega)]; decide
  have hW : IsW N S B u := h.add k 1 hu fun i hi => by
    unfold Pol.ofL
    rw [ua i hi, GF.one_mul]
    exact GF.ext (by rw [GF.of_val _ (Gf.xor_lt8 (bv i) (bw i)), GF.add_val, GF.of_val _ (bv i), GF.of_val _ (bw i)])
  have hz : ∀ i, S ≤ i → i < N → u.getD i 0 = 0 := fun i h1 h2 => by
    have h3 := congrArg (fun l => l.getD (i - S) 0) e
    simp only [drop_getD] at h3
    rw [show S + (i - S) = i by omega] at h3
    rw [ua i h2, h3, Nat.xor_self]
  have hn : nz u ≤ S := by
    rw [nz_supp hu bu]
    have : ∀ x ∈ Pol.supp N (ofL u), x ∈ List.range S := fun x hx => by
      have h1 := Pol.mem_supp.1 hx
      rw [List.mem_range]
      refine Nat.lt_of_not_le fun h2 => h1.2 ?_
      unfold Pol.ofL
      rw [hz x h2 h1.1]; rfl
    have := Pol.nodup_le _ _ (Pol.supp_nodup N (ofL u)) this
    rwa [List.length_range] at this
  have h0 : nz u = 0 := by
    refine Classical.byContradiction fun hne => ?_
    have := far hW hN bu hne
    omega
  rw [nz_zero] at h0
  refine Mx.list_ext (by rw [h.1, k.1]) fun i hi => ?_
  rw [h.1] at hi
  have h1 := h0 i
  rw [ua i hi] at h1
  have h2 : v.getD i 0 ^^^ w.getD i 0 ^^^ w.getD i 0 = w.getD i 0 := by rw [h1, Nat.zero_xor]
  rwa [Nat.xor_assoc, Nat.xor_self, Nat.xor_zero] at h2
theorem IsEnc.unique {N S B : Nat} {m v w : List Nat} (h : IsEnc N S B m v) (k : IsEnc N S B m w) (hN : N ≤ 255) : v = w := h.word.same k.word hN h.byt k.byt (h.msg.trans k.msg.symm)
theorem getD_append (l m : List Nat) (i : Nat) : (l ++ m).getD i 0 = if i < l.length then l.getD i 0 else m.getD (i - l.length) 0 := Pol.getD_append l m i
/-- A message, moved up, and what is left of it by the generator, is a word. -/
theorem isEnc_rest {N S K B : Nat} {m r : List Nat} {P : Pol} (hm : m.length = K) (bm : Byt m) (br : Byt r) (hN : S + K = N) (hr : Bd S (ofL r)) {n : Nat} (hP : Bd n P) (e : Pol.up S (ofL m) = Pol.add (Pol.mul P (ofL (gen B S))) (ofL r)) : IsEnc N S B m (wd S r ++ m) := by
  have hl : (wd S r ++ m).length = N := by rw [List.length_append, wd_length, hm, hN]
  have ho : ofL (wd S r ++ m) = Pol.mul P (ofL (gen B S)) := by
    have h1 : ofL (wd S r ++ m) = Pol.add (Pol.up S (ofL m)) (ofL r) := by
      funext i
      show GF.of ((wd S r ++ m).getD i 0) = Pol.up S (ofL m) i + ofL r i
      rw [getD_append, wd_length]
      by_cases hi : i < S
      · rw [if_pos hi, wd_at r hi]
        have : Pol.up S (ofL m) i = 0 := by unfold Pol.up; rw [if_neg (by omega)]
        rw [this, GF.zero_add]; rfl
      · rw [if_neg hi]
        have : Pol.up S (ofL m) i = ofL m (i - S) := by unfold Pol.up; rw [if_pos (by omega)]
        rw [this, hr i (by omega), GF.add_zero]; rfl
    rw [h1, e, Pol.add_comm, ← Pol.add_assoc, Pol.add_comm (ofL r), Pol.add_assoc, Pol.add_self, Pol.add_zero]
  have hby : Byt (wd S r ++ m) := fun i => by
    rw [getD_append]; split
    · exact wd_byt br S i
    · exact bm _
  refine ⟨isW_ev hl fun j hj => ?_, hby, ?_⟩
  · rw [ho]
    have h1 : Bd (S + 1) (ofL (gen B S)) := by have := Pol.ofL_bd (gen B S); rwa [gen_length] at this
    have h2 : Bd N (Pol.mul P (ofL (gen B S))) := by rw [← ho, ← hl]; exact Pol.ofL_bd _
    have h3 := Pol.ev_mul (al (B + j)) hP h1
    have h4 : ev (S + 1) (ofL (gen B S)) (al (B + j)) = 0 := by
      have h5 : vl (gen B S) (pt (B + j)) = 0 := (gen_zero (pt_lt _)).2 (mem_rts.2 ⟨j, hj, rfl⟩)
      rw [Pol.vl_zero_iff, of_pt, gen_length] at h5
      exact h5
    rw [h4, GF.mul_zero] at h3
    have h6 := Pol.ev_more (al (B + j)) N (N + (n + (S + 1))) h2 (by omega)
    have hb3 : Bd (n + (S + 1)) (Pol.mul P (ofL (gen B S))) := by
      cases n with
      | zero =>
        have : P = Pol.zero := Pol.bd_zero hP
        rw [this, Pol.zero_mul]; exact Bd.zero _
      | succ n => exact (hP.mul h1).mono_le (by omega)
    have h7 := Pol.ev_more (al (B + j)) (n + (S + 1)) (N + (n + (S + 1))) hb3 (by omega)
    rw [← h6, h7, h3]
  · rw [List.drop_append_of_le_length (by rw [wd_length]; exact Nat.le_refl _), List.drop_of_length_le (by rw [wd_length]; exact Nat.le_refl _)]; rfl
theorem isEnc_exists {N S K B : Nat} {m : List Nat} (hm : m.length = K) (bm : Byt m) (hN : S + K = N) : ∃ w, IsEnc N S B m w := by
  have hg : Pol.Dg (S + 1) (ofL (gen B S)) := by have := (gen_isN B S).dg; rw [gen_length, ← (gen_isN B S).eq] at this; exact this
  obtain ⟨q, r, hn, h2, h3⟩ := Pol.div_exists hg _ (Pol.up S (ofL m)) ((Pol.ofL_bd m).up S)
  obtain ⟨rs, hrs, _⟩ := Pol.isN_of_bd h2
  exact ⟨_, isEnc_rest hm bm hrs.byt hN (hrs.eq ▸ h2) hn (by rw [hrs.eq]; exact h3)⟩
/-- The words of sums are sums of words. -/
theorem IsEnc.add {N S B : Nat} {m k v w u : List Nat} (h : IsEnc N S B m v) (h' : IsEnc N S B k w) (hu : u.length = N) (e : ∀ i, i < N → u.getD i 0 = v.getD i 0 ^^^ w.getD i 0) : IsEnc N S B (u.drop S) u := by
  have bu : Byt u := fun i => by
    by_cases hi : i < N
    · rw [e i hi]; exact Gf.xor_lt8 (h.byt i) (h'.byt i)
    · rw [Mx.getD_out (by omega)]; decide
  refine ⟨h.word.add h'.word 1 hu fun i hi => ?_, bu, rfl⟩
  unfold Pol.ofL
  rw [e i hi, GF.one_mul]
  exact GF.ext (by rw [GF.of_val _ (Gf.xor_lt8 (h.byt i) (h'.byt i)), GF.add_val, GF.of_val _ (h.byt i), GF.of_val _ (h'.byt i)])
end Cd
end Go.Proofs
/- Syndromes, locators, and what one makes of the other. Nothing of the program. -/
namespace Go.Proofs
namespace Cd
open Pol (ofL toL Byt Bd IsN ev vl Dg)
open GF (al pw ls)

/-- The syndromes of a word, as a row without end. -/
def sy (N B : Nat) (w : Pol) : Pol := fun j => ev N w (al (B + j))
theorem sy_ls (N B : Nat) (w : Pol) (j : Nat) : sy N B w j = ls ((List.range N).map fun i => (w i * pw (al i) B) * pw (al i) j) := by
  unfold sy
  rw [Pol.ev_ls]
  refine GF.ls_congr _ _ _ fun i _ => ?_
  rw [Pol.pw_al, GF.pw_add, GF.mul_assoc]
theorem sy_add (N B : Nat) (v w : Pol) : sy N B (Pol.add v w) = Pol.add (sy N B v) (sy N B w) := by funext j; exact Pol.ev_add N v w _
/-- As a list. -/
def syL (S B : Nat) (w : List Nat) : List Nat := (List.range S).map fun j => vl w (pt (B + j))
theorem syL_length (S B : Nat) (w : List Nat) : (syL S B w).length = S := by simp [syL]
theorem syL_byt (S B : Nat) (w : List Nat) : Byt (syL S B w) := fun i => by
  by_cases h : i < S
  · unfold syL; rw [Mx.getD_range_map S _ i h]; exact Pol.vl_lt _ _
  · rw [Mx.getD_out (by rw [syL_length]; omega)]; decide
theorem syL_at {S B j : Nat} (w : List Nat) (h : j < S) : (syL S B w).getD j 0 = vl w (pt (B + j)) := Mx.getD_range_map S _ j h
theorem ofL_syL {N S B j : Nat} {w : List Nat} (hl : w.length = N) (h : j < S) : ofL (syL S B w) j = sy N B (ofL w) j := by
  unfold Pol.ofL sy
  rw [syL_at w h, Pol.of_vl, hl, of_pt]; rfl
theorem syL_isW {N S B : Nat} {w : List Nat} (hl : w.length = N) : (∀ j, (syL S B w).getD j 0 = 0) ↔ IsW N S B w := by
  constructor
  · intro h
    exact ⟨hl, fun j hj => by rw [← syL_at w hj]; exact h j⟩
  · rintro ⟨_, h⟩ j
    by_cases hj : j < S
    · rw [syL_at w hj]; exact h j hj
    · exact Mx.getD_out (by rw [syL_length]; omega)

/-! ## A row of powers, times a polynomial -/
/-- A row of powers. -/
def geo (c X : GF) : Pol := fun n => c * pw X n
theorem mul_geo (c X y : GF) (hy : X * y = 1) : ∀ (d : Nat) (L : Pol) (n : Nat), Bd (d + 1) L → d ≤ n → Pol.mul L (geo c X) n = c * pw X n * ev (d + 1) L y
  | 0, L, n, hL, _ => by
    have ht : Pol.tail L = Pol.zero := Pol.bd_zero hL.tail
    have e1 : ev (0 + 1) L y = L 0 := by
      show L 0 + y * ev 0 (Pol.tail L) y = L 0
      show L 0 + y * 0 = L 0
      rw [GF.mul_zero, GF.add_zero]
    rw [e1]
    cases n with
    | zero => rw [Pol.mul_0]; exact GF.mul_comm _ _
    | succ n =>
      rw [Pol.mul_succ, ht, Pol.zero_mul]
      show L 0 * geo c X (n + 1) + 0 = _
      rw [GF.add_zero]; exact GF.mul_comm _ _
  | d + 1, L, n, hL, hn => by
    obtain ⟨m, rfl⟩ : ∃ m, n = m + 1 := ⟨n - 1, by omega⟩
    rw [Pol.mul_succ, mul_geo c X y hy d (Pol.tail L) m hL.tail (by omega)]
    show L 0 * (c * (X * pw X m)) + c * pw X m * ev (d + 1) (Pol.tail L) y = c * (X * pw X m) * (L 0 + y * ev (d + 1) (Pol.tail L) y)
    rw [GF.mul_add, GF.mul_comm (L 0)]
    congr 1
    generalize ev (d + 1) (Pol.tail L) y = z
    generalize pw X m = u
    have e2 : c * (X * u) * (y * z) = c * u * (X * y) * z := by ac_rfl
    rw [e2, hy, GF.mul_one]
theorem mul_ls {α : Type} (L : Pol) (I : List α) (f : α → Pol) (n : Nat) : Pol.mul L (fun j => ls (I.map fun i => f i j)) n = ls (I.map fun i => Pol.mul L (f i) n) := by
  induction I with
  | nil =>
    show Pol.mul L Pol.zero n = 0
    rw [Pol.mul_zero]; rfl
  | cons a I ih =>
    show Pol.mul L (Pol.add (f a) fun j => ls (I.map fun i => f i j)) n = Pol.mul L (f a) n + ls (I.map fun i => Pol.mul L (f i) n)
    rw [Pol.mul_add, ← ih]; rfl
/-- What a polynomial makes of syndromes, from its degree on: a row of powers for each place, times its value there. -/
theorem mul_sy {N B d n : Nat} {w L : Pol} (hL : Bd (d + 1) L) (hn : d ≤ n) : Pol.mul L (sy N B w) n = ls ((List.range N).map fun i => w i * pw (al i) B * pw (al i) n * ev (d + 1) L (GF.inv (al i))) := by
  have e : sy N B w = fun j => ls ((List.range N).map fun i => geo (w i * pw (al i) B) (al i) j) := by funext j; exact sy_ls N B w j
  rw [e, mul_ls]
  refine GF.ls_congr _ _ _ fun i _ => ?_
  exact mul_geo _ _ _ (GF.mul_inv _ (GF.al_ne_zero i)) d L n hL hn
theorem mul_sy_zero {N B d n : Nat} {w L : Pol} (hL : Bd (d + 1) L) (hn : d ≤ n) (h : ∀ i, i < N → w i ≠ 0 → ev (d + 1) L (GF.inv (al i)) = 0) : Pol.mul L (sy N B w) n = 0 := by
  rw [mul_sy hL hn]
  refine GF.ls_zero _ _ fun i hi => ?_
  rw [List.mem_range] at hi
  by_cases h0 : w i = 0
  · rw [h0, GF.zero_mul, GF.zero_mul, GF.zero_mul]
  · rw [h i hi h0, GF.mul_zero]

/-! ## Locators -/
/-- 1 + c x. -/
def li (c : GF) : Pol := fun i => if i = 0 then 1 else if i = 1 then c else 0
theorem li_bd (c : GF) : Bd 2 (li c) := fun i hi => by unfold li; rw [if_neg (by omega), if_neg (by omega)]
theorem li_dg {c : GF} (h : c ≠ 0) : Dg 2 (li c) := ⟨li_bd c, fun _ => h⟩
theorem li_ev (c x : GF) : ev 2 (li c) x = 1 + c * x := by
  show li c 0 + x * (li c 1 + x * 0) = 1 + c * x
  rw [GF.mul_zero, GF.add_zero, GF.mul_comm c]; rfl
/-- The product of 1 + c x for each. -/
def lo : List GF → Pol
  | [] => Pol.one
  | c :: l => Pol.mul (li c) (lo l)
theorem lo_append (l m : List GF) : lo (l ++ m) = Pol.mul (lo l) (lo m) := by
  induction l with
  | nil => exact (Pol.one_mul _).symm
  | cons c l ih => show Pol.mul (li c) (lo (l ++ m)) = Pol.mul (Pol.mul (li c) (lo l)) (lo m); rw [ih, Pol.mul_assoc]
theorem lo_snoc (l : List GF) (c : GF) : lo (l ++ [c]) = Pol.mul (lo l) (li c) := by
  rw [lo_append]; show Pol.mul (lo l) (Pol.mul (li c) Pol.one) = _; rw [Pol.mul_one]
theorem lo_perm {l m : List GF} (h : l.Perm m) : lo l = lo m := by
  induction h with
  | nil => rfl
  | cons c _ ih => show Pol.mul (li c) _ = Pol.mul (li c) _; rw [ih]
  | swap a b l => show Pol.mul (li b) (Pol.mul (li a) (lo l)) = Pol.mul (li a) (Pol.mul (li b) (lo l)); rw [← Pol.mul_assoc, Pol.mul_comm (li b), Pol.mul_assoc]
  | trans _ _ h1 h2 => exact h1.trans h2
theorem lo_bd (l : List GF) : Bd (l.length + 1) (lo l) := by
  induction l with
  | nil =>
    intro i hi
    show (if i = 0 then (1 : GF) else 0) = 0
    rw [if_neg (by simp at hi; omega)]
  | cons c l ih =>
    have := (li_bd c).mul ih
    exact this.mono_le (by simp; omega)
theorem lo_dg {l : List GF} (h : ∀ c ∈ l, c ≠ 0) : Dg (l.length + 1) (lo l) := by
  induction l with
  | nil => exact ⟨lo_bd [], fun _ => GF.one_ne_zero⟩
  | cons c l ih =>
    have := (li_dg (h c (by simp))).mul (ih fun x hx => h x (by simp [hx]))
    rw [show 1 + l.length + 1 = (c :: l).length + 1 by simp; omega] at this
    exact this
theorem lo_at0 (l : List GF) : lo l 0 = 1 := by
  induction l with
  | nil => rfl
  | cons c l ih => show Pol.mul (li c) (lo l) 0 = 1; rw [Pol.mul_0, ih]; exact GF.mul_one _
theorem lo_ev_cons (c : GF) (l : List GF) (x : GF) : ev ((c :: l).length + 1) (lo (c :: l)) x = (1 + c * x) * ev (l.length + 1) (lo l) x := by
  have h1 := Pol.ev_mul x (li_bd c) (lo_bd l)
  rw [li_ev] at h1
  rw [← h1]
  exact (Pol.ev_more x ((c :: l).length + 1) (2 + (l.length + 1)) (lo_bd (c :: l)) (by simp; omega)).symm
/-- A locator is 0 just at what one of its points is multiplied by to 1. -/
theorem lo_zero (l : List GF) (x : GF) : ev (l.length + 1) (lo l) x = 0 ↔ ∃ c ∈ l, c * x = 1 := by
  induction l with
  | nil =>
    constructor
    · intro h
      have : ev (0 + 1) Pol.one x = 1 := Pol.ev_one 0 x
      rw [show (([] : List GF).length + 1) = 0 + 1 from rfl] at h
      exact absurd (this.symm.trans h) GF.one_ne_zero
    · rintro ⟨c, hc, _⟩; cases hc
  | cons c l ih =>
    rw [lo_ev_cons]
    constructor
    · intro h
      rcases GF.mul_eq_zero h with h1 | h1
      · exact ⟨c, by simp, (GF.eq_of_add h1).symm⟩
      · obtain ⟨d, hd, e⟩ := ih.1 h1
        exact ⟨d, by simp [hd], e⟩
    · rintro ⟨d, hd, e⟩
      rcases List.mem_cons.1 hd with rfl | hd
      · rw [e, GF.add_self, GF.zero_mul]
      · rw [ih.2 ⟨d, hd, e⟩, GF.mul_zero]
/-- The locator of places, as a list. -/
def loL (e : List Nat) : List Nat := toL (e.length + 1) (lo (e.map al))
theorem loL_length (e : List Nat) : (loL e).length = e.length + 1 := Pol.toL_length _ _
theorem loL_isN (e : List Nat) : IsN (loL e) (lo (e.map al)) := by
  have := lo_dg (l := e.map al) (fun c hc => by simp at hc; obtain ⟨i, _, rfl⟩ := hc; exact GF.al_ne_zero i)
  rw [List.length_map] at this
  exact Pol.isN_of_dg this
theorem loL_perm {e f : List Nat} (h : e.Perm f) : loL e = loL f := by unfold loL; rw [h.length_eq, lo_perm (h.map al)]
/-- It is 0 at a place's inverse point just if the place is one of them. -/
theorem loL_zero {e : List Nat} {p : Nat} (he : ∀ i ∈ e, i < 255) (hp : p < 255) : ev (e.length + 1) (ofL (loL e)) (GF.inv (al p)) = 0 ↔ p ∈ e := by
  rw [(loL_isN e).eq]
  have h1 := lo_zero (e.map al) (GF.inv (al p))
  rw [List.length_map] at h1
  rw [h1]
  constructor
  · rintro ⟨c, hc, h⟩
    rw [List.mem_map] at hc
    obtain ⟨i, hi, rfl⟩ := hc
    have h2 : al i = al p := by
      have h3 : al i * GF.inv (al p) * al p = 1 * al p := by rw [h]
      rwa [GF.mul_assoc, GF.inv_mul _ (GF.al_ne_zero p), GF.mul_one, GF.one_mul] at h3
    rw [← GF.al_inj (he i hi) hp h2]; exact hi
  · intro h
    exact ⟨al p, List.mem_map.2 ⟨p, h, rfl⟩, GF.mul_inv _ (GF.al_ne_zero p)⟩

/-! ## Modified syndromes -/
/-- The first coefficients of a product. -/
def modL (s l : List Nat) : List Nat := toL s.length (Pol.mul (ofL s) (ofL l))
theorem modL_length (s l : List Nat) : (modL s l).length = s.length := Pol.toL_length _ _
theorem modL_at {s l : List Nat} {i : Nat} (h : i < s.length) : ofL (modL s l) i = Pol.mul (ofL s) (ofL l) i := Mx.ofL_toL_at _ _ i h
theorem modL_sy {N S B i : Nat} {w l : List Nat} (hl : w.length = N) (h : i < S) : ofL (modL (syL S B w) l) i = Pol.mul (ofL l) (sy N B (ofL w)) i := by
  rw [modL_at (by rw [syL_length]; exact h), Pol.mul_comm]
  exact Pol.mul_congr i (fun _ _ => rfl) fun j hj => ofL_syL hl (by omega)
/-- Behind as many as are erased, what stands at these places alone is not seen. -/
theorem modL_zero {N S B i : Nat} {w e : List Nat} (hN : N ≤ 255) (hl : w.length = N) (he : ∀ p ∈ e, p < N) (hw : ∀ p, p < N → p ∉ e → w.getD p 0 = 0) (h1 : e.length ≤ i) (h2 : i < S) : (modL (syL S B w) (loL e)).getD i 0 = 0 := by
  have hb : Bd (e.length + 1) (ofL (loL e)) := by have := Pol.ofL_bd (loL e); rwa [loL_length] at this
  have h3 := mul_sy_zero (N := N) (B := B) (w := ofL w) hb h1 fun p hp h0 => by
    refine (loL_zero (fun q hq => by have := he q hq; omega) (by omega)).2 ?_
    refine Classical.byContradiction fun hn => h0 ?_
    unfold Pol.ofL; rw [hw p hp hn]; rfl
  rw [← modL_sy hl h2] at h3
  have h4 : GF.of ((modL (syL S B w) (loL e)).getD i 0) = 0 := h3
  have hlt : (modL (syL S B w) (loL e)).getD i 0 < 256 := Pol.toL_byt _ _ i
  rw [← GF.of_val _ hlt, h4]; rfl
end Cd
end Go.Proofs
