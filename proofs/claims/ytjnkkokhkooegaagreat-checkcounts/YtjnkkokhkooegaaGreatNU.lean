/- Texts laid together: CodM, EncM, SynM, ChkM, CheM. Each says its own conditions. -/
import Derived.Test.YtjnkkokhkooegaaGreatMA
import Derived.Test.YtjnkkokhkooegaaGreatMN
/- Codes: their roots, their generator, their parity, their words, as lists. Nothing of the program. -/
namespace Go.Proofs
namespace Cd
open Pol (ofL toL Byt Bd IsN ev vl frL fr)
open GF (al pw)
open Mx (mx cells timesL dot sm)

/-- The power i of 2, as a byte. -/
def pt (i : Nat) : Nat := (al i).val
theorem pt_lt (i : Nat) : pt i < 256 := GF.lt _
theorem of_pt (i : Nat) : GF.of (pt i) = al i := GF.of_self _
theorem powZ_pt (n : Nat) : Gf.powZ 2 (n : Int) = pt n := by
  unfold pt Gf.powZ
  rw [if_neg (by omega), Int.toNat_natCast, GF.al_val]
theorem pt_mul (i j : Nat) : Gf.mul (pt i) (pt j) = pt (i + j) := by unfold pt; rw [GF.al_add]; rfl
/-- The roots of a code: S powers in a row, from B on. -/
def rts (B S : Nat) : List Nat := (List.range S).map fun j => pt (B + j)
theorem rts_length (B S : Nat) : (rts B S).length = S := by simp [rts]
theorem rts_at {B S j : Nat} (h : j < S) : (rts B S).getD j 0 = pt (B + j) := Mx.getD_range_map S _ j h
theorem rts_succ (B S : Nat) : rts B (S + 1) = rts B S ++ [pt (B + S)] := by unfold rts; rw [List.range_succ, List.map_append]; rfl
theorem mem_rts {B S x : Nat} : x ∈ rts B S ↔ ∃ j, j < S ∧ pt (B + j) = x := by simp [rts]
theorem rts_byt (B S : Nat) : Byt (rts B S) := Pol.byt_of_mem fun x hx => by obtain ⟨j, _, rfl⟩ := mem_rts.1 hx; exact pt_lt _
/-- The generator. -/
def gen (B S : Nat) : List Nat := frL (rts B S)
theorem gen_length (B S : Nat) : (gen B S).length = S + 1 := by unfold gen; rw [Pol.frL_length, rts_length]
theorem gen_isN (B S : Nat) : IsN (gen B S) (fr (rts B S)) := Pol.frL_isN _
theorem gen_zero {B S x : Nat} (hx : x < 256) : vl (gen B S) x = 0 ↔ x ∈ rts B S := Pol.vl_frL _ (rts_byt B S) x hx

/-- Is w a word? -/
def IsW (N S B : Nat) (w : List Nat) : Prop := w.length = N ∧ ∀ j, j < S → vl w (pt (B + j)) = 0
instance (N S B : Nat) (w : List Nat) : Decidable (IsW N S B w) := by unfold IsW; infer_instance
theorem IsW.less {N S T B : Nat} {w : List Nat} (h : IsW N S B w) (hT : T ≤ S) : IsW N T B w := ⟨h.1, fun j hj => h.2 j (by omega)⟩
theorem IsW.val {N S B : Nat} {w : List Nat} (h : IsW N S B w) (j : Nat) (hj : j < S) : ev N (ofL w) (al (B + j)) = 0 := by
  have := h.2 j hj
  rw [Pol.vl_zero_iff, h.1, of_pt] at this
  exact this
theorem isW_ev {N S B : Nat} {w : List Nat} (hl : w.length = N) (h : ∀ j, j < S → ev N (ofL w) (al (B + j)) = 0) : IsW N S B w :=
  ⟨hl, fun j hj => by rw [Pol.vl_zero_iff, hl, of_pt]; exact h j hj⟩
/-- A list as long as words are. -/
def wd (N : Nat) (l : List Nat) : List Nat := (List.range N).map fun i => l.getD i 0
theorem wd_length (N : Nat) (l : List Nat) : (wd N l).length = N := by simp [wd]
theorem wd_at {N i : Nat} (l : List Nat) (h : i < N) : (wd N l).getD i 0 = l.getD i 0 := Mx.getD_range_map N _ i h
theorem wd_byt {l : List Nat} (h : Byt l) (N : Nat) : Byt (wd N l) := fun i => by
  by_cases hi : i < N
  · rw [wd_at l hi]; exact h i
  · rw [Mx.getD_out (by rw [wd_length]; omega)]; decide
theorem wd_same {N : Nat} {l : List Nat} (h : l.length = N) : wd N l = l := Mx.list_ext (by rw [wd_length, h]) fun i hi => by rw [wd_length] at hi; rw [wd_at l hi]

/-! ## What words are -/
theorem IsW.add {N S B : Nat} {v w : List Nat} (h : IsW N S B v) (k : IsW N S B w) (a : GF) {u : List Nat} (hu : u.length = N) (e : ∀ i, i < N → ofL u i = ofL v i + a * ofL w i) : IsW N S B u := by
  refine isW_ev hu fun j hj => ?_
  have h1 : ev N (ofL u) (al (B + j)) = ev N (Pol.add (ofL v) (Pol.smul a (ofL w))) (al (B + j)) := Pol.ev_congr N _ fun i hi => e i hi
  rw [h1, Pol.ev_add, Pol.ev_smul, h.val j hj, k.val j hj, GF.mul_zero, GF.add_zero]
/-! ## How far words are -/
/-- How many are not nought. -/
def nz (w : List Nat) : Nat := (w.filter fun x => x != 0).length
theorem nz_supp {N : Nat} {w : List Nat} (hl : w.length = N) (bw : Byt w) : nz w = (Pol.supp N (ofL w)).length := by
  have e : w = (List.range N).map fun i => w.getD i 0 := (wd_same hl).symm
  unfold nz Pol.supp
  conv => lhs; rw [e]
  rw [List.filter_map, List.length_map]
  congr 1
  refine List.filter_congr fun i _ => ?_
  show (w.getD i 0 != 0) = decide (GF.of (w.getD i 0) ≠ 0)
  by_cases h : w.getD i 0 = 0
  · rw [h]; rfl
  · have : GF.of (w.getD i 0) ≠ 0 := fun e => h (by rw [← GF.of_val _ (bw i), e]; rfl)
    rw [decide_eq_true this]
    exact bne_iff_ne.2 h
theorem nz_zero {w : List Nat} : nz w = 0 ↔ ∀ i, w.getD i 0 = 0 := by
  unfold nz
  rw [List.length_eq_zero_iff, List.filter_eq_nil_iff]
  constructor
  · intro h i
    by_cases hi : i < w.length
    · have e : w.getD i 0 = w[i] := by simp [List.getD, hi]
      have := h _ (List.getElem_mem hi)
      rw [e]; simpa using this
    · exact Mx.getD_out (by omega)
  · intro h x hx
    obtain ⟨i, hi, rfl⟩ := List.getElem_of_mem hx
    have e : w.getD i 0 = w[i] := by simp [List.getD, hi]
    rw [← e, h i]; decide
/-- A word that is not all nought has more bytes that are not than there are roots. -/
theorem far {N S B : Nat} {w : List Nat} (h : IsW N S B w) (hN : N ≤ 255) (bw : Byt w) (h0 : nz w ≠ 0) : S < nz w := by
  refine Nat.lt_of_not_le fun hle => h0 ?_
  have hz := Pol.far (N := N) (b := B) (S := S) (w := ofL w) hN (h.1 ▸ Pol.ofL_bd w) (by rw [← nz_supp h.1 bw]; exact hle) h.val
  rw [nz_zero]
  intro i
  have := congrFun hz i
  have h2 : GF.of (w.getD i 0) = 0 := this
  rw [← GF.of_val _ (bw i), h2]; rfl

/-! ## Parity -/
/-! ## Another first root -/
end Cd
end Go.Proofs
/- Words of messages, as lists: there is one, and only one. Nothing of the program. -/
namespace Go.Proofs
namespace Cd
open Pol (ofL toL Byt Bd IsN ev vl)
open GF (al pw)

/-- w is the word of the message m. -/
structure IsEnc (N S B : Nat) (m w : List Nat) : Prop where
  word : IsW N S B w
  byt : Byt w
  msg : w.drop S = m
theorem drop_getD (w : List Nat) (S i : Nat) : (w.drop S).getD i 0 = w.getD (S + i) 0 := by simp only [List.getD, List.getElem?_drop]
/-- Words that bear one message are one. -/
theorem IsW.same {N S B : Nat} {v w : List Nat} (h : IsW N S B v) (k : IsW N S B w) (hN : N ≤ 255) (bv : Byt v) (bw : Byt w) (e : v.drop S = w.drop S) : v = w := by
  have hu : ((List.range N).map fun i => v.getD i 0 ^^^ w.getD i 0).length = N := by simp
  obtain ⟨u, hue⟩ : ∃ u, ((List.range N).map fun i => v.getD i 0 ^^^ w.getD i 0) = u := ⟨_, rfl⟩
  rw [hue] at hu
  have ua : ∀ i, i < N → u.getD i 0 = v.getD i 0 ^^^ w.getD i 0 := fun i hi => by rw [← hue, Mx.getD_range_map N _ i hi]
  have bu : Byt u := fun i => by
    by_cases hi : i < N
    · rw [ua i hi]; exact Gf.xor_lt8 (bv i) (bw i)
    · rw [Mx.getD_out (by omega)]; decide
  have hW : IsW N S B u := h.add k 1 hu fun i hi => by
    unfold Pol.ofL
    rw [ua i hi, GF.one_mul]
    exact GF.ext (by rw [GF.of_val _ (Gf.xor_lt8 (bv i) (bw i)), GF.add_val, GF.of_val _ (bv i), GF.of_val _ (bw i)])
  have hz : ∀ i, S ≤ i → i < N → u.getD i 0 = 0 := fun i h1 h2 => by
    have h3 := congrArg (fun l => l.getD (i - S) 0) e
    simp only [drop_getD] at h3
    rw [show S + (i - S) = i by omega] at h3
    rw [ua i h2, h3, Nat.xor_self]
  have hn : nz u ≤ S := by
    rw [nz_supp hu bu]
    have : ∀ x ∈ Pol.supp N (ofL u), x ∈ List.range S := fun x hx => by
      have h1 := Pol.mem_supp.1 hx
      rw [List.mem_range]
      refine Nat.lt_of_not_le fun h2 => h1.2 ?_
      unfold Pol.ofL
      rw [hz x h2 h1.1]; rfl
    have := Pol.nodup_le _ _ (Pol.supp_nodup N (ofL u)) this
    rwa [List.length_range] at this
  have h0 : nz u = 0 := by
    refine Classical.byContradiction fun hne => ?_
    have := far hW hN bu hne
    omega
  rw [nz_zero] at h0
  refine Mx.list_ext (by rw [h.1, k.1]) fun i hi => ?_
  rw [h.1] at hi
  have h1 := h0 i
  rw [ua i hi] at h1
  have h2 : v.getD i 0 ^^^ w.getD i 0 ^^^ w.getD i 0 = w.getD i 0 := by rw [h1, Nat.zero_xor]
  rwa [Nat.xor_assoc, Nat.xor_self, Nat.xor_zero] at h2
theorem IsEnc.unique {N S B : Nat} {m v w : List Nat} (h : IsEnc N S B m v) (k : IsEnc N S B m w) (hN : N ≤ 255) : v = w := h.word.same k.word hN h.byt k.byt (h.msg.trans k.msg.symm)
theorem getD_append (l m : List Nat) (i : Nat) : (l ++ m).getD i 0 = if i < l.length then l.getD i 0 else m.getD (i - l.length) 0 := Pol.getD_append l m i
/-- A message, moved up, and what is left of it by the generator, is a word. -/
theorem isEnc_rest {N S K B : Nat} {m r : List Nat} {P : Pol} (hm : m.length = K) (bm : Byt m) (br : Byt r) (hN : S + K = N) (hr : Bd S (ofL r)) {n : Nat} (hP : Bd n P) (e : Pol.up S (ofL m) = Pol.add (Pol.mul P (ofL (gen B S))) (ofL r)) : IsEnc N S B m (wd S r ++ m) := by
  have hl : (wd S r ++ m).length = N := by rw [List.length_append, wd_length, hm, hN]
  have ho : ofL (wd S r ++ m) = Pol.mul P (ofL (gen B S)) := by
    have h1 : ofL (wd S r ++ m) = Pol.add (Pol.up S (ofL m)) (ofL r) := by
      funext i
      show GF.of ((wd S r ++ m).getD i 0) = Pol.up S (ofL m) i + ofL r i
      rw [getD_append, wd_length]
      by_cases hi : i < S
      · rw [if_pos hi, wd_at r hi]
        have : Pol.up S (ofL m) i = 0 := by unfold Pol.up; rw [if_neg (by omega)]
        rw [this, GF.zero_add]; rfl
      · rw [if_neg hi]
        have : Pol.up S (ofL m) i = ofL m (i - S) := by unfold Pol.up; rw [if_pos (by omega)]
        rw [this, hr i (by omega), GF.add_zero]; rfl
    rw [h1, e, Pol.add_comm, ← Pol.add_assoc, Pol.add_comm (ofL r), Pol.add_assoc, Pol.add_self, Pol.add_zero]
  have hby : Byt (wd S r ++ m) := fun i => by
    rw [getD_append]; split
    · exact wd_byt br S i
    · exact bm _
  refine ⟨isW_ev hl fun j hj => ?_, hby, ?_⟩
  · rw [ho]
    have h1 : Bd (S + 1) (ofL (gen B S)) := by have := Pol.ofL_bd (gen B S); rwa [gen_length] at this
    have h2 : Bd N (Pol.mul P (ofL (gen B S))) := by rw [← ho, ← hl]; exact Pol.ofL_bd _
    have h3 := Pol.ev_mul (al (B + j)) hP h1
    have h4 : ev (S + 1) (ofL (gen B S)) (al (B + j)) = 0 := by
      have h5 : vl (gen B S) (pt (B + j)) = 0 := (gen_zero (pt_lt _)).2 (mem_rts.2 ⟨j, hj, rfl⟩)
      rw [Pol.vl_zero_iff, of_pt, gen_length] at h5
      exact h5
    rw [h4, GF.mul_zero] at h3
    have h6 := Pol.ev_more (al (B + j)) N (N + (n + (S + 1))) h2 (by omega)
    have hb3 : Bd (n + (S + 1)) (Pol.mul P (ofL (gen B S))) := by
      cases n with
      | zero =>
        have : P = Pol.zero := Pol.bd_zero hP
        rw [this, Pol.zero_mul]; exact Bd.zero _
      | succ n => exact (hP.mul h1).mono_le (by omega)
    have h7 := Pol.ev_more (al (B + j)) (n + (S + 1)) (N + (n + (S + 1))) hb3 (by omega)
    rw [← h6, h7, h3]
  · rw [List.drop_append_of_le_length (by rw [wd_length]; exact Nat.le_refl _), List.drop_of_length_le (by rw [wd_length]; exact Nat.le_refl _)]; rfl
theorem isEnc_exists {N S K B : Nat} {m : List Nat} (hm : m.length = K) (bm : Byt m) (hN : S + K = N) : ∃ w, IsEnc N S B m w := by
  have hg : Pol.Dg (S + 1) (ofL (gen B S)) := by have := (gen_isN B S).dg; rw [gen_length, ← (gen_isN B S).eq] at this; exact this
  obtain ⟨q, r, hn, h2, h3⟩ := Pol.div_exists hg _ (Pol.up S (ofL m)) ((Pol.ofL_bd m).up S)
  obtain ⟨rs, hrs, _⟩ := Pol.isN_of_bd h2
  exact ⟨_, isEnc_rest hm bm hrs.byt hN (hrs.eq ▸ h2) hn (by rw [hrs.eq]; exact h3)⟩
/-- The words of sums are sums of words. -/
theorem IsEnc.add {N S B : Nat} {m k v w u : List Nat} (h : IsEnc N S B m v) (h' : IsEnc N S B k w) (hu : u.length = N) (e : ∀ i, i < N → u.getD i 0 = v.getD i 0 ^^^ w.getD i 0) : IsEnc N S B (u.drop S) u := by
  have bu : Byt u := fun i => by
    by_cases hi : i < N
    · rw [e i hi]; exact Gf.xor_lt8 (h.byt i) (h'.byt i)
    · rw [Mx.getD_out (by omega)]; decide
  refine ⟨h.word.add h'.word 1 hu fun i hi => ?_, bu, rfl⟩
  unfold Pol.ofL
  rw [e i hi, GF.one_mul]
  exact GF.ext (by rw [GF.of_val _ (Gf.xor_lt8 (h.byt i) (h'.byt i)), GF.add_val, GF.of_val _ (h.byt i), GF.of_val _ (h'.byt i)])
end Cd
end Go.Proofs
/- Syndromes, locators, and what one makes of the other. Nothing of the program. -/
namespace Go.Proofs
namespace Cd
open Pol (ofL toL Byt Bd IsN ev vl Dg)
open GF (al pw ls)

/-! ## A row of powers, times a polynomial -/
/-! ## Locators -/
/-- 1 + c x. -/
def li (c : GF) : Pol := fun i => if i = 0 then 1 else if i = 1 then c else 0
/-- The product of 1 + c x for each. -/
def lo : List GF → Pol
  | [] => Pol.one
  | c :: l => Pol.mul (li c) (lo l)
/-! ## Modified syndromes -/
end Cd
end Go.Proofs
/- What may be told: of any word and any places there is at most one answer. Nothing of the program. -/
namespace Go.Proofs
namespace Cd
open Pol (ofL toL Byt Bd IsN ev vl)

/-- Where two lists are unlike. -/
def ap (r w : List Nat) : List Nat := (List.range (min r.length w.length)).filter fun i => r.getD i 0 != w.getD i 0
theorem mem_ap {r w : List Nat} {i : Nat} : i ∈ ap r w ↔ i < r.length ∧ i < w.length ∧ r.getD i 0 ≠ w.getD i 0 := by
  unfold ap
  rw [List.mem_filter, List.mem_range, bne_iff_ne]
  constructor
  · rintro ⟨h1, h2⟩; exact ⟨by omega, by omega, h2⟩
  · rintro ⟨h1, h2, h3⟩; exact ⟨by omega, h3⟩
theorem ap_comm (r w : List Nat) : ap r w = ap w r := by
  unfold ap
  rw [Nat.min_comm]
  refine List.filter_congr fun i _ => ?_
  by_cases h : r.getD i 0 = w.getD i 0
  · rw [h]
  · rw [bne_iff_ne.2 h, bne_iff_ne.2 (Ne.symm h)]
theorem ap_self (r : List Nat) : ap r r = [] := by
  unfold ap
  rw [List.filter_eq_nil_iff]
  intro i _
  simp
theorem ap_nodup (r w : List Nat) : (ap r w).Nodup := List.Pairwise.filter _ List.nodup_range
/-- The places ahead of k at which they are unlike. -/
def apK (r w : List Nat) (k : Nat) : List Nat := (List.range k).filter fun i => r.getD i 0 != w.getD i 0
theorem apK_yes {r w : List Nat} {k : Nat} (h : r.getD k 0 ≠ w.getD k 0) : apK r w (k + 1) = apK r w k ++ [k] := by
  unfold apK; rw [List.range_succ, List.filter_append]
  congr 1
  rw [List.filter_cons_of_pos (p := fun i => r.getD i 0 != w.getD i 0) (a := k) (bne_iff_ne.2 h)]; rfl
theorem apK_no {r w : List Nat} {k : Nat} (h : r.getD k 0 = w.getD k 0) : apK r w (k + 1) = apK r w k := by
  unfold apK; rw [List.range_succ, List.filter_append]
  have : [k].filter (fun i => r.getD i 0 != w.getD i 0) = [] := by
    rw [List.filter_eq_nil_iff]; intro i hi; simp at hi; subst hi; rw [bne_iff_ne]; exact fun hn => hn h
  rw [this, List.append_nil]
/-- How many of these are not among e. -/
def wr (r w e : List Nat) : Nat := ((ap r w).filter fun i => decide (i ∉ e)).length
theorem wr_mem {r w e : List Nat} {i : Nat} : i ∈ (ap r w).filter (fun i => decide (i ∉ e)) ↔ i ∈ ap r w ∧ i ∉ e := by rw [List.mem_filter]; simp
/-- Two words that may both be told are one. -/
theorem only {N S B : Nat} {r v w e : List Nat} (hv : IsW N S B v) (hw : IsW N S B w) (hN : N ≤ 255) (bv : Byt v) (bw : Byt w) (hr : r.length = N) (h1 : 2 * wr r v e + e.length ≤ S) (h2 : 2 * wr r w e + e.length ≤ S) : v = w := by
  have hu : ((List.range N).map fun i => v.getD i 0 ^^^ w.getD i 0).length = N := by simp
  obtain ⟨u, hue⟩ : ∃ u, ((List.range N).map fun i => v.getD i 0 ^^^ w.getD i 0) = u := ⟨_, rfl⟩
  rw [hue] at hu
  have ua : ∀ i, i < N → u.getD i 0 = v.getD i 0 ^^^ w.getD i 0 := fun i hi => by rw [← hue, Mx.getD_range_map N _ i hi]
  have bu : Byt u := fun i => by
    by_cases hi : i < N
    · rw [ua i hi]; exact Gf.xor_lt8 (bv i) (bw i)
    · rw [Mx.getD_out (by omega)]; decide
  have hW : IsW N S B u := hv.add hw 1 hu fun i hi => by
    unfold Pol.ofL
    rw [ua i hi, GF.one_mul]
    exact GF.ext (by rw [GF.of_val _ (Gf.xor_lt8 (bv i) (bw i)), GF.add_val, GF.of_val _ (bv i), GF.of_val _ (bw i)])
  have hn : nz u ≤ S := by
    rw [nz_supp hu bu]
    have hin : ∀ x ∈ Pol.supp N (ofL u), x ∈ ((ap r v).filter fun i => decide (i ∉ e)) ++ (((ap r w).filter fun i => decide (i ∉ e)) ++ e) := fun x hx => by
      have h3 := Pol.mem_supp.1 hx
      have hne : v.getD x 0 ≠ w.getD x 0 := fun q => h3.2 (by unfold Pol.ofL; rw [ua x h3.1, q, Nat.xor_self]; rfl)
      rw [List.mem_append, List.mem_append, wr_mem, wr_mem, mem_ap, mem_ap]
      by_cases he : x ∈ e
      · exact .inr (.inr he)
      · by_cases hq : r.getD x 0 = v.getD x 0
        · exact .inr (.inl ⟨⟨by omega, by have := hw.1; omega, fun q => hne (hq.symm.trans q)⟩, he⟩)
        · exact .inl ⟨⟨by omega, by have := hv.1; omega, hq⟩, he⟩
    have h4 := Pol.nodup_le _ _ (Pol.supp_nodup N (ofL u)) hin
    rw [List.length_append, List.length_append] at h4
    unfold wr at h1 h2
    omega
  have h0 : nz u = 0 := by
    refine Classical.byContradiction fun hne => ?_
    have := far hW hN bu hne
    omega
  rw [nz_zero] at h0
  refine Mx.list_ext (by rw [hv.1, hw.1]) fun i hi => ?_
  rw [hv.1] at hi
  have h3 := h0 i
  rw [ua i hi] at h3
  have h5 : v.getD i 0 ^^^ w.getD i 0 ^^^ w.getD i 0 = w.getD i 0 := by rw [h3, Nat.zero_xor]
  rwa [Nat.xor_assoc, Nat.xor_self, Nat.xor_zero] at h5
end Cd
end Go.Proofs
/- How many unlike places are not among any integers; what a list of choices turns in a word. Nothing of the program. -/
namespace Go.Proofs
namespace Cd
open Pol (ofL toL Byt Bd IsN ev vl)

/-- How many of the unlike places are not among e. -/
def wrZ (r w : List Nat) (e : List Int) : Nat := ((ap r w).filter fun i : Nat => decide ((i : Int) ∉ e)).length
theorem mem_nat {e : List Nat} {i : Nat} : (i : Int) ∈ e.map (fun i : Nat => (i : Int)) ↔ i ∈ e := by
  rw [List.mem_map]
  constructor
  · rintro ⟨a, ha, h⟩
    have : a = i := by omega
    exact this ▸ ha
  · exact fun h => ⟨i, h, rfl⟩
theorem wrZ_nat (r w e : List Nat) : wrZ r w (e.map fun i : Nat => (i : Int)) = wr r w e := by
  unfold wrZ wr
  congr 1
  refine List.filter_congr fun i _ => ?_
  rw [decide_eq_decide, not_congr mem_nat]
theorem wrZ_nil (r w : List Nat) : wrZ r w [] = (ap r w).length := by
  unfold wrZ
  rw [List.filter_eq_self.2 (fun i _ => by simp)]
theorem wrZ_le (r w : List Nat) (e : List Int) : wrZ r w e ≤ (ap r w).length := List.length_filter_le _ _
/-- Counted one by one. -/
def wrK (r w : List Nat) (e : List Int) (k : Nat) : Nat := (((ap r w).take k).filter fun i : Nat => decide ((i : Int) ∉ e)).length
theorem wrK_succ {r w : List Nat} {e : List Int} {k : Nat} (h : k < (ap r w).length) : wrK r w e (k + 1) = wrK r w e k + (if ((ap r w).getD k 0 : Int) ∈ e then 0 else 1) := by
  unfold wrK
  rw [show (ap r w).take (k + 1) = (ap r w).take k ++ [(ap r w).getD k 0] by rw [List.take_succ_eq_append_getElem h]; simp [List.getD, h], List.filter_append, List.length_append]
  congr 1
  split
  · rename_i hm; rw [List.filter_cons, if_neg (by simpa using hm)]; rfl
  · rename_i hm; rw [List.filter_cons, if_pos (by simpa using hm)]; rfl
theorem wrK_all (r w : List Nat) (e : List Int) : wrK r w e (ap r w).length = wrZ r w e := by unfold wrK; rw [List.take_length]; rfl
theorem ap_length (r w : List Nat) : (ap r w).length ≤ min r.length w.length := by
  unfold ap
  exact Nat.le_trans (List.length_filter_le _ _) (by rw [List.length_range]; exact Nat.le_refl _)
theorem apK_all (r w : List Nat) : apK r w (min r.length w.length) = ap r w := rfl
/-- They rise. -/
theorem ap_rise (r w : List Nat) : (ap r w).Pairwise (· < ·) := List.Pairwise.filter _ List.pairwise_lt_range
end Cd
end Go.Proofs
