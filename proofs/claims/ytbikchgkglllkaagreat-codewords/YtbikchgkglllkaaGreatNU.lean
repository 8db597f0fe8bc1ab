/- Codes: their roots, their generator, their parity, their words, as lists. Nothing of the program. -/
import Derived.Test.YtbikchgkglllkaaGreatMA
import Derived.Test.YtbikchgkglllkaaGreatMN
namespace Go.Proofs
namespace Cd
open Pol (ofL toL Byt Bd IsN ev vl frL fr)
open GF (al pw)
open Mx (mx cells timesL dot sm)

/-- The power i of 2, as a byte. -/
def pt (i : Nat) : Nat := (al i).val
theorem pt_lt (i : Nat) : pt i < 256 := GF.lt _
theorem of_pt (i : Nat) : GF.of (pt i) = al i := GF.of_self _
theorem pt_ne (i : Nat) : pt i ≠ 0 := fun h => GF.al_ne_zero i (GF.ext h)
theorem pt_mod (i : Nat) : pt (i % 255) = pt i := by unfold pt; rw [← GF.al_mod]
theorem powZ_pt (n : Nat) : Gf.powZ 2 (n : Int) = pt n := by
  unfold pt Gf.powZ
  rw [if_neg (by omega), Int.toNat_natCast, GF.al_val]
theorem powZ_any (n : Int) : Gf.powZ 2 n = pt (n % 255).toNat := by
  rw [Gf.powZ_mod 2 n (by decide) (by decide)]; unfold pt; rw [GF.al_val]
theorem pt_mul (i j : Nat) : Gf.mul (pt i) (pt j) = pt (i + j) := by unfold pt; rw [GF.al_add]; rfl
theorem pt_inj {i j : Nat} (hi : i < 255) (hj : j < 255) (h : pt i = pt j) : i = j := GF.al_inj hi hj (GF.ext h)
theorem pt_near {b i j : Nat} (hi : i < 255) (hj : j < 255) (h : pt (b + i) = pt (b + j)) : i = j := by
  refine pt_inj hi hj ?_
  have h1 : al b * al i = al b * al j := by rw [← GF.al_add, ← GF.al_add]; exact GF.ext h
  exact congrArg GF.val (GF.mul_left_cancel (GF.al_ne_zero b) h1)

/-- The roots of a code: S powers in a row, from B on. -/
def rts (B S : Nat) : List Nat := (List.range S).map fun j => pt (B + j)
theorem rts_length (B S : Nat) : (rts B S).length = S := by simp [rts]
theorem rts_at {B S j : Nat} (h : j < S) : (rts B S).getD j 0 = pt (B + j) := Mx.getD_range_map S _ j h
theorem rts_succ (B S : Nat) : rts B (S + 1) = rts B S ++ [pt (B + S)] := by unfold rts; rw [List.range_succ, List.map_append]; rfl
theorem mem_rts {B S x : Nat} : x ∈ rts B S ↔ ∃ j, j < S ∧ pt (B + j) = x := by simp [rts]
theorem rts_byt (B S : Nat) : Byt (rts B S) := Pol.byt_of_mem fun x hx => by obtain ⟨j, _, rfl⟩ := mem_rts.1 hx; exact pt_lt _
theorem rts_nodup {B S : Nat} (h : S ≤ 255) : (rts B S).Nodup := by
  unfold rts
  refine List.Pairwise.map _ (fun a b hab => hab) (List.Pairwise.imp_of_mem ?_ (List.nodup_range (n := S)))
  intro a b ha hb hab e
  rw [List.mem_range] at ha hb
  exact hab (pt_near (by omega) (by omega) e)
theorem rts_take (B S k : Nat) (h : k ≤ S) : (rts B S).take k = rts B k := by
  unfold rts
  rw [← List.map_take, List.take_range, Nat.min_eq_left h]

/-- The generator. -/
def gen (B S : Nat) : List Nat := frL (rts B S)
theorem gen_length (B S : Nat) : (gen B S).length = S + 1 := by unfold gen; rw [Pol.frL_length, rts_length]
theorem gen_isN (B S : Nat) : IsN (gen B S) (fr (rts B S)) := Pol.frL_isN _
theorem gen_zero {B S x : Nat} (hx : x < 256) : vl (gen B S) x = 0 ↔ x ∈ rts B S := Pol.vl_frL _ (rts_byt B S) x hx

/-- Is w a word? -/
def IsW (N S B : Nat) (w : List Nat) : Prop := w.length = N ∧ ∀ j, j < S → vl w (pt (B + j)) = 0
instance (N S B : Nat) (w : List Nat) : Decidable (IsW N S B w) := by unfold IsW; infer_instance
theorem IsW.less {N S T B : Nat} {w : List Nat} (h : IsW N S B w) (hT : T ≤ S) : IsW N T B w := ⟨h.1, fun j hj => h.2 j (by omega)⟩
theorem IsW.val {N S B : Nat} {w : List Nat} (h : IsW N S B w) (j : Nat) (hj : j < S) : ev N (ofL w) (al (B + j)) = 0 := by
  have := h.2 j hj
  rw [Pol.vl_zero_iff, h.1, of_pt] at this
  exact this
theorem isW_ev {N S B : Nat} {w : List Nat} (hl : w.length = N) (h : ∀ j, j < S → ev N (ofL w) (al (B + j)) = 0) : IsW N S B w :=
  ⟨hl, fun j hj => by rw [Pol.vl_zero_iff, hl, of_pt]; exact h j hj⟩
theorem IsW.mod {N S B : Nat} {w : List Nat} : IsW N S (B % 255) w ↔ IsW N S B w := by
  have e : ∀ j, pt (B % 255 + j) = pt (B + j) := fun j => by rw [← pt_mod (B % 255 + j), ← pt_mod (B + j)]; congr 1; omega
  unfold IsW
  constructor
  · rintro ⟨h1, h2⟩; exact ⟨h1, fun j hj => by rw [← e]; exact h2 j hj⟩
  · rintro ⟨h1, h2⟩; exact ⟨h1, fun j hj => by rw [e]; exact h2 j hj⟩

/-- A list as long as words are. -/
def wd (N : Nat) (l : List Nat) : List Nat := (List.range N).map fun i => l.getD i 0
theorem wd_length (N : Nat) (l : List Nat) : (wd N l).length = N := by simp [wd]
theorem wd_at {N i : Nat} (l : List Nat) (h : i < N) : (wd N l).getD i 0 = l.getD i 0 := Mx.getD_range_map N _ i h
theorem wd_byt {l : List Nat} (h : Byt l) (N : Nat) : Byt (wd N l) := fun i => by
  by_cases hi : i < N
  · rw [wd_at l hi]; exact h i
  · rw [Mx.getD_out (by rw [wd_length]; omega)]; decide
theorem ofL_wd {N : Nat} {l : List Nat} (h : Bd N (ofL l)) : ofL (wd N l) = ofL l := by
  funext i
  by_cases hi : i < N
  · unfold Pol.ofL; rw [wd_at l hi]
  · rw [h i (by omega)]; unfold Pol.ofL; rw [Mx.getD_out (by rw [wd_length]; omega)]; rfl
theorem wd_same {N : Nat} {l : List Nat} (h : l.length = N) : wd N l = l := Mx.list_ext (by rw [wd_length, h]) fun i hi => by rw [wd_length] at hi; rw [wd_at l hi]

/-! ## What words are -/
/-- A multiple of the generator that is short enough is a word. -/
theorem isW_mul {N S B : Nat} {q zs : List Nat} (hz : IsN zs (Pol.mul (ofL (gen B S)) (ofL q))) (hl : zs.length ≤ N) : IsW N S B (wd N zs) := by
  have hb : Bd N (ofL zs) := (Pol.ofL_bd zs).mono_le hl
  refine isW_ev (wd_length _ _) fun j hj => ?_
  rw [ofL_wd hb, Pol.ev_more _ _ _ (Pol.ofL_bd zs) hl, hz.eq]
  have h1 : vl zs (pt (B + j)) = 0 := by
    rw [Pol.vl_mul (pt (B + j)) hz, (gen_zero (pt_lt _)).2 (mem_rts.2 ⟨j, hj, rfl⟩), Gf.zero_mul]
  rw [Pol.vl_zero_iff, of_pt, hz.eq] at h1
  exact h1
theorem mul_length {N S B K : Nat} {q zs : List Nat} (hz : IsN zs (Pol.mul (ofL (gen B S)) (ofL q))) (hq : q.length ≤ K) (hN : S + K = N) (hK : 1 ≤ K) : zs.length ≤ N := by
  have h1 : Bd (S + 1) (ofL (gen B S)) := by have := Pol.ofL_bd (gen B S); rwa [gen_length] at this
  have h2 : Bd (K - 1 + 1) (ofL q) := (Pol.ofL_bd q).mono_le (by omega)
  have h3 := h1.mul h2
  exact hz.dg.le (h3.mono_le (by omega))
theorem IsW.add {N S B : Nat} {v w : List Nat} (h : IsW N S B v) (k : IsW N S B w) (a : GF) {u : List Nat} (hu : u.length = N) (e : ∀ i, i < N → ofL u i = ofL v i + a * ofL w i) : IsW N S B u := by
  refine isW_ev hu fun j hj => ?_
  have h1 : ev N (ofL u) (al (B + j)) = ev N (Pol.add (ofL v) (Pol.smul a (ofL w))) (al (B + j)) := Pol.ev_congr N _ fun i hi => e i hi
  rw [h1, Pol.ev_add, Pol.ev_smul, h.val j hj, k.val j hj, GF.mul_zero, GF.add_zero]
theorem isW_zero (N S B : Nat) : IsW N S B (List.replicate N 0) := by
  refine isW_ev (by simp) fun j hj => ?_
  have h1 : ev N (ofL (List.replicate N 0)) (al (B + j)) = ev N Pol.zero (al (B + j)) := Pol.ev_congr N _ fun i hi => by
    unfold Pol.ofL; simp [List.getD, hi]; rfl
  rw [h1, Pol.ev_zero]
/-- A word with one byte another one is none. -/
theorem not_isW {N S B i x : Nat} {v u : List Nat} (h : IsW N S B v) (hS : 0 < S) (hi : i < N) (hx : x < 256) (hx0 : x ≠ 0) (bv : Byt v) (hu : u = v.set i (v.getD i 0 ^^^ x)) : ¬ IsW N S B u := fun hw => by
  have h1 := hw.val 0 hS
  have h2 := h.val 0 hS
  have hl := h.1
  have e : ∀ t, t < N → ofL u t = ofL v t + (if t = i then GF.of x else 0) := fun t ht => by
    unfold Pol.ofL
    rw [hu, Mx.getD_set]
    by_cases e : i = t
    · subst e
      rw [if_pos ⟨rfl, by omega⟩, if_pos rfl]
      exact GF.ext (by rw [GF.of_val _ (Gf.xor_lt8 (bv _) hx), GF.add_val, GF.of_val _ (bv _), GF.of_val _ hx])
    · rw [if_neg (fun h => e h.1), if_neg (Ne.symm e), GF.add_zero]
  have h3 : ev N (ofL u) (al (B + 0)) = ev N (Pol.add (ofL v) (fun t => if t = i then GF.of x else 0)) (al (B + 0)) := Pol.ev_congr N _ e
  rw [h3, Pol.ev_add, h2, GF.zero_add, Pol.ev_ls, GF.ls_one (List.range N) _ i List.nodup_range (List.mem_range.2 hi) (fun t _ ht => by rw [if_neg ht, GF.zero_mul]), if_pos rfl] at h1
  rcases GF.mul_eq_zero h1 with h4 | h4
  · exact hx0 (by rw [← GF.of_val x hx, h4]; rfl)
  · exact GF.pw_ne_zero (GF.al_ne_zero _) i h4

/-! ## How far words are -/
/-- How many are not nought. -/
def nz (w : List Nat) : Nat := (w.filter fun x => x != 0).length
theorem nz_supp {N : Nat} {w : List Nat} (hl : w.length = N) (bw : Byt w) : nz w = (Pol.supp N (ofL w)).length := by
  have e : w = (List.range N).map fun i => w.getD i 0 := (wd_same hl).symm
  unfold nz Pol.supp
  conv => lhs; rw [e]
  rw [List.filter_map, List.length_map]
  congr 1
  refine List.filter_congr fun i _ => ?_
  show (w.getD i 0 != 0) = decide (GF.of (w.getD i 0) ≠ 0)
  by_cases h : w.getD i 0 = 0
  · rw [h]; rfl
  · have : GF.of (w.getD i 0) ≠ 0 := fun e => h (by rw [← GF.of_val _ (bw i), e]; rfl)
    rw [decide_eq_true this]
    exact bne_iff_ne.2 h
theorem nz_zero {w : List Nat} : nz w = 0 ↔ ∀ i, w.getD i 0 = 0 := by
  unfold nz
  rw [List.length_eq_zero_iff, List.filter_eq_nil_iff]
  constructor
  · intro h i
    by_cases hi : i < w.length
    · have e : w.getD i 0 = w[i] := by simp [List.getD, hi]
      have := h _ (List.getElem_mem hi)
      rw [e]; simpa using this
    · exact Mx.getD_out (by omega)
  · intro h x hx
    obtain ⟨i, hi, rfl⟩ := List.getElem_of_mem hx
    have e : w.getD i 0 = w[i] := by simp [List.getD, hi]
    rw [← e, h i]; decide
/-- A word that is not all nought has more bytes that are not than there are roots. -/
theorem far {N S B : Nat} {w : List Nat} (h : IsW N S B w) (hN : N ≤ 255) (bw : Byt w) (h0 : nz w ≠ 0) : S < nz w := by
  refine Nat.lt_of_not_le fun hle => h0 ?_
  have hz := Pol.far (N := N) (b := B) (S := S) (w := ofL w) hN (h.1 ▸ Pol.ofL_bd w) (by rw [← nz_supp h.1 bw]; exact hle) h.val
  rw [nz_zero]
  intro i
  have := congrFun hz i
  have h2 : GF.of (w.getD i 0) = 0 := this
  rw [← GF.of_val _ (bw i), h2]; rfl

/-! ## Parity -/
/-- The cells of the parity matrix. -/
def par (N S B : Nat) : List Nat := cells S N fun j i => pw (al (B + j)) i
theorem par_length (N S B : Nat) : (par N S B).length = S * N := Mx.cells_length _ _ _
theorem par_byt (N S B : Nat) : Byt (par N S B) := Mx.cells_byt _ _ _
theorem par_at {N S B i j : Nat} (hj : j < S) (hi : i < N) : (par N S B).getD (j * N + i) 0 = Gf.powZ (pt (B + j)) (i : Int) := by
  unfold par
  rw [Mx.cells_at _ hj hi]
  unfold Gf.powZ
  rw [if_neg (by omega), Int.toNat_natCast, ← of_pt, ← GF.of_pow _ _ (pt_lt _), GF.of_val _ (Gf.pow_lt _ _ (pt_lt _))]
theorem sm_ls (n : Nat) (f : Nat → GF) : sm n f = GF.ls ((List.range n).map f) := by
  induction n with
  | zero => rfl
  | succ n ih =>
    rw [Mx.sm_succ, List.range_succ, List.map_append, GF.ls_append, ih]
    congr 1
    show f n = f n + 0
    rw [GF.add_zero]
theorem par_times {N S B : Nat} {v : List Nat} (hv : v.length = N) : timesL S N (par N S B) v = (List.range S).map fun j => vl v (pt (B + j)) := by
  refine Mx.list_ext (by rw [Mx.timesL_length]; simp) fun j hj => ?_
  rw [Mx.timesL_length] at hj
  rw [Mx.getD_range_map S _ j hj]
  unfold Mx.timesL
  rw [Pol.toL_at, if_pos hj]
  unfold Pol.vl
  rw [hv, of_pt]
  congr 1
  rw [Pol.ev_ls]
  unfold Mx.dot
  rw [sm_ls]
  refine GF.ls_congr _ _ _ fun i hi => ?_
  rw [List.mem_range] at hi
  rw [show mx N (par N S B) j i = pw (al (B + j)) i from Mx.mx_cells S N _ j i hj hi, GF.mul_comm]
theorem par_isW {N S B : Nat} {v : List Nat} (hv : v.length = N) : nz (timesL S N (par N S B) v) = 0 ↔ IsW N S B v := by
  rw [nz_zero, par_times hv]
  constructor
  · intro h
    refine ⟨hv, fun j hj => ?_⟩
    have := h j
    rwa [Mx.getD_range_map S _ j hj] at this
  · rintro ⟨_, h⟩ j
    by_cases hj : j < S
    · rw [Mx.getD_range_map S _ j hj]; exact h j hj
    · exact Mx.getD_out (by simp; omega)

/-! ## Another first root -/
theorem isW_next {N S B : Nat} {w v : List Nat} (h : IsW N S B w) (bw : Byt w) (hv : v.length = N) (e : ∀ i, i < N → v.getD i 0 = Gf.mul (w.getD i 0) (Gf.inv (pt i))) : IsW N S (B + 1) v := by
  refine isW_ev hv fun j hj => ?_
  rw [← h.val j hj, Pol.ev_ls, Pol.ev_ls]
  refine GF.ls_congr _ _ _ fun i hi => ?_
  rw [List.mem_range] at hi
  have h1 : ofL v i = ofL w i * GF.inv (al i) := by
    unfold Pol.ofL
    rw [e i hi, GF.of_mul _ _ (bw i) (Gf.inv_lt _ (pt_lt i)), GF.of_inv _ (pt_lt i), of_pt]
  have h2 : pw (al (B + 1 + j)) i = pw (al (B + j)) i * al i := by
    rw [show B + 1 + j = B + j + 1 by omega, GF.al_add, GF.mul_pw, Pol.pw_al 1 i]
    congr 1
    exact GF.mul_one _
  rw [h1, h2, GF.mul_assoc, ← GF.mul_assoc (GF.inv (al i)), GF.mul_comm (GF.inv (al i)), GF.mul_assoc (pw (al (B + j)) i), GF.inv_mul _ (GF.al_ne_zero i), GF.mul_one]
end Cd
end Go.Proofs
