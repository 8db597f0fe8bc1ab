/- Texts laid together: MatM, MatR, MatL, MatT, MatU. Each says its own conditions. -/
import Derived.Test.YthnlcdfonbnjcaaGreatMA
/- Matrices over the field of 256 bytes: sums, columns that come to nothing, rows that are reduced, and that the reduced form is one alone. Nothing of the program. -/
namespace Go.Proofs
namespace Mx

/-- A matrix: its cell at a row and a column. -/
abbrev Mat := Nat → Nat → GF

/-! ## Sums -/
/-- The sum of f at 0 .. n - 1. -/
def sm : Nat → (Nat → GF) → GF
  | 0, _ => 0
  | n + 1, f => sm n f + f n
theorem sm_congr {n : Nat} {f g : Nat → GF} (h : ∀ i, i < n → f i = g i) : sm n f = sm n g := by
  induction n with
  | zero => rfl
  | succ n ih => show sm n f + f n = sm n g + g n; rw [ih fun i hi => h i (by omega), h n (by omega)]
theorem sm_zero {n : Nat} {f : Nat → GF} (h : ∀ i, i < n → f i = 0) : sm n f = 0 := by
  induction n with
  | zero => rfl
  | succ n ih => show sm n f + f n = 0; rw [ih fun i hi => h i (by omega), h n (by omega), GF.add_zero]
theorem sm_add (n : Nat) (f g : Nat → GF) : sm n (fun i => f i + g i) = sm n f + sm n g := by
  induction n with
  | zero => exact (GF.add_zero 0).symm
  | succ n ih => show sm n _ + (f n + g n) = (sm n f + f n) + (sm n g + g n); rw [ih, GF.add_add_add]
theorem sm_mul (n : Nat) (a : GF) (f : Nat → GF) : sm n (fun i => a * f i) = a * sm n f := by
  induction n with
  | zero => exact (GF.mul_zero a).symm
  | succ n ih => show sm n _ + a * f n = a * (sm n f + f n); rw [ih, GF.mul_add]
theorem sm_mul_right (n : Nat) (a : GF) (f : Nat → GF) : sm n (fun i => f i * a) = sm n f * a := by
  rw [GF.mul_comm, ← sm_mul]; exact sm_congr fun i _ => GF.mul_comm _ _
theorem sm_swap (n m : Nat) (f : Nat → Nat → GF) : sm n (fun i => sm m (fun j => f i j)) = sm m (fun j => sm n (fun i => f i j)) := by
  induction n with
  | zero => exact (sm_zero fun _ _ => rfl).symm
  | succ n ih => show sm n _ + sm m _ = sm m (fun j => sm n (fun i => f i j) + f n j); rw [ih, sm_add]
theorem sm_one {n : Nat} {f : Nat → GF} (k : Nat) (hk : k < n) (h : ∀ i, i < n → i ≠ k → f i = 0) : sm n f = f k := by
  induction n with
  | zero => omega
  | succ n ih =>
    show sm n f + f n = f k
    by_cases e : k = n
    · subst e; rw [sm_zero fun i hi => h i (by omega) (by omega), GF.zero_add]
    · rw [ih (by omega) fun i hi => h i (by omega), h n (by omega) (by omega), GF.add_zero]
theorem sm_succ (n : Nat) (f : Nat → GF) : sm (n + 1) f = sm n f + f n := rfl

/-- 1 where both are the same, else 0. -/
def dl (i j : Nat) : GF := if i = j then 1 else 0
theorem dl_self (i : Nat) : dl i i = 1 := by simp [dl]
theorem dl_ne {i j : Nat} (h : i ≠ j) : dl i j = 0 := by simp [dl, h]
theorem dl_comm (i j : Nat) : dl i j = dl j i := by
  by_cases h : i = j
  · rw [h]
  · rw [dl_ne h, dl_ne (Ne.symm h)]
theorem sm_dl {n : Nat} (f : Nat → GF) (k : Nat) (hk : k < n) : sm n (fun i => f i * dl i k) = f k := by
  rw [sm_one k hk fun i _ hi => by rw [dl_ne hi, GF.mul_zero], dl_self, GF.mul_one]
theorem sm_dl' {n : Nat} (f : Nat → GF) (k : Nat) (hk : k < n) : sm n (fun i => dl k i * f i) = f k := by
  rw [← sm_dl f k hk]; exact sm_congr fun i _ => by rw [dl_comm, GF.mul_comm]

/-! ## Columns that come to nothing -/
/-- What a row and a column of C cells come to. -/
def dot (C : Nat) (a x : Nat → GF) : GF := sm C fun j => a j * x j
theorem dot_congr {C : Nat} {a b x y : Nat → GF} (h : ∀ j, j < C → a j = b j) (k : ∀ j, j < C → x j = y j) : dot C a x = dot C b y := sm_congr fun j hj => by rw [h j hj, k j hj]
theorem dot_add (C : Nat) (a x y : Nat → GF) : dot C a (fun j => x j + y j) = dot C a x + dot C a y := by unfold dot; rw [← sm_add]; exact sm_congr fun j _ => GF.mul_add _ _ _
theorem dot_add_left (C : Nat) (a b x : Nat → GF) : dot C (fun j => a j + b j) x = dot C a x + dot C b x := by unfold dot; rw [← sm_add]; exact sm_congr fun j _ => GF.add_mul _ _ _
theorem dot_smul_left (C : Nat) (s : GF) (a x : Nat → GF) : dot C (fun j => s * a j) x = s * dot C a x := by unfold dot; rw [← sm_mul]; exact sm_congr fun j _ => GF.mul_assoc _ _ _
theorem dot_dl (C : Nat) (a : Nat → GF) (c : Nat) (hc : c < C) : dot C a (fun j => dl j c) = a c := sm_dl a c hc
/-- A column that comes to nothing by each of R rows. -/
def Ker (R C : Nat) (M : Mat) (x : Nat → GF) : Prop := ∀ i, i < R → dot C (M i) x = 0
/-- The same columns come to nothing. -/
def Eqv (R C : Nat) (M E : Mat) : Prop := ∀ x, Ker R C M x ↔ Ker R C E x
theorem Eqv.refl (R C : Nat) (M : Mat) : Eqv R C M M := fun _ => Iff.rfl
theorem Eqv.symm {R C : Nat} {M E : Mat} (h : Eqv R C M E) : Eqv R C E M := fun x => (h x).symm
theorem Eqv.trans {R C : Nat} {M E F : Mat} (h : Eqv R C M E) (k : Eqv R C E F) : Eqv R C M F := fun x => (h x).trans (k x)
/-- The same cells. -/
def Eq (R C : Nat) (M E : Mat) : Prop := ∀ i j, i < R → j < C → M i j = E i j
theorem Eq.refl (R C : Nat) (M : Mat) : Eq R C M M := fun _ _ _ _ => rfl
theorem Eq.symm {R C : Nat} {M E : Mat} (h : Eq R C M E) : Eq R C E M := fun i j hi hj => (h i j hi hj).symm
theorem Eq.trans {R C : Nat} {M E F : Mat} (h : Eq R C M E) (k : Eq R C E F) : Eq R C M F := fun i j hi hj => (h i j hi hj).trans (k i j hi hj)
theorem Eq.eqv {R C : Nat} {M E : Mat} (h : Eq R C M E) : Eqv R C M E := fun _ =>
  ⟨fun k i hi => by rw [← k i hi]; exact dot_congr (fun j hj => (h i j hi hj).symm) fun _ _ => rfl, fun k i hi => by rw [← k i hi]; exact dot_congr (fun j hj => h i j hi hj) fun _ _ => rfl⟩
/-! ## What is done to rows -/
/-! ## Reduced as far as column j -/
structure Red (R j : Nat) (E : Mat) (r : Nat) (l : Nat → Nat) : Prop where
  le : r ≤ R
  lt : ∀ k, k < r → l k < j
  up : ∀ k m, k < m → m < r → l k < l m
  one : ∀ k, k < r → E k (l k) = 1
  only : ∀ k i, k < r → i < R → i ≠ k → E i (l k) = 0
  left : ∀ k c, k < r → c < l k → E k c = 0
  rest : ∀ i c, r ≤ i → i < R → c < j → E i c = 0
theorem Red.start (R : Nat) (E : Mat) (l : Nat → Nat) : Red R 0 E 0 l := ⟨Nat.zero_le _, fun _ h => by omega, fun _ _ _ h => by omega, fun _ h => by omega, fun _ _ h => by omega, fun _ _ h => by omega, fun _ _ _ _ h => by omega⟩
theorem Red.skip {R j : Nat} {E : Mat} {r : Nat} {l : Nat → Nat} (h : Red R j E r l) (hz : ∀ i, r ≤ i → i < R → E i j = 0) : Red R (j + 1) E r l :=
  ⟨h.le, fun k hk => Nat.lt_succ_of_lt (h.lt k hk), h.up, h.one, h.only, h.left, fun i c hi hR hc => by
    by_cases e : c = j
    · subst e; exact hz i hi hR
    · exact h.rest i c hi hR (by omega)⟩
theorem Red.inj {R j : Nat} {E : Mat} {r : Nat} {l : Nat → Nat} (h : Red R j E r l) {k m : Nat} (hk : k < r) (hm : m < r) (e : l k = l m) : k = m := by
  rcases Nat.lt_trichotomy k m with q | q | q
  · have := h.up k m q hm; omega
  · exact q
  · have := h.up m k q hk; omega
theorem Red.congr {R C : Nat} {E F : Mat} {r : Nat} {l m : Nat → Nat} (h : Red R C E r l) (hE : Eq R C E F) (hl : ∀ k, k < r → l k = m k) : Red R C F r m := by
  refine ⟨h.le, fun k hk => by rw [← hl k hk]; exact h.lt k hk, fun k q hkq hq => by rw [← hl k (by omega), ← hl q hq]; exact h.up k q hkq hq, fun k hk => ?_, fun k i hk hi hik => ?_, fun k c hk hc => ?_, fun i c hi hR hc => ?_⟩
  · have := h.le; rw [← hl k hk, ← hE k _ (by omega) (h.lt k hk)]; exact h.one k hk
  · rw [← hl k hk, ← hE i _ hi (h.lt k hk)]; exact h.only k i hk hi hik
  · have h1 := h.le; have h2 := h.lt k hk; rw [← hl k hk] at hc; rw [← hE k c (by omega) (by omega)]; exact h.left k c hk hc
  · rw [← hE i c hR hc]; exact h.rest i c hi hR hc
/-- The rows as they stand once p and r have changed places. -/
def mid (E : Mat) (p r : Nat) : Mat := fun i => if i = p then E r else E i
/-- One lead more: F's row r is row p of E, multiplied, so that it leads with 1 in column j; to each other row so many times it is added as makes its cell of column j 0. -/
theorem Red.lead {R C j : Nat} {E F : Mat} {r : Nat} {l : Nat → Nat} (h : Red R j E r l) (hj : j < C) (p : Nat) (hp : r ≤ p) (hpR : p < R) (a : GF) (ha : a * E p j = 1)
    (hF : ∀ c, c < C → F r c = a * E p c) (hi : ∀ i c, i < R → i ≠ r → c < C → F i c = mid E p r i c + mid E p r i j * F r c) :
    Red R (j + 1) F (r + 1) (fun k => if k = r then j else l k) := by
  have hlow : ∀ c, c < j → F r c = 0 := fun c hc => by rw [hF c (by omega), h.rest p c hp hpR hc, GF.mul_zero]
  have hrj : F r j = 1 := by rw [hF j hj, ha]
  have hold : ∀ i c, i < R → i ≠ r → c < j → F i c = mid E p r i c := fun i c hiR hir hc => by rw [hi i c hiR hir (by omega), hlow c hc, GF.mul_zero, GF.add_zero]
  have hcol : ∀ i, i < R → i ≠ r → F i j = 0 := fun i hiR hir => by rw [hi i j hiR hir hj, hrj, GF.mul_one, GF.add_self]
  have hmid : ∀ i, i < r → mid E p r i = E i := fun i hir => by unfold mid; rw [if_neg (by omega)]
  have hmz : ∀ i c, r ≤ i → i < R → c < j → mid E p r i c = 0 := fun i c h1 h2 hc => by
    unfold mid; split
    · exact h.rest r c (Nat.le_refl _) (by omega) hc
    · exact h.rest i c h1 h2 hc
  refine ⟨by omega, fun k hk => ?_, fun k m hkm hm => ?_, fun k hk => ?_, fun k i hk hiR hik => ?_, fun k c hk hc => ?_, fun i c h1 h2 hc => ?_⟩
  · show (if k = r then j else l k) < j + 1
    split
    · omega
    · have := h.lt k (by omega); omega
  · show (if k = r then j else l k) < (if m = r then j else l m)
    rw [if_neg (by omega : ¬ k = r)]
    split
    · exact h.lt k (by omega)
    · exact h.up k m hkm (by omega)
  · show F k (if k = r then j else l k) = 1
    split
    · rename_i e; subst e; exact hrj
    · have := h.le; rw [hold k _ (by omega) (by omega) (h.lt k (by omega)), hmid k (by omega)]; exact h.one k (by omega)
  · show F i (if k = r then j else l k) = 0
    split
    · rename_i e; subst e; exact hcol i hiR hik
    · have hlk := h.lt k (by omega)
      by_cases e : i = r
      · subst e; exact hlow _ hlk
      · rw [hold i _ hiR e hlk]
        by_cases q : i < r
        · rw [hmid i q]; exact h.only k i (by omega) hiR hik
        · exact hmz i _ (by omega) hiR hlk
  · have hc' : c < (if k = r then j else l k) := hc
    split at hc'
    · rename_i e; subst e; exact hlow c hc'
    · have := h.lt k (by omega); have := h.le; rw [hold k c (by omega) (by omega) (by omega), hmid k (by omega)]; exact h.left k c (by omega) hc'
  · by_cases e : c = j
    · subst e; exact hcol i h2 (by omega)
    · rw [hold i c h2 (by omega) (by omega)]; exact hmz i c (by omega) h2 (by omega)
theorem lead_eqv {R C j : Nat} {E F : Mat} {r : Nat} (p : Nat) (hr : r < R) (hpR : p < R) (a : GF) (ha : a ≠ 0)
    (hF : ∀ c, c < C → F r c = a * E p c) (hi : ∀ i c, i < R → i ≠ r → c < C → F i c = mid E p r i c + mid E p r i j * F r c) : Eqv R C E F := fun x => by
  have h1 : dot C (F r) x = a * dot C (E p) x := by rw [← dot_smul_left]; exact dot_congr (fun c hc => hF c hc) fun _ _ => rfl
  have h2 : ∀ i, i < R → i ≠ r → dot C (F i) x = dot C (mid E p r i) x + mid E p r i j * dot C (F r) x := fun i hR hir => by
    rw [← dot_smul_left, ← dot_add_left]; exact dot_congr (fun c hc => hi i c hR hir hc) fun _ _ => rfl
  constructor
  · intro k
    have h0 : dot C (F r) x = 0 := by rw [h1, k p hpR, GF.mul_zero]
    intro i hR
    by_cases e : i = r
    · subst e; exact h0
    · rw [h2 i hR e, h0, GF.mul_zero, GF.add_zero]; unfold mid; split
      · exact k r hr
      · exact k i hR
  · intro k
    have h0 : dot C (E p) x = 0 := by have := k r hr; rw [h1] at this; exact (GF.mul_eq_zero this).elim (fun e => absurd e ha) id
    have h3 : ∀ i, i < R → i ≠ r → dot C (mid E p r i) x = 0 := fun i hR hir => by have := k i hR; rw [h2 i hR hir, k r hr, GF.mul_zero, GF.add_zero] at this; exact this
    intro i hR
    by_cases e : i = p
    · subst e; exact h0
    · by_cases e2 : i = r
      · subst e2; have := h3 p hpR (Ne.symm e); unfold mid at this; rwa [if_pos rfl] at this
      · have := h3 i hR e2; unfold mid at this; rwa [if_neg e] at this

/-! ## The reduced form: there is one -/
/-- E is M reduced; its r leads stand in the columns l. -/
structure Ech (R C : Nat) (M E : Mat) (r : Nat) (l : Nat → Nat) : Prop where
  red : Red R C E r l
  eqv : Eqv R C M E
theorem red_exists (R C : Nat) (M : Mat) : ∀ j, j ≤ C → ∃ E r l, Red R j E r l ∧ Eqv R C M E
  | 0, _ => ⟨M, 0, fun _ => 0, Red.start R M _, Eqv.refl R C M⟩
  | j + 1, hj => by
    obtain ⟨E, r, l, hr, he⟩ := red_exists R C M j (by omega)
    by_cases h : ∃ p, r ≤ p ∧ p < R ∧ E p j ≠ 0
    · obtain ⟨p, h1, h2, h3⟩ := h
      refine ⟨fun i => if i = r then fun c => GF.inv (E p j) * E p c else fun c => mid E p r i c + mid E p r i j * (GF.inv (E p j) * E p c), r + 1, fun k => if k = r then j else l k, ?_, ?_⟩
      · refine hr.lead (C := C) (by omega) p h1 h2 (GF.inv (E p j)) (GF.inv_mul _ h3) (fun c _ => ?_) (fun i c _ hir _ => ?_)
        · simp
        · simp [hir]
      · refine he.trans (lead_eqv (j := j) (r := r) p (by omega) h2 (GF.inv (E p j)) (GF.inv_ne_zero h3) (fun c _ => ?_) (fun i c _ hir _ => ?_))
        · simp
        · simp [hir]
    · exact ⟨E, r, l, hr.skip fun i h1 h2 => Classical.byContradiction fun h3 => h ⟨i, h1, h2, h3⟩, he⟩
theorem ech_exists (R C : Nat) (M : Mat) : ∃ E r l, Ech R C M E r l := by
  obtain ⟨E, r, l, h, k⟩ := red_exists R C M C (Nat.le_refl _)
  exact ⟨E, r, l, h, k⟩

/-! ## .. and one alone -/
/-- The column that comes to nothing and has 1 in c, and else cells only where a row leads. -/
def nv (E : Mat) (r : Nat) (l : Nat → Nat) (c : Nat) : Nat → GF := fun j => dl j c + sm r fun k => E k c * dl j (l k)
theorem dot_nv {C : Nat} (a : Nat → GF) (E : Mat) (r : Nat) (l : Nat → Nat) (c : Nat) (hc : c < C) (hl : ∀ k, k < r → l k < C) : dot C a (nv E r l c) = a c + sm r fun k => E k c * a (l k) := by
  unfold nv; rw [dot_add, dot_dl C a c hc]
  congr 1
  unfold dot
  have h1 : ∀ j, j < C → a j * sm r (fun k => E k c * dl j (l k)) = sm r fun k => a j * (E k c * dl j (l k)) := fun j _ => (sm_mul r _ _).symm
  rw [sm_congr h1, sm_swap]
  refine sm_congr fun k hk => ?_
  rw [← sm_dl a (l k) (hl k hk), ← sm_mul]
  exact sm_congr fun j _ => by rw [← GF.mul_assoc, GF.mul_comm (a j), GF.mul_assoc]
theorem Red.sum_lead {R C : Nat} {E : Mat} {r : Nat} {l : Nat → Nat} (h : Red R C E r l) (f : Nat → GF) (i : Nat) (hi : i < r) : (sm r fun k => f k * E i (l k)) = f i := by
  have := h.le
  rw [sm_one i hi fun k hk hki => by rw [h.only k i hk (by omega) (Ne.symm hki), GF.mul_zero], h.one i hi, GF.mul_one]
theorem Red.ker_nv {R C : Nat} {E : Mat} {r : Nat} {l : Nat → Nat} (h : Red R C E r l) (c : Nat) (hc : c < C) : Ker R C E (nv E r l c) := fun i hi => by
  rw [dot_nv _ E r l c hc h.lt]
  by_cases hir : i < r
  · rw [h.sum_lead (fun k => E k c) i hir, GF.add_self]
  · rw [h.rest i c (by omega) hi hc, sm_zero fun k hk => by rw [h.only k i hk hi (by omega), GF.mul_zero], GF.add_zero]
theorem nv_other {E : Mat} {r : Nat} {l : Nat → Nat} (c j : Nat) (hj : ∀ k, k < r → l k ≠ j) : nv E r l c j = dl j c := by
  unfold nv; rw [sm_zero fun k hk => by rw [dl_ne (Ne.symm (hj k hk)), GF.mul_zero], GF.add_zero]
theorem Red.nv_high {R C : Nat} {E : Mat} {r : Nat} {l : Nat → Nat} (h : Red R C E r l) (c j : Nat) (hj : c < j) : nv E r l c j = 0 := by
  unfold nv
  rw [dl_ne (by omega), GF.zero_add, sm_zero fun k hk => ?_]
  by_cases e : j = l k
  · rw [h.left k c hk (by omega), GF.zero_mul]
  · rw [dl_ne e, GF.mul_zero]
/-- A column that is a sum of columns ahead of it: no row leads there. -/
def Free (R C : Nat) (M : Mat) (c : Nat) : Prop := ∃ x, Ker R C M x ∧ x c = 1 ∧ ∀ j, c < j → j < C → x j = 0
theorem Eqv.free {R C : Nat} {M E : Mat} (h : Eqv R C M E) (c : Nat) : Free R C M c ↔ Free R C E c :=
  ⟨fun ⟨x, k, e⟩ => ⟨x, (h x).1 k, e⟩, fun ⟨x, k, e⟩ => ⟨x, (h x).2 k, e⟩⟩
theorem Red.free {R C : Nat} {E : Mat} {r : Nat} {l : Nat → Nat} (h : Red R C E r l) (c : Nat) (hc : c < C) : Free R C E c ↔ ∀ k, k < r → l k ≠ c := by
  constructor
  · rintro ⟨x, hx, h1, h2⟩ k hk e
    have hle := h.le
    have h3 := hx k (by omega)
    unfold dot at h3
    rw [sm_one c hc fun j hj hjc => ?_, h1, GF.mul_one, ← e, h.one k hk] at h3
    · exact GF.one_ne_zero h3
    · by_cases q : j < c
      · rw [h.left k j hk (by omega), GF.zero_mul]
      · rw [h2 j (by omega) hj, GF.mul_zero]
  · intro hk
    exact ⟨nv E r l c, h.ker_nv c hc, by rw [nv_other c c hk, dl_self], fun j hj _ => h.nv_high c j hj⟩
theorem Red.lead_iff {R C : Nat} {E : Mat} {r : Nat} {l : Nat → Nat} (h : Red R C E r l) (c : Nat) (hc : c < C) : ¬ Free R C E c ↔ ∃ k, k < r ∧ l k = c := by
  rw [h.free c hc]
  constructor
  · intro q; exact Classical.byContradiction fun n => q fun k hk e => n ⟨k, hk, e⟩
  · rintro ⟨k, hk, e⟩ q; exact q k hk e
theorem leads_eq {r s : Nat} {l m : Nat → Nat} (hl : ∀ k q, k < q → q < r → l k < l q) (hm : ∀ k q, k < q → q < s → m k < m q)
    (h : ∀ c, (∃ k, k < r ∧ l k = c) ↔ ∃ k, k < s ∧ m k = c) : r = s ∧ ∀ k, k < r → l k = m k := by
  have one : ∀ {r s : Nat} {l m : Nat → Nat}, (∀ k q, k < q → q < r → l k < l q) → (∀ k q, k < q → q < s → m k < m q) → (∀ c, (∃ k, k < r ∧ l k = c) → ∃ k, k < s ∧ m k = c) → ∀ k, (∀ q, q < k → l q = m q) → k < r → k < s ∧ m k ≤ l k := by
    intro r s l m hl hm h k ih hk
    obtain ⟨q, hq, e⟩ := h (l k) ⟨k, hk, rfl⟩
    rcases Nat.lt_trichotomy q k with t | t | t
    · have h1 := ih q t; have h2 := hl q k t hk; omega
    · subst t; exact ⟨hq, by omega⟩
    · have := hm k q t hq; exact ⟨by omega, by omega⟩
  have all : ∀ k, (k < r → l k = m k) ∧ (k < s → l k = m k) := by
    intro k
    induction k using Nat.strongRecOn with
    | _ k ih =>
      constructor
      · intro hk
        have h1 := one hl hm (fun c => (h c).1) k (fun q hq => (ih q hq).1 (by omega)) hk
        have h2 := one hm hl (fun c => (h c).2) k (fun q hq => ((ih q hq).1 (by omega)).symm) h1.1
        omega
      · intro hk
        have h1 := one hm hl (fun c => (h c).2) k (fun q hq => ((ih q hq).2 (by omega)).symm) hk
        have h2 := one hl hm (fun c => (h c).1) k (fun q hq => (ih q hq).2 (by omega)) h1.1
        omega
  refine ⟨?_, fun k hk => (all k).1 hk⟩
  rcases Nat.lt_trichotomy r s with t | t | t
  · exact absurd (one hm hl (fun c => (h c).2) r (fun q hq => ((all q).1 hq).symm) t).1 (by omega)
  · exact t
  · exact absurd (one hl hm (fun c => (h c).1) s (fun q hq => (all q).2 hq) t).1 (by omega)
theorem red_unique {R C : Nat} {E F : Mat} {r s : Nat} {l m : Nat → Nat} (hE : Red R C E r l) (hF : Red R C F s m) (h : Eqv R C E F) : r = s ∧ (∀ k, k < r → l k = m k) ∧ Eq R C E F := by
  have hs : ∀ c, (∃ k, k < r ∧ l k = c) ↔ ∃ k, k < s ∧ m k = c := fun c => by
    by_cases hc : c < C
    · rw [← hE.lead_iff c hc, ← hF.lead_iff c hc, h.free c]
    · exact ⟨fun ⟨k, hk, e⟩ => absurd (hE.lt k hk) (by omega), fun ⟨k, hk, e⟩ => absurd (hF.lt k hk) (by omega)⟩
  obtain ⟨rfl, hl⟩ := leads_eq hE.up hF.up hs
  refine ⟨rfl, hl, fun i c hi hc => ?_⟩
  by_cases hir : i < r
  · by_cases hf : ∀ k, k < r → l k ≠ c
    · have h1 := (h _).1 (hE.ker_nv c hc) i hi
      rw [dot_nv _ E r l c hc hE.lt, sm_congr fun k hk => by rw [hl k hk], hF.sum_lead (fun k => E k c) i hir] at h1
      exact (GF.eq_of_add h1).symm
    · obtain ⟨k, hk, e⟩ : ∃ k, k < r ∧ l k = c := Classical.byContradiction fun n => hf fun k hk e => n ⟨k, hk, e⟩
      have e2 := hl k hk
      by_cases q : i = k
      · subst q; rw [← e, hE.one i hk, e2, hF.one i hk]
      · rw [← e, hE.only k i hk hi q, e2, hF.only k i hk hi q]
  · rw [hE.rest i c (by omega) hi hc, hF.rest i c (by omega) hi hc]
theorem Ech.unique {R C : Nat} {M E F : Mat} {r s : Nat} {l m : Nat → Nat} (hE : Ech R C M E r l) (hF : Ech R C M F s m) : r = s ∧ (∀ k, k < r → l k = m k) ∧ Eq R C E F := red_unique hE.red hF.red (hE.eqv.symm.trans hF.eqv)
theorem Ech.congr {R C : Nat} {M E F : Mat} {r : Nat} {l m : Nat → Nat} (h : Ech R C M E r l) (hE : Eq R C E F) (hl : ∀ k, k < r → l k = m k) : Ech R C M F r m := ⟨h.red.congr hE hl, h.eqv.trans hE.eqv⟩
theorem Ech.free {R C : Nat} {M E : Mat} {r : Nat} {l : Nat → Nat} (h : Ech R C M E r l) (c : Nat) (hc : c < C) : Free R C M c ↔ ∀ k, k < r → l k ≠ c := by rw [h.eqv.free c]; exact h.red.free c hc
end Mx
end Go.Proofs
/- Matrices over the field of 256 bytes: how many rows lead, what is solved, what comes to nothing, and what is turned back. Nothing of the program. -/
namespace Go.Proofs
namespace Mx

/-! ## Products, and how many rows lead -/
/-- The product of a matrix of n columns and one of n rows. -/
def mm (n : Nat) (A B : Mat) : Mat := fun i j => sm n fun t => A i t * B t j
/-- 1 from corner to corner. -/
def id1 : Mat := fun i j => dl i j
theorem mm_congr {R C n : Nat} {A A' B B' : Mat} (hA : Eq R n A A') (hB : Eq n C B B') : Eq R C (mm n A B) (mm n A' B') := fun i j hi hj => sm_congr fun t ht => by rw [hA i t hi ht, hB t j ht hj]
theorem mm_assoc (m n : Nat) (A B D : Mat) : mm n (mm m A B) D = mm m A (mm n B D) := by
  funext i j; unfold mm
  have h1 : ∀ t, t < n → (sm m fun s => A i s * B s t) * D t j = sm m fun s => A i s * (B s t * D t j) := fun t _ => by
    rw [← sm_mul_right]; exact sm_congr fun s _ => GF.mul_assoc _ _ _
  have h2 : ∀ s, s < m → A i s * (sm n fun t => B s t * D t j) = sm n fun t => A i s * (B s t * D t j) := fun s _ => (sm_mul _ _ _).symm
  rw [sm_congr h1, sm_congr h2, sm_swap]
theorem mm_one {R n : Nat} (A : Mat) : Eq R n (mm n A id1) A := fun i j _ hj => sm_dl (A i) j hj
theorem one_mm {n C : Nat} (A : Mat) : Eq n C (mm n id1 A) A := fun i j hi _ => sm_dl' (fun t => A t j) i hi
/-- What is reduced tells each column as a sum of those in which rows lead. -/
theorem Ech.fac {R C : Nat} {M E : Mat} {r : Nat} {l : Nat → Nat} (h : Ech R C M E r l) : Eq R C M (mm r (fun i k => M i (l k)) E) := fun i c hi hc => by
  have h1 := (h.eqv _).2 (h.red.ker_nv c hc) i hi
  rw [dot_nv _ E r l c hc h.red.lt] at h1
  rw [GF.eq_of_add h1]
  exact sm_congr fun k _ => GF.mul_comm _ _
theorem ge_self {r : Nat} {l : Nat → Nat} (h : ∀ k q, k < q → q < r → l k < l q) : ∀ k, k < r → k ≤ l k
  | 0, _ => Nat.zero_le _
  | k + 1, hk => by have h1 := ge_self h k (by omega); have h2 := h k (k + 1) (by omega) hk; omega
/-- With fewer rows than columns there is a column in which none leads. -/
theorem free_exists {r C : Nat} {l : Nat → Nat} (h : ∀ k q, k < q → q < r → l k < l q) (hr : r < C) : ∃ c, c < C ∧ ∀ k, k < r → l k ≠ c := by
  apply Classical.byContradiction
  intro hn
  have all : ∀ c, c < C → ∃ k, k < r ∧ l k = c := fun c hc => Classical.byContradiction fun n => hn ⟨c, hc, fun k hk e => n ⟨k, hk, e⟩⟩
  have fix : ∀ c, c < C → c < r ∧ l c = c := by
    intro c
    induction c using Nat.strongRecOn with
    | _ c ih =>
      intro hc
      obtain ⟨k, hk, e⟩ := all c hc
      rcases Nat.lt_trichotomy k c with t | t | t
      · have := (ih k t (by omega)).2; omega
      · subst t; exact ⟨hk, e⟩
      · have h1 := h c k t hk; have h2 := ge_self h c (by omega); omega
  have := (fix r hr).1
  omega
/-- More unknowns than rows: something that is not nothing comes to nothing. -/
theorem ker_exists (s r : Nat) (B : Mat) (h : s < r) : ∃ y c, Ker s r B y ∧ c < r ∧ y c = 1 := by
  obtain ⟨E, q, l, he⟩ := ech_exists s r B
  have h1 := he.red.le
  obtain ⟨c, hc, hf⟩ := free_exists he.red.up (by omega : q < r)
  exact ⟨nv E q l c, c, (he.eqv _).2 (he.red.ker_nv c hc), hc, by rw [nv_other c c hf, dl_self]⟩
theorem Ech.le_of_fac {R C s : Nat} {M E A B : Mat} {r : Nat} {l : Nat → Nat} (h : Ech R C M E r l) (hf : Eq R C M (mm s A B)) : r ≤ s := by
  apply Classical.byContradiction
  intro hn
  obtain ⟨y, c, hy, hc, h1⟩ := ker_exists s r (fun t k => B t (l k)) (by omega)
  have hx : ∀ a : Nat → GF, dot C a (fun j => sm r fun k => y k * dl j (l k)) = sm r fun k => y k * a (l k) := fun a => by
    unfold dot
    have h2 : ∀ j, j < C → a j * sm r (fun k => y k * dl j (l k)) = sm r fun k => a j * (y k * dl j (l k)) := fun j _ => (sm_mul r _ _).symm
    rw [sm_congr h2, sm_swap]
    refine sm_congr fun k hk => ?_
    rw [← sm_dl a (l k) (h.red.lt k hk), ← sm_mul]
    exact sm_congr fun j _ => by rw [← GF.mul_assoc, GF.mul_comm (a j), GF.mul_assoc]
  have hk : Ker R C M (fun j => sm r fun k => y k * dl j (l k)) := fun i hi => by
    rw [hx]
    have h2 : ∀ k, k < r → y k * M i (l k) = sm s fun t => A i t * (B t (l k) * y k) := fun k hk => by
      rw [hf i (l k) hi (h.red.lt k hk), GF.mul_comm]; unfold mm; rw [← sm_mul_right]; exact sm_congr fun t _ => GF.mul_assoc _ _ _
    rw [sm_congr h2, sm_swap]
    refine sm_zero fun t ht => ?_
    rw [sm_mul]
    have := hy t ht; unfold dot at this; rw [this, GF.mul_zero]
  have h3 := (h.eqv _).1 hk c (by have := h.red.le; omega)
  rw [hx, h.red.sum_lead y c hc, h1] at h3
  exact GF.one_ne_zero h3
theorem rank_mm_left {R C n : Nat} {X Y P E F : Mat} {r s : Nat} {l m : Nat → Nat} (hP : Eq R C P (mm n X Y)) (h : Ech R C P E r l) (k : Ech R n X F s m) : r ≤ s :=
  h.le_of_fac (hP.trans ((mm_congr k.fac (Eq.refl n C Y)).trans (by rw [mm_assoc]; exact Eq.refl _ _ _)))
theorem rank_one {n : Nat} {E : Mat} {r : Nat} {l : Nat → Nat} (h : Ech n n id1 E r l) : r = n := by
  have h1 := h.red.le
  apply Classical.byContradiction
  intro hn
  obtain ⟨c, hc, hf⟩ := free_exists h.red.up (by omega : r < n)
  have h2 := (h.eqv _).2 (h.red.ker_nv c hc) c hc
  unfold dot id1 at h2
  rw [sm_dl' _ c hc, nv_other c c hf, dl_self] at h2
  exact GF.one_ne_zero h2

/-! ## What is solved -/
/-- x is told for b: it comes to b, and is 0 where no row leads. -/
structure Sol (R C : Nat) (M : Mat) (b x : Nat → GF) : Prop where
  eq : ∀ i, i < R → dot C (M i) x = b i
  free : ∀ c, c < C → Free R C M c → x c = 0
/-- What comes to nothing and is 0 wherever no row leads is 0. -/
theorem Ech.ker_zero {R C : Nat} {M E : Mat} {r : Nat} {l : Nat → Nat} (h : Ech R C M E r l) {x : Nat → GF} (hx : Ker R C M x) (hf : ∀ c, c < C → Free R C M c → x c = 0) : ∀ c, c < C → x c = 0 := fun c hc => by
  by_cases q : Free R C M c
  · exact hf c hc q
  · obtain ⟨k, hk, e⟩ := (h.red.lead_iff c hc).1 (fun n => q ((h.eqv.free c).2 n))
    have h1 := (h.eqv x).1 hx k (by have := h.red.le; omega)
    unfold dot at h1
    rw [sm_one c hc fun j hj hjc => ?_, ← e, h.red.one k hk, GF.one_mul] at h1
    · rw [← e]; exact h1
    · by_cases t : Free R C M j
      · rw [hf j hj t, GF.mul_zero]
      · obtain ⟨m, hm, em⟩ := (h.red.lead_iff j hj).1 (fun n => t ((h.eqv.free j).2 n))
        rw [← em, h.red.only m k hm (by have := h.red.le; omega) (fun e2 => hjc (by rw [← em, ← e, e2])), GF.zero_mul]
theorem Sol.unique {R C : Nat} {M : Mat} {b x y : Nat → GF} (hx : Sol R C M b x) (hy : Sol R C M b y) : ∀ c, c < C → x c = y c := by
  obtain ⟨E, r, l, h⟩ := ech_exists R C M
  have := h.ker_zero (x := fun j => x j + y j) (fun i hi => by rw [dot_add, hx.eq i hi, hy.eq i hi, GF.add_self]) (fun c hc hf => by rw [hx.free c hc hf, hy.free c hc hf, GF.add_zero])
  intro c hc
  exact GF.eq_of_add (this c hc)
theorem Sol.congr {R C : Nat} {M M' : Mat} {b b' x x' : Nat → GF} (h : Sol R C M b x) (hM : Eq R C M M') (hb : ∀ i, i < R → b i = b' i) (hx : ∀ j, j < C → x j = x' j) : Sol R C M' b' x' :=
  ⟨fun i hi => by rw [← hb i hi, ← h.eq i hi]; exact dot_congr (fun j hj => (hM i j hi hj).symm) fun j hj => (hx j hj).symm, fun c hc hf => by rw [← hx c hc]; exact h.free c hc ((hM.eqv.free c).2 hf)⟩
/-- A column behind a matrix. -/
def wide (C : Nat) (M : Mat) (b : Nat → GF) : Mat := fun i j => if j < C then M i j else b i
/-- Which of a wide matrix' rows leads in the last column: the last one. -/
theorem Red.last {R C : Nat} {W : Mat} {r : Nat} {l : Nat → Nat} (h : Red R (C + 1) W r l) {k : Nat} (hk : k < r) (hl : l k = C) : r = k + 1 := by
  apply Classical.byContradiction
  intro n
  have h1 := h.up k (k + 1) (by omega) (by omega); have h2 := h.lt (k + 1) (by omega); omega
/-! ## What comes to nothing -/
/-- x is the column that comes to nothing of column c. -/
structure Nul (R C : Nat) (M : Mat) (c : Nat) (x : Nat → GF) : Prop where
  ker : Ker R C M x
  one : x c = 1
  free : ∀ j, j < C → j ≠ c → Free R C M j → x j = 0
theorem Nul.unique {R C : Nat} {M : Mat} {c : Nat} {x y : Nat → GF} (hx : Nul R C M c x) (hy : Nul R C M c y) : ∀ j, j < C → x j = y j := by
  obtain ⟨E, r, l, h⟩ := ech_exists R C M
  have := h.ker_zero (x := fun j => x j + y j) (fun i hi => by rw [dot_add, hx.ker i hi, hy.ker i hi, GF.add_zero]) (fun j hj hf => by
    by_cases e : j = c
    · subst e; rw [hx.one, hy.one, GF.add_self]
    · rw [hx.free j hj e hf, hy.free j hj e hf, GF.add_zero])
  intro j hj
  exact GF.eq_of_add (this j hj)
/-! ## The way back -/
/-- Y multiplied from the right makes One. -/
def Inv (n : Nat) (M Y : Mat) : Prop := Eq n n (mm n M Y) id1
theorem rank_inv {n : Nat} {M Y E : Mat} {r : Nat} {l : Nat → Nat} (h : Ech n n M E r l) (hY : Inv n M Y) : r = n := by
  obtain ⟨F, s, m, k⟩ := ech_exists n n id1
  have h1 := rank_one k
  have h2 := rank_mm_left hY.symm k h
  have h3 := h.red.le
  omega
theorem Ech.trivial {n : Nat} {M E : Mat} {l : Nat → Nat} (h : Ech n n M E n l) {x : Nat → GF} (hx : Ker n n M x) : ∀ c, c < n → x c = 0 :=
  h.ker_zero hx fun c hc hf => by
    exfalso
    have hall : ∀ k, k < n → l k = k := fun k hk => by
      have h1 := ge_self h.red.up k hk
      have : ∀ d k, k + d + 1 = n → l k ≤ k := fun d => by
        induction d with
        | zero => intro k hk; have := h.red.lt k (by omega); omega
        | succ d ih => intro k hk; have h2 := ih (k + 1) (by omega); have h3 := h.red.up k (k + 1) (by omega) (by omega); omega
      have := this (n - k - 1) k (by omega)
      omega
    exact (h.free c hc).1 hf c hc (hall c hc)
theorem Inv.left {n : Nat} {M Y : Mat} (hY : Inv n M Y) : Inv n Y M := fun i j hi hj => by
  obtain ⟨E, r, l, h⟩ := ech_exists n n M
  obtain rfl := rank_inv h hY
  have hk : Ker r r M (fun t => mm r Y M t j + dl t j) := fun s hs => by
    rw [dot_add]
    have h1 : dot r (M s) (fun t => mm r Y M t j) = mm r (mm r M Y) M s j := by rw [mm_assoc]; rfl
    rw [h1, mm_congr hY (Eq.refl r r M) s j hs hj, one_mm M s j hs hj, dot_dl r (M s) j hj, GF.add_self]
  exact GF.eq_of_add (h.trivial hk i hi)
theorem Inv.unique {n : Nat} {M Y Z : Mat} (hY : Inv n M Y) (hZ : Inv n M Z) : Eq n n Y Z := by
  have h1 : Eq n n (mm n Y (mm n M Z)) Y := (mm_congr (Eq.refl n n Y) hZ).trans (mm_one Y)
  have h2 : Eq n n (mm n (mm n Y M) Z) Z := (mm_congr hY.left (Eq.refl n n Z)).trans (one_mm Z)
  rw [mm_assoc] at h2
  exact h1.symm.trans h2
theorem Inv.congr {n : Nat} {M M' Y Y' : Mat} (h : Inv n M Y) (hM : Eq n n M M') (hY : Eq n n Y Y') : Inv n M' Y' := (mm_congr hM hY).symm.trans h
end Mx
end Go.Proofs
/- Matrices as lists of cells, row behind row: what is reduced, solved, comes to nothing, is turned back. Nothing of the program. -/
namespace Go.Proofs
namespace Mx
open Pol (ofL Byt toL)

/-! ## Lists by their places -/
theorem list_ext {xs ys : List Nat} (hl : xs.length = ys.length) (h : ∀ i, i < xs.length → xs.getD i 0 = ys.getD i 0) : xs = ys := by
  apply List.ext_getElem?
  intro i
  by_cases hi : i < xs.length
  · have h1 := h i hi
    have h2 : i < ys.length := by omega
    simp only [List.getD, List.getElem?_eq_getElem hi, List.getElem?_eq_getElem h2, Option.getD_some] at h1
    rw [List.getElem?_eq_getElem hi, List.getElem?_eq_getElem h2, h1]
  · rw [List.getElem?_eq_none (by omega), List.getElem?_eq_none (by omega)]
theorem getD_range_map (n : Nat) (f : Nat → Nat) (i : Nat) (h : i < n) : ((List.range n).map f).getD i 0 = f i := by simp [List.getD, h]
theorem ofL_eq {xs ys : List Nat} (bx : Byt xs) (hy : Byt ys) (hl : xs.length = ys.length) (h : ∀ i, i < xs.length → ofL xs i = ofL ys i) : xs = ys :=
  list_ext hl fun i hi => GF.of_inj _ _ (bx i) (hy i) (h i hi)
theorem ofL_toL_at (n : Nat) (p : Nat → GF) (i : Nat) (h : i < n) : ofL (toL n p) i = p i := by unfold Pol.ofL; rw [Pol.toL_at, if_pos h]; exact GF.of_self _

/-! ## A matrix and its cells -/
def mx (C : Nat) (xs : List Nat) : Mat := fun i j => ofL xs (i * C + j)
theorem cell_lt {R C i j : Nat} (hi : i < R) (hj : j < C) : i * C + j < R * C := by
  have : (i + 1) * C ≤ R * C := Nat.mul_le_mul_right _ hi
  rw [Nat.succ_mul] at this; omega
theorem cell_div {C i j : Nat} (hj : j < C) : (i * C + j) / C = i := by
  rw [Nat.mul_comm, Nat.mul_add_div (by omega), Nat.div_eq_of_lt hj, Nat.add_zero]
theorem cell_mod {C i j : Nat} (hj : j < C) : (i * C + j) % C = j := by
  rw [Nat.mul_comm, Nat.mul_add_mod, Nat.mod_eq_of_lt hj]
theorem cell_at {R C t : Nat} (h : t < R * C) : ∃ i j, i < R ∧ j < C ∧ t = i * C + j := by
  have hC : 0 < C := by
    rcases Nat.eq_zero_or_pos C with e | e
    · subst e; simp at h
    · exact e
  refine ⟨t / C, t % C, Nat.div_lt_of_lt_mul (by rw [Nat.mul_comm]; exact h), Nat.mod_lt _ hC, ?_⟩
  have := Nat.div_add_mod t C; rw [Nat.mul_comm] at this; exact this.symm
def cells (R C : Nat) (M : Mat) : List Nat := (List.range (R * C)).map fun t => (M (t / C) (t % C)).val
theorem cells_length (R C : Nat) (M : Mat) : (cells R C M).length = R * C := by simp [cells]
theorem cells_at {R C i j : Nat} (M : Mat) (hi : i < R) (hj : j < C) : (cells R C M).getD (i * C + j) 0 = (M i j).val := by
  unfold cells; rw [getD_range_map _ _ _ (cell_lt hi hj), cell_div hj, cell_mod hj]
theorem cells_congr {R C : Nat} {M N : Mat} (h : Eq R C M N) : cells R C M = cells R C N := by
  unfold cells
  refine List.map_congr_left fun t ht => ?_
  obtain ⟨i, j, hi, hj, rfl⟩ := cell_at (List.mem_range.1 ht)
  rw [cell_div hj, cell_mod hj, h i j hi hj]
theorem cells_mx {R C : Nat} {xs : List Nat} (hl : xs.length = R * C) (hb : Byt xs) : cells R C (mx C xs) = xs := by
  refine list_ext (by rw [cells_length, hl]) fun t ht => ?_
  rw [cells_length] at ht
  obtain ⟨i, j, hi, hj, rfl⟩ := cell_at ht
  rw [cells_at _ hi hj]; exact GF.of_val _ (hb _)
theorem cells_eq {R C : Nat} {xs : List Nat} {M : Mat} (hl : xs.length = R * C) (hb : Byt xs) (h : Eq R C (mx C xs) M) : xs = cells R C M := by rw [← cells_congr h, cells_mx hl hb]
theorem mx_inj {R C : Nat} {xs ys : List Nat} (hx : xs.length = R * C) (bx : Byt xs) (hy : ys.length = R * C) (by' : Byt ys) (h : Eq R C (mx C xs) (mx C ys)) : xs = ys := by rw [cells_eq hx bx h, cells_mx hy by']
/-! ## Sums of products, as lists tell them -/
theorem sm_front (n : Nat) (f : Nat → GF) : sm (n + 1) f = f 0 + sm n fun i => f (i + 1) := by
  induction n with
  | zero => show (0 : GF) + f 0 = f 0 + 0; rw [GF.zero_add, GF.add_zero]
  | succ n ih => rw [sm_succ, ih, sm_succ n fun i => f (i + 1), GF.add_assoc]
/-- The product with a column. -/
def timesL (R C : Nat) (xs v : List Nat) : List Nat := toL R fun i => dot C (mx C xs i) (ofL v)
theorem timesL_length (R C : Nat) (xs v : List Nat) : (timesL R C xs v).length = R := Pol.toL_length _ _
theorem timesL_byt (R C : Nat) (xs v : List Nat) : Byt (timesL R C xs v) := Pol.toL_byt _ _
theorem timesL_at {R C : Nat} {xs v : List Nat} {i : Nat} (hi : i < R) : ofL (timesL R C xs v) i = dot C (mx C xs i) (ofL v) := ofL_toL_at R _ i hi
def mulL (R n C : Nat) (xs ys : List Nat) : List Nat := cells R C (mm n (mx n xs) (mx C ys))
def oneL (n : Nat) : List Nat := cells n n id1
/-! ## Reduced -/
/-- ys is xs reduced, L where its rows lead. -/
structure IsEch (R C : Nat) (xs ys L : List Nat) : Prop where
  len : ys.length = R * C
  byt : Byt ys
  ech : Ech R C (mx C xs) (mx C ys) L.length fun k => L.getD k 0
theorem IsEch.unique {R C : Nat} {xs ys zs L K : List Nat} (h : IsEch R C xs ys L) (k : IsEch R C xs zs K) : ys = zs ∧ L = K := by
  obtain ⟨h1, h2, h3⟩ := h.ech.unique k.ech
  exact ⟨mx_inj h.len h.byt k.len k.byt h3, list_ext h1 h2⟩
/-! ## Solved -/
/-- x is what is solved for b. -/
structure IsSol (R C : Nat) (xs b x : List Nat) : Prop where
  len : x.length = C
  byt : Byt x
  sol : Sol R C (mx C xs) (ofL b) (ofL x)
theorem IsSol.unique {R C : Nat} {xs b x y : List Nat} (h : IsSol R C xs b x) (k : IsSol R C xs b y) : x = y :=
  ofL_eq h.byt k.byt (by rw [h.len, k.len]) fun i hi => h.sol.unique k.sol i (by rw [← h.len]; exact hi)
theorem IsSol.back {R C : Nat} {xs b x : List Nat} (h : IsSol R C xs b x) (hb : Byt b) (hl : b.length = R) : timesL R C xs x = b :=
  ofL_eq (timesL_byt _ _ _ _) hb (by rw [timesL_length, hl]) fun i hi => by rw [timesL_length] at hi; rw [timesL_at hi]; exact h.sol.eq i hi
/-! ## What comes to nothing -/
/-! ## The way back -/
structure IsInv (n : Nat) (xs ys : List Nat) : Prop where
  len : ys.length = n * n
  byt : Byt ys
  inv : Inv n (mx n xs) (mx n ys)
theorem IsInv.unique {n : Nat} {xs ys zs : List Nat} (h : IsInv n xs ys) (k : IsInv n xs zs) : ys = zs := mx_inj h.len h.byt k.len k.byt (h.inv.unique k.inv)
theorem IsInv.back {n : Nat} {xs ys : List Nat} (h : IsInv n xs ys) (hl : xs.length = n * n) (hb : Byt xs) : IsInv n ys xs := ⟨hl, hb, h.inv.left⟩
theorem IsInv.right {n : Nat} {xs ys : List Nat} (h : IsInv n xs ys) : mulL n n n xs ys = oneL n := cells_congr h.inv
theorem IsInv.left {n : Nat} {xs ys : List Nat} (h : IsInv n xs ys) : mulL n n n ys xs = oneL n := cells_congr h.inv.left
/-! ## Ranks of products, and of what is turned -/
end Mx
end Go.Proofs
/- Matrices of choices, as lists; a column laid behind a matrix. Nothing of the program. -/
namespace Go.Proofs
namespace Mx
open Pol (ofL Byt toL)

/-! ## A column behind a matrix -/
/-! ## Matrices of choices -/
theorem getD_set (xs : List Nat) (i j v : Nat) : (xs.set i v).getD j 0 = if i = j ∧ j < xs.length then v else xs.getD j 0 := by
  simp only [List.getD, List.getElem?_set]
  by_cases e : i = j
  · subst e
    by_cases h : i < xs.length
    · simp [h]
    · simp [h]
  · simp [e]
/-! ## One row more, and so many times another -/
end Mx
end Go.Proofs
/- Cells of matrices that are turned one by one; matrices beside one another. Nothing of the program. -/
namespace Go.Proofs
namespace Mx
open Pol (ofL Byt toL)

/-! ## Cells that are turned -/
/-- One cell is another one. -/
def upd (M : Mat) (i j : Nat) (v : GF) : Mat := fun a b => if a = i ∧ b = j then v else M a b
theorem cell_inj {C i j a b : Nat} (hj : j < C) (hb : b < C) (e : i * C + j = a * C + b) : i = a ∧ j = b := by
  have h1 := cell_div (i := i) hj; have h2 := cell_div (i := a) hb
  have h3 := cell_mod (i := i) hj; have h4 := cell_mod (i := a) hb
  rw [e] at h1 h3; exact ⟨by omega, by omega⟩
theorem cells_ext {R C : Nat} {xs : List Nat} {M : Mat} (hl : xs.length = R * C) (h : ∀ i j, i < R → j < C → xs.getD (i * C + j) 0 = (M i j).val) : xs = cells R C M := by
  refine list_ext (by rw [hl, cells_length]) fun t ht => ?_
  rw [hl] at ht
  obtain ⟨i, j, hi, hj, rfl⟩ := cell_at ht
  rw [h i j hi hj, cells_at M hi hj]
theorem cells_set {R C i j : Nat} (M : Mat) (hi : i < R) (hj : j < C) (x : Nat) (hx : x < 256) : (cells R C M).set (i * C + j) x = cells R C (upd M i j (GF.of x)) := by
  refine cells_ext (by rw [List.length_set, cells_length]) fun a b ha hb => ?_
  rw [getD_set, cells_at M ha hb, cells_length]
  unfold upd
  by_cases e : a = i ∧ b = j
  · obtain ⟨rfl, rfl⟩ := e
    rw [if_pos ⟨rfl, cell_lt ha hb⟩, if_pos ⟨rfl, rfl⟩, GF.of_val x hx]
  · rw [if_neg e, if_neg fun k => e (by obtain ⟨h1, h2⟩ := cell_inj hj hb k.1; exact ⟨h1.symm, h2.symm⟩)]
/-- A part of a row, from column c on, k cells. -/
def prt (M : Mat) (i c k : Nat) : List Nat := toL k fun t => M i (c + t)
theorem prt_length (M : Mat) (i c k : Nat) : (prt M i c k).length = k := Pol.toL_length _ _
theorem prt_byt (M : Mat) (i c k : Nat) : Byt (prt M i c k) := Pol.toL_byt _ _
theorem prt_at (M : Mat) (i c k t : Nat) (ht : t < k) : (prt M i c k).getD t 0 = (M i (c + t)).val := by unfold prt; rw [Pol.toL_at, if_pos ht]
/-- A part of a row is laid anew. -/
def lay (M : Mat) (i c : Nat) (ys : List Nat) : Mat := fun a b => if a = i ∧ c ≤ b ∧ b < c + ys.length then ofL ys (b - c) else M a b
theorem Eq.upd {R C : Nat} {M N : Mat} (h : Eq R C M N) (i j : Nat) (v : GF) : Eq R C (upd M i j v) (upd N i j v) := fun a b ha hb => by
  unfold Mx.upd; split
  · rfl
  · exact h a b ha hb

/-! ## Beside one another -/
/-- x, and 1 at column C + j. -/
def mark (C j : Nat) (x : Nat → GF) : Nat → GF := fun t => if t < C then x t else dl (t - C) j
end Mx
end Go.Proofs
