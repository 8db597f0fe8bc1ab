/- Texts laid together: PolyT, VAt, VFrom, VZer. Each says its own conditions. -/
import Derived.Test.YtjnkkokhkooegaaGreatMA
import Derived.Test.YtjnkkokhkooegaaGreatMF
import Derived.Test.YtjnkkokhkooegaaGreatMG
import Derived.Test.YtjnkkokhkooegaaGreatMO
/- The one polynomial through values at unlike places, place by place and term by term; derivatives of lists. Nothing of the program. -/
namespace Go.Proofs
namespace Pol
theorem take_snoc' (l : List Nat) (k : Nat) (hk : k < l.length) : l.take (k + 1) = l.take k ++ [l.getD k 0] := by rw [List.take_add_one]; simp [List.getD, hk]
/-- It goes through the first i places. -/
structure Thr (xs ys : List Nat) (i : Nat) (P : Pol) : Prop where
  bd : Bd i P
  un : (xs.take i).Nodup
  vals : ∀ j, j < i → ev i P (GF.of (xs.getD j 0)) = GF.of (ys.getD j 0)
theorem thr_unique {xs ys : List Nat} {P Q : Pol} (hx : Byt xs) (h : Thr xs ys xs.length P) (k : Thr xs ys xs.length Q) : P = Q := by
  have hn : xs.Nodup := by have := h.un; rwa [List.take_length] at this
  refine eq_of_add (zeros_le (xs.map GF.of) xs.length _ (nodup_of hx hn) (h.bd.add k.bd) (by rw [List.length_map]; exact Nat.le_refl _) fun c hc => ?_)
  obtain ⟨y, hy, rfl⟩ := List.mem_map.1 hc
  obtain ⟨i, hi, rfl⟩ := List.getElem_of_mem hy
  have e : xs[i] = xs.getD i 0 := by simp [List.getD, hi]
  rw [ev_add, e, h.vals i hi, k.vals i hi, GF.add_self]
/-- What Through tells. -/
def IsTh (xs ys zs : List Nat) (b : Bool) : Prop := (b = true ∧ xs.length = ys.length ∧ ∃ P, IsN zs P ∧ Thr xs ys xs.length P) ∨ (b = false ∧ zs = [] ∧ ¬ (xs.length = ys.length ∧ xs.Nodup))
theorem Thr.nodup {xs ys : List Nat} {P : Pol} (h : Thr xs ys xs.length P) : xs.Nodup := by have := h.un; rwa [List.take_length] at this
theorem IsTh.byt {xs ys zs : List Nat} {b : Bool} (h : IsTh xs ys zs b) : Byt zs := by
  rcases h with ⟨_, _, P, h, _⟩ | ⟨_, rfl, _⟩
  · exact h.byt
  · exact byt_nil
theorem IsTh.unique {xs ys zs us : List Nat} {b c : Bool} (hx : Byt xs) (h : IsTh xs ys zs b) (k : IsTh xs ys us c) : zs = us ∧ b = c := by
  rcases h with ⟨rfl, e, P, h1, h2⟩ | ⟨rfl, rfl, hn⟩
  · rcases k with ⟨rfl, _, Q, k1, k2⟩ | ⟨rfl, rfl, kn⟩
    · have := thr_unique hx h2 k2
      subst this
      exact ⟨h1.unique k1, rfl⟩
    · exact absurd ⟨e, h2.nodup⟩ kn
  · rcases k with ⟨rfl, e, Q, k1, k2⟩ | ⟨rfl, rfl, kn⟩
    · exact absurd ⟨e, k2.nodup⟩ hn
    · exact ⟨rfl, rfl⟩
/-! Term by term. -/
/-! Derivatives. -/
def de1 (xs : List Nat) (i : Nat) : Nat := if i % 2 = 0 then xs.getD (i + 1) 0 else 0
/-- The first k coefficients of the derivative. -/
def deK (xs : List Nat) (k : Nat) : List Nat := (List.range k).map (de1 xs)
end Pol
end Go.Proofs
/- The walks of value.At and of the closure that tells values, by slices.Backward. Conditions: a list of bytes; a field that Of has made, or none, and a list that does not lie in its table. -/
namespace Go.Proofs
open Go.RowKit Go.Shelf Go.ChangeShapes Go.WideShapes
attribute [local go_sem] Oper.semAt_some
open Pol (vl vlD Byt)

/-- What has come when k places are gone through, from the last on. -/
def bwK (n : Nat) : Nat → List (Tm n)
  | 0 => []
  | k + 1 => if h : k < n then bwK n k ++ [⟨n - 1 - k, by omega⟩] else bwK n k
def bwD (n j : Nat) : List (Tm n) := bwK n (n - j)
theorem bwK_length (n k : Nat) : (bwK n k).length ≤ k := by
  induction k with
  | zero => exact Nat.le_refl _
  | succ k ih =>
    unfold bwK
    split
    · simp; exact ih
    · omega
theorem bwD_top (n : Nat) : bwD n n = [] := by unfold bwD; rw [Nat.sub_self]; rfl
theorem bwD_some (n m : Nat) (hm : m < n) : bwD n m = bwD n (m + 1) ++ [⟨m, hm⟩] := by
  unfold bwD
  obtain ⟨k, hk⟩ : ∃ k, n - (m + 1) = k := ⟨_, rfl⟩
  have e1 : n - m = k + 1 := by omega
  have e2 : n - 1 - k = m := by omega
  rw [e1, hk]
  conv => lhs; unfold bwK
  rw [dif_pos (by omega)]
  congr 2
  exact Subtype.ext e2
/-- What the rounds add up. -/
def hf (xs : List Nat) (x : Nat) {n : Nat} (pre : List (Tm n)) : Nat := pre.foldl (fun s t => Gf.mul s x ^^^ xs.getD t.1 0) 0
theorem hf_snoc (xs : List Nat) (x : Nat) {n : Nat} (pre : List (Tm n)) (t : Tm n) : hf xs x (pre ++ [t]) = Gf.mul (hf xs x pre) x ^^^ xs.getD t.1 0 := by simp [hf]
theorem hf_lt {xs : List Nat} (hb : Byt xs) (x : Nat) {n : Nat} (pre : List (Tm n)) : hf xs x pre < 256 := by
  suffices h : ∀ (pre : List (Tm n)) (s : Nat), s < 256 → pre.foldl (fun s t => Gf.mul s x ^^^ xs.getD t.1 0) s < 256 from h pre 0 (by decide)
  intro pre
  induction pre with
  | nil => exact fun s h => h
  | cons t l ih => intro s h; exact ih _ (Gf.xor_lt8 (Gf.mul_lt _ _ h) (hb _))
theorem hf_all {xs : List Nat} {n : Nat} (hb : Byt xs) (hl : xs.length = n) (x : Nat) (hx : x < 256) : hf xs x (bwD n 0) = vl xs x := by
  suffices h : ∀ t j, j + t = n → hf xs x (bwD n j) = vlD xs x j from (h n 0 (by omega)).trans (Pol.vlD_all xs x)
  intro t
  induction t with
  | zero =>
    intro j e
    obtain rfl : j = n := by omega
    rw [bwD_top, Pol.vlD_top xs x j (by omega)]; rfl
  | succ t ih =>
    intro j e
    rw [bwD_some n j (by omega), hf_snoc, ih (j + 1) (by omega), Pol.vlD_step xs x j hb hx (by omega)]

theorem backward_calls (m : Nat) (q : Option Addr) (n c : Nat) (w : World) :
    CallsIn Fence.wide m Tryz.prog 87 #[.slice q n c] w fun e w' => e = .returned (.func (.func 100) #[] #[.pointer (some ⟨w.heap.size, 0, none⟩)]) ∧ w.alloc (.cells #[.slice q n c] 22) = w' := by
  refine callsIn_of_wp Tryz.func87 rfl trivial ?_ rfl
  simp only [Tryz.ntmps87, List.size_toArray, List.length_cons, List.length_nil, Nat.reduceAdd, Nat.reduceSub, Array.replicate_succ, Array.replicate_zero, List.push_toArray, List.append_toArray, List.nil_append, List.cons_append]
  gi_wp2
  go_ret
  exact ⟨rfl, rfl⟩

set_option maxHeartbeats 1000000 in
theorem backward1_stops (m : Nat) (hm : 1 ≤ m) (Bn : Nat) (q : Option Addr) (n c : Nat) (xs : List Nat) (w : World) (hb : Bn < w.heap.size) (hc : w.cell? ⟨Bn, 0, none⟩ = some (.slice q n c)) (hs : Bs w q n xs) :
    SeqStopsK Fence.wide m Tryz.prog 100 #[.pointer (some ⟨Bn, 0, none⟩)] (tmv xs n) (KeepsP Bn q n) (fun ys => ys = bwD n 0) (fun _ => True) n w :=
  fun l J Jx W hW hJ hJx hY h0 => by
  have hcW : W.cell? ⟨Bn, 0, none⟩ = some (.slice q n c) := (hW.cell (p := ⟨Bn, 0, none⟩) hb).trans hc
  have hsW : Bs W q n xs := hs.below hW
  have hmax := hs.max
  clear hc hW hs
  refine callsIn_of_wp Tryz.func100 rfl trivial ?_ rfl
  simp only [Tryz.ntmps100, List.size_toArray, List.length_cons, List.length_nil, Nat.reduceAdd, Nat.reduceSub, Array.replicate_succ, Array.replicate_zero, List.push_toArray, List.append_toArray, List.nil_append, List.cons_append]
  have HS : Hid (Bs W q n xs) := hsW
  clear hsW
  have hw0 : wrap64 ((n : Int) - 1) = (n : Int) - 1 := by unfold wrap64; omega
  gi_wp2
  gi_loopw [3] (fun i wr => ∃ j : Nat, j ≤ n ∧ i = .int .i64 ((j : Int) - 1) ∧ J (bwD n j) wr ∧ wr.cell? ⟨Bn, 0, none⟩ = some (.slice q n c) ∧ ∀ i, i < n → ∃ a, q = some a ∧ wr.cell? (a.add i) = some (.int .u8 (xs.getD i 0 : Nat)))
    (fun i _ => (intOf i + 1).toNat)
  case atStart =>
    refine ⟨n, Nat.le_refl _, rfl, ?_, hcW, fun i hi => ?_⟩
    · rw [bwD_top]; exact h0
    · obtain ⟨a, e, _, hc⟩ := HS.out.cell i hi
      exact ⟨a, e, hc⟩
  case round =>
    obtain ⟨j, hj, rfl, hJs, hcs, hcells⟩ := hrel
    cases j with
    | zero =>
      have e0 : ((0 : Nat) : Int) - 1 = -1 := by omega
      rw [e0]
      clear hcells HS
      gi_wp2
      go_end0
      exact ⟨⟨_, rfl⟩, .inl ⟨_, rfl, hJs⟩⟩
    | succ k =>
      have e0 : ((k + 1 : Nat) : Int) - 1 = (k : Int) := by omega
      rw [e0]
      have hlt : k < n := by omega
      obtain ⟨a, ha, hca⟩ := hcells k hlt
      have hYk := hY (bwD n (k + 1)) ⟨k, hlt⟩ wr hJs (by have := bwK_length n (n - (k + 1)); unfold bwD; omega)
      have H1 := bwD_some n k hlt
      have HC : Hid (∀ i, i < n → ∃ a, q = some a ∧ wr.cell? (a.add i) = some (.int .u8 (xs.getD i 0 : Nat))) := hcells
      dsimp only [tmv] at hYk
      obtain ⟨b, hbe⟩ : ∃ b, xs.getD k 0 = b := ⟨_, rfl⟩
      rw [hbe] at hca hYk
      clear hcells hY
      have hcan := hca
      subst ha
      have hki : (k : Int) < (n : Int) := by omega
      have hw1 : wrap64 ((k : Int) - 1) = (k : Int) - 1 := by unfold wrap64; omega
      obtain ⟨fn, tmps, assign, body, hy, hR⟩ := hYk
      rw [← H1] at hR
      clear H1 hbe
      gi_wp2
      refine hR.mono ?_
      rintro e W3 (⟨rfl, hJ3, hk3⟩ | ⟨rfl, hJx3⟩)
      · have hc3 : W3.cell? ⟨Bn, 0, none⟩ = some (.slice (some a) n c) := hk3.1 _ hcs
        have HC3 : Hid (∀ i, i < n → ∃ a', some a = some a' ∧ W3.cell? (a'.add i) = some (.int .u8 (xs.getD i 0 : Nat))) := fun i hi => by
          obtain ⟨a', e', h'⟩ := HC.out i hi
          exact ⟨a', e', hk3.2 a' e' i hi _ h'⟩
        clear hk3
        gi_wp2
        go_roundw
        case rel => exact ⟨k, by omega, rfl, hJ3, hc3, HC3.out⟩
        case measure => simp [intOf]
      · gi_wp2
        refine bodyPost_ret (results_none rfl _ _ _) rfl ?_
        exact ⟨⟨_, rfl⟩, .inr ⟨_, trivial, hJx3⟩⟩

/-- What the closure's boxes hold between two rounds. -/
structure VI (R F k B T : Nat) (w : World) (x s : Nat) (W : World) : Prop where
  bf : Boxed W F 23 (.pointer (some ⟨B, 0, none⟩))
  bx : Boxed W R 5 (.int .u8 (x : Nat))
  bs : Boxed W (R + 1) 5 (.int .u8 (s : Nat))
  fd : Fd k B T W
  but : But (· = T) w W
theorem vi_own {β : Type} {R F k B T C : Nat} {w : World} {x : Nat} (f : β → Nat) (hw : w.heap.size ≤ C) (hB : B < C) (hT : T < C) : OwnFrom C (fun (y : β) W => VI R F k B T w x (f y) W) := fun y X Y row hs hg hr =>
  have hr' : ∀ r, row = some r → ∃ o : Obj, X.heap[r]? = some o ∧ o.isCells = false := fun r e => (hr r e).2
  ⟨boxed_own (β := Unit) F _ (fun _ => _) () X Y row hs.bf hg hr', boxed_own (β := Unit) R _ (fun _ => _) () X Y row hs.bx hg hr', boxed_own (β := Unit) (R + 1) _ (fun _ => .int .u8 (f y : Nat)) () X Y row hs.bs hg hr', ownFrom_fd (β := Unit) hB hT () X Y row hs.fd hg hr, ownFrom_but (β := Unit) hw () X Y row hs.but hg hr⟩

set_option maxRecDepth 100000 in
set_option maxHeartbeats 2000000 in
theorem vof1_in (D : Nat) (hD : 3 ≤ D) (k B T P F n c x : Nat) (q : Option Addr) (xs : List Nat) (hx : x < 256) (hFT : ¬ F = T) (w : World) (h : Fd k B T w) (hs : Bs w q n xs) (hq : Off T n q)
    (hP : Boxed w P 22 (.slice q n c)) (hF : Boxed w F 23 (.pointer (some ⟨B, 0, none⟩))) :
    CallsIn Fence.wide D Tryz.prog 86 #[.int .u8 x, .pointer (some ⟨P, 0, none⟩), .pointer (some ⟨F, 0, none⟩)] w fun e w' => e = .returned (.int .u8 (vl xs x : Nat)) ∧ Fd k B T w' ∧ But (· = T) w w' := by
  refine callsIn_of_wp_marks Tryz.func86 rfl trivial ?_ rfl
  simp only [Tryz.ntmps86, List.size_toArray, List.length_cons, List.length_nil, Nat.reduceAdd, Nat.reduceSub, Array.replicate_succ, Array.replicate_zero, List.push_toArray, List.append_toArray, List.nil_append, List.cons_append]
  have hfn : ∀ f, Fence.wide.fn f := fun _ => trivial
  have hD1 : 1 ≤ D := by omega
  have cP := hP.cell
  have cP2 := cell_alloc_l (.cells #[.int .u8 0] 5) (cell_alloc_l (.cells #[.int .u8 (x : Nat)] 5) cP)
  have HF : Hid (Boxed w F 23 (.pointer (some ⟨B, 0, none⟩)) ∧ Fd k B T w ∧ Bs w q n xs ∧ Off T n q ∧ x < 256) := ⟨hF, h, hs, hq, hx⟩
  have hTR0 := h.lt
  have hBR0 := h.blt
  have hFR0 := hF.lt
  clear hP hF h hs hq hx
  gi_wp2_with (gi_at_call 87; refine (backward_calls (D - 1) q n c _).mono ?_; rintro e w' ⟨rfl, rfl⟩)
  obtain ⟨R, hR⟩ : ∃ R, w.heap.size = R := ⟨_, rfl⟩
  obtain ⟨W0, hW0⟩ : ∃ W0, ((w.alloc (.cells #[.int .u8 (x : Nat)] 5)).alloc (.cells #[.int .u8 0] 5)).alloc (.cells #[.slice q n c] 22) = W0 := ⟨_, rfl⟩
  have hsz : W0.heap.size = R + 1 + 1 + 1 := by rw [← hW0, ← hR]; simp
  have hB0 : Below w.heap.size w W0 := by rw [← hW0]; exact (((Below.refl _ w).alloc (Nat.le_refl _) _).alloc (by simp) _).alloc (by simp; omega) _
  have i0 : VI R F k B T w x 0 W0 := by
    refine ⟨boxed_below HF.out.1 hB0, ?_, ?_, HF.out.2.1.below hB0, But.of_below hB0⟩
    · rw [← hW0, ← hR]; exact ((Boxed.new w _ _).alloc _).alloc _
    · rw [← hW0]
      have e := (Boxed.new (w.alloc (.cells #[.int .u8 (x : Nat)] 5)) 5 (.int .u8 0)).alloc (.cells #[.slice q n c] 22)
      simpa [hR] using e
  have c3 : W0.cell? ⟨R + 1 + 1, 0, none⟩ = some (.slice q n c) := by
    rw [← hW0]
    have e := (Boxed.new ((w.alloc (.cells #[.int .u8 (x : Nat)] 5)).alloc (.cells #[.int .u8 0] 5)) 22 (.slice q n c)).cell
    simpa [hR] using e
  have s0 : Bs W0 q n xs := HF.out.2.2.1.below hB0
  have hT : T < R := by omega
  have hB : B < R := by omega
  have hFR : F < R := by omega
  rw [hW0, hR]
  refine wpIn_rangeFunc_ownG rfl hD1 (gf := 100) (lb := #[.pointer (some ⟨R + 1 + 1, 0, none⟩)]) rfl trivial (enters_of Tryz.func100 (by kernel_rfl) rfl)
    (backward1_stops (D - 1) (by omega) (R + 1 + 1) q n c xs _ (by omega) c3 s0) keepsP_t (fun W l o o' _ h1 h2 _ => keepsP_b W l o o' h1 h2) (Below.refl _ _) (fun _ => rfl)
    (fun pre W => VI R F k B T w x (hf xs x pre) W)
    (fun _ _ _ => False)
    (vi_own _ (by omega) (by omega) (by omega))
    (fun _ _ _ _ _ hs _ _ => hs)
    i0
    (fun t => { tmps := #[.int .u8 x, .pointer (some ⟨P, 0, none⟩), .pointer (some ⟨F, 0, none⟩), .pointer (some ⟨R, 0, none⟩), .int .u8 0, .pointer (some ⟨R + 1, 0, none⟩), undef, .int .u8 ((xs.getD t.1 0 : Nat) : Int), .slice q n c, .func (.func 100) #[] #[.pointer (some ⟨R + 1 + 1, 0, none⟩)], .int .i64 ((t.1 : Nat) : Int), .int .u8 ((xs.getD t.1 0 : Nat) : Int), undef, undef, undef, undef, undef, undef, undef], defers := [] }) ?assign ?body ?done ?stop
  case assign =>
    intro l t W K hK
    obtain ⟨i, hi⟩ := t
    dsimp only [tmv] at hK ⊢
    obtain ⟨b, hb⟩ : ∃ b, xs.getD i 0 = b := ⟨_, rfl⟩
    rw [hb] at hK ⊢
    gi_wp2
    exact hK
  case body =>
    rintro l pre t W hI _
    clear i0 c3 s0 hB0
    obtain ⟨i, hi⟩ := t
    dsimp only
    have hbb : xs.getD i 0 < 256 := HF.out.2.2.1.byte i
    have hsn := hf_snoc xs x pre ⟨i, hi⟩
    dsimp only at hsn
    have hsl := hf_lt HF.out.2.2.1.byte x pre
    obtain ⟨s, hse⟩ : ∃ s, hf xs x pre = s := ⟨_, rfl⟩
    obtain ⟨b, hb⟩ : ∃ b, xs.getD i 0 = b := ⟨_, rfl⟩
    rw [hse] at hI hsn hsl
    rw [hb] at hsn hbb ⊢
    have KE := fmul_calls k B T s x hsl HF.out.2.2.2.2 W hI.fd
    have c1 := hI.bf.cell
    have c2 := hI.bx.cell
    have c3 := hI.bs.cell
    have f3 := hI.bs.frozen
    have hxo := u8_xor_nat (Gf.mul s x) b (Gf.mul_lt _ _ hsl) hbb
    have HP : Hid (hf xs x (pre ++ [⟨i, hi⟩]) = Gf.mul s x ^^^ b ∧ VI R F k B T w x s W) := ⟨hsn, hI⟩
    have hmx : Tryz.prog.follows .mixedOrders = true := by kernel_rfl
    have hd : 1 ≤ D - 1 - 1 := by omega
    clear hsn hI hse hb hsl hbb
    gi_wp2_with fail
    refine (CallsIn.inRound l (callsIn_wide.2 KE)).mono ?_
    rintro e w1 ⟨rfl, hF1, hb1⟩
    clear KE c1 c2 c3 f3
    have b3 := boxed_but HP.out.2.bs hb1 (show ¬ R + 1 = T by omega)
    have c3 := b3.cell
    have f3 := b3.frozen
    have HB : Hid (Fd k B T w1 ∧ But (· = T) W w1 ∧ Boxed w1 (R + 1) 5 (.int .u8 (s : Nat))) := ⟨hF1, hb1, b3⟩
    clear hF1 hb1 b3
    gi_wp2
    obtain ⟨hF1, hb1, b3⟩ := HB.out
    have hb2 : But (fun k => k = R + 1) w1 (w1.setCell ⟨R + 1, 0, none⟩ (.int .u8 ((Gf.mul s x ^^^ b : Nat) : Int))) := (But.refl (fun k => k = R + 1) w1).setCell (p := ⟨R + 1, 0, none⟩) (.inl rfl) _
    have hb3 : But (fun k => k = T ∨ k = R + 1) W (w1.setCell ⟨R + 1, 0, none⟩ (.int .u8 ((Gf.mul s x ^^^ b : Nat) : Int))) := (hb1.mono (fun k hk => .inl hk)).trans (hb2.mono (fun k hk => .inr hk))
    refine ⟨keepsFrom_but hb3 (fun k hk => by omega), keepsP_but hb3 (by omega) (fun h1 a e hk => ?_), ?_⟩
    · rcases hk with hk | hk
      · exact HF.out.2.2.2.1 h1 a e hk
      · obtain ⟨a', e', hl', _⟩ := HF.out.2.2.1.cell 0 h1
        obtain rfl : a' = a := Option.some.inj (e'.symm.trans e)
        omega
    · show VI R F k B T w x (hf xs x (pre ++ [⟨i, hi⟩])) _
      rw [HP.out.1]
      exact ⟨boxed_but (boxed_but HP.out.2.bf hb1 (by omega)) hb2 (by omega), boxed_but (boxed_but HP.out.2.bx hb1 (by omega)) hb2 (by omega), b3.set _, hF1.but hb2 (by omega) (by omega), (HP.out.2.but.trans hb1).past hb2 (fun k hk => by omega)⟩
  case done =>
    rintro D' ys' W hD' rfl hI hK
    rw [hf_all HF.out.2.2.1.byte HF.out.2.2.1.len x HF.out.2.2.2.2] at hI
    have c3' := hI.bs.cell
    gi_wp2
    refine ⟨by simp, .inl ⟨_, _, rfl, run_takeDeferred hK, ?_⟩⟩
    have hg := grownBy_putObj' W D' (.deferred none)
    have hb1 : But (· = D') W (W.putObj D' (.deferred none)) := ⟨hg.os, hg.tape, hg.output, hg.size, fun k hk hs => hg.block k hk (fun e => by cases e; exact hs rfl)⟩
    exact ⟨_, results_tmp rfl _ _ _, rfl, hI.fd.but hb1 (by omega) (by omega), hI.but.past hb1 (fun k hk => by omega)⟩
  case stop =>
    rintro D' c' pre W _ _ h _
    exact h.elim
theorem vof1_calls (k B T P F n c x : Nat) (q : Option Addr) (xs : List Nat) (hx : x < 256) (hFT : ¬ F = T) (w : World) (h : Fd k B T w) (hs : Bs w q n xs) (hq : Off T n q)
    (hP : Boxed w P 22 (.slice q n c)) (hF : Boxed w F 23 (.pointer (some ⟨B, 0, none⟩))) :
    Calls Tryz.prog 86 #[.int .u8 x, .pointer (some ⟨P, 0, none⟩), .pointer (some ⟨F, 0, none⟩)] w fun e w' => e = .returned (.int .u8 (vl xs x : Nat)) ∧ Fd k B T w' ∧ But (· = T) w w' :=
  (callsIn_wide (n := 3)).1 (vof1_in 3 (by omega) k B T P F n c x q xs hx hFT w h hs hq hP hF)
/-- of: a closure over two boxes. -/
theorem vof_calls (B n c : Nat) (q : Option Addr) (w : World) :
    Calls Tryz.prog 74 #[.pointer (some ⟨B, 0, none⟩), .slice q n c] w fun e w' => e = .returned (.func (.func 86) #[] #[.pointer (some ⟨w.heap.size + 1, 0, none⟩), .pointer (some ⟨w.heap.size, 0, none⟩)]) ∧ (w.alloc (.cells #[.pointer (some ⟨B, 0, none⟩)] 23)).alloc (.cells #[.slice q n c] 22) = w' := by
  go_enter Tryz.func74, Tryz.ntmps74
  go_wp2
  go_ret
  exact ⟨rfl, rfl⟩
set_option maxRecDepth 100000 in
set_option maxHeartbeats 1000000 in
theorem vat_calls (k B T n c x : Nat) (q : Option Addr) (xs : List Nat) (hx : x < 256) (w : World) (h : Fd k B T w) (hs : Bs w q n xs) (hq : Off T n q) :
    Calls Tryz.prog 56 #[.pointer (some ⟨B, 0, none⟩), .slice q n c, .int .u8 x] w fun e w' => e = .returned (.int .u8 (vl xs x : Nat)) ∧ Fd k B T w' ∧ But (· = T) w w' := by
  obtain ⟨W0, hW0⟩ : ∃ W0, (w.alloc (.cells #[.pointer (some ⟨B, 0, none⟩)] 23)).alloc (.cells #[.slice q n c] 22) = W0 := ⟨_, rfl⟩
  have hB0 : Below w.heap.size w W0 := by rw [← hW0]; exact ((Below.refl _ w).alloc (Nat.le_refl _) _).alloc (by simp) _
  have hP : Boxed W0 (w.heap.size + 1) 22 (.slice q n c) := by
    rw [← hW0]
    have e := Boxed.new (w.alloc (.cells #[.pointer (some ⟨B, 0, none⟩)] 23)) 22 (.slice q n c)
    simpa using e
  have hF : Boxed W0 w.heap.size 23 (.pointer (some ⟨B, 0, none⟩)) := by rw [← hW0]; exact (Boxed.new w _ _).alloc _
  have K1 := vof_calls B n c q w
  rw [hW0] at K1
  have K2 := vof1_calls k B T (w.heap.size + 1) w.heap.size n c x q xs hx (by have := h.lt; omega) W0 (h.below hB0) (hs.below hB0) hq hP hF
  have HB : Hid (Below w.heap.size w W0) := hB0
  clear hP hF hB0 h hs hq hx hW0
  go_enter Tryz.func56, Tryz.ntmps56
  go_wp2_with (first
    | (go_at_call 74; refine K1.mono ?_; rintro e w1 ⟨rfl, rfl⟩)
    | (go_at_call 86; refine K2.mono ?_; rintro e w2 ⟨rfl, hF, hb⟩))
  go_ret
  exact ⟨rfl, hF, (But.of_below HB.out).trans hb⟩
end Go.Proofs
/- The walks of value.From and value.Derive. Conditions: lists of at most ten million bytes; a field that Of has made, and lists that do not lie in its table. -/
namespace Go.Proofs
open Go.RowKit Go.ChangeShapes Go.WideShapes
open Pol (IsN Dg ofL Byt frL)

/-- A list of one byte, of its own. -/
theorem ow_one (W : World) {base : Nat} (hb : base ≤ W.heap.size) (x : Nat) : Ow (W.alloc (.cells #[.int .u8 (x : Nat)] 5)) base (.slice (some ⟨W.heap.size, 0, none⟩) 1 1) [x] := by
  have h := World.ownsRow_lit (base := base) (e := 5) (size := 1) W #[.int .u8 (x : Nat)] 1 hb (by unfold maxLen; omega) rfl
  exact h
end Go.Proofs
/- The walks of value.Zeros and value.All. Conditions: lists of at most ten million bytes; a field that Of has made, and lists that do not lie in its table. -/
namespace Go.Proofs
open Go.RowKit Go.ChangeShapes Go.WideShapes
attribute [local go_sem ↓ high] builtin_ap
attribute [local go_sem] ap_sem
open Pol (IsN Dg ofL Byt vl zl zlK)

/-- Nothing below n has turned. -/
theorem But.of_below_at {n : Nat} {W W' : World} (h : Below n W W') : But (fun k => n ≤ k) W W' := ⟨h.os, h.tape, h.output, h.size, fun k _ hs => h.block k (by omega)⟩
/-- Between two rounds: the closure's boxes, and the list. -/
structure ZI (R k B T n c : Nat) (q : Option Addr) (xs : List Nat) (w W : World) : Prop where
  bf : Boxed W R 23 (.pointer (some ⟨B, 0, none⟩))
  bp : Boxed W (R + 1) 22 (.slice q n c)
  bs : Bs w q n xs
  bl : B < R
  fd : Fd k B T W
  but : But (· = T) w W
theorem ZI.next {R k B T n c : Nat} {q : Option Addr} {xs : List Nat} {w W W' : World} (h : ZI R k B T n c q xs w W) (hT : T < R) (hF : Fd k B T W') (hb : But (· = T) W W') : ZI R k B T n c q xs w W' :=
  ⟨boxed_but h.bf hb (by omega), boxed_but h.bp hb (by omega), h.bs, h.bl, hF, h.but.trans hb⟩
/-- What is written from the boxes on changes nothing. -/
theorem ZI.past {R k B T n c : Nat} {q : Option Addr} {xs : List Nat} {w W W' : World} (h : ZI R k B T n c q xs w W) (hR : w.heap.size = R) (hT : T < R) (hb : Below (R + 1 + 1) W W') : ZI R k B T n c q xs w W' := by
  have hb' : But (fun k => R + 1 + 1 ≤ k) W W' := But.of_below_at hb
  exact ⟨boxed_but h.bf hb' (by omega), boxed_but h.bp hb' (by omega), h.bs, h.bl, h.fd.but hb' (by have := h.bl; omega) (by omega), h.but.past hb' (fun k hk => by omega)⟩
theorem ZI.calls {R k B T n c : Nat} {q : Option Addr} {xs : List Nat} {w W : World} (h : ZI R k B T n c q xs w W) (hq : Off T n q) (hT : T < R) (x : Nat) (hx : x < 256) :
    Calls Tryz.prog 86 #[.int .u8 x, .pointer (some ⟨R + 1, 0, none⟩), .pointer (some ⟨R, 0, none⟩)] W fun e w' => e = .returned (.int .u8 (vl xs x : Nat)) ∧ ZI R k B T n c q xs w w' ∧ But (· = T) W w' := by
  refine (vof1_calls k B T (R + 1) R n c x q xs hx (by omega) W h.fd (h.bs.but h.but hq) hq h.bp h.bf).mono ?_
  rintro e w' ⟨rfl, hF, hb⟩
  exact ⟨rfl, h.next hT hF hb, hb⟩

end Go.Proofs
