/- Texts laid together: FdM, RfTill. Each says its own conditions. -/
import Derived.RangeFuncNested
import Derived.RangeFuncBound
import Derived.RangeFuncCalls
import Derived.RangeFuncLeaves
import Derived.Test.YtjnkkokhkooegaaGreatMF
/- A field whose table, where it has one, is made already: Pow makes it, and Mul by it leaves all memory as it was. Conditions: bytes; an int; a field that Of has made. -/
namespace Go.Proofs
open Go.RowKit

/-- As Fd, and the table is made. -/
structure FdM (k B T : Nat) (W : World) : Prop where
  fd : Fd k B T W
  made : k = 1 → Made T W
theorem FdM.but {k B T : Nat} {S : Nat → Prop} {W W' : World} (h : FdM k B T W) (hb : But S W W') (hB : ¬ S B) (hT : ¬ S T) : FdM k B T W' := ⟨h.fd.but hb hB hT, fun e => (h.made e).but hb hT⟩
theorem FdM.below {k B T : Nat} {W W' : World} (h : FdM k B T W) (hb : Below W.heap.size W W') : FdM k B T W' := h.but (But.of_below (S := fun _ => False) hb) id id

theorem tready_made (B : Nat) (w : World) (h : Made B w) :
    Calls Tryz.prog 127 #[.pointer (some ⟨B, 0, none⟩)] w fun e w' => e = .returned (.bool true) ∧ w' = w := by
  have hmf : ∀ (fn : Fn) (first cap : Array Value) (w : World), (Instr.makeFunc fn first cap).run Tryz.prog w = .ok (.func fn first cap) w := fun _ _ _ _ => rfl
  have h0 := h.once
  go_enter Tryz.func127, Tryz.ntmps127
  go_wp2_with (go_at_call 130; refine (do_done ⟨B, 0, none⟩ _ _ h0).mono ?_; rintro e w' ⟨rfl, rfl⟩)
  go_ret
  exact ⟨rfl, rfl⟩
theorem below_drewM (n : Nat) (w : World) (m : Nat) : Below n w (w.drewN m) := ⟨rfl, rfl, rfl, Nat.le_refl _, fun _ _ => rfl⟩

set_option maxHeartbeats 1000000 in
theorem tmul_made (B a b r : Nat) (ha : a < 256) (hb : b < 256) (hr : Gf.mul a b = r) (w : World) (h : Made B w) :
    Calls Tryz.prog 124 #[.pointer (some ⟨B, 0, none⟩), .int .u8 a, .int .u8 b] w fun e w' => e = .returned (.int .u8 r) ∧ Below w.heap.size w w' := by
  subst hr
  have hnot : ∀ (x : Bool) (w : World), (Op.unary .not (.bool x)).run Tryz.prog w = .ok (.bool (!x)) w := fun _ _ => rfl
  by_cases h0 : a = 0
  · subst h0
    have e0 := Gf.zero_mul b
    rw [e0]
    go_enter Tryz.func124, Tryz.ntmps124
    go_wp2_with (go_at_call 127; refine (tready_made B _ h).mono ?_; rintro e w1 ⟨rfl, rfl⟩)
    go_ret
    exact ⟨rfl, Below.refl _ _⟩
  have g0 : ((a : Int) == 0) = false := by simp; omega
  by_cases h1 : b = 0
  · subst h1
    have e0 := Gf.mul_zero a
    rw [e0]
    go_enter Tryz.func124, Tryz.ntmps124
    go_wp2_with (go_at_call 127; refine (tready_made B _ h).mono ?_; rintro e w1 ⟨rfl, rfl⟩)
    go_ret
    exact ⟨rfl, Below.refl _ _⟩
  have g1 : ((b : Int) == 0) = false := by simp; omega
  have HLa : Hid (∀ w, Made B w → Calls Tryz.prog 128 #[.pointer (some ⟨B, 0, none⟩), .int .u8 a] w fun e w' => e = .returned (.int .i64 (Gf.lg a : Nat)) ∧ w' = w) := tlog_at B a ha h0
  have HLb : Hid (∀ w, Made B w → Calls Tryz.prog 128 #[.pointer (some ⟨B, 0, none⟩), .int .u8 b] w fun e w' => e = .returned (.int .i64 (Gf.lg b : Nat)) ∧ w' = w) := tlog_at B b hb h1
  have hla := Gf.lg_lt a ha
  have hlb := Gf.lg_lt b hb
  have HE : Hid (Gf.pow 2 (Gf.lg a + Gf.lg b) = Gf.mul a b) := Gf.mul_lg a b ha hb h0 h1
  obtain ⟨x, hx⟩ : ∃ x, Gf.lg a = x := ⟨_, rfl⟩
  obtain ⟨y, hy⟩ : ∃ y, Gf.lg b = y := ⟨_, rfl⟩
  obtain ⟨g, hg⟩ : ∃ g, Gf.mul a b = g := ⟨_, rfl⟩
  rw [hx] at HLa hla HE
  rw [hy] at HLb hlb HE
  rw [hg] at HE ⊢
  clear hx hy hg
  have hc := h.powers (x + y) (by omega)
  rw [HE.out] at hc
  have HM : Hid (Made B w) := h
  have KR := tready_made B w h
  clear h
  go_enter Tryz.func124, Tryz.ntmps124
  go_wp2_with (go_at_call 127; refine KR.mono ?_; rintro e w1 ⟨rfl, rfl⟩)
  go_quiet ((first | (go_at_call 128; with_reducible refine Calls.quiet_of_same (HLa.out _ (HM.out.drewN _))) | (go_at_call 128; with_reducible refine Calls.quiet_of_same (HLb.out _ (HM.out.drewN _)))))
  go_wp2
  go_ret
  exact ⟨rfl, below_drewM _ _ _⟩

set_option maxRecDepth 100000 in
set_option maxHeartbeats 1000000 in
theorem fmul_made (k B T a b r : Nat) (ha : a < 256) (hb : b < 256) (hr : Gf.mul a b = r) (w : World) (h : FdM k B T w) :
    Calls Tryz.prog 84 #[.pointer (some ⟨B, 0, none⟩), .int .u8 a, .int .u8 b] w fun e w' => e = .returned (.int .u8 (r : Nat)) ∧ Below w.heap.size w w' := by
  subst hr
  rcases way_lt h.fd.k1 h.fd.k3 with rfl | rfl | rfl
  · have hw : w.cell? ⟨B, 1, none⟩ = some (.iface 57 (.agg #[.pointer (some ⟨T, 0, none⟩)])) := h.fd.way
    have hm := mmul1 T
    go_enter Tryz.func84, Tryz.ntmps84
    go_wp2_with (go_at_call 124; refine (tmul_made T a b _ ha hb rfl _ (h.made rfl)).mono ?_; rintro e w1 ⟨rfl, hB⟩)
    go_ret
    exact ⟨rfl, hB⟩
  · have hw : w.cell? ⟨B, 1, none⟩ = some (.iface 63 (.agg #[])) := h.fd.way
    have hm := mmul2
    go_enter Tryz.func84, Tryz.ntmps84
    go_wp2_with (go_at_call 164; refine (bsmul_calls a b ha hb _).mono ?_; rintro e w1 ⟨rfl, hB⟩)
    go_ret
    exact ⟨rfl, hB⟩
  · have hw : w.cell? ⟨B, 1, none⟩ = some (.iface 64 (.agg #[])) := h.fd.way
    have hm := mmul3
    go_enter Tryz.func84, Tryz.ntmps84
    go_wp2_with (go_at_call 174; refine (blmul_calls a b ha hb _).mono ?_; rintro e w1 ⟨rfl, hB⟩)
    go_ret
    exact ⟨rfl, hB⟩
set_option maxRecDepth 100000 in
set_option maxHeartbeats 1000000 in
theorem fpow_made (k B T a : Nat) (n : Int) (r : Nat) (ha : a < 256) (h1 : -9223372036854775808 ≤ n) (h2 : n < 9223372036854775808) (hr : Gf.powZ a n = r) (w : World) (h : Fd k B T w) :
    Calls Tryz.prog 85 #[.pointer (some ⟨B, 0, none⟩), .int .u8 a, .int .i64 n] w fun e w' => e = .returned (.int .u8 (r : Nat)) ∧ FdM k B T w' ∧ But (· = T) w w' := by
  subst hr
  rcases way_lt h.k1 h.k3 with rfl | rfl | rfl
  · have hw : w.cell? ⟨B, 1, none⟩ = some (.iface 57 (.agg #[.pointer (some ⟨T, 0, none⟩)])) := h.way
    have hm := mpow1 T
    go_enter Tryz.func85, Tryz.ntmps85
    go_wp2_with (go_at_call 125; refine (tpow_e T a n _ ha rfl _ (h.tab rfl).1).mono ?_; rintro e w1 ⟨rfl, hM, hB⟩)
    go_ret
    exact ⟨rfl, ⟨h.tabled hM hB, fun _ => hM⟩, hB⟩
  · have hw : w.cell? ⟨B, 1, none⟩ = some (.iface 63 (.agg #[])) := h.way
    have hm := mpow2
    go_enter Tryz.func85, Tryz.ntmps85
    go_wp2_with (go_at_call 165; refine (bspow_calls a n ha h1 h2 _).mono ?_; rintro e w1 ⟨rfl, hB⟩)
    go_ret
    exact ⟨rfl, ⟨h.below hB, fun e => absurd e (by decide)⟩, But.of_below hB⟩
  · have hw : w.cell? ⟨B, 1, none⟩ = some (.iface 64 (.agg #[])) := h.way
    have hm := mpow3
    go_enter Tryz.func85, Tryz.ntmps85
    go_wp2_with (go_at_call 175; refine (blpow_calls a n ha _).mono ?_; rintro e w1 ⟨rfl, hB⟩)
    go_ret
    exact ⟨rfl, ⟨h.below hB, fun e => absurd e (by decide)⟩, But.of_below hB⟩
end Go.Proofs
/- A range over a function that never ends by itself, whose body leaves by a break: the iterator is told what the body keeps between two rounds, so that it knows that rounds come to an end. Nothing of the program. -/
namespace Go.Proofs
open Go.RowKit
theorem grown_none_of {W W' : World} (h : Below W.heap.size W W') : W.grownBy W' none := ⟨h.os, h.tape, h.output, h.size, fun k hk _ => h.block k hk⟩
section
variable {α : Type} {F : Fence} {n : Nat} {P : Program}

/-- What such an iterator promises where the rounds keep I: it returns, and some with Sp have come, the last of which the body has left with. -/
def SeqTill (F : Fence) (n : Nat) (P : Program) (g : Nat) (lb : Array Value) (encs : α → Array Value) (I : List α → World → Prop) (Sp : List α → Prop) (w : World) : Prop :=
  ∀ (l : Nat) (J Jx : List α → World → Prop) (W : World), Below w.heap.size w W → AbidesFrom W.heap.size J → AbidesFrom W.heap.size Jx → (∀ pre X, J pre X → I pre X) →
    (∀ pre x X, J pre X → YieldAt F (n - 1) P l (encs x) X fun e Y => (e = .returned (.bool true) ∧ J (pre ++ [x]) Y) ∨ (e = .returned (.bool false) ∧ Jx (pre ++ [x]) Y)) →
    J [] W → CallsIn F n P g (#[.func (.yield l) #[] #[]] ++ lb) W fun e Y => (∃ v, e = .returned v) ∧ ∃ pre, Sp pre ∧ Jx pre Y

/-- How a round is left: it goes on, or by the break b. -/
def tillPost (B : Nat) (b : Nat) (I Ix : List α → World → Prop) (xs : List α) (W : World) : Exit → Act → World → Prop
  | .normal, _, Y => KeepsFrom B W Y ∧ I xs Y
  | .exit c, _, Y => KeepsFrom B W Y ∧ c = b ∧ Ix xs Y
  | _, _, _ => False

/-- The loop's record, in a state. -/
def tillRec (fn : FuncId) (a : Act) (ps : Array Tmp) (assign body : Code) (D : Nat) (s : LoopState) (p : Option Code) : Loop :=
  { state := s, pending := p, fn, tmps := a.tmps, params := ps, assign, body, defers := D }

theorem wpIn_rangeFunc_till {g : Operand} {ps : Array Tmp} {assign body : Code} {Q : Exit → Act → World → Prop} {a : Act} {w : World}
    (hro : F.round = none) (h1 : 1 ≤ n) {gf : Nat} {lb : Array Value} (hg : a.eval g = .func (.func gf) #[] lb) (hFg : F.fn gf) (eg : ∀ args w, (callFunc gf args).run P w = .ok (.enter gf args) w)
    {encs : α → Array Value} (hps : ∀ x, (encs x).size = ps.size) (b : Nat) (I Ix : List α → World → Prop) {Sp : List α → Prop} (hseq : SeqTill F (n - 1) P gf lb encs I Sp w)
    (hI : OwnFrom w.heap.size I) (hIx : OwnFrom w.heap.size Ix) (h0 : I [] w) (a₁ : α → Act)
    (hassign : ∀ (l : Nat) (x : α) (W : World) (K : Act → World → Prop), K (a₁ x) W →
      assign.wpIn (F.inRound l) (n - 1 - 1) P (Exit.then K (fun _ _ _ => False)) { tmps := (ps.zip (encs x)).foldl (fun t (p, v) => t.setIfInBounds p v) a.tmps, defers := [] } W)
    (hbody : ∀ (l : Nat) (pre : List α) (x : α) (W : World), I pre W → body.wpIn (F.inRound l) (n - 1 - 1) P (tillPost w.heap.size b I Ix (pre ++ [x]) W) (a₁ x) W)
    (hstop : ∀ (D : Nat) (pre : List α) (W : World), w.heap.size ≤ D → Sp pre → Ix pre W → W.heap[D]? = some (.deferred (some [])) → (Code.exit b).wpIn F n P Q { a with defers := { target := .collected D, args := #[] } :: a.defers } W) :
    (Code.rangeFunc g ps assign body).wpIn F n P Q a w := by
  refine wpIn_rangeFunc fun fn hfn => ?_
  obtain ⟨D, hD⟩ : ∃ D, w.heap.size = D := ⟨_, rfl⟩
  obtain ⟨L, hL⟩ : ∃ L, D + 1 = L := ⟨_, rfl⟩
  obtain ⟨r, hr⟩ : ∃ r, tillRec fn a ps assign body D = r := ⟨_, rfl⟩
  obtain ⟨X, hX⟩ : ∃ X, (w.alloc (.deferred (some []))).alloc (.loop (r .ready none)) = X := ⟨_, rfl⟩
  have hrs : ∀ s p, (r s p).state = s ∧ (r s p).pending = p ∧ (r s p).params = ps := fun s p => by rw [← hr]; exact ⟨rfl, rfl, rfl⟩
  have hru : ∀ s p s' p', { r s p with state := s', pending := p' } = r s' p' := fun s p s' p' => by rw [← hr]; rfl
  have hrb : ∀ s p s', { r s p with state := s' } = r s' p := fun s p s' => by rw [← hr]; rfl
  have e1 : (w.alloc (.deferred (some []))).heap.size = L := by rw [World.size_alloc, hD, hL]
  have hXL : X.heap[L]? = some (.loop (r .ready none)) := by rw [← hX, ← e1]; exact World.alloc_heap_new _ _
  have hXD : X.heap[D]? = some (.deferred (some [])) := by rw [← hX, ← hD]; exact (Below.heap_alloc _ _ _ (by simp)).trans (World.alloc_heap_new w _)
  have hXs : X.heap.size = L + 1 := by rw [← hX, World.size_alloc, e1]
  have hXb : Below w.heap.size w X := by rw [← hX]; exact ((Below.refl _ w).alloc (Nat.le_refl _) _).alloc (by simp) _
  have hX0 : I [] X := by rw [← hX]; exact hI.alloc _ (hI.alloc _ h0)
  rw [hD] at hI hIx
  have far : ∀ {Y Z : World} {row : Option Nat}, (∀ j, row = some j → X.heap.size ≤ j ∧ ∃ o : Obj, Y.heap[j]? = some o ∧ o.isWalk = true) → ∀ j, row = some j → D ≤ j ∧ ∃ o : Obj, Y.heap[j]? = some o ∧ o.isCells = false :=
    fun h j e => by obtain ⟨hj, o, ho, hw⟩ := h j e; exact ⟨by omega, o, ho, Obj.not_cells_of_walk hw⟩
  have stays : ∀ {Y Z : World} {row : Option Nat} {k : Nat} {o : Obj}, Y.grownBy Z row → (∀ j, row = some j → X.heap.size ≤ j ∧ ∃ o : Obj, Y.heap[j]? = some o ∧ o.isWalk = true) → Y.heap[k]? = some o → o.isWalk = false → Z.heap[k]? = some o :=
    fun hg hrow hk ho => (grownBy_keeps hg (fun j e => (hrow j e).2) hk ho).trans hk
  refine ⟨L, [{ target := .collected D, args := #[] }], X, { target := .fn (.func gf) lb, args := #[.func (.yield L) #[] #[]] }, X, gf, #[.func (.yield L) #[] #[]] ++ lb, X, ?_, ?_, fun f' hf' => ?_, by simp [invoke, go_sem, eg], fun _ => h1, ?_⟩
  · have he := run_enterLoop_outer (P := P) (w := w) fn a.tmps ps assign body
    rw [hro, he, hD, hL, ← hX, ← hr]; rfl
  · simp only [resolve, hg]; simp [go_sem]
  · simp [Target.leads] at hf'; subst hf'; exact hFg
  refine (hseq L (fun pre Y => I pre Y ∧ Y.heap[L]? = some (.loop (r .ready none)) ∧ Y.heap[D]? = some (.deferred (some [])))
    (fun pre Y => Ix pre Y ∧ Y.heap[L]? = some (.loop (r .done (some (.exit b)))) ∧ Y.heap[D]? = some (.deferred (some []))) X hXb
    (fun s Y Z row hs hg' hrow => ⟨hI s Y Z row hs.1 hg' (far (Z := Z) hrow), stays hg' hrow hs.2.1 rfl, stays hg' hrow hs.2.2 rfl⟩)
    (fun s Y Z row hs hg' hrow => ⟨hIx s Y Z row hs.1 hg' (far (Z := Z) hrow), stays hg' hrow hs.2.1 rfl, stays hg' hrow hs.2.2 rfl⟩)
    (fun _ _ h => h.1) ?_ ⟨hX0, hXL, hXD⟩).mono ?_
  · rintro pre x W ⟨hi, hl, hk⟩
    have hlt : L < W.heap.size := (Array.getElem?_eq_some_iff.1 hl).1
    have hy := run_yield (P := P) (args := encs x) hl (by rw [(hrs _ _).2.2]; exact hps x)
    rw [← hr] at hy
    refine ⟨fn, _, assign, body, hy, roundIn_of_wpIn hfn (hassign L x W _ ⟨_, run_beginRound hl (hrs _ _).1, ?_⟩)⟩
    rw [hrb]
    obtain ⟨V, hV⟩ : ∃ V, W.putObj L (.loop (r .busy none)) = V := ⟨_, rfl⟩
    have hVL : V.heap[L]? = some (.loop (r .busy none)) := by rw [← hV]; exact World.putObj_heap_same hlt
    have hVD : V.heap[D]? = some (.deferred (some [])) := by rw [← hV]; exact (World.putObj_heap_other (by omega)).trans hk
    have hVI : I pre V := by rw [← hV]; exact hI.putObj _ hi (by omega) hl rfl
    rw [hV]
    refine wpIn_mono (hbody L pre x V hVI) fun e a3 Y hp => ?_
    have ends : ∀ (jump : Option Code), KeepsFrom w.heap.size V Y → ∃ Z, (Instr.endRound L jump).run P Y = .ok (.bool jump.isNone) Z ∧ Z = Y.putObj L (.loop (r (if jump.isNone then .ready else .done) jump)) ∧ Y.heap[L]? = some (.loop (r .busy none)) ∧ Z.heap[L]? = some (.loop (r (if jump.isNone then .ready else .done) jump)) ∧ Z.heap[D]? = some (.deferred (some [])) := fun jump hk3 => by
      have hl3 := hk3.same _ _ (by omega) hVL rfl
      have he := run_endRound (P := P) jump hl3
      rw [hru] at he
      exact ⟨_, he, rfl, hl3, World.putObj_heap_same (Array.getElem?_eq_some_iff.1 hl3).1, (World.putObj_heap_other (by omega)).trans (hk3.same _ _ (by omega) hVD rfl)⟩
    cases e with
    | normal =>
      obtain ⟨hk3, hi3⟩ := hp
      obtain ⟨Z, hz, rfl, hl3, hl4, hk4⟩ := ends none hk3
      exact ⟨_, _, hz, .inl ⟨rfl, hI.putObj _ hi3 (by omega) hl3 rfl, hl4, hk4⟩⟩
    | exit c =>
      obtain ⟨hk3, rfl, hi3⟩ := hp
      obtain ⟨Z, hz, rfl, hl3, hl4, hk4⟩ := ends (some (.exit c)) hk3
      exact ⟨_, _, hz, .inr ⟨rfl, hIx.putObj _ hi3 (by omega) hl3 rfl, hl4, hk4⟩⟩
    | _ => exact hp.elim
  · rintro e Y ⟨⟨v, rfl⟩, pre, hSp, hi, hl, hk⟩
    have he := run_endLoop (P := P) hl (by rw [(hrs _ _).1]; simp)
    rw [(hrs _ _).2.1] at he
    exact ⟨some (.exit b), _, he, hstop D pre _ (by omega) hSp (hIx.putObj _ hi (by omega) hl rfl) ((World.putObj_heap_other (by omega)).trans hk)⟩
end
end Go.Proofs
