/- What the laws of syndromes ask, each call a step from world to world. Conditions: a field that Of has made; lists apart from its table. -/
import Derived.Test.YtjnkkokhkooegaaGreatOA
import Derived.Test.YtjnkkokhkooegaaGreatOL
import Derived.Test.YtjnkkokhkooegaaGreatOM
import Derived.Test.YtjnkkokhkooegaaGreatOO
namespace Go.Proofs
open Go.RowKit Go.ChangeShapes Go.WideShapes
open Pol (IsN Dg ofL Byt vl)

set_option maxRecDepth 100000 in
set_option maxHeartbeats 1000000 in
theorem zints_calls (q p : Option Addr) (n c d : Nat) (L : List Int) (hn : n ≤ 1000000) (w : World) (h1 : Ns .i64 w q n L) (h2 : Ns .i64 w p n L) :
    Calls Tryz.prog 21 #[.slice q n c, .slice p n d] w fun e w' => e = .returned (.bool true) ∧ Below w.heap.size w w' := by
  have HS : Hid (Ns .i64 w q n L ∧ Ns .i64 w p n L) := ⟨h1, h2⟩
  clear h1 h2
  go_enter Tryz.func21, Tryz.ntmps21
  go_wp2
  go_loopw [5] (fun i wr => ∃ k : Nat, k ≤ n ∧ i = .int .i64 (k : Int) ∧ Below w.heap.size w wr) (fun i _ => n - (intOf i).toNat)
  case atStart => exact ⟨0, by omega, rfl, Below.refl _ _⟩
  case round =>
    obtain ⟨k, hk, rfl, hB⟩ := hrel
    by_cases hlt : k < n
    · have hi : (k : Int) < (n : Int) := by omega
      obtain ⟨a, rfl, _, ca⟩ := (HS.out.1.below hB).cell k hlt
      obtain ⟨b', rfl, _, cb⟩ := (HS.out.2.below hB).cell k hlt
      obtain ⟨x, hx⟩ : ∃ x, L.getD k 0 = x := ⟨_, rfl⟩
      rw [hx] at ca cb
      have HB : Hid (Below w.heap.size w wr) := hB
      clear hB hx
      go_wp2
      go_quiet (fail)
      go_wp2
      go_roundw
      case rel => exact ⟨k + 1, by omega, by go_num, ⟨HB.out.os, HB.out.tape, HB.out.output, HB.out.size, HB.out.block⟩⟩
      case measure => simp [intOf]; omega
    · obtain rfl : n = k := by omega
      have HB : Hid (Below w.heap.size w wr) := hB
      clear hB
      go_wp2
      go_ret
      exact ⟨rfl, HB.out⟩
theorem IsSor.wf {w : World} {q : Option Addr} {n : Nat} {zs L : List Int} (h : IsSor zs L) (hs : Ns .i64 w q n zs) : ∀ z ∈ L, (Lit.int .i64 z).wf = true := fun z hz => hs.wf z ((h.mem z).1 hz)

section
variable (k Bf T P : Nat) (N K B X Y Z : Int) (w0 : World)
theorem kints (q p : Option Addr) (n c d : Nat) (L : List Int) (hn : n ≤ 1000000) (W : World) (hW : Tc k Bf T P N K B w0 W) (h1 : Tz W T q n c L) (h2 : Tz W T p n d L) :
    Calls Tryz.prog 21 #[.slice q n c, .slice p n d] W fun e w' => e = .returned (.bool true) ∧ Tc k Bf T P N K B w0 w' ∧ But (· = T) W w' :=
  (zints_calls q p n c d L hn W h1.ns h2.ns).mono fun _ _ ⟨e, hb⟩ => ⟨e, hW.below hb, But.of_below hb⟩
end
theorem Ns.off {k : IntKind} {W : World} {q : Option Addr} {n T : Nat} {zs : List Int} (h : Ns k W q n zs) (hT : W.heap.size ≤ T) : Off T n q := fun hn a e => by
  obtain ⟨a', e', hl, _⟩ := h.cell 0 hn
  rw [e] at e'; cases e'; omega
/-- Integers written out. -/
theorem ns_lit (W : World) (L : List Int) (A : Array Value) (h n : Nat) (hA : A = ⟨oz L⟩) (hh : h = W.heap.size) (hn : n = L.length) (hw : L.all (fun z => (Lit.int .i64 z).wf) = true) (hl : L.length ≤ 1000) : Ns .i64 (W.alloc (.cells A 3)) (some ⟨h, 0, none⟩) n L := by
  subst hA hh hn
  refine ⟨rfl, by omega, fun i hi => ⟨_, rfl, by simp, ?_⟩, fun z hz => by simpa using List.all_eq_true.1 hw z hz⟩
  have e1 : (⟨W.heap.size, 0, none⟩ : Addr).add i = ⟨W.heap.size, i, none⟩ := by unfold Addr.add; split <;> simp_all
  rw [e1, World.cell?_alloc_at _ _ _ _ rfl]
  show (⟨oz L⟩ : Array Value)[i]? = _
  rw [← Array.getElem?_toList]
  exact oz_at L i hi
theorem tz_lit (W : World) (T : Nat) (L : List Int) (A : Array Value) (h n : Nat) (hT : T < W.heap.size) (hA : A = ⟨oz L⟩) (hh : h = W.heap.size) (hn : n = L.length) (hw : L.all (fun z => (Lit.int .i64 z).wf) = true) (hl : L.length ≤ 1000) : Tz (W.alloc (.cells A 3)) T (some ⟨h, 0, none⟩) n n L :=
  ⟨ns_lit W L A h n hA hh hn hw hl, Nat.le_refl _, by rw [hh]; exact off_new hT⟩
theorem tl_lit (W : World) (T : Nat) (L : List Nat) (A : Array Value) (h n : Nat) (hT : T < W.heap.size) (hA : A = ⟨ob L⟩) (hh : h = W.heap.size) (hn : n = L.length) (hx : L.all (· < 256) = true) (hl : L.length ≤ 1000) : Tl (W.alloc (.cells A 5)) T (some ⟨h, 0, none⟩) n n L :=
  ⟨bs_lits W A L h n hA hh hn hx hl, Nat.le_refl _, by rw [hh]; exact off_new hT⟩
end Go.Proofs
