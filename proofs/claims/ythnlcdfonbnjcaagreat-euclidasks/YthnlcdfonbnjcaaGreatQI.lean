/- What the laws of registers ask, each call a step from world to world. Conditions: a field that Of has made; lists apart from its table. -/
import Derived.Test.YthnlcdfonbnjcaaGreatQD
import Derived.Test.YthnlcdfonbnjcaaGreatQE
import Derived.Test.YthnlcdfonbnjcaaGreatQH
import Derived.Test.YthnlcdfonbnjcaaGreatNU
import Derived.Test.YthnlcdfonbnjcaaGreatMO
namespace Go.Proofs
open Go.RowKit Go.ChangeShapes Go.WideShapes
open Pol (IsN Dg ofL Byt)

theorem tl_lt (W : World) (T : Nat) (L : List Nat) (A : Array Value) (h n : Nat) (hT : T < W.heap.size) (hA : A = ⟨ob L⟩) (hh : h = W.heap.size) (hn : n = L.length) (hx : L.all (· < 256) = true) (hl : L.length ≤ 1000) : Tl (W.alloc (.cells A 5)) T (some ⟨h, 0, none⟩) n n L :=
  ⟨bs_lits W A L h n hA hh hn hx hl, Nat.le_refl _, by rw [hh]; exact off_new hT⟩
theorem Tw.size {k B T : Nat} {w W : World} (h : Tw k B T w W) : w.heap.size ≤ W.heap.size := h.but.size
theorem Tw.lt {k B T : Nat} {w W : World} (h : Tw k B T w W) : T < W.heap.size := h.fd.lt
theorem Tw.alloc {k B T : Nat} {w W : World} (h : Tw k B T w W) (o : Obj) : Tw k B T w (W.alloc o) := h.below ((Below.refl _ W).alloc (Nat.le_refl _) o)
theorem Tl.alloc {W : World} {T n c : Nat} {q : Option Addr} {xs : List Nat} (h : Tl W T q n c xs) (o : Obj) : Tl (W.alloc o) T q n c xs := h.below ((Below.refl _ W).alloc (Nat.le_refl _) o)
section
variable (k B T : Nat) (w0 : World)
theorem ksame14 (q p : Option Addr) (n m c d : Nat) (xs ys : List Nat) (b : Bool) (hb : b = true ↔ xs = ys) (W : World) (hW : Tw k B T w0 W) (h1 : Tl W T q n c xs) (h2 : Tl W T p m d ys) :
    Calls Tryz.prog 23 #[.slice q n c, .slice p m d] W fun e w' => e = .returned (.bool b) ∧ Tw k B T w0 w' ∧ But (· = T) W w' :=
  (same_any q p n m c d xs ys b hb W h1.bs h2.bs).mono fun _ _ ⟨e, hb⟩ => ⟨e, hW.below hb, But.of_below hb⟩
end

end Go.Proofs
