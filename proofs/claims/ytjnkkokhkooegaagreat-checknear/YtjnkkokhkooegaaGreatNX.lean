/- The walk of code.Parity. Conditions: any code; a field that Of has made. -/
import Derived.Deep.RegionLaw
import Derived.Deep.DeepAppendRoom
import Derived.Test.YtjnkkokhkooegaaGreatNW
import Derived.Test.YtjnkkokhkooegaaGreatNA
import Derived.Test.YtjnkkokhkooegaaGreatMG
import Derived.Test.YtjnkkokhkooegaaGreatNR
namespace Go.Proofs
open Go.RowKit Go.ChangeShapes Go.WideShapes
open Pol (Byt)
attribute [local go_sem ↓ high] builtin_ap
attribute [local go_sem] ap_sem

theorem FdM.past {k B T : Nat} {S : Nat → Prop} {W W' : World} (h : FdM k B T W) (hb : But S W W') (hB : ¬ S B) (hT : ¬ S T) : FdM k B T W' := h.but hb hB hT
theorem Tc.past {k Bf T R G : Nat} {N K B : Int} {w W W' : World} (h : Tc k Bf T R N K B w W) (hb : But (· = G) W W') (hG : w.heap.size ≤ G) (hB : ¬ Bf = G) (hT : ¬ T = G) (hR : ¬ R = G) : Tc k Bf T R N K B w W' :=
  ⟨⟨h.tw.fd.but hb hB hT, h.tw.but.past hb (fun i e => by omega)⟩, h.cb.but hb hR, h.nT⟩

end Go.Proofs
