/- The walk of code.Parity. Conditions: any code; a field that Of has made. -/
import Derived.Deep.RegionLaw
import Derived.Deep.DeepAppendRoom
import Derived.Test.YtagkpjbadmodbaaGreatNW
import Derived.Test.YtagkpjbadmodbaaGreatNC
import Derived.Test.YtagkpjbadmodbaaGreatMG
import Derived.Test.YtagkpjbadmodbaaGreatNR
namespace Go.Proofs
open Go.RowKit Go.ChangeShapes Go.WideShapes
open Pol (Byt)
attribute [local go_sem ↓ high] builtin_ap
attribute [local go_sem] ap_sem

/-- 'append(xs, ys...)' where there is room: in its place. -/
theorem run_append_room (W : World) (base g n cap : Nat) (xs : List Nat) (ad : Addr) (m c : Nat) (ys : List Nat) (hown : Ow W base (.slice (some ⟨g, 0, none⟩) n cap) xs) (hn : xs.length = n) (hs : Bs W (some ad) m ys) (hroom : n + m ≤ cap) :
    ∃ W', (Builtin.append_ #[24, 24] 24 #[.slice (some ⟨g, 0, none⟩) n cap, .slice (some ad) m c]).run Tryz.prog W = .ok (.slice (some ⟨g, 0, none⟩) (n + m) cap) W' ∧ Ow W' base (.slice (some ⟨g, 0, none⟩) (n + m) cap) (xs ++ ys) ∧ But (· = g) W W' := by
  subst hn
  obtain ⟨i, hi, hz, hsz, hby⟩ := info_parts info_u8
  have hl := hs.len
  subst hl
  obtain ⟨W', h1, h2, h3⟩ := run_append_own_spare (P := Tryz.prog) W base 24 24 5 i 1 Tryz.underlying24 hi hsz g xs.length cap (ob xs) hown ad ys.length c (ob ys) (by rw [ob_length, Nat.mul_one]) (fun j u hj => by
    have hlj : j < ys.length := by rw [← ob_length ys]; exact (List.getElem?_eq_some_iff.1 hj).1
    rw [ob_at ys j hlj] at hj
    cases hj
    obtain ⟨a, e, _, hc⟩ := hs.cell j hlj
    cases e
    exact hc) (fun u hu => by
      unfold ob at hu
      obtain ⟨x, _, rfl⟩ := List.mem_map.1 hu
      rfl) hroom
  refine ⟨W', h1, ?_, ⟨h3.os, h3.tape, h3.output, h3.size, fun k hk hs => h3.block k hk (fun e => by cases e; exact hs rfl)⟩⟩
  unfold Ow
  rw [List.length_append, show ob (xs ++ ys) = ob xs ++ ob ys by simp [ob]]
  exact h2
theorem FdM.past {k B T : Nat} {S : Nat → Prop} {W W' : World} (h : FdM k B T W) (hb : But S W W') (hB : ¬ S B) (hT : ¬ S T) : FdM k B T W' := h.but hb hB hT
theorem Tc.past {k Bf T R G : Nat} {N K B : Int} {w W W' : World} (h : Tc k Bf T R N K B w W) (hb : But (· = G) W W') (hG : w.heap.size ≤ G) (hB : ¬ Bf = G) (hT : ¬ T = G) (hR : ¬ R = G) : Tc k Bf T R N K B w W' :=
  ⟨⟨h.tw.fd.but hb hB hT, h.tw.but.past hb (fun i e => by omega)⟩, h.cb.but hb hR, h.nT⟩

end Go.Proofs
