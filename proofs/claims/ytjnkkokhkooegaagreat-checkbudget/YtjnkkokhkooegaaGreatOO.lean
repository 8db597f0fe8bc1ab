/- Texts laid together: Ref12, Ref12b, Ref12s. Each says its own conditions. -/
import Derived.BigQuiet
import Derived.Test.YtjnkkokhkooegaaGreatOJ
import Derived.Test.YtjnkkokhkooegaaGreatOM
import Derived.Test.YtjnkkokhkooegaaGreatNY
import Derived.Test.YtjnkkokhkooegaaGreatMW
import Derived.Test.YtjnkkokhkooegaaGreatMS
import Derived.Test.YtjnkkokhkooegaaGreatOG
import Derived.Test.YtjnkkokhkooegaaGreatOK
/- The walks of erratumref12: Place, Erasures, Sorted. Conditions: lists that are no great ones. -/
namespace Go.Proofs
open Go.RowKit Go.ChangeShapes Go.WideShapes
attribute [local go_sem ↓ high] builtin_ap
attribute [local go_sem] ap_sem

set_option maxRecDepth 100000 in
set_option maxHeartbeats 1000000 in
theorem place_calls (q : Option Addr) (n c : Nat) (zs : List Int) (z : Int) (hn : n ≤ 1000000) (w : World) (hs : Ns .i64 w q n zs) :
    Calls Tryz.prog 19 #[.slice q n c, .int .i64 z] w fun e w' => e = .returned (.int .i64 (plZ zs z)) ∧ w' = w := by
  obtain ⟨r, hr⟩ : ∃ r, plZ zs z = r := ⟨_, rfl⟩
  have HS : Hid (Ns .i64 w q n zs ∧ plZ zs z = r) := ⟨hs, hr⟩
  rw [hr]
  clear hs hr
  go_enter Tryz.func19, Tryz.ntmps19
  go_wp2
  go_loopw [5] (fun i wr => ∃ t : Nat, t ≤ n ∧ i = .int .i64 (t : Int) ∧ Hid (z ∉ zs.take t) ∧ wr = w) (fun i _ => n - (intOf i).toNat)
  case atStart => exact ⟨0, by omega, rfl, (show z ∉ zs.take 0 by simp), rfl⟩
  case round =>
    obtain ⟨t, ht, rfl, hz, rfl⟩ := hrel
    by_cases hlt : t < n
    · have hi : (t : Int) < (n : Int) := by omega
      have hi0 : (0 : Int) ≤ (t : Int) := by omega
      have ht6 : (t : Int) ≤ 1000000 := by omega
      obtain ⟨a, rfl, la, ca⟩ := HS.out.1.cell t hlt
      have HN : Hid (∀ y, zs.getD t 0 = y → (y = z → r = (t : Int)) ∧ (¬ y = z → z ∉ zs.take (t + 1))) := fun y hy => ⟨fun e => by rw [← HS.out.2]; exact plZ_at (by rw [HS.out.1.len]; exact hlt) hz.out (hy.trans e), fun e => by
        rw [take_snoc_z zs t (by rw [HS.out.1.len]; exact hlt), List.mem_append, List.mem_singleton]
        rintro (h | h)
        · exact hz.out h
        · exact e (hy.symm.trans h.symm)⟩
      obtain ⟨y, hy⟩ : ∃ y, zs.getD t 0 = y := ⟨_, rfl⟩
      have HY : Hid (zs.getD t 0 = y) := hy
      rw [hy] at ca
      clear hy la
      by_cases hyz : y = z
      · have hyz' : (y == z) = true := by simpa using hyz
        obtain rfl : (t : Int) = r := ((HN.out y HY.out).1 hyz).symm
        clear hyz
        go_wp2
        go_ret
        exact ⟨rfl, rfl⟩
      · have hyz' : (y == z) = false := by simpa using hyz
        have HZ : Hid (z ∉ zs.take (t + 1)) := (HN.out y HY.out).2 hyz
        clear hyz
        go_wp2
        go_roundw
        case rel => exact ⟨t + 1, by omega, by go_num, HZ, trivial⟩
        case measure => simp [intOf]; omega
    · obtain rfl : t = n := by omega
      have e0 : -1 = r := by
        rw [← HS.out.2]
        have h1 := hz.out
        rw [List.take_of_length_le (by have := HS.out.1.len; omega)] at h1
        exact (plZ_none h1).symm
      subst e0
      go_wp2
      go_ret
      exact ⟨rfl, rfl⟩

theorem Ns.drewN {k : IntKind} {W : World} {q : Option Addr} {n : Nat} {zs : List Int} (h : Ns k W q n zs) (m : Nat) : Ns k (W.drewN m) q n zs := ⟨h.len, h.max, fun i hi => by obtain ⟨a, e, hl, hc⟩ := h.cell i hi; exact ⟨a, e, hl, hc⟩, h.wf⟩
end Go.Proofs
/- The walks of erratumref12: Locator, Modified, Syndromes. Conditions: lists that are no great ones. -/
namespace Go.Proofs
open Go.RowKit Go.ChangeShapes Go.WideShapes
open Pol (IsN Dg ofL Byt vl)
attribute [local go_sem ↓ high] builtin_ap
attribute [local go_sem] ap_sem

end Go.Proofs
/- The walk of erratumref12.Sorted. Conditions: a list that is no great one. -/
namespace Go.Proofs
open Go.RowKit Go.ChangeShapes Go.WideShapes
attribute [local go_sem ↓ high] builtin_ap
attribute [local go_sem] ap_sem

def lenOf : Value → Nat
  | .slice _ n _ => n
  | _ => 0
end Go.Proofs
