/- The contracts of layer 3 by equation, and its example (erratumlaw03.known). No conditions but that lanes are bytes. -/
import Derived.Test.YtpldddapokdakaaLnPack
import Derived.Test.YtpldddapokdakaaLnProd
namespace Go.Proofs
open Go.RowKit Go.ChangeShapes Go.WideShapes

theorem llane_e (l : Nat → Nat) (n x : Nat) (hn : n < 64) (hx : x < 256) (h : l n = x) (w : World) :
    Calls Try.prog 15 #[V8 l, .int .i64 (n : Int)] w fun e w' => e = .returned (.int .u8 (x : Nat)) ∧ Below w.heap.size w w' := by
  subst h
  exact llane_in l n hn hx w
/-- Two bytes that were laid into a block of their own. -/
theorem bs_two (W : World) (x y : Nat) (hx : x < 256) (hy : y < 256) (t : TypeId) : Bs (W.alloc (.cells #[.int .u8 (x : Nat), .int .u8 (y : Nat)] t)) (some ⟨W.heap.size, 0, none⟩) 2 [x, y] := by
  refine ⟨rfl, by decide, fun i hi => ⟨_, rfl, by simp, ?_⟩, fun i => ?_⟩
  · have hadd : (⟨W.heap.size, 0, none⟩ : Addr).add i = ⟨W.heap.size, i, none⟩ := by unfold Addr.add; split <;> simp_all
    rw [hadd, World.cell?_alloc_at _ _ _ _ rfl]
    match i, hi with
    | 0, _ => rfl
    | 1, _ => rfl
  · match i with
    | 0 => exact hx
    | 1 => exact hy
    | _ + 2 => simp [List.getD]
theorem two_byte (x y : Nat) (hx : x < 256) (hy : y < 256) (i : Nat) : [x, y].getD i 0 < 256 := by
  match i with
  | 0 => exact hx
  | 1 => exact hy
  | _ + 2 => simp [List.getD]

set_option maxRecDepth 100000 in
set_option maxHeartbeats 4000000 in
theorem known03_calls (w : World) : Calls Try.prog 9 #[] w fun e w' => e = .returned (.bool true) ∧ Below w.heap.size w w' := by
  obtain ⟨la, hla⟩ : ∃ la : Nat → Nat, ∀ k, [2, 128].getD k 0 = la k := ⟨_, fun _ => rfl⟩
  obtain ⟨lb, hlb⟩ : ∃ lb : Nat → Nat, ∀ k, [3, 2].getD k 0 = lb k := ⟨_, fun _ => rfl⟩
  obtain ⟨r, hr⟩ : ∃ r : Nat → Nat, ∀ k, Gf.mul (la k) (lb k) = r k := ⟨_, fun _ => rfl⟩
  have HA : Hid (∀ n, n < 64 → la n < 256) := fun n _ => by rw [← hla]; exact two_byte 2 128 (by decide) (by decide) n
  have HBb : Hid (∀ n, n < 64 → lb n < 256) := fun n _ => by rw [← hlb]; exact two_byte 3 2 (by decide) (by decide) n
  have HR : Hid (∀ n, n < 64 → r n < 256) := fun n hn => by rw [← hr]; exact Gf.mul_lt _ _ (HA.out n hn)
  have HR0 : Hid (r 0 = 6) := by show r 0 = 6; rw [← hr, ← hla, ← hlb]; decide +kernel
  have HR1 : Hid (r 1 = 29) := by show r 1 = 29; rw [← hr, ← hla, ← hlb]; decide +kernel
  have HLA : Hid (∀ k, k < 64 → [2, 128].getD k 0 = la k) := fun k _ => hla k
  have HLB : Hid (∀ k, k < 64 → [3, 2].getD k 0 = lb k) := fun k _ => hlb k
  have HRR : Hid (∀ k, k < 64 → Gf.mul (la k) (lb k) = r k) := fun k _ => hr k
  clear hla hlb hr
  go_enter Try.func9, Try.ntmps9
  go_wp2_with fail
  refine (lpack_calls _ _ _ [2, 128] la HLA.out _ (bs_two w 2 128 (by decide) (by decide) _)).mono ?_
  rintro e w1 ⟨rfl, hb⟩
  have HB1 : Hid (Below w.heap.size w w1) := ((Below.refl _ _).alloc (Nat.le_refl _) _).trans (hb.mono (by simp))
  clear hb
  go_wp2_with fail
  refine (lpack_calls _ _ _ [3, 2] lb HLB.out _ (bs_two w1 3 2 (by decide) (by decide) _)).mono ?_
  rintro e w2 ⟨rfl, hb⟩
  have HB2 : Hid (Below w.heap.size w w2) := (HB1.out.alloc HB1.out.size _).trans (hb.mono (by have := HB1.out.size; simp; omega))
  clear hb HB1
  go_wp2_with fail
  refine (lmul_calls la lb r HA.out HBb.out HRR.out _).mono ?_
  rintro e w3 ⟨rfl, hb⟩
  have HB3 : Hid (Below w.heap.size w w3) := HB2.out.trans (hb.mono HB2.out.size)
  clear hb HB2
  go_wp2_with fail
  obtain ⟨W, hW⟩ : ∃ W, w3.alloc (.cells #[.int .u64 (Ln.pk r 0 : Nat), .int .u64 (Ln.pk r 1 : Nat), .int .u64 (Ln.pk r 2 : Nat), .int .u64 (Ln.pk r 3 : Nat), .int .u64 (Ln.pk r 4 : Nat), .int .u64 (Ln.pk r 5 : Nat), .int .u64 (Ln.pk r 6 : Nat), .int .u64 (Ln.pk r 7 : Nat)] 24) = W := ⟨_, rfl⟩
  have HB : Below w.heap.size w W := by rw [← hW]; exact HB3.out.alloc HB3.out.size _
  have P : Pl W w3.heap.size 8 r := by rw [← hW]; exact pl_box _ rfl r _
  rw [hW]
  clear hW HB3
  refine (llane_e r 1 29 (by decide) (by decide) HR1.out _).mono ?_
  rintro e w4 ⟨rfl, hb⟩
  replace HB := HB.trans (hb.mono HB.size)
  replace P := P.below hb
  clear hb
  have c0 := P.cell 0 (by decide)
  have c1 := P.cell 1 (by decide)
  have c2 := P.cell 2 (by decide)
  have c3 := P.cell 3 (by decide)
  have c4 := P.cell 4 (by decide)
  have c5 := P.cell 5 (by decide)
  have c6 := P.cell 6 (by decide)
  have c7 := P.cell 7 (by decide)
  go_wp2_with fail
  refine (llane_e r 0 6 (by decide) (by decide) HR0.out _).mono ?_
  rintro e w1 ⟨rfl, hb⟩
  replace HB := HB.trans (hb.mono HB.size)
  clear c0 c1 c2 c3 c4 c5 c6 c7
  replace P := P.below hb
  have c0 := P.cell 0 (by decide)
  have c1 := P.cell 1 (by decide)
  have c2 := P.cell 2 (by decide)
  have c3 := P.cell 3 (by decide)
  have c4 := P.cell 4 (by decide)
  have c5 := P.cell 5 (by decide)
  have c6 := P.cell 6 (by decide)
  have c7 := P.cell 7 (by decide)
  clear hb
  go_wp2_with fail
  refine (llane_out r 64 (.inr (by decide)) _).mono ?_
  rintro e w2 ⟨rfl, hb⟩
  replace HB := HB.trans (hb.mono HB.size)
  clear c0 c1 c2 c3 c4 c5 c6 c7
  replace P := P.below hb
  have c0 := P.cell 0 (by decide)
  have c1 := P.cell 1 (by decide)
  have c2 := P.cell 2 (by decide)
  have c3 := P.cell 3 (by decide)
  have c4 := P.cell 4 (by decide)
  have c5 := P.cell 5 (by decide)
  have c6 := P.cell 6 (by decide)
  have c7 := P.cell 7 (by decide)
  clear hb
  go_wp2_with fail
  refine (lunpack_calls r HR.out _).mono ?_
  rintro e w5 ⟨v, rfl, hO, hb⟩
  replace HB := HB.trans (hb.mono HB.size)
  obtain ⟨q, c, rfl, _⟩ := hO.bs (ll_byte r HR.out)
  clear c0 c1 c2 c3 c4 c5 c6 c7
  have hl := ll_length r
  rw [hl]
  clear hb hO P hl
  go_wp2
  go_ret
  exact ⟨rfl, HB⟩
end Go.Proofs
