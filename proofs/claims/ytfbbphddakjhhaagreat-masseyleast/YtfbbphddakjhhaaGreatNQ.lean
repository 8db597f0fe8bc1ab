/- Texts laid together: Ref04, RPlus. Each says its own conditions. -/
import Derived.Test.YtfbbphddakjhhaaGreatMG
import Derived.Test.YtfbbphddakjhhaaGreatMC
import Derived.Test.YtfbbphddakjhhaaGreatMS
import Derived.Test.YtfbbphddakjhhaaGreatMO
/- The walks of the document's answers of layer 4 (erratumref04), and of erratumref01.Div. Conditions: bytes; lists of at most a thousand million. -/
namespace Go.Proofs
open Go.RowKit Go.ChangeShapes Go.WideShapes
attribute [local go_sem ↓ high] builtin_ap
attribute [local go_sem] ap_sem

set_option maxRecDepth 100000 in
set_option maxHeartbeats 1000000 in
theorem reach_calls (a n c : Nat) (q : Option Addr) (xs : List Nat) (ha : a < 256) (hn : n ≤ 1000000000) (w : World) (hs : Bs w q n xs) :
    Calls Tryz.prog 49 #[.int .u8 a, .slice q n c] w fun e w' => ∃ v, e = .returned v ∧ Ow w' w.heap.size v (xs.map (Gf.mul a)) ∧ Below w.heap.size w w' := by
  have HS : Hid (Bs w q n xs) := hs
  clear hs
  go_enter Tryz.func49, Tryz.ntmps49
  go_wp2
  go_loopw [5, 6] (fun o i wr => ∃ k : Nat, k ≤ n ∧ i = .int .i64 (k : Int) ∧ Ow wr w.heap.size o ((xs.take k).map (Gf.mul a)) ∧ Below w.heap.size w wr) (fun _ i _ => n - (intOf i).toNat)
  case atStart => exact ⟨0, by omega, rfl, ow_nil _ _, Below.refl _ _⟩
  case round =>
    obtain ⟨k, hk, rfl, hO, hB⟩ := hrel
    by_cases hlt : k < n
    · have hi : (k : Int) < (n : Int) := by omega
      obtain ⟨ad, rfl, la, ca⟩ := HS.out.cell k hlt
      replace ca := (hB.cell (p := ad.add k) (by rw [block_add]; exact la)).trans ca
      have hby := HS.out.byte k
      have HT := take_snoc xs k (by rw [HS.out.len]; exact hlt)
      obtain ⟨x, hx⟩ : ∃ x, xs.getD k 0 = x := ⟨_, rfl⟩
      rw [hx] at ca hby HT
      obtain ⟨us, hus⟩ : ∃ us, (xs.take k).map (Gf.mul a) = us := ⟨_, rfl⟩
      have HU : Hid ((xs.take (k + 1)).map (Gf.mul a) = us ++ [Gf.mul a x]) := by
        show (xs.take (k + 1)).map (Gf.mul a) = _
        rw [HT, List.map_append, hus]; rfl
      rw [hus] at hO
      have hlu : us.length ≤ 1000000000 := by rw [← hus]; simp; omega
      obtain ⟨g, cg, W', hap, hO', hbw⟩ := run_append_one wr w.heap.size _ us (Gf.mul a x) hO hlu hB.size
      obtain ⟨L, hL⟩ : ∃ L, (us ++ [Gf.mul a x]).length = L := ⟨_, rfl⟩
      rw [hL] at hap hO'
      have ha1 := ap_ok hap
      have ha2 := ap_v hap
      have ha3 := ap_w hap
      have HZ : Hid (Ow W' w.heap.size (.slice (some ⟨g, 0, none⟩) L cg) (us ++ [Gf.mul a x]) ∧ Below w.heap.size w W') := ⟨hO', hB.trans (hbw _ (Nat.le_refl _))⟩
      clear hO' hbw hap hL hlu hus HT hx la hO hB
      go_wp2_with fail
      refine (rmul_calls a x ha _).mono ?_
      rintro e w1 ⟨rfl, rfl⟩
      go_wp2
      go_roundw
      case rel =>
        refine ⟨k + 1, by omega, by go_num, ?_, HZ.out.2⟩
        rw [HU.out]; exact HZ.out.1
      case measure => simp [intOf]; omega
    · have e8 : k = n := by omega
      subst e8
      rw [List.take_of_length_le (by rw [HS.out.len]; exact Nat.le_refl _)] at hO
      have HZ : Hid (Ow wr w.heap.size u5 (xs.map (Gf.mul a)) ∧ Below w.heap.size w wr) := ⟨hO, hB⟩
      clear hO hB
      go_wp2
      go_ret
      exact ⟨_, rfl, HZ.out⟩
end Go.Proofs
/- The walk of erratumref09.plus: a row, and so many times another one. Conditions: bytes; two lists of one length. -/
namespace Go.Proofs
open Go.RowKit Go.ChangeShapes Go.WideShapes
attribute [local go_sem ↓ high] builtin_ap
attribute [local go_sem] ap_sem

/-- A list, and a times another one. -/
def plusL (n a : Nat) (xs ys : List Nat) : List Nat := (List.range n).map fun i => xs.getD i 0 ^^^ Gf.mul a (ys.getD i 0)
theorem plusL_length (n a : Nat) (xs ys : List Nat) : (plusL n a xs ys).length = n := by simp [plusL]
theorem plusL_succ (n a : Nat) (xs ys : List Nat) : plusL (n + 1) a xs ys = plusL n a xs ys ++ [xs.getD n 0 ^^^ Gf.mul a (ys.getD n 0)] := by unfold plusL; rw [List.range_succ, List.map_append]; rfl
set_option maxRecDepth 100000 in
set_option maxHeartbeats 1000000 in
theorem rplus_calls (a n c d : Nat) (q p : Option Addr) (xs ys : List Nat) (ha : a < 256) (hn : n ≤ 1000) (w : World) (hs : Bs w q n xs) (hs2 : Bs w p n ys) :
    Calls Tryz.prog 51 #[.slice q n c, .int .u8 a, .slice p n d] w fun e w' => ∃ v, e = .returned v ∧ Ow w' w.heap.size v (plusL n a xs ys) ∧ Below w.heap.size w w' := by
  have HS : Hid (Bs w q n xs) := hs
  have HS2 : Hid (Bs w p n ys) := hs2
  clear hs hs2
  go_enter Tryz.func51, Tryz.ntmps51
  go_wp2
  go_loopw [7, 8] (fun o i wr => ∃ k : Nat, k ≤ n ∧ i = .int .i64 (k : Int) ∧ Ow wr w.heap.size o (plusL k a xs ys) ∧ Below w.heap.size w wr) (fun _ i _ => n - (intOf i).toNat)
  case atStart => exact ⟨0, by omega, rfl, ow_nil _ _, Below.refl _ _⟩
  case round =>
    obtain ⟨k, hk, rfl, hO, hB⟩ := hrel
    by_cases hkn : k < n
    · have hi : (k : Int) < (n : Int) := by omega
      obtain ⟨ad, rfl, la, ca⟩ := HS.out.cell k hkn
      obtain ⟨bd, rfl, lb, cb⟩ := HS2.out.cell k hkn
      have HA1 := ca
      have HA2 := cb
      replace ca := (hB.cell (p := ad.add k) (by rw [block_add]; exact la)).trans ca
      replace cb := (hB.cell (p := bd.add k) (by rw [block_add]; exact lb)).trans cb
      have hbx := HS.out.byte k
      have hby := HS2.out.byte k
      have HT := plusL_succ k a xs ys
      obtain ⟨x, hx⟩ : ∃ x, xs.getD k 0 = x := ⟨_, rfl⟩
      obtain ⟨y, hy⟩ : ∃ y, ys.getD k 0 = y := ⟨_, rfl⟩
      rw [hx] at ca hbx HT HA1
      rw [hy] at cb hby HT HA2
      obtain ⟨us, hus⟩ : ∃ us, plusL k a xs ys = us := ⟨_, rfl⟩
      rw [hus] at hO HT
      have hm8 := Gf.mul_lt a y ha
      have hxor := u8_xor_nat x (Gf.mul a y) hbx hm8
      obtain ⟨z, hz⟩ : ∃ z, x ^^^ Gf.mul a y = z := ⟨_, rfl⟩
      rw [hz] at HT hxor
      have HU : Hid (plusL (k + 1) a xs ys = us ++ [z]) := HT
      have hlu : us.length ≤ 1000000000 := by rw [← hus, plusL_length]; omega
      obtain ⟨g, cg, W', hap, hO', hbw⟩ := run_append_one wr.drew w.heap.size _ us z hO.drew hlu hB.size
      obtain ⟨L, hL⟩ : ∃ L, (us ++ [z]).length = L := ⟨_, rfl⟩
      rw [hL] at hap hO'
      rw [show wr.drew.heap.size = wr.heap.size from rfl, show wr.drew.alloc (.cells #[.int .u8 (z : Nat)] 5) = (wr.alloc (.cells #[.int .u8 (z : Nat)] 5)).drew from rfl] at hap
      have ha1 := ap_ok hap
      have ha2 := ap_v hap
      have ha3 := ap_w hap
      have HZ : Hid (Ow W' w.heap.size (.slice (some ⟨g, 0, none⟩) L cg) (us ++ [z]) ∧ Below w.heap.size w W') := ⟨hO', hB.drew.trans (hbw _ (Nat.le_refl _))⟩
      have KM : Hid (∀ w, Calls Tryz.prog 15 #[.int .u8 a, .int .u8 y] w fun e w' => e = .returned (.int .u8 (Gf.mul a y : Nat)) ∧ w' = w) := fun w => rmul_calls a y ha w
      have cW1 : W'.cell? (ad.add k) = some (.int .u8 (x : Nat)) := ((hB.drew.trans (hbw _ (Nat.le_refl _))).cell (p := ad.add k) (by rw [block_add]; exact la)).trans HA1
      have cW2 : W'.cell? (bd.add k) = some (.int .u8 (y : Nat)) := ((hB.drew.trans (hbw _ (Nat.le_refl _))).cell (p := bd.add k) (by rw [block_add]; exact lb)).trans HA2
      have hw1 := World.new_ne wr (ad.add k) ca
      have hw2 := World.new_ne wr (bd.add k) cb
      clear hO' hbw hap hL hlu hus HT hx hy la lb hO hB HA1 HA2 hz
      go_wp2
      go_region_held3 (fun w' => w'.cell? (ad.add k) = some (.int .u8 (x : Nat)) ∧ w'.cell? (bd.add k) = some (.int .u8 (y : Nat)))
        (first | exact ⟨cW1, cW2⟩ | (go_keep; done))
        (first | (go_at_call 15; refine (KM.out _).mono ?_; rintro e w1 ⟨rfl, hw⟩; subst hw))
      all_goals
        go_wp2
        go_roundw
        case rel =>
          refine ⟨k + 1, by omega, by go_num, ?_, HZ.out.2⟩
          rw [HU.out]; exact HZ.out.1
        case measure => simp [intOf]; omega
    · obtain rfl : k = n := by omega
      have HZ : Hid (Ow wr w.heap.size u7 (plusL k a xs ys) ∧ Below w.heap.size w wr) := ⟨hO, hB⟩
      clear hO hB
      go_wp2
      go_ret
      exact ⟨_, rfl, HZ.out⟩
end Go.Proofs
