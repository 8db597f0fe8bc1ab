/- Texts laid together: Ref04, RPlus. Each says its own conditions. -/
import Derived.Test.YtnphdldcfdpflaaGreatMG
import Derived.Test.YtnphdldcfdpflaaGreatMC
import Derived.Test.YtnphdldcfdpflaaGreatMS
import Derived.Test.YtnphdldcfdpflaaGreatMO
/- The walks of the document's answers of layer 4 (erratumref04), and of erratumref01.Div. Conditions: bytes; lists of at most a thousand million. -/
namespace Go.Proofs
open Go.RowKit Go.ChangeShapes Go.WideShapes
attribute [local go_sem ↓ high] builtin_ap
attribute [local go_sem] ap_sem

set_option maxRecDepth 100000 in
set_option maxHeartbeats 1000000 in
theorem reach_calls (a n c : Nat) (q : Option Addr) (xs : List Nat) (ha : a < 256) (hn : n ≤ 1000000000) (w : World) (hs : Bs w q n xs) :
    Calls Tryz.prog 65 #[.int .u8 a, .slice q n c] w fun e w' => ∃ v, e = .returned v ∧ Ow w' w.heap.size v (xs.map (Gf.mul a)) ∧ Below w.heap.size w w' := by
  have HS : Hid (Bs w q n xs) := hs
  clear hs
  go_enter Tryz.func65, Tryz.ntmps65
  go_wp2
  go_loopw [5, 6] (fun o i wr => ∃ k : Nat, k ≤ n ∧ i = .int .i64 (k : Int) ∧ Ow wr w.heap.size o ((xs.take k).map (Gf.mul a)) ∧ Below w.heap.size w wr) (fun _ i _ => n - (intOf i).toNat)
  case atStart => exact ⟨0, by omega, rfl, ow_nil _ _, Below.refl _ _⟩
  case round =>
    obtain ⟨k, hk, rfl, hO, hB⟩ := hrel
    by_cases hlt : k < n
    · have hi : (k : Int) < (n : Int) := by omega
      obtain ⟨ad, rfl, la, ca⟩ := HS.out.cell k hlt
      replace ca := (hB.cell (p := ad.add k) (by rw [block_add]; exact la)).trans ca
      have hby := HS.out.byte k
      have HT := take_snoc xs k (by rw [HS.out.len]; exact hlt)
      obtain ⟨x, hx⟩ : ∃ x, xs.getD k 0 = x := ⟨_, rfl⟩
      rw [hx] at ca hby HT
      obtain ⟨us, hus⟩ : ∃ us, (xs.take k).map (Gf.mul a) = us := ⟨_, rfl⟩
      have HU : Hid ((xs.take (k + 1)).map (Gf.mul a) = us ++ [Gf.mul a x]) := by
        show (xs.take (k + 1)).map (Gf.mul a) = _
        rw [HT, List.map_append, hus]; rfl
      rw [hus] at hO
      have hlu : us.length ≤ 1000000000 := by rw [← hus]; simp; omega
      obtain ⟨g, cg, W', hap, hO', hbw⟩ := run_append_one wr w.heap.size _ us (Gf.mul a x) hO hlu hB.size
      obtain ⟨L, hL⟩ : ∃ L, (us ++ [Gf.mul a x]).length = L := ⟨_, rfl⟩
      rw [hL] at hap hO'
      have ha1 := ap_ok hap
      have ha2 := ap_v hap
      have ha3 := ap_w hap
      have HZ : Hid (Ow W' w.heap.size (.slice (some ⟨g, 0, none⟩) L cg) (us ++ [Gf.mul a x]) ∧ Below w.heap.size w W') := ⟨hO', hB.trans (hbw _ (Nat.le_refl _))⟩
      clear hO' hbw hap hL hlu hus HT hx la hO hB
      go_wp2_with fail
      refine (rmul_calls a x ha _).mono ?_
      rintro e w1 ⟨rfl, rfl⟩
      go_wp2
      go_roundw
      case rel =>
        refine ⟨k + 1, by omega, by go_num, ?_, HZ.out.2⟩
        rw [HU.out]; exact HZ.out.1
      case measure => simp [intOf]; omega
    · have e8 : k = n := by omega
      subst e8
      rw [List.take_of_length_le (by rw [HS.out.len]; exact Nat.le_refl _)] at hO
      have HZ : Hid (Ow wr w.heap.size u5 (xs.map (Gf.mul a)) ∧ Below w.heap.size w wr) := ⟨hO, hB⟩
      clear hO hB
      go_wp2
      go_ret
      exact ⟨_, rfl, HZ.out⟩
theorem zip_snoc (xs ys : List Nat) (k : Nat) (h1 : k < xs.length) (h2 : k < ys.length) : List.zipWith Gf.mul (xs.take (k + 1)) (ys.take (k + 1)) = List.zipWith Gf.mul (xs.take k) (ys.take k) ++ [Gf.mul (xs.getD k 0) (ys.getD k 0)] := by
  rw [take_snoc xs k h1, take_snoc ys k h2, List.zipWith_append (by simp; omega)]
  rfl
set_option maxRecDepth 100000 in
set_option maxHeartbeats 1000000 in
theorem rpairs_calls (n m c d : Nat) (q p : Option Addr) (xs ys : List Nat) (hn : n ≤ 1000000000) (hm : m ≤ 1000000000) (w : World) (hs : Bs w q n xs) (hs2 : Bs w p m ys) :
    Calls Tryz.prog 54 #[.slice q n c, .slice p m d] w fun e w' => ∃ v, e = .returned v ∧ Ow w' w.heap.size v (List.zipWith Gf.mul xs ys) ∧ Below w.heap.size w w' := by
  have HS : Hid (Bs w q n xs) := hs
  have HS2 : Hid (Bs w p m ys) := hs2
  clear hs hs2
  go_enter Tryz.func54, Tryz.ntmps54
  go_wp2
  go_loopw [5, 6] (fun o i wr => ∃ k : Nat, k ≤ n ∧ k ≤ m ∧ i = .int .i64 (k : Int) ∧ Ow wr w.heap.size o (List.zipWith Gf.mul (xs.take k) (ys.take k)) ∧ Below w.heap.size w wr) (fun _ i _ => n - (intOf i).toNat)
  case atStart => exact ⟨0, by omega, by omega, rfl, by rw [List.take_zero]; exact ow_nil _ _, Below.refl _ _⟩
  case round =>
    obtain ⟨k, hk, hk2, rfl, hO, hB⟩ := hrel
    by_cases hlt : k < n ∧ k < m
    · obtain ⟨hkn, hkm⟩ := hlt
      have hi : (k : Int) < (n : Int) := by omega
      have hi2 : (k : Int) < (m : Int) := by omega
      obtain ⟨ad, rfl, la, ca⟩ := HS.out.cell k hkn
      obtain ⟨bd, rfl, lb, cb⟩ := HS2.out.cell k hkm
      have HA1 := ca
      have HA2 := cb
      replace ca := (hB.cell (p := ad.add k) (by rw [block_add]; exact la)).trans ca
      replace cb := (hB.cell (p := bd.add k) (by rw [block_add]; exact lb)).trans cb
      have hby := HS.out.byte k
      have HT := zip_snoc xs ys k (by rw [HS.out.len]; exact hkn) (by rw [HS2.out.len]; exact hkm)
      obtain ⟨x, hx⟩ : ∃ x, xs.getD k 0 = x := ⟨_, rfl⟩
      obtain ⟨y, hy⟩ : ∃ y, ys.getD k 0 = y := ⟨_, rfl⟩
      rw [hx] at ca hby HT HA1
      rw [hy] at cb HT HA2
      obtain ⟨us, hus⟩ : ∃ us, List.zipWith Gf.mul (xs.take k) (ys.take k) = us := ⟨_, rfl⟩
      rw [hus] at hO HT
      have HU : Hid (List.zipWith Gf.mul (xs.take (k + 1)) (ys.take (k + 1)) = us ++ [Gf.mul x y]) := HT
      have hlu : us.length ≤ 1000000000 := by rw [← hus]; simp; omega
      obtain ⟨g, cg, W', hap, hO', hbw⟩ := run_append_one wr.drew w.heap.size _ us (Gf.mul x y) hO.drew hlu hB.size
      obtain ⟨L, hL⟩ : ∃ L, (us ++ [Gf.mul x y]).length = L := ⟨_, rfl⟩
      rw [hL] at hap hO'
      rw [show wr.drew.heap.size = wr.heap.size from rfl, show wr.drew.alloc (.cells #[.int .u8 (Gf.mul x y : Nat)] 5) = (wr.alloc (.cells #[.int .u8 (Gf.mul x y : Nat)] 5)).drew from rfl] at hap
      have ha1 := ap_ok hap
      have ha2 := ap_v hap
      have ha3 := ap_w hap
      have HZ : Hid (Ow W' w.heap.size (.slice (some ⟨g, 0, none⟩) L cg) (us ++ [Gf.mul x y]) ∧ Below w.heap.size w W') := ⟨hO', hB.drew.trans (hbw _ (Nat.le_refl _))⟩
      have KM : Hid (∀ w, Calls Tryz.prog 26 #[.int .u8 x, .int .u8 y] w fun e w' => e = .returned (.int .u8 (Gf.mul x y : Nat)) ∧ w' = w) := fun w => rmul_calls x y hby w
      have cW1 : W'.cell? (ad.add k) = some (.int .u8 (x : Nat)) := ((hB.drew.trans (hbw _ (Nat.le_refl _))).cell (p := ad.add k) (by rw [block_add]; exact la)).trans HA1
      have cW2 : W'.cell? (bd.add k) = some (.int .u8 (y : Nat)) := ((hB.drew.trans (hbw _ (Nat.le_refl _))).cell (p := bd.add k) (by rw [block_add]; exact lb)).trans HA2
      have hw1 := World.new_ne wr (ad.add k) ca
      have hw2 := World.new_ne wr (bd.add k) cb
      clear hO' hbw hap hL hlu hus HT hx hy la lb hO hB HA1 HA2
      go_wp2
      go_region_held3 (fun w' => w'.cell? (ad.add k) = some (.int .u8 (x : Nat)) ∧ w'.cell? (bd.add k) = some (.int .u8 (y : Nat)))
        (first | exact ⟨cW1, cW2⟩ | (go_keep; done))
        (first | (go_at_call 26; refine (KM.out _).mono ?_; rintro e w1 ⟨rfl, hw⟩; subst hw))
      all_goals
        go_wp2
        go_roundw
        case rel =>
          refine ⟨k + 1, by omega, by omega, by go_num, ?_, HZ.out.2⟩
          rw [HU.out]; exact HZ.out.1
        case measure => simp [intOf]; omega
    · have he : List.zipWith Gf.mul (xs.take k) (ys.take k) = List.zipWith Gf.mul xs ys := zip_take xs ys k (by rw [HS.out.len, HS2.out.len]; omega)
      rw [he] at hO
      have HZ : Hid (Ow wr w.heap.size u5 (List.zipWith Gf.mul xs ys) ∧ Below w.heap.size w wr) := ⟨hO, hB⟩
      clear hO hB he
      rcases (by omega : k = n ∨ (k < n ∧ k = m)) with h | ⟨h, h2⟩
      · have hi : ¬ ((k : Int) < (n : Int)) := by omega
        clear hlt
        go_wp2
        go_ret
        exact ⟨_, rfl, HZ.out⟩
      · have hi : (k : Int) < (n : Int) := by omega
        have hi2 : ¬ ((k : Int) < (m : Int)) := by omega
        clear hlt
        go_wp2
        go_ret
        exact ⟨_, rfl, HZ.out⟩
set_option maxRecDepth 100000 in
set_option maxHeartbeats 1000000 in
theorem rdot_calls (n m c d : Nat) (q p : Option Addr) (xs ys : List Nat) (hn : n ≤ 1000000000) (hm : m ≤ 1000000000) (w : World) (hs : Bs w q n xs) (hs2 : Bs w p m ys) :
    Calls Tryz.prog 29 #[.slice q n c, .slice p m d] w fun e w' => e = .returned (.int .u8 (xsum (List.zipWith Gf.mul xs ys) : Nat)) ∧ Below w.heap.size w w' := by
  have hby := zip_byte xs ys hs.byte
  obtain ⟨zs, hzs⟩ : ∃ zs, List.zipWith Gf.mul xs ys = zs := ⟨_, rfl⟩
  have K := rpairs_calls n m c d q p xs ys hn hm w hs hs2
  rw [hzs] at hby K
  rw [hzs]
  clear hzs
  go_enter Tryz.func29, Tryz.ntmps29
  go_wp2_with fail
  refine K.mono ?_
  rintro e w1 ⟨v, rfl, hO, hB⟩
  obtain ⟨qv, cv, rfl, hb⟩ := hO.bs hby
  have HB : Hid (Bs w1 qv zs.length zs ∧ Below w.heap.size w w1) := ⟨hb, hB⟩
  have hmax := hb.max
  clear K hO hB hb hs hs2
  obtain ⟨L, hL⟩ : ∃ L, zs.length = L := ⟨_, rfl⟩
  rw [hL] at HB hmax
  rw [hL]
  have HL : Hid (zs.length = L) := hL
  have HY : Hid (∀ i, zs.getD i 0 < 256) := hby
  clear hL hby
  go_wp2
  go_loopw [5, 7] (fun s i wr => ∃ k : Nat, k ≤ L ∧ i = .int .i64 (k : Int) ∧ s = .int .u8 (xsum (zs.take k) : Nat) ∧ wr = w1) (fun _ i _ => L - (intOf i).toNat)
  case atStart => exact ⟨0, by omega, rfl, rfl, rfl⟩
  case round =>
    obtain ⟨j, hj, rfl, rfl, rfl⟩ := hrel
    by_cases hlt : j < L
    · have hi : (j : Int) < (L : Int) := by omega
      obtain ⟨a, rfl, la, ca⟩ := HB.out.1.cell j hlt
      have HT : Hid (xsum (zs.take (j + 1)) = xsum (zs.take j) ^^^ zs.getD j 0) := by
        show xsum (zs.take (j + 1)) = _
        rw [take_snoc zs j (by rw [HL.out]; exact hlt), xsum_snoc]
      have h1 := xsum_lt zs HY.out j
      have h2 := HY.out j
      obtain ⟨x, hx⟩ : ∃ x, xsum (zs.take j) = x := ⟨_, rfl⟩
      obtain ⟨y, hy⟩ : ∃ y, zs.getD j 0 = y := ⟨_, rfl⟩
      rw [hx] at HT h1
      rw [hy] at HT h2 ca
      rw [hx]
      have hxor := u8_xor_nat x y h1 h2
      clear hx hy
      go_wp2
      go_roundw
      case rel => exact ⟨j + 1, by omega, by go_num, by rw [HT.out], by trivial⟩
      case measure => simp [intOf]; omega
    · have e8 : j = L := by omega
      subst e8
      have he : zs.take j = zs := List.take_of_length_le (by rw [HL.out]; exact Nat.le_refl _)
      rw [he]
      go_wp2
      go_ret
      exact ⟨rfl, HB.out.2⟩
end Go.Proofs
/- The walk of erratumref09.plus: a row, and so many times another one. Conditions: bytes; two lists of one length. -/
namespace Go.Proofs
open Go.RowKit Go.ChangeShapes Go.WideShapes
attribute [local go_sem ↓ high] builtin_ap
attribute [local go_sem] ap_sem

/-- A list, and a times another one. -/
def plusL (n a : Nat) (xs ys : List Nat) : List Nat := (List.range n).map fun i => xs.getD i 0 ^^^ Gf.mul a (ys.getD i 0)
theorem plusL_length (n a : Nat) (xs ys : List Nat) : (plusL n a xs ys).length = n := by simp [plusL]
theorem plusL_succ (n a : Nat) (xs ys : List Nat) : plusL (n + 1) a xs ys = plusL n a xs ys ++ [xs.getD n 0 ^^^ Gf.mul a (ys.getD n 0)] := by unfold plusL; rw [List.range_succ, List.map_append]; rfl
set_option maxRecDepth 100000 in
set_option maxHeartbeats 1000000 in
theorem rplus_calls (a n c d : Nat) (q p : Option Addr) (xs ys : List Nat) (ha : a < 256) (hn : n ≤ 1000) (w : World) (hs : Bs w q n xs) (hs2 : Bs w p n ys) :
    Calls Tryz.prog 67 #[.slice q n c, .int .u8 a, .slice p n d] w fun e w' => ∃ v, e = .returned v ∧ Ow w' w.heap.size v (plusL n a xs ys) ∧ Below w.heap.size w w' := by
  have HS : Hid (Bs w q n xs) := hs
  have HS2 : Hid (Bs w p n ys) := hs2
  clear hs hs2
  go_enter Tryz.func67, Tryz.ntmps67
  go_wp2
  go_loopw [7, 8] (fun o i wr => ∃ k : Nat, k ≤ n ∧ i = .int .i64 (k : Int) ∧ Ow wr w.heap.size o (plusL k a xs ys) ∧ Below w.heap.size w wr) (fun _ i _ => n - (intOf i).toNat)
  case atStart => exact ⟨0, by omega, rfl, ow_nil _ _, Below.refl _ _⟩
  case round =>
    obtain ⟨k, hk, rfl, hO, hB⟩ := hrel
    by_cases hkn : k < n
    · have hi : (k : Int) < (n : Int) := by omega
      obtain ⟨ad, rfl, la, ca⟩ := HS.out.cell k hkn
      obtain ⟨bd, rfl, lb, cb⟩ := HS2.out.cell k hkn
      have HA1 := ca
      have HA2 := cb
      replace ca := (hB.cell (p := ad.add k) (by rw [block_add]; exact la)).trans ca
      replace cb := (hB.cell (p := bd.add k) (by rw [block_add]; exact lb)).trans cb
      have hbx := HS.out.byte k
      have hby := HS2.out.byte k
      have HT := plusL_succ k a xs ys
      obtain ⟨x, hx⟩ : ∃ x, xs.getD k 0 = x := ⟨_, rfl⟩
      obtain ⟨y, hy⟩ : ∃ y, ys.getD k 0 = y := ⟨_, rfl⟩
      rw [hx] at ca hbx HT HA1
      rw [hy] at cb hby HT HA2
      obtain ⟨us, hus⟩ : ∃ us, plusL k a xs ys = us := ⟨_, rfl⟩
      rw [hus] at hO HT
      have hm8 := Gf.mul_lt a y ha
      have hxor := u8_xor_nat x (Gf.mul a y) hbx hm8
      obtain ⟨z, hz⟩ : ∃ z, x ^^^ Gf.mul a y = z := ⟨_, rfl⟩
      rw [hz] at HT hxor
      have HU : Hid (plusL (k + 1) a xs ys = us ++ [z]) := HT
      have hlu : us.length ≤ 1000000000 := by rw [← hus, plusL_length]; omega
      obtain ⟨g, cg, W', hap, hO', hbw⟩ := run_append_one wr.drew w.heap.size _ us z hO.drew hlu hB.size
      obtain ⟨L, hL⟩ : ∃ L, (us ++ [z]).length = L := ⟨_, rfl⟩
      rw [hL] at hap hO'
      rw [show wr.drew.heap.size = wr.heap.size from rfl, show wr.drew.alloc (.cells #[.int .u8 (z : Nat)] 5) = (wr.alloc (.cells #[.int .u8 (z : Nat)] 5)).drew from rfl] at hap
      have ha1 := ap_ok hap
      have ha2 := ap_v hap
      have ha3 := ap_w hap
      have HZ : Hid (Ow W' w.heap.size (.slice (some ⟨g, 0, none⟩) L cg) (us ++ [z]) ∧ Below w.heap.size w W') := ⟨hO', hB.drew.trans (hbw _ (Nat.le_refl _))⟩
      have KM : Hid (∀ w, Calls Tryz.prog 26 #[.int .u8 a, .int .u8 y] w fun e w' => e = .returned (.int .u8 (Gf.mul a y : Nat)) ∧ w' = w) := fun w => rmul_calls a y ha w
      have cW1 : W'.cell? (ad.add k) = some (.int .u8 (x : Nat)) := ((hB.drew.trans (hbw _ (Nat.le_refl _))).cell (p := ad.add k) (by rw [block_add]; exact la)).trans HA1
      have cW2 : W'.cell? (bd.add k) = some (.int .u8 (y : Nat)) := ((hB.drew.trans (hbw _ (Nat.le_refl _))).cell (p := bd.add k) (by rw [block_add]; exact lb)).trans HA2
      have hw1 := World.new_ne wr (ad.add k) ca
      have hw2 := World.new_ne wr (bd.add k) cb
      clear hO' hbw hap hL hlu hus HT hx hy la lb hO hB HA1 HA2 hz
      go_wp2
      go_region_held3 (fun w' => w'.cell? (ad.add k) = some (.int .u8 (x : Nat)) ∧ w'.cell? (bd.add k) = some (.int .u8 (y : Nat)))
        (first | exact ⟨cW1, cW2⟩ | (go_keep; done))
        (first | (go_at_call 26; refine (KM.out _).mono ?_; rintro e w1 ⟨rfl, hw⟩; subst hw))
      all_goals
        go_wp2
        go_roundw
        case rel =>
          refine ⟨k + 1, by omega, by go_num, ?_, HZ.out.2⟩
          rw [HU.out]; exact HZ.out.1
        case measure => simp [intOf]; omega
    · obtain rfl : k = n := by omega
      have HZ : Hid (Ow wr w.heap.size u7 (plusL k a xs ys) ∧ Below w.heap.size w wr) := ⟨hO, hB⟩
      clear hO hB
      go_wp2
      go_ret
      exact ⟨_, rfl, HZ.out⟩
end Go.Proofs
