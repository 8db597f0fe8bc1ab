/- MasseySum holds for every input: what makes two lists, makes their sum. No conditions. -/
import Derived.Test.YtfbbphddakjhhaaRows
import Derived.Test.YtfbbphddakjhhaaMB
import Derived.Test.YtfbbphddakjhhaaQI
namespace Go.Proofs.Ytfbbphddakjhhaa.masseySum
open Go.ChangeShapes Go.WideShapes Go.ChangeAt Go.RowKit
open Pol (IsN Dg ofL Byt)
attribute [local go_sem ↓ high] builtin_ap
attribute [local go_sem] ap_sem

theorem xorL_take {xs ys : List Nat} {i : Nat} (hi : i < xs.length) : (Ms.xorL xs ys).take (i + 1) = (Ms.xorL xs ys).take i ++ [xs.getD i 0 ^^^ ys.getD i 0] := by
  have hl := Ms.xorL_length xs ys
  rw [List.take_add_one]
  congr 1
  unfold Ms.xorL
  rw [List.getElem?_map, List.getElem?_range hi]
  rfl

set_option maxRecDepth 100000 in
set_option maxHeartbeats 8000000 in
theorem walk (j : Nat) (q : Option Addr) (n c : Nat) (xs : List Nat) (p : Option Addr) (m d : Nat) (fs : List Nat) (r : Option Addr) (l g : Nat) (gs : List Nat) (e : Nat) (w : World) (_hj : j < 256) (hs : Bs w q n xs) (hc : n ≤ c ∧ c ≤ 140737488351232) (hf : Bs w p m fs) (hd : m ≤ d ∧ d ≤ 140737488351232) (hg : Bs w r l gs) (hl : l ≤ g ∧ g ≤ 140737488351232) (he : e < 256) :
    Calls Try.prog 6 #[.int .u8 j, .slice q n c, .slice p m d, .slice r l g, .int .u8 e] w fun e w' => e = .returned (.bool true) ∧ Below w.heap.size w w' := by
  have hwnm : IntKind.i64.wrap ((n : Int) + (m : Int)) = (n : Int) + (m : Int) := by rw [IntKind.wrap_i64]; omega
  have hwnl : IntKind.i64.wrap ((n : Int) + (m : Int) + (l : Int)) = (n : Int) + (m : Int) + (l : Int) := by rw [IntKind.wrap_i64]; omega
  by_cases hbig : n + m + l ≤ 200
  · have hbi : ¬ (200 : Int) < (n : Int) + (m : Int) + (l : Int) := by omega
    obtain ⟨f, hfe⟩ : ∃ f : Nat, 1 + j % 3 = f := ⟨_, rfl⟩
    have hf1 : 1 ≤ f := by omega
    have hf3 : f ≤ 3 := by omega
    have hfi : (1 : Int) + (j : Int) % 3 = (f : Int) := by omega
    have K0 := fof_calls f hf1 hf3 w
    have HX : Hid (Bs w q n xs ∧ n ≤ c ∧ Bs w p m fs ∧ m ≤ d ∧ Bs w r l gs ∧ l ≤ g ∧ n ≤ 200 ∧ m ≤ 200 ∧ l ≤ 200) := ⟨hs, hc.1, hf, hd.1, hg, hl.1, by omega, by omega, by omega⟩
    clear hs hc hf hd hg hl hbig hf1 hf3 hfe
    go_enter Try.func6, Try.ntmps6
    go_wp2_with fail
    refine K0.mono ?_
    rintro e_ w1 ⟨B, T, rfl, hF, hb, hlB, hlT⟩
    clear K0 hwnm hwnl hbi hfi
    have HT : Hid (w.heap.size ≤ T) := hlT
    have hT1 : Tw f B T w w1 := ⟨hF, But.of_below hb⟩
    obtain ⟨k, hk⟩ : ∃ k, min n 6 = k := ⟨_, rfl⟩
    have hki : (if (6 : Int) < (n : Int) then 6 else (n : Int)) = (k : Int) := by split <;> omega
    have hkc : (k : Int) ≤ (c : Int) := by have := HX.out.2.1; omega
    obtain ⟨own, how⟩ : ∃ own, xs.take k = own := ⟨_, rfl⟩
    obtain ⟨N, hN⟩ : ∃ N, e % 30 = N := ⟨_, rfl⟩
    have hNi : (e : Int) % 30 = (N : Int) := by omega
    have hk8 : (k : Int) ≤ 6 := by omega
    have hN6 : (N : Int) ≤ 30 := by omega
    have l1 : Tl w1 T q k c own := by
      rw [← how]
      exact ⟨bs_take (HX.out.1.below hb) k (by omega), by have := HX.out.2.1; omega, (bs_take HX.out.1 k (by omega)).off hlT⟩
    have lf : Tl w1 T p m d fs := ⟨HX.out.2.2.1.below hb, HX.out.2.2.2.1, HX.out.2.2.1.off hlT⟩
    have lg : Tl w1 T r l g gs := ⟨HX.out.2.2.2.2.1.below hb, HX.out.2.2.2.2.2.1, HX.out.2.2.2.2.1.off hlT⟩
    obtain ⟨ss, hss⟩ : ∃ ss, Ms.mdL own fs N = ss := ⟨_, rfl⟩
    obtain ⟨ts, hts⟩ : ∃ ts, Ms.mdL own gs N = ts := ⟨_, rfl⟩
    obtain ⟨us, hus⟩ : ∃ us, Ms.xorL ss ts = us := ⟨_, rfl⟩
    have hsl : ss.length = N := hss ▸ Ms.mdL_length own fs N
    have htl : ts.length = N := hts ▸ Ms.mdL_length own gs N
    have hul : us.length = N := by rw [← hus, Ms.xorL_length, hsl]
    obtain ⟨L, hL⟩ := Ms.least_exists (ofL us) N
    have HM : Hid (own.length = k ∧ Ms.mdL own fs N = ss ∧ Ms.mdL own gs N = ts ∧ Ms.xorL ss ts = us ∧ Ms.Least (ofL us) N L ∧ Byt own ∧ Byt fs ∧ Byt gs ∧ k ≤ 6 ∧ N ≤ 30 ∧ ss.length = N ∧ us.length = N) := ⟨l1.bs.len, hss, hts, hus, hL, l1.bs.byte, lf.bs.byte, lg.bs.byte, by omega, by omega, hsl, hul⟩
    have K := kmade f B T w q p k c m d N own fs (by omega) (by omega) w1 hT1 l1 lf
    rw [hss] at K
    have HLs : Hid (Tl w1 T q k c own ∧ Tl w1 T r l g gs) := ⟨l1, lg⟩
    clear hF hb hlB hlT l1 lf lg hk how hN hss hts hus hsl htl hul hL hT1
    go_wp2_with fail
    refine K.mono ?_
    rintro e_ w2 ⟨q2, c2, rfl, l2, hT2, hb2⟩
    clear K
    have K := kmade f B T w q r k c l g N own gs (by omega) (by omega) w2 hT2 (HLs.out.1.but hb2) (HLs.out.2.but hb2)
    rw [HM.out.2.2.1] at K
    have HL2 : Hid (Tl w2 T q k c own ∧ Tl w2 T q2 N c2 ss) := ⟨HLs.out.1.but hb2, l2⟩
    clear HLs hb2 l2 hT2
    go_wp2_with fail
    refine K.mono ?_
    rintro e_ w3 ⟨q3, c3, rfl, l3, hT3, hb3⟩
    clear K
    have H3 : Hid (Tw f B T w w3 ∧ Tl w3 T q k c own ∧ Tl w3 T q2 N c2 ss ∧ Tl w3 T q3 N c3 ts) := ⟨hT3, HL2.out.1.but hb3, HL2.out.2.but hb3, l3⟩
    clear HL2 hb3 l3 hT3
    go_wp2
    go_loopw [15, 16] (fun v idx wr => ∃ (i : Nat) (q4 : Option Addr) (c4 : Nat), i ≤ N ∧ idx = .int .i64 (i : Int) ∧ v = .slice q4 i c4 ∧ Hid (Ow wr w3.heap.size (.slice q4 i c4) (us.take i) ∧ Below w3.heap.size w3 wr)) (fun _ idx _ => N - (intOf idx).toNat)
    case atStart => exact ⟨0, none, 0, Nat.zero_le _, rfl, rfl, (⟨ow_nil _ _, Below.refl _ _⟩ : Ow w3 w3.heap.size (.slice none 0 0) (us.take 0) ∧ Below w3.heap.size w3 w3)⟩
    case round =>
      obtain ⟨i, q4, c4, hi, rfl, rfl, HO⟩ := hrel
      by_cases hlt : i < N
      · have hii : (i : Int) < (N : Int) := by omega
        have hi0 : (0 : Int) ≤ (i : Int) := by omega
        obtain ⟨i1, hi1⟩ : ∃ i1, i + 1 = i1 := ⟨_, rfl⟩
        have hi1i : (i : Int) + 1 = (i1 : Int) := by omega
        have hi1N : i1 ≤ N := by omega
        have hwi1 := wrap_nat i1 (by omega)
        obtain ⟨a, ea, la, ca⟩ := (H3.out.2.2.1.below HO.out.2).bs.cell i hlt
        obtain ⟨b, eb, lb, cb⟩ := (H3.out.2.2.2.below HO.out.2).bs.cell i hlt
        obtain ⟨x, hx⟩ : ∃ x, ss.getD i 0 = x := ⟨_, rfl⟩
        obtain ⟨y, hy⟩ : ∃ y, ts.getD i 0 = y := ⟨_, rfl⟩
        rw [hx] at ca
        rw [hy] at cb
        have hx8 : x < 256 := by rw [← hx]; exact H3.out.2.2.1.bs.byte i
        have hy8 : y < 256 := by rw [← hy]; exact H3.out.2.2.2.bs.byte i
        have hxo := u8_xor_nat x y hx8 hy8
        obtain ⟨z, hz⟩ : ∃ z, x ^^^ y = z := ⟨_, rfl⟩
        rw [hz] at hxo
        have htk : us.take i1 = us.take i ++ [z] := by rw [← hi1, ← HM.out.2.2.2.1, xorL_take (by rw [HM.out.2.2.2.2.2.2.2.2.2.2.1]; exact hlt), hx, hy, hz]
        obtain ⟨g7, c7, W7, hap, hO7, hb7⟩ := run_append_one wr.drew w3.heap.size (.slice q4 i c4) (us.take i) z HO.out.1.drew (by rw [List.length_take]; omega) (by exact HO.out.2.size)
        have hle : (us.take i ++ [z]).length = i1 := by rw [← htk, List.length_take, HM.out.2.2.2.2.2.2.2.2.2.2.2]; omega
        rw [hle] at hap hO7
        rw [← htk] at hO7
        have HN : Hid (Ow W7 w3.heap.size (.slice (some ⟨g7, 0, none⟩) i1 c7) (us.take i1) ∧ Below w3.heap.size w3 W7) := ⟨hO7, HO.out.2.drew.trans (hb7 _ (Nat.le_refl _))⟩
        rw [show wr.drew.heap.size = wr.heap.size from rfl, show wr.drew.alloc (.cells #[.int .u8 (z : Nat)] 5) = (wr.alloc (.cells #[.int .u8 (z : Nat)] 5)).drew from rfl] at hap
        have ha1 := ap_ok hap
        have ha2 := ap_v hap
        have ha3 := ap_w hap
        have hw1 := World.new_ne wr (a.add i) ca
        have hw2 := World.new_ne wr (b.add i) cb
        subst ea eb
        clear hx hy hx8 hy8 hz htk hap hO7 hb7 hle HO la lb hi1
        go_wp2
        go_region
        all_goals
          go_wp2
          go_roundw
          case rel => exact ⟨i1, _, c7, hi1N, by go_num, rfl, HN⟩
          case measure => simp [intOf]; omega
      · obtain rfl : N = i := by omega
        have hO4 := HO.out.1
        rw [List.take_of_length_le (by rw [HM.out.2.2.2.2.2.2.2.2.2.2.2]; omega)] at hO4
        have hub : Byt us := by
          rw [← HM.out.2.2.2.1]
          intro i
          by_cases hi : i < ss.length
          · have e1 : (Ms.xorL ss ts).getD i 0 = ss.getD i 0 ^^^ ts.getD i 0 := by unfold Ms.xorL; rw [Mx.getD_range_map _ _ _ hi]
            rw [e1]; exact Gf.xor_lt8 (H3.out.2.2.1.bs.byte i) (H3.out.2.2.2.bs.byte i)
          · rw [Mx.getD_out (by rw [Ms.xorL_length]; omega)]; decide
        obtain ⟨q5, c5, e5, l5⟩ := hO4.tl (T := T) (n := N) H3.out.1.lt hub HM.out.2.2.2.2.2.2.2.2.2.2.2
        obtain ⟨rfl, rfl⟩ : q5 = q4 ∧ c5 = c4 := by cases e5; exact ⟨rfl, rfl⟩
        clear e5
        -- the register of choices
        obtain ⟨W6, hW6⟩ : ∃ W6, wr.alloc (.cells #[.int .u8 1] 5) = W6 := ⟨_, rfl⟩
        have hb6 : Below wr.heap.size wr W6 := hW6 ▸ (Below.refl _ wr).alloc (Nat.le_refl _) _
        have hO6 : Ow W6 wr.heap.size (.slice (some ⟨wr.heap.size, 0, none⟩) 1 1) [1] := by rw [← hW6]; exact ow_one wr (Nat.le_refl _) 1
        obtain ⟨v7, W7, hap, hO7, hg7⟩ := run_append_list W6 wr.heap.size _ [1] q k c own hO6 ((H3.out.2.1.below HO.out.2).below hb6).bs (by have := HM.out; simp; omega) hb6.size
        have hb7 : Below wr.heap.size wr W7 := hb6.grown hg7 hb6.size (fun k hk => (hO6.lt k hk).1)
        have hbz : Byt (1 :: own) := fun i => by
          cases i with
          | zero => exact (by decide : (1 : Nat) < 256)
          | succ i => exact HM.out.2.2.2.2.2.1 i
        obtain ⟨g9, hg9⟩ : ∃ g9, k + 1 = g9 := ⟨_, rfl⟩
        have hTr := H3.out.1.below HO.out.2
        obtain ⟨q7, c7, rfl, l7⟩ := hO7.tl (T := T) (n := g9) hTr.lt hbz (by show (1 :: own).length = _; rw [List.length_cons, HM.out.1, hg9])
        have H7 : Hid (Tw f B T w W7 ∧ Tl W7 T q2 N c2 ss ∧ Tl W7 T q5 N c5 us ∧ Tl W7 T q7 g9 c7 (1 :: own) ∧ g9 ≤ 9) := ⟨hTr.below hb7, (H3.out.2.2.1.below HO.out.2).below hb7, l5.below hb7, l7, by omega⟩
        have ha1 := ap_ok hap
        have ha2 := ap_v hap
        have ha3 := ap_w hap
        have KN := known14_calls W7
        clear hO4 hub l5 hb6 hO6 hap hO7 hg7 hb7 hbz hg9 hTr l7 HO
        by_cases hfit : k ≤ N
        · have hfiti : (k : Int) ≤ (N : Int) := by omega
          have HLk : Hid ((L : Int) ≤ (k : Int)) := by
            have h1 := (Ms.mkZ_sum (own := own) (N := N) HM.out.2.2.2.2.2.2.1 HM.out.2.2.2.2.2.2.2.1).2 (by rw [HM.out.1]; exact hfit)
            rw [HM.out.2.1, HM.out.2.2.1, HM.out.2.2.2.1, HM.out.1, Ms.mkZ_nat, HM.out.2.2.2.2.2.2.2.2.2.2.2] at h1
            have h2 := HM.out.2.2.2.2.1.least _ _ h1
            show (L : Int) ≤ (k : Int)
            omega
          go_wp2_with fail
          refine KN.mono ?_
          rintro e_ w8 ⟨rfl, hb8⟩
          clear KN ha1 ha2 ha3 hW6
          have K := kmakes f B T w q7 q2 g9 c7 N c2 (1 :: own) ss (k : Int) true ⟨fun _ => by
            have h := (Ms.mkZ_made (own := own) (fs := fs) (N := N)).2 (by rw [HM.out.1]; exact hfit)
            rw [HM.out.2.1, HM.out.1] at h
            exact h, fun _ => rfl⟩ (by have := H7.out.2.2.2.2; omega) (by omega) w8 (H7.out.1.below hb8) (H7.out.2.2.2.1.below hb8) (H7.out.2.1.below hb8)
          have H8 : Hid (Tl w8 T q5 N c5 us ∧ Tl w8 T q7 g9 c7 (1 :: own)) := ⟨H7.out.2.2.1.below hb8, H7.out.2.2.2.1.below hb8⟩
          clear hb8
          go_wp2_with fail
          refine K.mono ?_
          rintro e_ w9 ⟨rfl, hT9, hb9⟩
          clear K
          have K := kmakes f B T w q7 q5 g9 c7 N c5 (1 :: own) us (k : Int) true ⟨fun _ => by
            have h1 := (Ms.mkZ_sum (own := own) (N := N) HM.out.2.2.2.2.2.2.1 HM.out.2.2.2.2.2.2.2.1).2 (by rw [HM.out.1]; exact hfit)
            rw [HM.out.2.1, HM.out.2.2.1, HM.out.2.2.2.1, HM.out.1] at h1
            exact h1, fun _ => rfl⟩ (by have := H7.out.2.2.2.2; omega) (by omega) w9 hT9 (H8.out.2.but hb9) (H8.out.1.but hb9)
          have H9 : Hid (Tl w9 T q5 N c5 us) := H8.out.1.but hb9
          clear hT9 hb9 H8
          go_wp2_with fail
          refine K.mono ?_
          rintro e_ w10 ⟨rfl, hT10, hb10⟩
          clear K
          have K := kmlen f B T w q5 N c5 L us (by omega) HM.out.2.2.2.2.1 w10 hT10 (H9.out.but hb10)
          have hLk := HLk.out
          clear hT10 hb10 H9
          go_wp2_with fail
          refine K.mono ?_
          rintro e_ w11 ⟨rfl, hT11, -⟩
          clear K
          have HZ : Hid (Below w.heap.size w w11) := hT11.but.below (Nat.le_refl _) (by rintro k rfl; exact HT.out)
          clear hT11
          go_wp2
          go_ret
          exact ⟨rfl, HZ.out⟩
        · have hfiti : ¬ (k : Int) ≤ (N : Int) := by omega
          go_wp2_with fail
          refine KN.mono ?_
          rintro e_ w8 ⟨rfl, hb8⟩
          clear KN ha1 ha2 ha3 hW6
          have K := kmakes f B T w q7 q2 g9 c7 N c2 (1 :: own) ss (k : Int) false ⟨fun h => (by cases h), fun h => (hfit (by
            have h2 := (Ms.mkZ_made (own := own) (fs := fs) (N := N)).1 (by rw [HM.out.2.1, HM.out.1]; exact h)
            rw [HM.out.1] at h2
            exact h2)).elim⟩ (by have := H7.out.2.2.2.2; omega) (by omega) w8 (H7.out.1.below hb8) (H7.out.2.2.2.1.below hb8) (H7.out.2.1.below hb8)
          have H8 : Hid (Tl w8 T q5 N c5 us ∧ Tl w8 T q7 g9 c7 (1 :: own)) := ⟨H7.out.2.2.1.below hb8, H7.out.2.2.2.1.below hb8⟩
          clear hb8
          go_wp2_with fail
          refine K.mono ?_
          rintro e_ w9 ⟨rfl, hT9, hb9⟩
          clear K
          have K := kmakes f B T w q7 q5 g9 c7 N c5 (1 :: own) us (k : Int) false ⟨fun h => (by cases h), fun h => (hfit (by
            have h2 := (Ms.mkZ_sum (own := own) (N := N) HM.out.2.2.2.2.2.2.1 HM.out.2.2.2.2.2.2.2.1).1 (by rw [HM.out.2.1, HM.out.2.2.1, HM.out.2.2.2.1, HM.out.1]; exact h)
            rw [HM.out.1] at h2
            exact h2)).elim⟩ (by have := H7.out.2.2.2.2; omega) (by omega) w9 hT9 (H8.out.2.but hb9) (H8.out.1.but hb9)
          clear hT9 hb9 H8
          go_wp2_with fail
          refine K.mono ?_
          rintro e_ w10 ⟨rfl, hT10, hb10⟩
          clear K
          have HZ : Hid (Below w.heap.size w w10) := hT10.but.below (Nat.le_refl _) (by rintro k rfl; exact HT.out)
          clear hT10 hb10
          go_wp2
          go_ret
          exact ⟨rfl, HZ.out⟩
  · have hbi : (200 : Int) < (n : Int) + (m : Int) + (l : Int) := by omega
    have KN := known14_calls w
    clear hs hc hf hd hg hl hbig
    go_enter Try.func6, Try.ntmps6
    go_wp2_with fail
    refine KN.mono ?_
    rintro e_ w1 ⟨rfl, hb⟩
    clear KN
    go_wp2
    go_ret
    exact ⟨rfl, hb⟩
theorem own : ownKnob Try.prog.godebug = none := by kernel_rfl
theorem laidOut : laidOutB Try.prog = true := by kernel_rfl
set_option maxRecDepth 100000 in
theorem lifted (os : Os) (started : os.Started) (H : Type) (enc : TypeId × Value → H) :
    ReturnsInHanded {} Try.checked os 6 .any (Rows.masseySumSpec.pre6 enc Try.prog Try.f6 Rows.masseySumRow.domain false) (Rows.masseySumSpec.post enc Try.prog Try.f6 false true false false) := by
  refine returnsInHanded_of_change_sized (C := Try.checked) own started (by kernel_rfl) Try.func6
    (ChangeSpec.witness6 (enc := enc) (C := Try.checked) false ⟨#[], #[.int .u8 0, .slice none 0 0, .slice none 0 0, .slice none 0 0, .int .u8 0], []⟩ 8 (by kernel_rfl) (by kernel_rfl) (by kernel_rfl) (by kernel_rfl)) ?_
  intro W base args ds gs before hval0 hW _ hz _
  have hval : ∀ (j : Nat) t v, Try.f6.params[j]? = some t → args[j]? = some v → Value.okWide Try.prog W .any base t v := hval0
  have hW' := hW
  obtain ⟨p, q, hA0, hV, rfl, _, _⟩ := hW
  have hA : DataW.TrodAll enc Try.prog W 0 (fun _ => true) true Try.f6.params.toList args.toList ds p := hA0
  rw [Try.params6] at hA hval
  obtain ⟨v0, vs0, d0, ds0, p0, q0, hargs, rfl, rfl, h0, r0⟩ := trodAll_cons hA
  obtain ⟨v1, vs1, d1, ds1, p1, q1, rfl, rfl, rfl, h1, r1⟩ := trodAll_cons r0
  obtain ⟨v2, vs2, d2, ds2, p2, q2, rfl, rfl, rfl, h2, r2⟩ := trodAll_cons r1
  obtain ⟨v3, vs3, d3, ds3, p3, q3, rfl, rfl, rfl, h3, r3⟩ := trodAll_cons r2
  obtain ⟨v4, vs4, d4, ds4, p4, q4, rfl, rfl, rfl, h4, r4⟩ := trodAll_cons r3
  obtain ⟨rfl, rfl, rfl⟩ := trodAll_nil r4
  obtain rfl : args = #[v0, v1, v2, v3, v4] := by cases args; simp_all
  obtain ⟨rfl, rfl⟩ := trodVars_none hV
  obtain ⟨a0, rfl, rfl, rfl, w0⟩ := open_int Try.underlying5 (hval 0 5 v0 rfl rfl) h0
  obtain ⟨n0, b0, rfl⟩ := nat_of_u8 w0
  have k1 := h1
  obtain ⟨q1, n1, c1, xs1, rfl, w1, m1⟩ := open_bytes_sz Try.underlying22 Try.underlying5 (by kernel_rfl) (hval 1 22 v1 rfl rfl) h1
  have y1 : n1 ≤ c1 ∧ c1 ≤ 140737488351232 := ⟨m1.1, m1.2 _ fun el sp hd => by have := sized_slice (j := 1) (t := 22) (e := 5) (elems := el) (spare := sp) hz (by kernel_rfl) (by first | (rw [← hd]; done) | (rw [← hd]; rfl)) Try.underlying22; have hbe : Try.checked.prog.bytesOf 5 = 1 := (by kernel_rfl); have hre : reachBytes = 140737488351232 := rfl; rw [hbe, hre] at this; omega⟩
  have k2 := h2
  obtain ⟨q2, n2, c2, xs2, rfl, w2, m2⟩ := open_bytes_sz Try.underlying22 Try.underlying5 (by kernel_rfl) (hval 2 22 v2 rfl rfl) h2
  have y2 : n2 ≤ c2 ∧ c2 ≤ 140737488351232 := ⟨m2.1, m2.2 _ fun el sp hd => by have := sized_slice (j := 2) (t := 22) (e := 5) (elems := el) (spare := sp) hz (by kernel_rfl) (by first | (rw [← hd]; done) | (rw [← hd]; rfl)) Try.underlying22; have hbe : Try.checked.prog.bytesOf 5 = 1 := (by kernel_rfl); have hre : reachBytes = 140737488351232 := rfl; rw [hbe, hre] at this; omega⟩
  have k3 := h3
  obtain ⟨q3, n3, c3, xs3, rfl, w3, m3⟩ := open_bytes_sz Try.underlying22 Try.underlying5 (by kernel_rfl) (hval 3 22 v3 rfl rfl) h3
  have y3 : n3 ≤ c3 ∧ c3 ≤ 140737488351232 := ⟨m3.1, m3.2 _ fun el sp hd => by have := sized_slice (j := 3) (t := 22) (e := 5) (elems := el) (spare := sp) hz (by kernel_rfl) (by first | (rw [← hd]; done) | (rw [← hd]; rfl)) Try.underlying22; have hbe : Try.checked.prog.bytesOf 5 = 1 := (by kernel_rfl); have hre : reachBytes = 140737488351232 := rfl; rw [hbe, hre] at this; omega⟩
  obtain ⟨a4, rfl, rfl, rfl, w4⟩ := open_int Try.underlying5 (hval 4 5 v4 rfl rfl) h4
  obtain ⟨n4, b4, rfl⟩ := nat_of_u8 w4
  clear hA0 hval0
  simp only [List.append_nil] at hW'
  refine (walk (w := W) n0 q1 n1 c1 xs1 q2 n2 c2 xs2 q3 n3 c3 xs3 n4 b0 w1 y1 w2 y2 w3 y3 b4).mono fun e W' ⟨he, bel⟩ => ?_
  subst he
  exact ⟨_, rfl, _, _, _, [], _, [], hW', trodAll_mk1 (shut_bool Try.underlying4 _), (trodAll_cons_mk (shut_int Try.underlying5 w0) (trodAll_cons_mk (shut_same laidOut (by kernel_rfl) (of_decide_eq_true (by kernel_rfl)) k1 bel) (trodAll_cons_mk (shut_same laidOut (by kernel_rfl) (of_decide_eq_true (by kernel_rfl)) k2 bel) (trodAll_cons_mk (shut_same laidOut (by kernel_rfl) (of_decide_eq_true (by kernel_rfl)) k3 bel) (trodAll_cons_mk (shut_int Try.underlying5 w4) trodAll_mk0))))), rfl, bel.frame _, fun h => by cases h⟩
theorem over : Rows.masseySumRow.holds Try.pinned (OpenSpec.ofChange Rows.masseySumSpec) :=
  OpenClaim.holds_of_wide 6 Try.f6 rfl rfl rfl rfl rfl rfl rfl ⟨rfl, rfl, rfl, rfl, rfl⟩ rfl rfl rfl rfl rfl (by kernel_rfl) Try.func6 (by kernel_rfl)
    (of_decide_eq_true (by kernel_rfl)) (by unfold Func.isWrapper; first | (rw [if_pos (by decide +kernel)]; kernel_rfl) | (rw [if_neg (by decide +kernel)]; exact ⟨rfl, rfl⟩))
    (fun os started H enc _ => lifted os started H enc)
theorem proved : Rows.MasseySumSaid := over
#print axioms proved
end Go.Proofs.Ytfbbphddakjhhaa.masseySum
