/- EncodeOnly holds for every input: a word of the code with this message is the only one: with any byte ahead of the message another one it is none. No conditions. -/
import Derived.Test.YtagkpjbadmodbaaGreatRows
import Derived.Test.YtagkpjbadmodbaaGreatMB
import Derived.Test.YtagkpjbadmodbaaGreatOH
import Derived.Test.YtagkpjbadmodbaaGreatNX
namespace Go.Proofs.YtagkpjbadmodbaaGreat.encodeOnly
open Go.ChangeShapes Go.WideShapes Go.ChangeAt Go.RowKit
open Pol (IsN Dg ofL Byt)

theorem set_same (xs : List Nat) (i : Nat) : xs.set i (xs.getD i 0) = xs := Mx.list_ext (by rw [List.length_set]) fun t _ => by
  rw [Mx.getD_set]
  split
  · rename_i e; rw [e.1]
  · rfl

set_option maxRecDepth 100000 in
set_option maxHeartbeats 4000000 in
theorem walk (j n k b : Nat) (qx : Option Addr) (lx cx : Nat) (xsx : List Nat) (h x : Nat) (w : World) (_hj : j < 256) (hn : n < 256) (hk : k < 256) (hb : b < 256) (hsx : Bs w qx lx xsx) (hcx : lx ≤ cx ∧ cx ≤ 140737488351232) (hh : h < 256) (hx : x < 256) :
    Calls Tryz.prog 6 #[.int .u8 j, .int .u8 n, .int .u8 k, .int .u8 b, .slice qx lx cx, .int .u8 h, .int .u8 x] w fun e w' => e = .returned (.bool true) ∧ Below w.heap.size w w' := by
  obtain ⟨f, hf⟩ : ∃ f : Nat, 1 + j % 3 = f := ⟨_, rfl⟩
  have hf1 : 1 ≤ f := by omega
  have hf3 : f ≤ 3 := by omega
  have hfi : (1 : Int) + (j : Int) % 3 = (f : Int) := by omega
  have hK0 : ∀ W, Calls Tryz.prog 9 _ W _ := fun W => lcode_calls n k b hn hk hb W
  have hcod := ck_cod n k b
  have hle := ckN_le n k
  obtain ⟨N, hN⟩ : ∃ N, ckN n k = N := ⟨_, rfl⟩
  obtain ⟨K, hK⟩ : ∃ K, ckK n k = K := ⟨_, rfl⟩
  obtain ⟨B, hB⟩ : ∃ B, ckB b = B := ⟨_, rfl⟩
  obtain ⟨S, hS⟩ : ∃ S, N - K = S := ⟨_, rfl⟩
  rw [hN, hK, hB] at hK0 hcod
  rw [hN] at hle
  obtain ⟨ms, hms⟩ : ∃ ms, Cd.wd K xsx = ms := ⟨_, rfl⟩
  have hml : ms.length = K := hms ▸ Cd.wd_length K xsx
  have hmb : Byt ms := hms ▸ Cd.wd_byt hsx.byte K
  obtain ⟨ws, hws⟩ := Cd.isEnc_exists (N := N) (S := S) (K := K) (B := B) hml hmb (by have := hcod.n; omega)
  obtain ⟨i, hi⟩ : ∃ i, h % S = i := ⟨_, rfl⟩
  have hS0 : 0 < S := by have := hcod.n; omega
  have hiS : i < S := by rw [← hi]; exact Nat.mod_lt _ hS0
  have hii : (h : Int).tmod (S : Int) = (i : Int) := by rw [Int.tmod_eq_emod_of_nonneg (by omega), ← hi]; exact (Int.natCast_emod h S).symm
  have hiN' : (i : Int) < (N : Int) := by omega
  have hi0 : (0 : Int) ≤ (i : Int) := by omega
  have hSz : ((S : Int) == 0) = false := by simp; omega
  have hNKi : (N : Int) - (K : Int) = (S : Int) := by have := hcod.n; omega
  have hiN : i < N := by omega
  have K0 : Hid (∀ W, Calls Tryz.prog 9 #[.int .u8 n, .int .u8 k, .int .u8 b] W fun e w' => e = .returned (.agg #[.int .i64 (N : Nat), .int .i64 (K : Nat), .int .i64 (B : Nat)]) ∧ Below W.heap.size W w') := hK0
  have HM : Hid (Cod N K B ∧ N - K = S ∧ N ≤ 69 ∧ Cd.wd K xsx = ms ∧ ms.length = K ∧ Byt ms ∧ Cd.IsEnc N S B ms ws ∧ i < N ∧ 0 < S ∧ x < 256) := ⟨hcod, hS, hle.2, hms, hml, hmb, hws, hiN, hS0, hx⟩
  have hN69 : (N : Int) ≤ 69 := by omega
  have HSx : Hid (Bs w qx lx xsx ∧ lx ≤ cx) := ⟨hsx, hcx.1⟩
  clear hms hml hmb hws hi hiS hiN hS0 hx hf hN hK hB hS hK0 hcod hle hn hk hb _hj hsx hcx
  have HE : Hid (IsEn (N : Nat) (K : Nat) (B : Nat) ms ws 0) := .inr (.inr ⟨rfl, N, K, B, S, rfl, rfl, rfl, HM.out.1, HM.out.2.1, HM.out.2.2.2.2.1, HM.out.2.2.2.2.2.2.1⟩)
  have hKN : (K : Int) ≤ (N : Int) := by have := HM.out.1.n; omega
  have hSnz : (S = 0) = False := eq_false (by have := HM.out.2.2.2.2.2.2.2.2.1; omega)
  have hwh : wrap64 (h : Int) = (h : Int) := by clear hii; unfold wrap64; omega
  clear hh
  have HB : Below w.heap.size w w := Below.refl _ _
  go_enter Tryz.func6, Tryz.ntmps6
  go_wp2_with fail
  refine (fof_calls f hf1 hf3 _).mono ?_
  rintro e w1 ⟨B_f, T_f, rfl, HF_f, hb, hlB, hlT⟩
  have HL_f : w.heap.size ≤ T_f := Nat.le_trans HB.size hlT
  replace HB := HB.trans (hb.mono HB.size)
  clear hb hlB hlT
  clear hfi hf1 hf3
  have HT1 : Hid (Below w.heap.size w w1 ∧ Fd f B_f T_f w1 ∧ w.heap.size ≤ T_f) := ⟨HB, HF_f, HL_f⟩
  clear HB HF_f HL_f
  go_wp2_with fail
  refine (K0.out w1).mono ?_
  rintro e w2 ⟨rfl, hb⟩
  have HT2 : Hid (Below w.heap.size w w2 ∧ Fd f B_f T_f w2 ∧ w.heap.size ≤ T_f) := ⟨HT1.out.1.trans (hb.mono HT1.out.1.size), HT1.out.2.1.below hb, HT1.out.2.2⟩
  have HTf : Hid (w.heap.size ≤ T_f) := HT2.out.2.2
  clear hb K0
  obtain ⟨P, hP⟩ : ∃ P, w2.heap.size = P := ⟨_, rfl⟩
  obtain ⟨W3, hW3⟩ : ∃ W3, w2.alloc (.cells #[.int .i64 (N : Nat), .int .i64 (K : Nat), .int .i64 (B : Nat)] 23) = W3 := ⟨_, rfl⟩
  have hT3 : Tc f B_f T_f P (N : Nat) (K : Nat) (B : Nat) w W3 := by
    have h := tc_new HT2.out.2.1 (N : Int) (K : Int) (B : Int)
    rw [hP, hW3] at h
    exact ⟨⟨h.tw.fd, (But.of_below HT2.out.1).trans h.tw.but⟩, h.cb, h.nT⟩
  have HPlx : Hid (∀ W, Tc f B_f T_f P (N : Nat) (K : Nat) (B : Nat) w W → Tl W T_f qx lx cx xsx) := fun W hW => (⟨HSx.out.1, HSx.out.2, HSx.out.1.off HT2.out.2.2⟩ : Tl w T_f qx lx cx xsx).but hW.tw.but
  have HT3 : Hid (Tc f B_f T_f P (N : Nat) (K : Nat) (B : Nat) w W3) := hT3
  clear HT1 HT2
  have KM : Hid (∀ W, Tc f B_f T_f P (N : Nat) (K : Nat) (B : Nat) w W → Calls Tryz.prog 11 #[.agg #[.int .i64 (N : Nat), .int .i64 (K : Nat), .int .i64 (B : Nat)], .slice qx lx cx] W fun e w' => ∃ q c, e = .returned (.slice q K c) ∧ Tl w' T_f q K c ms ∧ Tc f B_f T_f P (N : Nat) (K : Nat) (B : Nat) w w' ∧ But (· = T_f) W w') := fun W hW => by
    have := klmsg f B_f T_f P N K B N B w qx lx cx K xsx (by have := HM.out.1.n; have := HM.out.2.2.1; omega) W hW (HPlx.out W hW)
    rw [HM.out.2.2.2.1] at this
    exact this
  have KE : Hid (∀ q c W, Tc f B_f T_f P (N : Nat) (K : Nat) (B : Nat) w W → Tl W T_f q K c ms → Calls Tryz.prog 14 #[.pointer (some ⟨B_f, 0, none⟩), .agg #[.int .i64 (N : Nat), .int .i64 (K : Nat), .int .i64 (B : Nat)], .slice q K c] W fun e w' => ∃ g cg, e = .returned (.tuple #[.slice (some ⟨g, 0, none⟩) N cg, .int .u16 0]) ∧ Tc f B_f T_f P (N : Nat) (K : Nat) (B : Nat) w w' ∧ Hid (Ow w' W.heap.size (.slice (some ⟨g, 0, none⟩) N cg) ws ∧ W.heap.size ≤ g ∧ ¬ g = T_f ∧ ¬ B_f = g ∧ ¬ P = g ∧ w.heap.size ≤ g)) := fun q c W hW hs => by
    refine (een_u f B_f T_f N K B q K c ms ws 0 HE.out hs.le W hW.tw.fd hs.bs hs.off).mono ?_
    rintro e w' ⟨v, he, hO, hF, hb⟩
    have hwl := HM.out.2.2.2.2.2.2.1.word.1
    obtain ⟨g, cg, rfl, hgb⟩ : ∃ g cg, v = .slice (some ⟨g, 0, none⟩) N cg ∧ W.heap.size ≤ g := by
      rcases hO.shape with ⟨_, h0⟩ | ⟨g, cap, e, h1, _⟩
      · rw [h0] at hwl
        have h3 : 0 = N := hwl
        have := HM.out.2.2.2.2.2.2.2.1; omega
      · rw [hwl] at e; exact ⟨g, cap, e, h1⟩
    have h1 := hW.lt
    have h2 := hW.tw.fd.blt
    have h3 := hW.cb.blt
    have h4 := hW.size
    exact ⟨g, cg, he, hW.next hF hb, hO, hgb, by omega, by omega, by omega, by omega⟩
  have hT0 := hT3.drew
  have hC := hT3.cb
  clear hT3
  have u0 := (hC).c0
  have u1 := (hC).c1
  have u2 := (hC).c2
  clear hC
  go_wp2
  go_region_held3 (fun w' => w'.cell? ⟨P, 0, none⟩ = some (.int .i64 (N : Nat)) ∧ w'.cell? ⟨P, 1, none⟩ = some (.int .i64 (K : Nat)) ∧ w'.cell? ⟨P, 2, none⟩ = some (.int .i64 (B : Nat)))
    (first | (with_reducible exact ⟨hT2.cb.c0, hT2.cb.c1, hT2.cb.c2⟩) | (with_reducible exact ⟨hT1.cb.c0, hT1.cb.c1, hT1.cb.c2⟩) | (with_reducible exact ⟨hT0.cb.c0, hT0.cb.c1, hT0.cb.c2⟩))
    (first
      | (go_at_call 11; with_reducible refine (KM.out _ hT0).mono ?_; rintro e w4 ⟨q4, c4, rfl, l4, hT1, -⟩)
      | (go_at_call 14; with_reducible refine (KE.out _ _ _ hT1 l4).mono ?_; rintro e w5 ⟨g, cg, rfl, hT2, H5⟩))
  clear u0 u1 u2
  have HT5 : Hid (Tc f B_f T_f P (N : Nat) (K : Nat) (B : Nat) w w5) := hT2
  obtain ⟨hca, hfa⟩ := H5.out.1.at HM.out.2.2.2.2.2.2.1.word.1.symm i HM.out.2.2.2.2.2.2.2.1
  have hbw := HM.out.2.2.2.2.2.2.1.byt
  have hyl := hbw i
  have hob := Cd.not_isW (x := x) (v := ws) (u := ws.set i (ws.getD i 0 ^^^ x)) HM.out.2.2.2.2.2.2.1.word HM.out.2.2.2.2.2.2.2.2.1 HM.out.2.2.2.2.2.2.2.1 HM.out.2.2.2.2.2.2.2.2.2
  obtain ⟨y, hy⟩ : ∃ y, ws.getD i 0 = y := ⟨_, rfl⟩
  rw [hy] at hca hob hyl
  have hxo := u8_xor_nat y x hyl HM.out.2.2.2.2.2.2.2.2.2
  obtain ⟨W6, hW6⟩ : ∃ W6, w5.setCell ⟨g, i, none⟩ (.int .u8 ((y ^^^ x : Nat) : Int)) = W6 := ⟨_, rfl⟩
  have hbt : But (· = g) w5 W6 := hW6 ▸ (But.refl (· = g) w5).setCell (p := ⟨g, i, none⟩) (.inl rfl) _
  have hO6 : Ow W6 w4.heap.size (.slice (some ⟨g, 0, none⟩) N cg) (ws.set i (y ^^^ x)) := by rw [← hW6]; exact H5.out.1.set HM.out.2.2.2.2.2.2.1.word.1.symm i (y ^^^ x)
  have hbset : Byt (ws.set i (y ^^^ x)) := Mx.byt_set hbw i _ (Gf.xor_lt8 hyl HM.out.2.2.2.2.2.2.2.2.2)
  have hT6 : Tc f B_f T_f P (N : Nat) (K : Nat) (B : Nat) w W6 := hT2.past hbt H5.out.2.2.2.2.2 H5.out.2.2.2.1 (fun e => H5.out.2.2.1 e.symm) H5.out.2.2.2.2.1
  obtain ⟨qb, cb, eb, tb⟩ := hO6.tl (T := T_f) (n := N) hT1.lt hbset (by rw [List.length_set, HM.out.2.2.2.2.2.2.1.word.1])
  cases eb
  have hdb : decide (Cd.IsW N S B (ws.set i (y ^^^ x))) = ((x : Int) == 0) := by
    rw [Bool.eq_iff_iff, decide_eq_true_iff]
    constructor
    · intro hw
      by_cases h0 : x = 0
      · subst h0; rfl
      · exact absurd hw (hob h0 hbw rfl)
    · intro h0
      have h1 : x = 0 := by simpa using h0
      subst h1
      have e : ws.set i (y ^^^ 0) = ws := by rw [Nat.xor_zero, ← hy]; exact set_same _ _
      rw [e]; exact HM.out.2.2.2.2.2.2.1.word
  obtain ⟨z, hz⟩ : ∃ z : Bool, ((x : Int) == 0) = z := ⟨_, rfl⟩
  rw [hz] at hdb
  have K1 := kknown11 f B_f T_f P N K B w W6 hT6
  have KH : Hid (∀ W, Tc f B_f T_f P (N : Nat) (K : Nat) (B : Nat) w W → But (· = T_f) W6 W → _) := fun W hW hb => khas f B_f T_f P N K B S w (some ⟨g, 0, none⟩) N cg _ z HM.out.1 HM.out.2.1 hdb W hW (tb.but hb)
  have hC := HT5.out.cb
  clear hob hyl hbw hbt hO6 hbset hT6 hdb hT0 hT1 hT2 l4 hy KM KE HT5 H5 hP hW3 tb
  have u0 := (hC).c0
  have u1 := (hC).c1
  have u2 := (hC).c2
  clear hC
  go_wp2_with fail
  refine K1.mono ?_
  rintro e w7 ⟨rfl, hT7, hb7⟩
  clear u0 u1 u2
  clear K1 hW6 hca hfa hxo
  have KH7 := KH.out w7 hT7 hb7
  have hC := hT7.cb
  clear hT7 hb7 KH
  have u0 := (hC).c0
  have u1 := (hC).c1
  have u2 := (hC).c2
  clear hC
  go_wp2_with fail
  refine KH7.mono ?_
  rintro e w8 ⟨rfl, hT8, -⟩
  clear u0 u1 u2
  clear KH7
  have HZ : Hid (Below w.heap.size w w8) := hT8.tw.but.below (Nat.le_refl _) (by rintro k rfl; exact HTf.out)
  clear hT8
  cases z
  all_goals
    go_wp2
    go_ret
    exact ⟨rfl, HZ.out⟩
theorem own : ownKnob Tryz.prog.godebug = none := by kernel_rfl
theorem laidOut : laidOutB Tryz.prog = true := by kernel_rfl
set_option maxRecDepth 100000 in
theorem lifted (os : Os) (started : os.Started) (H : Type) (enc : TypeId × Value → H) :
    ReturnsInHanded {} Tryz.checked os 6 .any (Rows.encodeOnlySpec.pre6 enc Tryz.prog Tryz.f6 Rows.encodeOnlyRow.domain false) (Rows.encodeOnlySpec.post enc Tryz.prog Tryz.f6 false true false false) := by
  refine returnsInHanded_of_change_sized (C := Tryz.checked) own started (by kernel_rfl) Tryz.func6
    (ChangeSpec.witness6 (enc := enc) (C := Tryz.checked) false ⟨#[], #[.int .u8 0, .int .u8 0, .int .u8 0, .int .u8 0, .slice none 0 0, .int .u8 0, .int .u8 0], []⟩ 8 (by kernel_rfl) (by kernel_rfl) (by kernel_rfl) (by kernel_rfl)) ?_
  intro W base args ds gs before hval0 hW _ hz _
  have hval : ∀ (j : Nat) t v, Tryz.f6.params[j]? = some t → args[j]? = some v → Value.okWide Tryz.prog W .any base t v := hval0
  have hW' := hW
  obtain ⟨p, q, hA0, hV, rfl, _, _⟩ := hW
  have hA : DataW.TrodAll enc Tryz.prog W 0 (fun _ => true) true Tryz.f6.params.toList args.toList ds p := hA0
  rw [Tryz.params6] at hA hval
  obtain ⟨v0, vs0, d0, ds0, p0, q0, hargs, rfl, rfl, h0, r0⟩ := trodAll_cons hA
  obtain ⟨v1, vs1, d1, ds1, p1, q1, rfl, rfl, rfl, h1, r1⟩ := trodAll_cons r0
  obtain ⟨v2, vs2, d2, ds2, p2, q2, rfl, rfl, rfl, h2, r2⟩ := trodAll_cons r1
  obtain ⟨v3, vs3, d3, ds3, p3, q3, rfl, rfl, rfl, h3, r3⟩ := trodAll_cons r2
  obtain ⟨v4, vs4, d4, ds4, p4, q4, rfl, rfl, rfl, h4, r4⟩ := trodAll_cons r3
  obtain ⟨v5, vs5, d5, ds5, p5, q5, rfl, rfl, rfl, h5, r5⟩ := trodAll_cons r4
  obtain ⟨v6, vs6, d6, ds6, p6, q6, rfl, rfl, rfl, h6, r6⟩ := trodAll_cons r5
  obtain ⟨rfl, rfl, rfl⟩ := trodAll_nil r6
  obtain rfl : args = #[v0, v1, v2, v3, v4, v5, v6] := by cases args; simp_all
  obtain ⟨rfl, rfl⟩ := trodVars_none hV
  obtain ⟨a0, rfl, rfl, rfl, w0⟩ := open_int Tryz.underlying5 (hval 0 5 v0 rfl rfl) h0
  obtain ⟨n0, b0, rfl⟩ := nat_of_u8 w0
  obtain ⟨a1, rfl, rfl, rfl, w1⟩ := open_int Tryz.underlying5 (hval 1 5 v1 rfl rfl) h1
  obtain ⟨n1, b1, rfl⟩ := nat_of_u8 w1
  obtain ⟨a2, rfl, rfl, rfl, w2⟩ := open_int Tryz.underlying5 (hval 2 5 v2 rfl rfl) h2
  obtain ⟨n2, b2, rfl⟩ := nat_of_u8 w2
  obtain ⟨a3, rfl, rfl, rfl, w3⟩ := open_int Tryz.underlying5 (hval 3 5 v3 rfl rfl) h3
  obtain ⟨n3, b3, rfl⟩ := nat_of_u8 w3
  have k4 := h4
  obtain ⟨q4, n4, c4, xs4, rfl, w4, m4⟩ := open_bytes_sz Tryz.underlying24 Tryz.underlying5 (by kernel_rfl) (hval 4 24 v4 rfl rfl) h4
  have y4 : n4 ≤ c4 ∧ c4 ≤ 140737488351232 := ⟨m4.1, m4.2 _ fun el sp hd => by have := sized_slice (j := 4) (t := 24) (e := 5) (elems := el) (spare := sp) hz (by kernel_rfl) (by first | (rw [← hd]; done) | (rw [← hd]; rfl)) Tryz.underlying24; have hbe : Tryz.checked.prog.bytesOf 5 = 1 := (by kernel_rfl); have hre : reachBytes = 140737488351232 := rfl; rw [hbe, hre] at this; omega⟩
  obtain ⟨a5, rfl, rfl, rfl, w5⟩ := open_int Tryz.underlying5 (hval 5 5 v5 rfl rfl) h5
  obtain ⟨n5, b5, rfl⟩ := nat_of_u8 w5
  obtain ⟨a6, rfl, rfl, rfl, w6⟩ := open_int Tryz.underlying5 (hval 6 5 v6 rfl rfl) h6
  obtain ⟨n6, b6, rfl⟩ := nat_of_u8 w6
  clear hA0 hval0
  simp only [List.append_nil] at hW'
  refine (walk (w := W) n0 n1 n2 n3 q4 n4 c4 xs4 n5 n6 b0 b1 b2 b3 w4 y4 b5 b6).mono fun e W' ⟨he, bel⟩ => ?_
  subst he
  exact ⟨_, rfl, _, _, _, [], _, [], hW', trodAll_mk1 (shut_bool Tryz.underlying4 _), (trodAll_cons_mk (shut_int Tryz.underlying5 w0) (trodAll_cons_mk (shut_int Tryz.underlying5 w1) (trodAll_cons_mk (shut_int Tryz.underlying5 w2) (trodAll_cons_mk (shut_int Tryz.underlying5 w3) (trodAll_cons_mk (shut_same laidOut (by kernel_rfl) (of_decide_eq_true (by kernel_rfl)) k4 bel) (trodAll_cons_mk (shut_int Tryz.underlying5 w5) (trodAll_cons_mk (shut_int Tryz.underlying5 w6) trodAll_mk0))))))), rfl, bel.frame _, fun h => by cases h⟩
theorem over : Rows.encodeOnlyRow.holds Tryz.pinned (OpenSpec.ofChange Rows.encodeOnlySpec) :=
  OpenClaim.holds_of_wide 6 Tryz.f6 rfl rfl rfl rfl rfl rfl rfl ⟨rfl, rfl, rfl, rfl, rfl⟩ rfl rfl rfl rfl rfl (by kernel_rfl) Tryz.func6 (by kernel_rfl)
    (of_decide_eq_true (by kernel_rfl)) (by unfold Func.isWrapper; first | (rw [if_pos (by decide +kernel)]; kernel_rfl) | (rw [if_neg (by decide +kernel)]; exact ⟨rfl, rfl⟩))
    (fun os started H enc _ => lifted os started H enc)
theorem proved : Rows.EncodeOnlySaid := over
#print axioms proved
end Go.Proofs.YtagkpjbadmodbaaGreat.encodeOnly
