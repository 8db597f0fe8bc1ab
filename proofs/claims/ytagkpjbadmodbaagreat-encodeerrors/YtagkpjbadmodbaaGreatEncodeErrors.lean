/- EncodeErrors holds for every input: a code that is none is told first, then a length that is another one; without a field there is no code. No conditions. -/
import Derived.Test.YtagkpjbadmodbaaGreatRows
import Derived.Test.YtagkpjbadmodbaaGreatMB
import Derived.Test.YtagkpjbadmodbaaGreatOH
namespace Go.Proofs.YtagkpjbadmodbaaGreat.encodeErrors
open Go.ChangeShapes Go.WideShapes Go.ChangeAt Go.RowKit
open Pol (IsN Dg ofL Byt)

/-- A world in which both codes' boxes stand. -/
structure TB (P Q : Nat) (N K B X Y Z : Int) (w W : World) : Prop where
  be : Below w.heap.size w W
  c : Cb W P N K B
  d : Cb W Q X Y Z
theorem TB.below {P Q : Nat} {N K B X Y Z : Int} {w W W' : World} (h : TB P Q N K B X Y Z w W) (hb : Below W.heap.size W W') : TB P Q N K B X Y Z w W' := ⟨h.be.trans (hb.mono h.be.size), h.c.below hb, h.d.below hb⟩

set_option maxRecDepth 100000 in
set_option maxHeartbeats 8000000 in
theorem walk (n k b : Nat) (q : Option Addr) (l c : Nat) (xs : List Nat) (m : Nat) (w : World) (hn : n < 256) (hk : k < 256) (hb : b < 256) (hs : Bs w q l xs) (hc : l ≤ c ∧ c ≤ 140737488351232) (hm : m < 256) :
    Calls Tryz.prog 7 #[.int .u8 n, .int .u8 k, .int .u8 b, .slice q l c, .int .u8 m] w fun e w' => e = .returned (.bool true) ∧ Below w.heap.size w w' := by
  by_cases hl : 100 < l
  · have hl1 : (100 : Int) < (l : Int) := by omega
    clear hn hk hb hs hc hm hl
    go_enter Tryz.func7, Tryz.ntmps7
    go_wp2_with fail
    refine (known11_calls w).mono ?_
    rintro e w1 ⟨rfl, hb⟩
    go_wp2
    go_ret
    exact ⟨rfl, hb⟩
  have hl1 : ((100 : Int) < (l : Int)) = False := eq_false (by omega)
  have hl2 : (100 < l) = False := eq_false hl
  have hK0 := lcode_calls n k b hn hk hb w
  have hcod := ck_cod n k b
  have hle := ckN_le n k
  obtain ⟨N, hN⟩ : ∃ N, ckN n k = N := ⟨_, rfl⟩
  obtain ⟨K, hK⟩ : ∃ K, ckK n k = K := ⟨_, rfl⟩
  obtain ⟨B, hB⟩ : ∃ B, ckB b = B := ⟨_, rfl⟩
  rw [hN, hK, hB] at hK0 hcod
  rw [hN] at hle
  obtain ⟨K1, hK1⟩ : ∃ K1, K + 1 = K1 := ⟨_, rfl⟩
  obtain ⟨N1, hN1⟩ : ∃ N1, N + 1 = N1 := ⟨_, rfl⟩
  obtain ⟨KM, hKM⟩ : ∃ KM, K1 + m = KM := ⟨_, rfl⟩
  obtain ⟨NM, hNM⟩ : ∃ NM, N1 + m = NM := ⟨_, rfl⟩
  have hKN := hcod.n
  have HM : Hid (Cod N K B ∧ KM ≤ 1000 ∧ NM ≤ 1000 ∧ K < KM ∧ N < NM) := ⟨hcod, by omega, by omega, by omega, by omega⟩
  have hK1i : (K : Int) + 1 = (K1 : Int) := by omega
  have hN1i : (N : Int) + 1 = (N1 : Int) := by omega
  have hKMi : (K1 : Int) + (m : Int) = (KM : Int) := by omega
  have hNMi : (N1 : Int) + (m : Int) = (NM : Int) := by omega
  have hwK := wrap_nat K1 (by omega)
  have hwN := wrap_nat N1 (by omega)
  have hwKM := wrap_nat KM (by omega)
  have hwNM := wrap_nat NM (by omega)
  have hwm := wrap_nat m (by omega)
  have hmkK := make_bytes KM (by omega)
  have hmkN := make_bytes NM (by omega)
  have HS : Hid (Bs w q l xs ∧ l ≤ c) := ⟨hs, hc.1⟩
  clear hN hK hB hcod hle hn hk hb hs hc hm hl hKN hK1 hN1 hKM hNM
  go_enter Tryz.func7, Tryz.ntmps7
  go_wp2_with fail
  refine hK0.mono ?_
  rintro e w1 ⟨rfl, hb⟩
  clear hK0
  have H1 : Hid (Below w.heap.size w w1) := hb
  clear hb
  go_wp2_with fail
  obtain ⟨P, hP⟩ : ∃ P, w1.heap.size = P := ⟨_, rfl⟩
  obtain ⟨W2, hW2⟩ : ∃ W2, (w1.alloc (.cells #[.int .i64 (N : Nat), .int .i64 (K : Nat), .int .i64 (B : Nat)] 23)).alloc (.cells #[.int .i64 (N : Nat), .int .i64 (N : Nat), .int .i64 (B : Nat)] 23) = W2 := ⟨_, rfl⟩
  have hT2 : TB P (P + 1) (N : Nat) (K : Nat) (B : Nat) (N : Nat) (N : Nat) (B : Nat) w W2 := by
    obtain ⟨V, hV⟩ : ∃ V, w1.alloc (.cells #[.int .i64 (N : Nat), .int .i64 (K : Nat), .int .i64 (B : Nat)] 23) = V := ⟨_, rfl⟩
    have h1 := cb_new w1 (N : Int) (K : Int) (B : Int)
    have h2 := cb_new V (N : Int) (N : Int) (B : Int)
    rw [hV] at h1 hW2
    have hv : V.heap.size = P + 1 := by rw [← hV, ← hP]; simp
    rw [hW2, hv] at h2
    have hb1 : Below w1.heap.size w1 V := hV ▸ (Below.refl _ w1).alloc (Nat.le_refl _) _
    have hb2 : Below V.heap.size V W2 := hW2 ▸ (Below.refl _ V).alloc (Nat.le_refl _) _
    have hb3 := H1.out.trans (hb1.mono H1.out.size)
    exact ⟨hb3.trans (hb2.mono hb3.size), (hP ▸ h1).below hb2, h2⟩
  have K0 := fof_calls 1 (by decide) (by decide) W2
  have HXs : Hid (∀ W, TB P (P + 1) (N : Nat) (K : Nat) (B : Nat) (N : Nat) (N : Nat) (B : Nat) w W → Bs W q l xs) := fun W hW => HS.out.1.below hW.be
  have hno : ∀ P : Option Addr, (P.isSome && cdB (N : Int) (N : Int) (B : Int)) = false := fun P => by
    have : cdB (N : Int) (N : Int) (B : Int) = false := by simp [cdB]
    rw [this, Bool.and_false]
  have hnb : cdB (N : Int) (N : Int) (B : Int) = false := by simp [cdB]
  have KA : Hid (∀ Bf W, TB P (P + 1) (N : Nat) (K : Nat) (B : Nat) (N : Nat) (N : Nat) (B : Nat) w W → Calls Tryz.prog 14 #[.pointer (some ⟨Bf, 0, none⟩), .agg #[.int .i64 (N : Nat), .int .i64 (N : Nat), .int .i64 (B : Nat)], .slice q l c] W fun e w' => e = .returned (.tuple #[.slice none 0 0, .int .u16 10]) ∧ TB P (P + 1) (N : Nat) (K : Nat) (B : Nat) (N : Nat) (N : Nat) (B : Nat) w w') := fun Bf W hW =>
    (een_bad (some ⟨Bf, 0, none⟩) N N B q l c 10 (by rw [hno]; rfl) (by decide) W).mono fun _ _ ⟨e, hb⟩ => ⟨e, hW.below hb⟩
  have KB : Hid (∀ Bf W, TB P (P + 1) (N : Nat) (K : Nat) (B : Nat) (N : Nat) (N : Nat) (B : Nat) w W → Calls Tryz.prog 14 #[.pointer (some ⟨Bf, 0, none⟩), .agg #[.int .i64 (N : Nat), .int .i64 (K : Nat), .int .i64 (B : Nat)], .slice (some ⟨W.heap.size, 0, none⟩) KM KM] ((W.alloc (.cells (madeCells #[.int .u8 0] KM) 5)).drew) fun e w' => e = .returned (.tuple #[.slice none 0 0, .int .u16 12]) ∧ TB P (P + 1) (N : Nat) (K : Nat) (B : Nat) (N : Nat) (N : Nat) (B : Nat) w w') := fun Bf W hW =>
    (een_bad (some ⟨Bf, 0, none⟩) N K B _ KM KM 12 (by rw [HM.out.1.yes]; show (if (true = true) then (if (KM : Int) = K then 0 else 12) else 10) = 12; rw [if_pos rfl, if_neg (by have := HM.out; omega)]) (by decide) _).mono fun _ _ ⟨e, hb⟩ => ⟨e, (hW.below ((Below.refl _ W).alloc (Nat.le_refl _) _).drew).below hb⟩
  have KC : Hid (∀ W, TB P (P + 1) (N : Nat) (K : Nat) (B : Nat) (N : Nat) (N : Nat) (B : Nat) w W → Calls Tryz.prog 14 #[.pointer none, .agg #[.int .i64 (N : Nat), .int .i64 (K : Nat), .int .i64 (B : Nat)], .slice q l c] W fun e w' => e = .returned (.tuple #[.slice none 0 0, .int .u16 10]) ∧ TB P (P + 1) (N : Nat) (K : Nat) (B : Nat) (N : Nat) (N : Nat) (B : Nat) w w') := fun W hW =>
    (een_bad none N K B q l c 10 rfl (by decide) W).mono fun _ _ ⟨e, hb⟩ => ⟨e, hW.below hb⟩
  have KD : Hid (∀ W, TB P (P + 1) (N : Nat) (K : Nat) (B : Nat) (N : Nat) (N : Nat) (B : Nat) w W → Calls Tryz.prog 15 #[.agg #[.int .i64 (N : Nat), .int .i64 (N : Nat), .int .i64 (B : Nat)], .slice q l c] W fun e w' => e = .returned (.tuple #[.slice none 0 0, .int .u16 10]) ∧ TB P (P + 1) (N : Nat) (K : Nat) (B : Nat) (N : Nat) (N : Nat) (B : Nat) w w') := fun W hW =>
    (eme_bad N N B q l c 10 (by rw [hnb]; rfl) (by decide) W).mono fun _ _ ⟨e, hb⟩ => ⟨e, hW.below hb⟩
  have KE : Hid (∀ W, TB P (P + 1) (N : Nat) (K : Nat) (B : Nat) (N : Nat) (N : Nat) (B : Nat) w W → Calls Tryz.prog 15 #[.agg #[.int .i64 (N : Nat), .int .i64 (K : Nat), .int .i64 (B : Nat)], .slice (some ⟨W.heap.size, 0, none⟩) NM NM] ((W.alloc (.cells (madeCells #[.int .u8 0] NM) 5)).drew) fun e w' => e = .returned (.tuple #[.slice none 0 0, .int .u16 12]) ∧ TB P (P + 1) (N : Nat) (K : Nat) (B : Nat) (N : Nat) (N : Nat) (B : Nat) w w') := fun W hW =>
    (eme_bad N K B _ NM NM 12 (by rw [HM.out.1.yes, if_pos rfl, if_neg (by have := HM.out; omega)]) (by decide) _).mono fun _ _ ⟨e, hb⟩ => ⟨e, (hW.below ((Below.refl _ W).alloc (Nat.le_refl _) _).drew).below hb⟩
  have KK : Hid (∀ W, TB P (P + 1) (N : Nat) (K : Nat) (B : Nat) (N : Nat) (N : Nat) (B : Nat) w W → Calls Tryz.prog 8 #[] W fun e w' => e = .returned (.bool true) ∧ Below w.heap.size w w') := fun W hW =>
    (known11_calls W).mono fun _ _ ⟨e, hb⟩ => ⟨e, hW.be.trans (hb.mono hW.be.size)⟩
  have H2 : Hid (TB P (P + 1) (N : Nat) (K : Nat) (B : Nat) (N : Nat) (N : Nat) (B : Nat) w W2) := hT2
  clear hno hnb hT2
  rw [hP, hW2]
  refine K0.mono ?_
  rintro e w3 ⟨B_f, T_f, rfl, hF, hb, -, -⟩
  clear K0 hW2 hP hF
  have hT3 := H2.out.below hb
  clear hb
  have K3 := KA.out B_f w3 hT3
  have hD := hT3.d
  clear hT3
  have u0 := (hD).c0
  have u1 := (hD).c1
  have u2 := (hD).c2
  clear hD
  go_wp2_with fail
  refine K3.mono ?_
  rintro e w4 ⟨rfl, hT4⟩
  clear u0 u1 u2
  clear K3 KA
  have hT0 := hT4
  have hA : ∀ o, TB P (P + 1) (N : Nat) (K : Nat) (B : Nat) (N : Nat) (N : Nat) (B : Nat) w ((w4.alloc o).drew) := fun o => hT4.below ((Below.refl _ w4).alloc (Nat.le_refl _) o).drew
  have hC := hT4.c
  clear hT4
  have u0 := (hC).c0
  have u1 := (hC).c1
  have u2 := (hC).c2
  clear hC
  go_wp2
  go_region_held3 (fun w' => w'.cell? ⟨P, 0, none⟩ = some (.int .i64 (N : Nat)) ∧ w'.cell? ⟨P, 1, none⟩ = some (.int .i64 (K : Nat)) ∧ w'.cell? ⟨P, 2, none⟩ = some (.int .i64 (B : Nat)))
    (first | (with_reducible exact ⟨hT1.c.c0, hT1.c.c1, hT1.c.c2⟩) | (with_reducible exact ⟨cell_alloc_l _ hT1.c.c0, cell_alloc_l _ hT1.c.c1, cell_alloc_l _ hT1.c.c2⟩) | (with_reducible exact ⟨hT0.c.c0, hT0.c.c1, hT0.c.c2⟩) | (with_reducible exact ⟨hT0.c.drew.c0, hT0.c.drew.c1, hT0.c.drew.c2⟩) | (with_reducible exact ⟨(hA _).c.c0, (hA _).c.c1, (hA _).c.c2⟩))
    (first
      | (go_at_call 14; with_reducible refine (KB.out B_f _ hT0).mono ?_; rintro e w5 ⟨rfl, hT1⟩))
  clear u0 u1 u2
  have K5 := KC.out w5 hT1
  have hC := hT1.c
  clear hT0 hA hT1 KB KC
  have u0 := (hC).c0
  have u1 := (hC).c1
  have u2 := (hC).c2
  clear hC
  go_wp2_with fail
  refine K5.mono ?_
  rintro e w6 ⟨rfl, hT6⟩
  clear u0 u1 u2
  have K6 := KD.out w6 hT6
  have hD := hT6.d
  clear K5 hT6 KD
  have u0 := (hD).c0
  have u1 := (hD).c1
  have u2 := (hD).c2
  clear hD
  go_wp2_with fail
  refine K6.mono ?_
  rintro e w7 ⟨rfl, hT7⟩
  clear u0 u1 u2
  have hT0 := hT7
  have hA : ∀ o, TB P (P + 1) (N : Nat) (K : Nat) (B : Nat) (N : Nat) (N : Nat) (B : Nat) w ((w7.alloc o).drew) := fun o => hT7.below ((Below.refl _ w7).alloc (Nat.le_refl _) o).drew
  have hC := hT7.c
  clear hT7 K6
  have u0 := (hC).c0
  have u1 := (hC).c1
  have u2 := (hC).c2
  clear hC
  go_wp2
  go_region_held3 (fun w' => w'.cell? ⟨P, 0, none⟩ = some (.int .i64 (N : Nat)) ∧ w'.cell? ⟨P, 1, none⟩ = some (.int .i64 (K : Nat)) ∧ w'.cell? ⟨P, 2, none⟩ = some (.int .i64 (B : Nat)))
    (first | (with_reducible exact ⟨hT1.c.c0, hT1.c.c1, hT1.c.c2⟩) | (with_reducible exact ⟨cell_alloc_l _ hT1.c.c0, cell_alloc_l _ hT1.c.c1, cell_alloc_l _ hT1.c.c2⟩) | (with_reducible exact ⟨hT0.c.c0, hT0.c.c1, hT0.c.c2⟩) | (with_reducible exact ⟨hT0.c.drew.c0, hT0.c.drew.c1, hT0.c.drew.c2⟩) | (with_reducible exact ⟨(hA _).c.c0, (hA _).c.c1, (hA _).c.c2⟩))
    (first
      | (go_at_call 15; with_reducible refine (KE.out _ hT0).mono ?_; rintro e w8 ⟨rfl, hT1⟩))
  clear u0 u1 u2
  have K8 := KK.out w8 hT1
  clear hT0 hA hT1 KE KK
  go_wp2_with fail
  refine K8.mono ?_
  rintro e w9 ⟨rfl, hb⟩
  go_wp2
  go_ret
  exact ⟨rfl, hb⟩
theorem own : ownKnob Tryz.prog.godebug = none := by kernel_rfl
theorem laidOut : laidOutB Tryz.prog = true := by kernel_rfl
set_option maxRecDepth 100000 in
theorem lifted (os : Os) (started : os.Started) (H : Type) (enc : TypeId × Value → H) :
    ReturnsInHanded {} Tryz.checked os 7 .any (Rows.encodeErrorsSpec.pre6 enc Tryz.prog Tryz.f7 Rows.encodeErrorsRow.domain false) (Rows.encodeErrorsSpec.post enc Tryz.prog Tryz.f7 false true false false) := by
  refine returnsInHanded_of_change_sized (C := Tryz.checked) own started (by kernel_rfl) Tryz.func7
    (ChangeSpec.witness6 (enc := enc) (C := Tryz.checked) false ⟨#[], #[.int .u8 0, .int .u8 0, .int .u8 0, .slice none 0 0, .int .u8 0], []⟩ 8 (by kernel_rfl) (by kernel_rfl) (by kernel_rfl) (by kernel_rfl)) ?_
  intro W base args ds gs before hval0 hW _ hz _
  have hval : ∀ (j : Nat) t v, Tryz.f7.params[j]? = some t → args[j]? = some v → Value.okWide Tryz.prog W .any base t v := hval0
  have hW' := hW
  obtain ⟨p, q, hA0, hV, rfl, _, _⟩ := hW
  have hA : DataW.TrodAll enc Tryz.prog W 0 (fun _ => true) true Tryz.f7.params.toList args.toList ds p := hA0
  rw [Tryz.params7] at hA hval
  obtain ⟨v0, vs0, d0, ds0, p0, q0, hargs, rfl, rfl, h0, r0⟩ := trodAll_cons hA
  obtain ⟨v1, vs1, d1, ds1, p1, q1, rfl, rfl, rfl, h1, r1⟩ := trodAll_cons r0
  obtain ⟨v2, vs2, d2, ds2, p2, q2, rfl, rfl, rfl, h2, r2⟩ := trodAll_cons r1
  obtain ⟨v3, vs3, d3, ds3, p3, q3, rfl, rfl, rfl, h3, r3⟩ := trodAll_cons r2
  obtain ⟨v4, vs4, d4, ds4, p4, q4, rfl, rfl, rfl, h4, r4⟩ := trodAll_cons r3
  obtain ⟨rfl, rfl, rfl⟩ := trodAll_nil r4
  obtain rfl : args = #[v0, v1, v2, v3, v4] := by cases args; simp_all
  obtain ⟨rfl, rfl⟩ := trodVars_none hV
  obtain ⟨a0, rfl, rfl, rfl, w0⟩ := open_int Tryz.underlying5 (hval 0 5 v0 rfl rfl) h0
  obtain ⟨n0, b0, rfl⟩ := nat_of_u8 w0
  obtain ⟨a1, rfl, rfl, rfl, w1⟩ := open_int Tryz.underlying5 (hval 1 5 v1 rfl rfl) h1
  obtain ⟨n1, b1, rfl⟩ := nat_of_u8 w1
  obtain ⟨a2, rfl, rfl, rfl, w2⟩ := open_int Tryz.underlying5 (hval 2 5 v2 rfl rfl) h2
  obtain ⟨n2, b2, rfl⟩ := nat_of_u8 w2
  have k3 := h3
  obtain ⟨q3, n3, c3, xs3, rfl, w3, m3⟩ := open_bytes_sz Tryz.underlying24 Tryz.underlying5 (by kernel_rfl) (hval 3 24 v3 rfl rfl) h3
  have y3 : n3 ≤ c3 ∧ c3 ≤ 140737488351232 := ⟨m3.1, m3.2 _ fun el sp hd => by have := sized_slice (j := 3) (t := 24) (e := 5) (elems := el) (spare := sp) hz (by kernel_rfl) (by first | (rw [← hd]; done) | (rw [← hd]; rfl)) Tryz.underlying24; have hbe : Tryz.checked.prog.bytesOf 5 = 1 := (by kernel_rfl); have hre : reachBytes = 140737488351232 := rfl; rw [hbe, hre] at this; omega⟩
  obtain ⟨a4, rfl, rfl, rfl, w4⟩ := open_int Tryz.underlying5 (hval 4 5 v4 rfl rfl) h4
  obtain ⟨n4, b4, rfl⟩ := nat_of_u8 w4
  clear hA0 hval0
  simp only [List.append_nil] at hW'
  refine (walk (w := W) n0 n1 n2 q3 n3 c3 xs3 n4 b0 b1 b2 w3 y3 b4).mono fun e W' ⟨he, bel⟩ => ?_
  subst he
  exact ⟨_, rfl, _, _, _, [], _, [], hW', trodAll_mk1 (shut_bool Tryz.underlying4 _), (trodAll_cons_mk (shut_int Tryz.underlying5 w0) (trodAll_cons_mk (shut_int Tryz.underlying5 w1) (trodAll_cons_mk (shut_int Tryz.underlying5 w2) (trodAll_cons_mk (shut_same laidOut (by kernel_rfl) (of_decide_eq_true (by kernel_rfl)) k3 bel) (trodAll_cons_mk (shut_int Tryz.underlying5 w4) trodAll_mk0))))), rfl, bel.frame _, fun h => by cases h⟩
theorem over : Rows.encodeErrorsRow.holds Tryz.pinned (OpenSpec.ofChange Rows.encodeErrorsSpec) :=
  OpenClaim.holds_of_wide 7 Tryz.f7 rfl rfl rfl rfl rfl rfl rfl ⟨rfl, rfl, rfl, rfl, rfl⟩ rfl rfl rfl rfl rfl (by kernel_rfl) Tryz.func7 (by kernel_rfl)
    (of_decide_eq_true (by kernel_rfl)) (by unfold Func.isWrapper; first | (rw [if_pos (by decide +kernel)]; kernel_rfl) | (rw [if_neg (by decide +kernel)]; exact ⟨rfl, rfl⟩))
    (fun os started H enc _ => lifted os started H enc)
theorem proved : Rows.EncodeErrorsSaid := over
#print axioms proved
end Go.Proofs.YtagkpjbadmodbaaGreat.encodeErrors
