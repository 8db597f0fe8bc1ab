/- GaussNull holds for every input: what comes to nothing does, changes nothing, and there is as much of it as columns without a lead. No conditions. -/
import Derived.Test.YtnphdldcfdpflaaGreatRows
import Derived.Test.YtnphdldcfdpflaaGreatMB
import Derived.Test.YtnphdldcfdpflaaGreatKnown09
import Derived.Test.YtnphdldcfdpflaaGreatNG
import Derived.Test.YtnphdldcfdpflaaGreatNK
import Derived.Test.YtnphdldcfdpflaaGreatNE
import Derived.Test.YtnphdldcfdpflaaGreatNM
import Derived.Test.YtnphdldcfdpflaaGreatMO
namespace Go.Proofs.YtnphdldcfdpflaaGreat.gaussNull
open Go.ChangeShapes Go.WideShapes Go.ChangeAt Go.RowKit
open Mx (mx IsEch thL chL timesL nullL xrL)
open Pol (ofL Byt)
attribute [local go_sem ↓ high] builtin_ap
attribute [local go_sem] ap_sem

set_option maxRecDepth 100000 in
set_option maxHeartbeats 4000000 in
theorem walk (j : Nat) (q : Option Addr) (n c : Nat) (xs : List Nat) (q2 : Option Addr) (n2 c2 : Nat) (xs2 : List Nat) (k l b : Nat) (w : World) (hj : j < 256) (S_c : Bs w q n xs) (y_c : n ≤ c ∧ c ≤ 140737488351232) (S_v : Bs w q2 n2 xs2) (y_v : n2 ≤ c2 ∧ c2 ≤ 140737488351232) (hk : k < 256) (hl : l < 256) (hbt : b < 256) :
    Calls Tryz.prog 5 #[.int .u8 j, .slice q n c, .slice q2 n2 c2, .int .u8 k, .int .u8 l, .int .u8 b] w fun e w' => e = .returned (.bool true) ∧ Below w.heap.size w w' := by
  obtain ⟨g, hg⟩ : ∃ g : Nat, 1 + j % 3 = g := ⟨_, rfl⟩
  have hg1 : 1 ≤ g := by omega
  have hg3 : g ≤ 3 := by omega
  have hgi : (1 : Int) + (j : Int) % 3 = (g : Int) := by omega
  obtain ⟨R, hR⟩ : ∃ R : Nat, k % 7 = R := ⟨_, rfl⟩
  have hRi : (k : Int) % 7 = (R : Int) := by omega
  have hR5 : R ≤ 100 := by omega
  obtain ⟨C, hC⟩ : ∃ C : Nat, l % 7 = C := ⟨_, rfl⟩
  have hCi : (l : Int) % 7 = (C : Int) := by omega
  have hC5 : C ≤ 100 := by omega
  clear hg hR hC
  have HB : Below w.heap.size w w := Below.refl _ _
  have HW : Hid (wrap64 ((n : Int) + (n2 : Int)) = (n : Int) + (n2 : Int)) := by show _ = _; unfold wrap64; omega
  clear y_c y_v
  go_enter Tryz.func5, Tryz.ntmps5
  go_wp2_with fail
  refine (fof_calls g hg1 hg3 _).mono ?_
  rintro e w1 ⟨B_f, T_f, rfl, HF_f, hb, hlB, hlT⟩
  have HL_f : w.heap.size ≤ T_f := Nat.le_trans HB.size hlT
  have Q_c_f := S_c.off hlT
  have Q_v_f := S_v.off hlT
  replace HB := HB.trans (hb.mono HB.size)
  replace S_c := S_c.below hb
  replace S_v := S_v.below hb
  clear hb hlB hlT
  clear hgi
  by_cases hbig : 300 < n + n2
  · have hb1 : (300 : Int) < (n : Int) + (n2 : Int) := by omega
    have hs1 := HW.out
    go_wp2_with fail
    refine (known09_calls _).mono ?_
    rintro e w2 ⟨rfl, hb⟩
    replace HB := HB.trans (hb.mono HB.size)
    replace HF_f := HF_f.below hb
    replace S_c := S_c.below hb
    replace S_v := S_v.below hb
    clear hb
    go_wp2
    go_ret
    exact ⟨rfl, HB⟩
  · have hb1 : ((300 : Int) < (n : Int) + (n2 : Int)) = False := eq_false (by omega)
    have hn9 : n ≤ 1000000 := by omega
    have hn29 : n2 ≤ 1000000 := by omega
    clear hbig
    obtain ⟨s, hs⟩ : ∃ s, R * C = s := ⟨_, rfl⟩
    have HX : Hid (R * C = s ∧ Byt xs ∧ Byt xs2) := ⟨hs, S_c.byte, S_v.byte⟩
    clear hs
    go_wp2_with fail
    refine (lthin_calls R C n c b q xs hR5 hC5 hn9 hbt _ S_c).mono ?_
    rintro e w2 ⟨v, rfl, hO, hb⟩
    obtain ⟨q_x, c_x, rfl, S_x, C_x, hQ⟩ := hO.tell (n := s) (Mx.thL_byt HX.out.2.1 _ _ hbt) (by rw [Mx.thL_length]; exact HX.out.1)
    clear hO
    have Q_x_f := hQ _ HF_f.lt
    clear hQ
    replace HB := HB.trans (hb.mono HB.size)
    replace HF_f := HF_f.below hb
    replace S_c := S_c.below hb
    replace S_v := S_v.below hb
    clear hb
    clear S_c hb1 hRi hCi hn9
    obtain ⟨es, hes⟩ : ∃ es, thL xs R C b = es := ⟨_, rfl⟩
    rw [hes] at S_x
    clear hes
    obtain ⟨P_bx, hP_bx⟩ : ∃ P, w2.heap.size = P := ⟨_, rfl⟩
    obtain ⟨w3, hw3⟩ : ∃ W, w2.alloc (.cells #[.int .i64 (R : Nat), .int .i64 (C : Nat), .slice q_x s c_x] 24) = W := ⟨_, rfl⟩
    have hb : Below w2.heap.size w2 w3 := hw3 ▸ (Below.refl _ w2).alloc (Nat.le_refl _) _
    have N_bx_f : ¬ P_bx = T_f := by have := HF_f.lt; omega
    have M_bx : Mb w3 P_bx (.int .i64 (R : Nat)) (.int .i64 (C : Nat)) (.slice q_x s c_x) := by rw [← hP_bx, ← hw3]; exact mb_new w2 _ _ _
    replace HB := HB.trans (hb.mono HB.size)
    replace HF_f := HF_f.below hb
    replace S_v := S_v.below hb
    replace S_x := S_x.below hb
    clear hb
    obtain ⟨ws, L, hL⟩ := Mx.isEch_exists R C es
    obtain ⟨r, hr⟩ : ∃ r, L.length = r := ⟨_, rfl⟩
    obtain ⟨m, hm⟩ : ∃ m, (nullL C ws L).length = m := ⟨_, rfl⟩
    have hmr : m + r = C := by rw [← hm, ← hr]; exact Mx.nullL_length hL
    have HL : Hid (EchO (R : Int) (C : Int) s es R C ws L ∧ L.length = r ∧ (nullL C ws L).length = m ∧ ∀ v, v ∈ nullL C ws L → v.length = C ∧ Byt v ∧ timesL R C es v = List.replicate R 0) := ⟨.inl ⟨right_nat (by omega) (by omega) HX.out.1.symm, rfl, rfl, hL⟩, hr, hm, fun v hv => Mx.null_mem hL hv⟩
    clear hL hr hm
    have u_bx0 := M_bx.c0
    have u_bx1 := M_bx.c1
    have u_bx2 := M_bx.c2
    go_wp2_with fail
    refine (gnull_calls g B_f T_f (R : Int) (C : Int) q_x s c_x es R C ws L HL.out.1 (by omega) (by omega) (by omega) (by omega) C_x _ S_x HF_f Q_x_f).mono ?_
    rintro e w4 ⟨v_u, rfl, O_u, hF, hb⟩
    have E_u_f := HF_f.lt
    replace HB := HB.trans (hb.below HB.size (by rintro k rfl; exact HL_f))
    replace S_v := S_v.but hb Q_v_f
    replace S_x := S_x.but hb Q_x_f
    replace M_bx := M_bx.but hb N_bx_f
    clear HF_f hb
    have HF_f := hF
    clear hF
    clear hP_bx hw3 u_bx0 u_bx1 u_bx2
    have hby : ∀ i, i < (nullL C ws L).length → Byt ((nullL C ws L).getD i []) ∧ ((nullL C ws L).getD i []).length = C ∧ timesL R C es ((nullL C ws L).getD i []) = List.replicate R 0 := fun i hi => by
      have h := HL.out.2.2.2 _ (List.getElem_mem hi)
      rw [List.getD_eq_getElem?_getD, List.getElem?_eq_getElem hi]
      exact ⟨h.2.1, h.1, h.2.2⟩
    have HU : Hid (∀ i, i < m → Byt ((nullL C ws L).getD i []) ∧ ((nullL C ws L).getD i []).length = C ∧ timesL R C es ((nullL C ws L).getD i []) = List.replicate R 0) := fun i hi => hby i (by rw [HL.out.2.2.1]; exact hi)
    obtain ⟨q_u, c_u, rfl, C_u, -⟩ := OwL.tell O_u (fun i hi => (hby i hi).1) HL.out.2.2.1
    clear hby
    have u_bx0 := M_bx.c0
    have u_bx1 := M_bx.c1
    have u_bx2 := M_bx.c2
    go_wp2_with fail
    refine (lof_calls C 1 n2 c2 q2 xs2 hC5 (by decide) hn29 _ S_v).mono ?_
    rintro e w5 ⟨v, rfl, hO, hb⟩
    obtain ⟨q_y, c_y, rfl, S_y, C_y, hQ⟩ := hO.tell (n := C) (Mx.chL_byt HX.out.2.2 _) (by rw [Mx.chL_length, Nat.mul_one])
    clear hO
    have Q_y_f := hQ _ HF_f.lt
    clear hQ
    replace HB := HB.trans (hb.mono HB.size)
    replace HF_f := HF_f.below hb
    replace S_v := S_v.below hb
    replace S_x := S_x.below hb
    replace M_bx := M_bx.below hb
    replace O_u := O_u.below hb
    clear hb
    clear u_bx0 u_bx1 u_bx2
    clear S_v hn29
    obtain ⟨bs, hbs⟩ : ∃ bs, chL xs2 (C * 1) = bs := ⟨_, rfl⟩
    rw [hbs] at S_y
    have HY : Hid (Byt bs ∧ bs.length = C) := ⟨hbs ▸ Mx.chL_byt HX.out.2.2 _, S_y.len⟩
    clear hbs
    obtain ⟨P_by, hP_by⟩ : ∃ P, w5.heap.size = P := ⟨_, rfl⟩
    obtain ⟨w6, hw6⟩ : ∃ W, w5.alloc (.cells #[.int .i64 (C : Nat), .int .i64 1, .slice q_y C c_y] 24) = W := ⟨_, rfl⟩
    have hb : Below w5.heap.size w5 w6 := hw6 ▸ (Below.refl _ w5).alloc (Nat.le_refl _) _
    have N_by_f : ¬ P_by = T_f := by have := HF_f.lt; omega
    have M_by : Mb w6 P_by (.int .i64 (C : Nat)) (.int .i64 1) (.slice q_y C c_y) := by rw [← hP_by, ← hw6]; exact mb_new w5 _ _ _
    replace HB := HB.trans (hb.mono HB.size)
    replace HF_f := HF_f.below hb
    replace S_x := S_x.below hb
    replace S_y := S_y.below hb
    replace M_bx := M_bx.below hb
    replace O_u := O_u.below hb
    clear hb
    have u_bx0 := M_bx.c0
    have u_bx1 := M_bx.c1
    have u_bx2 := M_bx.c2
    have u_by0 := M_by.c0
    have u_by1 := M_by.c1
    have u_by2 := M_by.c2
    go_wp2_with fail
    refine (mtimes_calls g B_f T_f R C s c_x c_y q_x q_y es bs HX.out.1.symm C_x C_y (by omega) (by omega) _ HF_f S_x S_y Q_x_f Q_y_f).mono ?_
    rintro e w7 ⟨v, rfl, hO, hF, hb⟩
    obtain ⟨q_t, c_t, rfl, S_t, C_t, hQ⟩ := hO.tell (n := R) (Mx.timesL_byt _ _ _ _) (Mx.timesL_length _ _ _ _)
    clear hO
    have Q_t_f := hQ _ HF_f.lt
    clear hQ
    replace HB := HB.trans (hb.below HB.size (by rintro k rfl; exact HL_f))
    replace S_x := S_x.but hb Q_x_f
    replace S_y := S_y.but hb Q_y_f
    replace M_bx := M_bx.but hb N_bx_f
    replace M_by := M_by.but hb N_by_f
    replace O_u := O_u.but hb (fun k hk e => by have := E_u_f; omega)
    clear HF_f hb
    have HF_f := hF
    clear hF
    clear hP_by hw6 u_bx0 u_bx1 u_bx2 u_by0 u_by1 u_by2
    go_wp2
    have HA : Hid (∀ W', But (· = T_f) w7 W' → Below w.heap.size w W' ∧ Bs W' q_x s es ∧ Bs W' q_y C bs ∧ Bs W' q_t R (timesL R C es bs) ∧ Mb W' P_bx (.int .i64 (R : Nat)) (.int .i64 (C : Nat)) (.slice q_x s c_x) ∧ Mb W' P_by (.int .i64 (C : Nat)) (.int .i64 1) (.slice q_y C c_y)) := fun W' h => by
      refine ⟨HB.trans (h.below HB.size (by rintro k rfl; exact HL_f)), S_x.but h Q_x_f, S_y.but h Q_y_f, S_t.but h Q_t_f, M_bx.but h N_bx_f, M_by.but h N_by_f⟩
    have HQ : Hid (∀ i, i < m → ∃ a qi ci, q_u = some a ∧ C ≤ ci ∧ Off T_f C qi ∧ ∀ W', But (· = T_f) w7 W' → W'.cell? (a.add i) = some (.slice qi C ci) ∧ Bs W' qi C ((nullL C ws L).getD i [])) := fun i hi => by
      obtain ⟨q1, c1, e1, _, h1⟩ := OwL.tell O_u (fun i hi => (HU.out i (by rw [← HL.out.2.2.1]; exact hi)).1) HL.out.2.2.1
      obtain ⟨a, qi, mi, ci, e2, hlt, hge, h2, h3, h4, h5⟩ := h1 i hi
      injection e1 with e3
      have em : mi = C := h3.len.symm.trans (HU.out i hi).2.1
      subst em
      exact ⟨a, qi, ci, e3.trans e2, h4, h5 _ E_u_f, fun W' h => ⟨(h.cell (p := a.add i) (by rw [block_add]; exact hlt) (by rw [block_add]; have := E_u_f; omega)).trans h2, h3.but h (h5 _ E_u_f)⟩⟩
    have HF : Hid (Fd g B_f T_f w7) := HF_f
    clear HB HF_f S_x S_y S_t M_bx M_by O_u
    go_loopw [19] (fun i wr => ∃ z : Nat, z ≤ m ∧ i = .int .i64 (z : Int) ∧ But (· = T_f) w7 wr ∧ Fd g B_f T_f wr) (fun i _ => m - (intOf i).toNat)
    case atStart => exact ⟨0, by omega, rfl, But.refl _ _, HF.out⟩
    case round =>
      obtain ⟨z, hz, rfl, hB, hF⟩ := hrel
      by_cases hzm : z < m
      · have hzi : (z : Int) < (m : Int) := by omega
        obtain ⟨a, qi, ci, eqa, hci, hoff, HP⟩ := HQ.out z hzm
        subst eqa
        obtain ⟨us, hus⟩ : ∃ us, (nullL C ws L).getD z [] = us := ⟨_, rfl⟩
        have HUS := HU.out z hzm
        rw [hus] at HP HUS
        have HV : Hid (Byt us ∧ us.length = C ∧ timesL R C es us = List.replicate R 0) := HUS
        have HPP : Hid (∀ W', But (· = T_f) w7 W' → W'.cell? (a.add z) = some (.slice qi C ci) ∧ Bs W' qi C us) := HP
        clear HUS HP hus
        have KT : Hid (∀ W', But (· = T_f) w7 W' → Fd g B_f T_f W' → Calls Tryz.prog 16 #[.pointer (some ⟨B_f, 0, none⟩), .agg #[.int .i64 (R : Nat), .int .i64 (C : Nat), .slice q_x s c_x], .slice qi C ci] W' fun e w' => ∃ v, e = .returned (.tuple #[v, .bool true]) ∧ Ow w' W'.heap.size v (List.replicate R 0) ∧ Fd g B_f T_f w' ∧ But (· = T_f) W' w') := fun W' k1 k2 => by
          have h := mtimes_calls g B_f T_f R C s c_x ci q_x qi es us HX.out.1.symm C_x hci (by omega) (by omega) W' k2 (HA.out _ k1).2.1 (HPP.out _ k1).2 Q_x_f hoff
          rw [HV.out.2.2] at h
          exact h
        have HM : Hid (∀ W', But (· = T_f) w7 W' → W'.cell? ⟨P_bx, 0, none⟩ = some (.int .i64 (R : Nat)) ∧ W'.cell? ⟨P_bx, 1, none⟩ = some (.int .i64 (C : Nat)) ∧ W'.cell? ⟨P_bx, 2, none⟩ = some (.slice q_x s c_x) ∧ W'.cell? (a.add z) = some (.slice qi C ci)) := fun W' h => ⟨(HA.out _ h).2.2.2.2.1.c0, (HA.out _ h).2.2.2.2.1.c1, (HA.out _ h).2.2.2.2.1.c2, (HPP.out _ h).1⟩
        obtain ⟨t1, t2, t3, t4⟩ := HM.out _ hB
        have HBt : But (· = T_f) w7 wr.drew := hB.drew
        have HFd : Fd g B_f T_f wr.drew := hF.drew
        have hz0 : (0 : Int) ≤ (z : Int) := by omega
        clear hB hF
        go_wp2
        go_region_held3 (fun w' => w'.cell? ⟨P_bx, 0, none⟩ = some (.int .i64 (R : Nat)) ∧ w'.cell? ⟨P_bx, 1, none⟩ = some (.int .i64 (C : Nat)) ∧ w'.cell? ⟨P_bx, 2, none⟩ = some (.slice q_x s c_x) ∧ w'.cell? (a.add z) = some (.slice qi C ci))
          (first | exact HM.out _ HBt | (go_keep; done))
          (first
            | (go_at_call 16; with_reducible refine (KT.out _ HBt HFd).mono ?_; rintro e w1 ⟨v1, rfl, hO1, hF, hb⟩; replace HBt := HBt.trans hb; clear HFd hb; have HFd := hF; clear hF))
        obtain ⟨q1, c1, rfl, S_1, C_1, hQ1⟩ := hO1.tell (n := R) (fun i => by simp [List.getD_eq_getElem?_getD, List.getElem?_replicate]; split <;> simp) (by simp)
        clear hO1 t1 t2 t3 t4 hQ1
        obtain ⟨t1, t2, t3, t4⟩ := HM.out _ HBt
        have hmk := make_bytes R (by omega)
        have hb0 : Below w1.heap.size w1 (w1.alloc (.cells (madeCells #[.int .u8 0] R) 5)) := (Below.refl _ _).alloc (Nat.le_refl _) _
        have KS := same_any q1 (some ⟨w1.heap.size, 0, none⟩) R R c1 R (List.replicate R 0) (List.replicate R 0) true (by simp) _ (S_1.below hb0) (bs_mk w1 R (by omega))
        go_wp2_with fail
        refine KS.mono ?_
        rintro e w2 ⟨rfl, hb2⟩
        have h12 : Below w1.heap.size w1 w2 := hb0.trans (hb2.mono hb0.size)
        replace HBt := HBt.trans (But.of_below (S := (· = T_f)) h12)
        replace HFd := HFd.below h12
        clear hb0 hb2 h12 KS hmk S_1 t1 t2 t3 t4
        go_wp2
        go_loopw [22, 23] (fun v i wr => ∃ y : Nat, y ≤ C ∧ i = .int .i64 (y : Int) ∧ Ow wr w2.heap.size v (xrL y us bs) ∧ Below w2.heap.size w2 wr) (fun _ i _ => C - (intOf i).toNat)
        case atStart => exact ⟨0, by omega, rfl, ow_nil _ _, Below.refl _ _⟩
        case round =>
          obtain ⟨y, hy, rfl, hO, hb⟩ := hrel
          have hBq : But (· = T_f) w7 wr := HBt.trans (But.of_below hb)
          have hFq := HFd.below hb
          by_cases hyC : y < C
          · have hyi : (y : Int) < (C : Int) := by omega
            obtain ⟨a2, e2, la2, hc2⟩ := (HPP.out _ hBq).2.cell y hyC
            obtain ⟨a3, e3, la3, hc3⟩ := (HA.out _ hBq).2.2.1.cell y hyC
            subst e2 e3
            obtain ⟨x1, hx1⟩ : ∃ x, us.getD y 0 = x := ⟨_, rfl⟩
            obtain ⟨x2, hx2⟩ : ∃ x, bs.getD y 0 = x := ⟨_, rfl⟩
            have b1 : x1 < 256 := hx1 ▸ HV.out.1 y
            have b2 : x2 < 256 := hx2 ▸ HY.out.1 y
            have hxo := u8_xor_nat x1 x2 b1 b2
            have HT := Mx.xrL_succ y us bs
            rw [hx1, hx2] at HT
            obtain ⟨x3, hx3⟩ : ∃ x, x1 ^^^ x2 = x := ⟨_, rfl⟩
            rw [hx3] at hxo HT
            have HC : Hid (∀ W', But (· = T_f) w7 W' → W'.cell? (a.add z) = some (.slice (some a2) C ci) ∧ W'.cell? ⟨P_by, 2, none⟩ = some (.slice (some a3) C c_y) ∧ W'.cell? (a2.add y) = some (.int .u8 (x1 : Nat)) ∧ W'.cell? (a3.add y) = some (.int .u8 (x2 : Nat))) := fun W' h => by
              obtain ⟨b1, eb1, _, k1⟩ := (HPP.out _ h).2.cell y hyC
              obtain ⟨b2, eb2, _, k2⟩ := (HA.out _ h).2.2.1.cell y hyC
              cases eb1
              cases eb2
              rw [hx1] at k1
              rw [hx2] at k2
              exact ⟨(HPP.out _ h).1, (HA.out _ h).2.2.2.2.2.c2, k1, k2⟩
            obtain ⟨vs, hvs⟩ : ∃ vs, xrL y us bs = vs := ⟨_, rfl⟩
            rw [hvs] at hO HT
            have HT2 : Hid (xrL (y + 1) us bs = vs ++ [x3]) := HT
            have hlu : vs.length ≤ 1000000000 := by rw [← hvs, Mx.xrL_length]; omega
            obtain ⟨g9, cg, W', hap, hO', hbw⟩ := run_append_one wr.drew w2.heap.size _ vs x3 hO.drew hlu hb.size
            obtain ⟨L9, hL9⟩ : ∃ L9, (vs ++ [x3]).length = L9 := ⟨_, rfl⟩
            rw [hL9] at hap hO'
            rw [show wr.drew.heap.size = wr.heap.size from rfl, show wr.drew.alloc (.cells #[.int .u8 (x3 : Nat)] 5) = (wr.alloc (.cells #[.int .u8 (x3 : Nat)] 5)).drew from rfl] at hap
            have ha1 := ap_ok hap
            have ha2 := ap_v hap
            have ha3 := ap_w hap
            have hbn : Below w2.heap.size w2 W' := hb.drew.trans (hbw _ (Nat.le_refl _))
            have HZ : Hid (Ow W' w2.heap.size (.slice (some ⟨g9, 0, none⟩) L9 cg) (vs ++ [x3]) ∧ Below w2.heap.size w2 W') := ⟨hO', hbn⟩
            have HC0 : Hid (But (· = T_f) w7 wr.drew) := hBq.drew
            have HC1 : Hid (But (· = T_f) w7 (wr.alloc (.cells #[.int .u8 (x3 : Nat)] 5)).drew) := (hBq.alloc _).drew
            have HC2 : Hid (But (· = T_f) w7 W') := HBt.trans (But.of_below hbn)
            obtain ⟨t1, t2, t3, t4⟩ := HC.out _ hBq
            clear hO' hbw hap hL9 hlu hvs HT hx1 hx2 hx3 la2 la3 hO hb hbn hBq hFq hc2 hc3
            go_wp2
            go_region_held3 (fun w' => w'.cell? (a.add z) = some (.slice (some a2) C ci) ∧ w'.cell? ⟨P_by, 2, none⟩ = some (.slice (some a3) C c_y) ∧ w'.cell? (a2.add y) = some (.int .u8 (x1 : Nat)) ∧ w'.cell? (a3.add y) = some (.int .u8 (x2 : Nat)))
              (first | exact HC.out _ HC0.out | exact HC.out _ HC1.out | exact HC.out _ HC2.out | (go_keep; done))
              (fail)
            all_goals
              go_wp2
              go_roundw
              case rel =>
                refine ⟨y + 1, by omega, by go_num, ?_, HZ.out.2⟩
                rw [HT2.out]; exact HZ.out.1
              case measure => simp [intOf]; omega
          · have hyi : ((y : Int) < (C : Int)) = False := eq_false (by omega)
            obtain rfl : y = C := by omega
            obtain ⟨q4, c4, rfl, S_4, C_4, hQ4⟩ := hO.tell (n := y) (Mx.xrL_byt HV.out.1 HY.out.1) (Mx.xrL_length _ _ _)
            have hT2 : T_f < w2.heap.size := HFd.lt
            have K5 := mtimes_calls g B_f T_f R y s c_x c4 q_x q4 es (xrL y us bs) HX.out.1.symm C_x C_4 (by omega) (by omega) wr hFq (HA.out _ hBq).2.1 S_4 Q_x_f (hQ4 _ hT2)
            rw [Mx.times_xr HV.out.1 HY.out.1 HV.out.2.2] at K5
            obtain ⟨t1, t2, t3, t4⟩ := HM.out _ hBq
            clear hO
            go_wp2_with fail
            refine K5.mono ?_
            rintro e w5 ⟨v5, rfl, hO5, hF5, hb5⟩
            obtain ⟨q5, c5, rfl, S_5, C_5, hQ5⟩ := hO5.tell (n := R) (Mx.timesL_byt _ _ _ _) (Mx.timesL_length _ _ _ _)
            have hB5 : But (· = T_f) w7 w5 := hBq.trans hb5
            have K6 := same_any q5 q_t R R c5 c_t (timesL R y es bs) (timesL R y es bs) true (by simp) w5 S_5 (HA.out _ hB5).2.2.2.1
            clear t1 t2 t3 t4 K5 S_4 hO5 hQ5 hQ4
            go_wp2_with fail
            refine K6.mono ?_
            rintro e w6 ⟨rfl, hb6⟩
            have HN : Hid (But (· = T_f) w7 w6 ∧ Fd g B_f T_f w6) := ⟨hB5.trans (But.of_below hb6), hF5.below hb6⟩
            clear K6 S_5 hb6 hb5 hB5 hF5 hBq hFq hb
            go_wp2
            go_roundw
            case rel => exact ⟨z + 1, hzm, rfl, HN.out.1, HN.out.2⟩
            case measure => simp [intOf]; omega
      · have hzi : ((z : Int) < (m : Int)) = False := eq_false (by omega)
        have KR : Hid (∀ W', But (· = T_f) w7 W' → Fd g B_f T_f W' → Calls Tryz.prog 20 #[.pointer (some ⟨B_f, 0, none⟩), .agg #[.int .i64 (R : Nat), .int .i64 (C : Nat), .slice q_x s c_x]] W' fun e w' => e = .returned (.int .i64 (r : Nat)) ∧ Fd g B_f T_f w' ∧ But (· = T_f) W' w') := fun W' k1 k2 => grank_calls g B_f T_f (R : Int) (C : Int) q_x s c_x es R C ws L r HL.out.1 HL.out.2.1 (by omega) (by omega) (by omega) (by omega) C_x W' (HA.out _ k1).2.1 k2 Q_x_f
        have HM : Hid (∀ W', But (· = T_f) w7 W' → W'.cell? ⟨P_bx, 0, none⟩ = some (.int .i64 (R : Nat)) ∧ W'.cell? ⟨P_bx, 1, none⟩ = some (.int .i64 (C : Nat)) ∧ W'.cell? ⟨P_bx, 2, none⟩ = some (.slice q_x s c_x)) := fun W' h => ⟨(HA.out _ h).2.2.2.2.1.c0, (HA.out _ h).2.2.2.2.1.c1, (HA.out _ h).2.2.2.2.1.c2⟩
        obtain ⟨t1, t2, t3⟩ := HM.out _ hB
        have HBt : But (· = T_f) w7 wr.drew := hB.drew
        have HFd : Fd g B_f T_f wr.drew := hF.drew
        have hwr : IntKind.i64.wrap ((m : Int) + (r : Int)) = (C : Int) := by rw [← Int.natCast_add, hmr]; exact wrap_nat C (by omega)
        clear hB hF
        go_wp2
        go_region_held3 (fun w' => w'.cell? ⟨P_bx, 0, none⟩ = some (.int .i64 (R : Nat)) ∧ w'.cell? ⟨P_bx, 1, none⟩ = some (.int .i64 (C : Nat)) ∧ w'.cell? ⟨P_bx, 2, none⟩ = some (.slice q_x s c_x))
          (first | exact HM.out _ HBt | (go_keep; done))
          (first
            | (go_at_call 10; refine (known09_calls _).mono ?_; rintro e w1 ⟨rfl, hb⟩; replace HBt := HBt.trans (But.of_below hb); replace HFd := HFd.below hb)
            | (go_at_call 20; with_reducible refine (KR.out _ HBt HFd).mono ?_; rintro e w1 ⟨rfl, hF, hb⟩; replace HBt := HBt.trans hb; clear HFd; have HFd := hF; clear hF))
        go_wp2
        go_ret
        exact ⟨rfl, (HA.out _ HBt).1⟩
theorem own : ownKnob Tryz.prog.godebug = none := by kernel_rfl
theorem laidOut : laidOutB Tryz.prog = true := by kernel_rfl
set_option maxRecDepth 100000 in
theorem lifted (os : Os) (started : os.Started) (H : Type) (enc : TypeId × Value → H) :
    ReturnsInHanded {} Tryz.checked os 5 .any (Rows.gaussNullSpec.pre6 enc Tryz.prog Tryz.f5 Rows.gaussNullRow.domain false) (Rows.gaussNullSpec.post enc Tryz.prog Tryz.f5 false true false false) := by
  refine returnsInHanded_of_change_sized (C := Tryz.checked) own started (by kernel_rfl) Tryz.func5
    (ChangeSpec.witness6 (enc := enc) (C := Tryz.checked) false ⟨#[], #[.int .u8 0, .slice none 0 0, .slice none 0 0, .int .u8 0, .int .u8 0, .int .u8 0], []⟩ 8 (by kernel_rfl) (by kernel_rfl) (by kernel_rfl) (by kernel_rfl)) ?_
  intro W base args ds gs before hval0 hW _ hz _
  have hval : ∀ (j : Nat) t v, Tryz.f5.params[j]? = some t → args[j]? = some v → Value.okWide Tryz.prog W .any base t v := hval0
  have hW' := hW
  obtain ⟨p, q, hA0, hV, rfl, _, _⟩ := hW
  have hA : DataW.TrodAll enc Tryz.prog W 0 (fun _ => true) true Tryz.f5.params.toList args.toList ds p := hA0
  rw [Tryz.params5] at hA hval
  obtain ⟨v0, vs0, d0, ds0, p0, q0, hargs, rfl, rfl, h0, r0⟩ := trodAll_cons hA
  obtain ⟨v1, vs1, d1, ds1, p1, q1, rfl, rfl, rfl, h1, r1⟩ := trodAll_cons r0
  obtain ⟨v2, vs2, d2, ds2, p2, q2, rfl, rfl, rfl, h2, r2⟩ := trodAll_cons r1
  obtain ⟨v3, vs3, d3, ds3, p3, q3, rfl, rfl, rfl, h3, r3⟩ := trodAll_cons r2
  obtain ⟨v4, vs4, d4, ds4, p4, q4, rfl, rfl, rfl, h4, r4⟩ := trodAll_cons r3
  obtain ⟨v5, vs5, d5, ds5, p5, q5, rfl, rfl, rfl, h5, r5⟩ := trodAll_cons r4
  obtain ⟨rfl, rfl, rfl⟩ := trodAll_nil r5
  obtain rfl : args = #[v0, v1, v2, v3, v4, v5] := by cases args; simp_all
  obtain ⟨rfl, rfl⟩ := trodVars_none hV
  obtain ⟨a0, rfl, rfl, rfl, w0⟩ := open_int Tryz.underlying5 (hval 0 5 v0 rfl rfl) h0
  obtain ⟨n0, b0, rfl⟩ := nat_of_u8 w0
  have k1 := h1
  obtain ⟨q1, n1, c1, xs1, rfl, w1, m1⟩ := open_bytes_sz Tryz.underlying22 Tryz.underlying5 (by kernel_rfl) (hval 1 22 v1 rfl rfl) h1
  have y1 : n1 ≤ c1 ∧ c1 ≤ 140737488351232 := ⟨m1.1, m1.2 _ fun el sp hd => by have := sized_slice (j := 1) (t := 22) (e := 5) (elems := el) (spare := sp) hz (by kernel_rfl) (by first | (rw [← hd]; done) | (rw [← hd]; rfl)) Tryz.underlying22; have hbe : Tryz.checked.prog.bytesOf 5 = 1 := (by kernel_rfl); have hre : reachBytes = 140737488351232 := rfl; rw [hbe, hre] at this; omega⟩
  have k2 := h2
  obtain ⟨q2, n2, c2, xs2, rfl, w2, m2⟩ := open_bytes_sz Tryz.underlying22 Tryz.underlying5 (by kernel_rfl) (hval 2 22 v2 rfl rfl) h2
  have y2 : n2 ≤ c2 ∧ c2 ≤ 140737488351232 := ⟨m2.1, m2.2 _ fun el sp hd => by have := sized_slice (j := 2) (t := 22) (e := 5) (elems := el) (spare := sp) hz (by kernel_rfl) (by first | (rw [← hd]; done) | (rw [← hd]; rfl)) Tryz.underlying22; have hbe : Tryz.checked.prog.bytesOf 5 = 1 := (by kernel_rfl); have hre : reachBytes = 140737488351232 := rfl; rw [hbe, hre] at this; omega⟩
  obtain ⟨a3, rfl, rfl, rfl, w3⟩ := open_int Tryz.underlying5 (hval 3 5 v3 rfl rfl) h3
  obtain ⟨n3, b3, rfl⟩ := nat_of_u8 w3
  obtain ⟨a4, rfl, rfl, rfl, w4⟩ := open_int Tryz.underlying5 (hval 4 5 v4 rfl rfl) h4
  obtain ⟨n4, b4, rfl⟩ := nat_of_u8 w4
  obtain ⟨a5, rfl, rfl, rfl, w5⟩ := open_int Tryz.underlying5 (hval 5 5 v5 rfl rfl) h5
  obtain ⟨n5, b5, rfl⟩ := nat_of_u8 w5
  clear hA0 hval0
  simp only [List.append_nil] at hW'
  refine (walk (w := W) n0 q1 n1 c1 xs1 q2 n2 c2 xs2 n3 n4 n5 b0 w1 y1 w2 y2 b3 b4 b5).mono fun e W' ⟨he, bel⟩ => ?_
  subst he
  exact ⟨_, rfl, _, _, _, [], _, [], hW', trodAll_mk1 (shut_bool Tryz.underlying4 _), (trodAll_cons_mk (shut_int Tryz.underlying5 w0) (trodAll_cons_mk (shut_same laidOut (by kernel_rfl) (of_decide_eq_true (by kernel_rfl)) k1 bel) (trodAll_cons_mk (shut_same laidOut (by kernel_rfl) (of_decide_eq_true (by kernel_rfl)) k2 bel) (trodAll_cons_mk (shut_int Tryz.underlying5 w3) (trodAll_cons_mk (shut_int Tryz.underlying5 w4) (trodAll_cons_mk (shut_int Tryz.underlying5 w5) trodAll_mk0)))))), rfl, bel.frame _, fun h => by cases h⟩
theorem over : Rows.gaussNullRow.holds Tryz.pinned (OpenSpec.ofChange Rows.gaussNullSpec) :=
  OpenClaim.holds_of_wide 5 Tryz.f5 rfl rfl rfl rfl rfl rfl rfl ⟨rfl, rfl, rfl, rfl, rfl⟩ rfl rfl rfl rfl rfl (by kernel_rfl) Tryz.func5 (by kernel_rfl)
    (of_decide_eq_true (by kernel_rfl)) (by unfold Func.isWrapper; first | (rw [if_pos (by decide +kernel)]; kernel_rfl) | (rw [if_neg (by decide +kernel)]; exact ⟨rfl, rfl⟩))
    (fun os started H enc _ => lifted os started H enc)
theorem proved : Rows.GaussNullSaid := over
#print axioms proved
end Go.Proofs.YtnphdldcfdpflaaGreat.gaussNull
