/- PolyFresh holds for every input: what is told is new memory: spoilt it changes nothing of what was handed in. No conditions. -/
import Derived.Test.YtddgakaidlclcaaRows
import Derived.Test.YtddgakaidlclcaaNums
import Derived.Test.YtddgakaidlclcaaCaps
import Derived.Test.YtddgakaidlclcaaKnown05
namespace Go.Proofs.Ytddgakaidlclcaa.polyFresh
open Go.ChangeShapes Go.WideShapes Go.ChangeAt Go.RowKit
open Pol (IsN Dg ofL Byt)
attribute [local go_sem ↓ high] builtin_ap
attribute [local go_sem] ap_sem

/-- A list that may be written: bytes in one block, from M on. -/
def Lv (W : World) (M : Nat) (q : Option Addr) (n : Nat) : Prop := ∀ i, i < n → ∃ g, q = some ⟨g, 0, none⟩ ∧ M ≤ g ∧ g < W.heap.size ∧ W.frozen? ⟨g, i, none⟩ = false ∧ ∃ x : Nat, x < 256 ∧ W.cell? ⟨g, i, none⟩ = some (.int .u8 (x : Nat))
theorem live {W : World} {base : Nat} {v : Value} {xs : List Nat} {n : Nat} (h : Ow W base v xs) (hx : Byt xs) (hl : xs.length = n) : ∃ q c, v = .slice q n c ∧ Lv W base q n := by
  subst hl
  rcases h.shape with ⟨rfl, rfl⟩ | ⟨g, cap, rfl, h1, h2, _, _, h3, h4⟩
  · exact ⟨none, 0, rfl, fun i hi => absurd hi (Nat.not_lt_zero i)⟩
  · exact ⟨_, cap, rfl, fun i hi => ⟨g, rfl, h1, h2, h4 i, _, hx i, h3 i hi⟩⟩
theorem Lv.mono {W : World} {M M' : Nat} {q : Option Addr} {n : Nat} (h : Lv W M q n) (hM : M' ≤ M) : Lv W M' q n := fun i hi => by
  obtain ⟨g, e, h1, h2⟩ := h i hi
  exact ⟨g, e, Nat.le_trans hM h1, h2⟩
theorem Lv.but {S : Nat → Prop} {W W' : World} {M : Nat} {q : Option Addr} {n : Nat} (h : Lv W M q n) (hb : But S W W') (hS : ∀ k, S k → k < M) : Lv W' M q n := fun i hi => by
  obtain ⟨g, e, h1, h2, h3, x, hx, h4⟩ := h i hi
  have hg : ¬ S g := fun s => by have := hS g s; omega
  exact ⟨g, e, h1, Nat.lt_of_lt_of_le h2 hb.size, (hb.frozen (p := ⟨g, i, none⟩) h2 hg).trans h3, x, hx, (hb.cell (p := ⟨g, i, none⟩) h2 hg).trans h4⟩
theorem Lv.below {W W' : World} {M : Nat} {q : Option Addr} {n : Nat} (h : Lv W M q n) (hb : Below W.heap.size W W') : Lv W' M q n := h.but (But.of_below (S := fun _ => False) hb) (fun _ => False.elim)
theorem Lv.set {W : World} {M : Nat} {q : Option Addr} {n : Nat} (h : Lv W M q n) (g i x : Nat) (hx : x < 256) : Lv (W.setCell ⟨g, i, none⟩ (.int .u8 (x : Nat))) M q n := fun j hj => by
  obtain ⟨g', e, h1, h2, h3, y, hy, h4⟩ := h j hj
  refine ⟨g', e, h1, by simpa [World.setCell] using h2, by rw [World.frozen?_setCell]; exact h3, ?_⟩
  by_cases he : (⟨g, i, none⟩ : Addr) = ⟨g', j, none⟩
  · rw [he]
    exact ⟨x, hx, World.cell?_setCell_same' _ _ _ (by rw [h4]; rfl)⟩
  · exact ⟨y, hy, (World.cell?_setCell_other _ _ _ _ he).trans h4⟩
/-- The six slices that lie at h, each of which may be written. -/
def Six (W : World) (h M : Nat) : Prop := ∀ j, j < 6 → ∃ q n c, W.cell? ⟨h, j, none⟩ = some (.slice q n c) ∧ n ≤ 1000000 ∧ Lv W M q n ∧ ∀ g, q = some ⟨g, 0, none⟩ → 0 < n → ¬ g = h
theorem Six.set {W : World} {h M : Nat} (H : Six W h M) {g i x : Nat} (hg : ¬ g = h) (hx : x < 256) : Six (W.setCell ⟨g, i, none⟩ (.int .u8 (x : Nat))) h M := fun j hj => by
  obtain ⟨q, n, c, h1, h2, h3, h4⟩ := H j hj
  exact ⟨q, n, c, (World.cell?_setCell_other _ _ _ _ (fun e => hg (by cases e; rfl))).trans h1, h2, h3.set g i x hx, h4⟩
theorem bd_shP {n d : Nat} {p : Pol} (k : Nat) (h : Pol.Bd n p) : Pol.Bd (n + k) (shP (k : Int) d p) := by
  unfold shP
  split
  · exact Pol.Bd.zero _
  · split
    · exact fun i hi => h _ (by omega)
    · exact h.up k
theorem Bs_but' {S : Nat → Prop} {W W' : World} {q : Option Addr} {n : Nat} {xs : List Nat} (h : Bs W q n xs) (hb : But S W W') (hs : 0 < n → ∀ a, q = some a → ¬ S a.block) : Bs W' q n xs :=
  ⟨h.len, h.max, fun i hi => by
    obtain ⟨a, e, hl, hc⟩ := h.cell i hi
    exact ⟨a, e, Nat.lt_of_lt_of_le hl hb.size, (hb.cell (p := a.add i) (by rw [block_add]; exact hl) (by rw [block_add]; exact hs (by omega) a e)).trans hc⟩, h.byte⟩
theorem Bs.under {W : World} {q : Option Addr} {n : Nat} {xs : List Nat} (h : Bs W q n xs) : 0 < n → ∀ a, q = some a → a.block < W.heap.size := fun h0 a e => by
  obtain ⟨b, e', hl, _⟩ := h.cell 0 h0
  obtain rfl : b = a := Option.some.inj (e'.symm.trans e)
  exact hl
set_option maxRecDepth 100000 in
set_option maxHeartbeats 4000000 in
theorem walk (j : Nat) (q : Option Addr) (n c : Nat) (xs : List Nat) (u : Nat) (w : World) (hj : j < 256) (S_p : Bs w q n xs) (y_p : n ≤ c ∧ c ≤ 140737488351232) (hu : u < 256) :
    Calls Try.prog 8 #[.int .u8 j, .slice q n c, .int .u8 u] w fun e w' => e = .returned (.bool true) ∧ Below w.heap.size w w' := by
  obtain ⟨k, hk⟩ : ∃ k : Nat, 1 + j % 3 = k := ⟨_, rfl⟩
  have hk1 : 1 ≤ k := by omega
  have hk3 : k ≤ 3 := by omega
  have hki : (1 : Int) + (j : Int) % 3 = (k : Int) := by omega
  clear hk
  have HB : Below w.heap.size w w := Below.refl _ _
  have Cp := y_p.1
  clear y_p
  go_enter Try.func8, Try.ntmps8
  by_cases hbig : 100 < n
  · have hb1 : (100 : Int) < (n : Int) := by omega
    go_wp2_with fail
    refine (known05_calls _).mono ?_
    rintro e w1 ⟨rfl, hb⟩
    replace HB := HB.trans (hb.mono HB.size)
    replace S_p := S_p.below hb
    clear hb
    go_wp2
    go_ret
    exact ⟨rfl, HB⟩
  · have hb1 : ((100 : Int) < (n : Int)) = False := eq_false (by omega)
    obtain ⟨t, ht⟩ : ∃ t, u % 5 = t := ⟨_, rfl⟩
    have hti : (u : Int) % 5 = (t : Int) := by omega
    have lp := S_p.len
    have bp := S_p.byt
    obtain ⟨dp, hdp, gp⟩ := Pol.dg_list xs
    obtain ⟨l1, h1, b1⟩ := Pol.isN_norm xs
    obtain ⟨l5, h5, b5⟩ := Pol.isN_of_bd (bd_shP (d := dp) t (Pol.ofL_bd xs))
    obtain ⟨l6, h6, b6⟩ := Pol.isN_cut ((u : Int)).toNat xs
    have e2 : IsN l1 (Pol.add (ofL xs) (ofL [])) := by rw [Pol.ofL_nil, Pol.add_zero]; exact h1
    have e3 : IsN l1 (Pol.smul (GF.of 1) (ofL xs)) := by rw [GF.of_one, Pol.one_smul]; exact h1
    have e4 : IsN l1 (Pol.mul (ofL xs) (ofL [1])) := by
      have e1 : ofL [1] = Pol.one := by
        funext i
        cases i with
        | zero => rfl
        | succ i => show GF.of ([1].getD (i + 1) 0) = Pol.one (i + 1); simp [List.getD, Pol.one, Pol.mono]; rfl
      rw [e1, Pol.mul_one]; exact h1
    obtain ⟨n1, n1e⟩ : ∃ n1, l1.length = n1 := ⟨_, rfl⟩
    obtain ⟨n5, n5e⟩ : ∃ n5, l5.length = n5 := ⟨_, rfl⟩
    obtain ⟨n6, n6e⟩ : ∃ n6, l6.length = n6 := ⟨_, rfl⟩
    have HU : Hid (n1 ≤ 1000 ∧ n5 ≤ 1000 ∧ n6 ≤ 1000 ∧ n ≤ 1000 ∧ t < 5 ∧ u < 256) := by show _ ∧ _; omega
    have HH : Hid (IsN l1 (ofL xs) ∧ IsN l1 (Pol.add (ofL xs) (ofL [])) ∧ IsN l1 (Pol.smul (GF.of 1) (ofL xs)) ∧ IsN l1 (Pol.mul (ofL xs) (ofL [1])) ∧ IsN l5 (shP (t : Int) dp (ofL xs)) ∧ IsN l6 (Pol.cut ((u : Int)).toNat (ofL xs)) ∧ Dg dp (ofL xs)) := ⟨h1, e2, e3, e4, h5, h6, gp⟩
    have HNl : Hid (l1.length = n1 ∧ l5.length = n5 ∧ l6.length = n6) := ⟨n1e, n5e, n6e⟩
    clear h1 b1 h5 b5 h6 b6 e2 e3 e4 n1e n5e n6e gp hdp ht hbig
    go_wp2_with fail
    refine (fof_calls k hk1 hk3 _).mono ?_
    rintro e w1 ⟨B_f, T_f, rfl, HF_f, hb, hlB, hlT⟩
    have HL_f : w.heap.size ≤ T_f := Nat.le_trans HB.size hlT
    have Q_p_f := S_p.off hlT
    replace HB := HB.trans (hb.mono HB.size)
    replace S_p := S_p.below hb
    clear hb hlB hlT
    clear hb1 hki
    obtain ⟨v1, Wo, hap1, hO1, hg1⟩ := run_append_list w1 w1.heap.size (.slice none 0 0) [] q n c xs (ow_nil _ _) S_p (by simp; have := HU.out; omega) (Nat.le_refl _)
    have hwo : Below w1.heap.size w1 Wo := (Below.refl _ w1).grown hg1 (Nat.le_refl _) (fun k hk => by cases hk)
    rw [List.nil_append] at hO1
    obtain ⟨q_o, c_o, rfl, S_o, C_o, hQ⟩ := hO1.tell (n := n) bp lp
    have Q_o_f := hQ _ HF_f.lt
    have ha1 := ap_ok hap1
    have ha2 := ap_v hap1
    have ha3 := ap_w hap1
    have HWo : Hid (Below w1.heap.size w1 Wo ∧ Bs Wo q_o n xs) := ⟨hwo, S_o⟩
    clear hap1 hO1 hg1 hQ hwo S_o lp bp
    go_wp2_with fail
    replace HB := HB.trans (HWo.out.1.mono HB.size)
    replace HF_f := HF_f.below HWo.out.1
    replace S_p := S_p.below HWo.out.1
    have S_o := HWo.out.2
    obtain ⟨M, hM⟩ : ∃ M, Wo.heap.size = M := ⟨_, rfl⟩
    have HMs : M ≤ Wo.heap.size := Nat.le_of_eq hM.symm
    have HTM : T_f < M := hM ▸ HF_f.lt
    have HwM : w.heap.size ≤ M := hM ▸ HB.size
    have HO : Hid ((0 < n → ∀ a, q_o = some a → a.block < M) ∧ (0 < n → ∀ a, q = some a → a.block < M)) := ⟨hM ▸ Bs.under S_o, hM ▸ Bs.under S_p⟩
    clear HWo hM
    refine (pnorm_calls q_o n c_o xs l1 HH.out.1 (by have := HU.out; omega) C_o _ S_o).mono ?_
    rintro e w2 ⟨v, rfl, hO, hb⟩
    obtain ⟨q_0, c_0, rfl, V_0⟩ := live (n := n1) hO HH.out.1.byt HNl.out.1
    replace V_0 := V_0.mono HMs
    clear hO
    replace HB := HB.trans (hb.mono HB.size)
    replace S_p := S_p.below hb
    replace S_o := S_o.below hb
    replace HF_f := HF_f.below hb
    replace HMs := Nat.le_trans HMs hb.size
    clear hb
    clear ha1 ha2 ha3
    go_wp2_with fail
    refine (padd_calls q_o none n c_o 0 0 xs [] l1 HH.out.2.1 (by have := HU.out; omega) (by decide) _ S_o (bs_nil _)).mono ?_
    rintro e w3 ⟨v, rfl, hO, hb⟩
    obtain ⟨q_1, c_1, rfl, V_1⟩ := live (n := n1) hO HH.out.1.byt HNl.out.1
    replace V_1 := V_1.mono HMs
    clear hO
    replace HB := HB.trans (hb.mono HB.size)
    replace S_p := S_p.below hb
    replace S_o := S_o.below hb
    replace HF_f := HF_f.below hb
    replace V_0 := V_0.below hb
    replace HMs := Nat.le_trans HMs hb.size
    clear hb
    go_wp2_with fail
    refine (pscale_calls k B_f T_f 1 n c_o q_o xs l1 (by decide) HH.out.2.2.1 (by have := HU.out; omega) C_o _ HF_f S_o Q_o_f).mono ?_
    rintro e w4 ⟨v, rfl, hO, hF, hb⟩
    obtain ⟨q_2, c_2, rfl, V_2⟩ := live (n := n1) hO HH.out.1.byt HNl.out.1
    replace V_2 := V_2.mono HMs
    clear hO
    replace HB := HB.trans (hb.below HB.size (by rintro k rfl; exact HL_f))
    replace S_p := S_p.but hb Q_p_f
    replace S_o := S_o.but hb Q_o_f
    replace V_0 := V_0.but hb (by rintro k rfl; exact HTM)
    replace V_1 := V_1.but hb (by rintro k rfl; exact HTM)
    replace HMs := Nat.le_trans HMs hb.size
    clear HF_f hb
    have HF_f := hF
    clear hF
    go_wp2_with fail
    have S_i : Bs (w4.alloc (.cells #[.int .u8 1] 5)) (some ⟨w4.heap.size, 0, none⟩) 1 [1] := bs_lits w4 _ [1] _ 1 rfl rfl rfl rfl (by simp)
    have Q_i_f : Off T_f 1 (some ⟨w4.heap.size, 0, none⟩) := off_at (by have := HF_f.lt; omega)
    replace HF_f := HF_f.alloc (.cells #[.int .u8 1] 5)
    replace S_p := S_p.alloc (.cells #[.int .u8 1] 5)
    replace S_o := S_o.alloc (.cells #[.int .u8 1] 5)
    replace HB := HB.alloc HB.size (.cells #[.int .u8 1] 5)
    replace V_0 := V_0.below ((Below.refl _ _).alloc (Nat.le_refl _) (.cells #[.int .u8 1] 5))
    replace V_1 := V_1.below ((Below.refl _ _).alloc (Nat.le_refl _) (.cells #[.int .u8 1] 5))
    replace V_2 := V_2.below ((Below.refl _ _).alloc (Nat.le_refl _) (.cells #[.int .u8 1] 5))
    replace HMs : M ≤ (w4.alloc (.cells #[.int .u8 1] 5)).heap.size := Nat.le_trans HMs (by simp)
    refine (pmul_calls k B_f T_f n c_o 1 1 q_o _ xs [1] l1 HH.out.2.2.2.1 (by have := HU.out; omega) (by decide) C_o (by decide) _ HF_f S_o S_i Q_o_f Q_i_f).mono ?_
    rintro e w5 ⟨v, rfl, hO, hF, hb⟩
    obtain ⟨q_3, c_3, rfl, V_3⟩ := live (n := n1) hO HH.out.1.byt HNl.out.1
    replace V_3 := V_3.mono HMs
    clear hO
    replace HB := HB.trans (hb.below HB.size (by rintro k rfl; exact HL_f))
    replace S_p := S_p.but hb Q_p_f
    replace S_o := S_o.but hb Q_o_f
    replace V_0 := V_0.but hb (by rintro k rfl; exact HTM)
    replace V_1 := V_1.but hb (by rintro k rfl; exact HTM)
    replace V_2 := V_2.but hb (by rintro k rfl; exact HTM)
    replace HMs := Nat.le_trans HMs hb.size
    clear HF_f hb
    have HF_f := hF
    clear hF
    clear S_i Q_i_f
    go_wp2_with fail
    refine (pshift_calls q_o n c_o xs l5 (t : Int) dp HH.out.2.2.2.2.2.2 HH.out.2.2.2.2.1 (by have := HU.out; omega) C_o (by have := HU.out; omega) (by have := HU.out; omega) _ S_o).mono ?_
    rintro e w6 ⟨v, rfl, hO, hb⟩
    obtain ⟨q_4, c_4, rfl, V_4⟩ := live (n := n5) hO HH.out.2.2.2.2.1.byt HNl.out.2.1
    replace V_4 := V_4.mono HMs
    clear hO
    replace HB := HB.trans (hb.mono HB.size)
    replace S_p := S_p.below hb
    replace S_o := S_o.below hb
    replace HF_f := HF_f.below hb
    replace V_0 := V_0.below hb
    replace V_1 := V_1.below hb
    replace V_2 := V_2.below hb
    replace V_3 := V_3.below hb
    replace HMs := Nat.le_trans HMs hb.size
    clear hb
    go_wp2_with fail
    refine (pcut_calls q_o n c_o xs l6 (u : Int) HH.out.2.2.2.2.2.1 (by have := HU.out; omega) C_o _ S_o).mono ?_
    rintro e w7 ⟨v, rfl, hO, hb⟩
    obtain ⟨q_5, c_5, rfl, V_5⟩ := live (n := n6) hO HH.out.2.2.2.2.2.1.byt HNl.out.2.2
    replace V_5 := V_5.mono HMs
    clear hO
    replace HB := HB.trans (hb.mono HB.size)
    replace S_p := S_p.below hb
    replace S_o := S_o.below hb
    replace HF_f := HF_f.below hb
    replace V_0 := V_0.below hb
    replace V_1 := V_1.below hb
    replace V_2 := V_2.below hb
    replace V_3 := V_3.below hb
    replace V_4 := V_4.below hb
    replace HMs := Nat.le_trans HMs hb.size
    clear hb
    clear hti
    obtain ⟨h, hh⟩ : ∃ h, w7.heap.size = h := ⟨_, rfl⟩
    obtain ⟨W0, hW0⟩ : ∃ W0, (w7.alloc (.cells #[.slice q_0 n1 c_0, .slice q_1 n1 c_1, .slice q_2 n1 c_2, .slice q_3 n1 c_3, .slice q_4 n5 c_4, .slice q_5 n6 c_5] 22)) = W0 := ⟨_, rfl⟩
    have hb0 : Below w7.heap.size w7 W0 := by rw [← hW0]; exact (Below.refl _ w7).alloc (Nat.le_refl _) _
    have hcs : ∀ j, W0.cell? ⟨h, j, none⟩ = (#[.slice q_0 n1 c_0, .slice q_1 n1 c_1, .slice q_2 n1 c_2, .slice q_3 n1 c_3, .slice q_4 n5 c_4, .slice q_5 n6 c_5] : Array Value)[j]? := fun j => by rw [← hW0, ← hh, World.cell?_alloc_at _ _ _ _ rfl]
    have hoff : ∀ {q : Option Addr} {n : Nat}, Lv w7 M q n → ∀ g, q = some ⟨g, 0, none⟩ → 0 < n → ¬ g = h := fun V g e h0 => by
      obtain ⟨g', e', _, h2, _⟩ := V 0 h0
      rw [e] at e'
      cases e'
      omega
    have H6 : Six W0 h M := fun j hj => by
      match j, hj with
      | 0, _ => exact ⟨_, _, _, (hcs 0).trans rfl, (by have := HU.out; omega), V_0.below hb0, hoff V_0⟩
      | 1, _ => exact ⟨_, _, _, (hcs 1).trans rfl, (by have := HU.out; omega), V_1.below hb0, hoff V_1⟩
      | 2, _ => exact ⟨_, _, _, (hcs 2).trans rfl, (by have := HU.out; omega), V_2.below hb0, hoff V_2⟩
      | 3, _ => exact ⟨_, _, _, (hcs 3).trans rfl, (by have := HU.out; omega), V_3.below hb0, hoff V_3⟩
      | 4, _ => exact ⟨_, _, _, (hcs 4).trans rfl, (by have := HU.out; omega), V_4.below hb0, hoff V_4⟩
      | 5, _ => exact ⟨_, _, _, (hcs 5).trans rfl, (by have := HU.out; omega), V_5.below hb0, hoff V_5⟩
    have HZ : Hid (Six W0 h M ∧ Bs W0 q_o n xs ∧ Bs W0 q n xs ∧ Below w.heap.size w W0) := ⟨H6, S_o.below hb0, S_p.below hb0, HB.trans (hb0.mono HB.size)⟩
    have hMh : M ≤ h := hh ▸ HMs
    have HMh : Hid (M ≤ h) := hMh
    clear H6 hoff hcs hb0 V_0 V_1 V_2 V_3 V_4 V_5 S_o S_p HB HMs HF_f HL_f hMh Q_o_f Q_p_f
    go_wp2
    go_loopw [10] (fun kk wr => ∃ k : Nat, k ≤ 6 ∧ kk = .int .i64 (k : Int) ∧ Six wr h M ∧ But (fun b => M ≤ b ∧ ¬ b = h) W0 wr) (fun kk _ => 6 - (intOf kk).toNat)
    case atStart => exact ⟨0, by omega, rfl, HZ.out.1, But.refl _ _⟩
    case round =>
      obtain ⟨k, hk, rfl, H6, hB⟩ := hrel
      by_cases hlt : k < 6
      · have hi : (k : Int) < 6 := by omega
        obtain ⟨q', n', c', hc', hn', hv', ho'⟩ := H6 k hlt
        have HI : Hid (Six wr h M ∧ But (fun b => M ≤ b ∧ ¬ b = h) W0 wr ∧ Lv wr M q' n' ∧ wr.cell? ⟨h, k, none⟩ = some (.slice q' n' c')) := ⟨H6, hB, hv', hc'⟩
        have HO' : Hid (∀ g, q' = some ⟨g, 0, none⟩ → 0 < n' → ¬ g = h) := ho'
        clear H6 hB hv' hc' ho'
        go_wp2
        go_loopw [11] (fun ii wr => ∃ i : Nat, i ≤ n' ∧ ii = .int .i64 (i : Int) ∧ Six wr h M ∧ But (fun b => M ≤ b ∧ ¬ b = h) W0 wr ∧ Lv wr M q' n' ∧ wr.cell? ⟨h, k, none⟩ = some (.slice q' n' c')) (fun ii _ => n' - (intOf ii).toNat)
        case atStart => exact ⟨0, by omega, rfl, HI.out⟩
        case round =>
          obtain ⟨i, hi', rfl, H6, hB, hv', hc'⟩ := hrel
          by_cases hin : i < n'
          · have hii : (i : Int) < (n' : Int) := by omega
            obtain ⟨g, rfl, hMg, hgl, hfz, x, hx, hcx⟩ := hv' i hin
            have hgh := HO'.out g rfl (by omega)
            have HJ : Hid (Six wr h M ∧ But (fun b => M ≤ b ∧ ¬ b = h) W0 wr ∧ Lv wr M (some ⟨g, 0, none⟩) n') := ⟨H6, hB, hv'⟩
            clear H6 hB hv'
            go_wp2
            go_roundw
            case rel =>
              have e : ((x : Int) + 1) % 256 = (((x + 1) % 256 : Nat) : Int) := by omega
              rw [e]
              have hx' : (x + 1) % 256 < 256 := Nat.mod_lt _ (by decide)
              exact ⟨i + 1, by omega, by go_num, HJ.out.1.set hgh hx', HJ.out.2.1.setCell (p := ⟨g, i, none⟩) (.inl ⟨hMg, hgh⟩) _, HJ.out.2.2.set g i _ hx', (World.cell?_setCell_other _ _ _ _ (fun e => hgh (by cases e; rfl))).trans hc'⟩
            case measure => simp [intOf]; omega
          · have e8 : i = n' := by omega
            subst e8
            have HJ : Hid (Six wr h M ∧ But (fun b => M ≤ b ∧ ¬ b = h) W0 wr) := ⟨H6, hB⟩
            clear H6 hB hv'
            go_wp2
            go_roundw
            case rel => exact ⟨k + 1, by omega, by go_num, HJ.out⟩
            case measure => simp [intOf]; omega
      · have e8 : k = 6 := by omega
        subst e8
        have S_o := Bs_but' HZ.out.2.1 hB (fun h0 a e hs => by have := HO.out.1 h0 a e; omega)
        have S_p := Bs_but' HZ.out.2.2.1 hB (fun h0 a e hs => by have := HO.out.2 h0 a e; omega)
        have HB : Below w.heap.size w wr := HZ.out.2.2.2.trans (hB.below HZ.out.2.2.2.size (fun k hk => Nat.le_trans HwM hk.1))
        clear H6 hB HZ
        go_wp2_with fail
        refine (known05_calls _).mono ?_
        rintro e w8 ⟨rfl, hb⟩
        replace HB := HB.trans (hb.mono HB.size)
        replace S_o := S_o.below hb
        replace S_p := S_p.below hb
        clear hb
        go_wp2_with fail
        refine (same_calls q_o q n c_o c xs _ S_o S_p).mono ?_
        rintro e w9 ⟨rfl, hb⟩
        replace HB := HB.trans (hb.mono HB.size)
        clear hb
        go_wp2
        go_ret
        exact ⟨rfl, HB⟩
theorem own : ownKnob Try.prog.godebug = none := by kernel_rfl
theorem laidOut : laidOutB Try.prog = true := by kernel_rfl
set_option maxRecDepth 100000 in
theorem lifted (os : Os) (started : os.Started) (H : Type) (enc : TypeId × Value → H) :
    ReturnsInHanded {} Try.checked os 8 .any (Rows.polyFreshSpec.pre6 enc Try.prog Try.f8 Rows.polyFreshRow.domain false) (Rows.polyFreshSpec.post enc Try.prog Try.f8 false true false false) := by
  refine returnsInHanded_of_change_sized (C := Try.checked) own started (by kernel_rfl) Try.func8
    (ChangeSpec.witness6 (enc := enc) (C := Try.checked) false ⟨#[], #[.int .u8 0, .slice none 0 0, .int .u8 0], []⟩ 8 (by kernel_rfl) (by kernel_rfl) (by kernel_rfl) (by kernel_rfl)) ?_
  intro W base args ds gs before hval0 hW _ hz _
  have hval : ∀ (j : Nat) t v, Try.f8.params[j]? = some t → args[j]? = some v → Value.okWide Try.prog W .any base t v := hval0
  have hW' := hW
  obtain ⟨p, q, hA0, hV, rfl, _, _⟩ := hW
  have hA : DataW.TrodAll enc Try.prog W 0 (fun _ => true) true Try.f8.params.toList args.toList ds p := hA0
  rw [Try.params8] at hA hval
  obtain ⟨v0, vs0, d0, ds0, p0, q0, hargs, rfl, rfl, h0, r0⟩ := trodAll_cons hA
  obtain ⟨v1, vs1, d1, ds1, p1, q1, rfl, rfl, rfl, h1, r1⟩ := trodAll_cons r0
  obtain ⟨v2, vs2, d2, ds2, p2, q2, rfl, rfl, rfl, h2, r2⟩ := trodAll_cons r1
  obtain ⟨rfl, rfl, rfl⟩ := trodAll_nil r2
  obtain rfl : args = #[v0, v1, v2] := by cases args; simp_all
  obtain ⟨rfl, rfl⟩ := trodVars_none hV
  obtain ⟨a0, rfl, rfl, rfl, w0⟩ := open_int Try.underlying5 (hval 0 5 v0 rfl rfl) h0
  obtain ⟨n0, b0, rfl⟩ := nat_of_u8 w0
  have k1 := h1
  obtain ⟨q1, n1, c1, xs1, rfl, w1, m1⟩ := open_bytes_sz Try.underlying22 Try.underlying5 (by kernel_rfl) (hval 1 22 v1 rfl rfl) h1
  have y1 : n1 ≤ c1 ∧ c1 ≤ 140737488351232 := ⟨m1.1, m1.2 _ fun el sp hd => by have := sized_slice (j := 1) (t := 22) (e := 5) (elems := el) (spare := sp) hz (by kernel_rfl) (by first | (rw [← hd]; done) | (rw [← hd]; rfl)) Try.underlying22; have hbe : Try.checked.prog.bytesOf 5 = 1 := (by kernel_rfl); have hre : reachBytes = 140737488351232 := rfl; rw [hbe, hre] at this; omega⟩
  obtain ⟨a2, rfl, rfl, rfl, w2⟩ := open_int Try.underlying5 (hval 2 5 v2 rfl rfl) h2
  obtain ⟨n2, b2, rfl⟩ := nat_of_u8 w2
  clear hA0 hval0
  simp only [List.append_nil] at hW'
  refine (walk (w := W) n0 q1 n1 c1 xs1 n2 b0 w1 y1 b2).mono fun e W' ⟨he, bel⟩ => ?_
  subst he
  exact ⟨_, rfl, _, _, _, [], _, [], hW', trodAll_mk1 (shut_bool Try.underlying4 _), (trodAll_cons_mk (shut_int Try.underlying5 w0) (trodAll_cons_mk (shut_same laidOut (by kernel_rfl) (of_decide_eq_true (by kernel_rfl)) k1 bel) (trodAll_cons_mk (shut_int Try.underlying5 w2) trodAll_mk0))), rfl, bel.frame _, fun h => by cases h⟩
theorem over : Rows.polyFreshRow.holds Try.pinned (OpenSpec.ofChange Rows.polyFreshSpec) :=
  OpenClaim.holds_of_wide 8 Try.f8 rfl rfl rfl rfl rfl rfl rfl ⟨rfl, rfl, rfl, rfl, rfl⟩ rfl rfl rfl rfl rfl (by kernel_rfl) Try.func8 (by kernel_rfl)
    (of_decide_eq_true (by kernel_rfl)) (by unfold Func.isWrapper; first | (rw [if_pos (by decide +kernel)]; kernel_rfl) | (rw [if_neg (by decide +kernel)]; exact ⟨rfl, rfl⟩))
    (fun os started H enc _ => lifted os started H enc)
theorem proved : Rows.PolyFreshSaid := over
#print axioms proved
end Go.Proofs.Ytddgakaidlclcaa.polyFresh
