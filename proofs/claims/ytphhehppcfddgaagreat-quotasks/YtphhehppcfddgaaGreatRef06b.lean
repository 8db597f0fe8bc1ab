/- The walks of the document's answers of layer 6 (erratumref06): Div by nothing, Mod, Exact, Monic, Gcd. Conditions: lists of at most a million bytes, no longer than their capacities. -/
import Derived.Test.YtphhehppcfddgaaGreatRef06
import Derived.Test.YtphhehppcfddgaaGreatQU
namespace Go.Proofs
open Go.RowKit Go.ChangeShapes Go.WideShapes
open Pol (IsN Dg ofL Byt Mon)

set_option maxRecDepth 100000 in
set_option maxHeartbeats 1000000 in
theorem r6div_zero (q p : Option Addr) (n c m d : Nat) (ys : List Nat) (hd : Dg 0 (ofL ys)) (hm : m ≤ 1000000) (w : World) (hy : Bs w p m ys) :
    Calls Tryz.prog 10 #[.slice q n c, .slice p m d] w fun r w' => r = .returned (.tuple #[.slice none 0 0, .slice none 0 0, .bool false]) ∧ Below w.heap.size w w' := by
  have K1 : Calls Tryz.prog 25 #[.slice p m d] w fun r w' => r = .returned (.int .i64 (-1)) ∧ w' = w := rdeg_calls p m d ys 0 hd (by omega) w hy
  clear hd hy hm
  go_enter Tryz.func10, Tryz.ntmps10
  go_wp2_with fail
  refine K1.mono ?_
  rintro r w0 ⟨rfl, hw⟩
  subst w0
  go_wp2
  go_ret3
  exact ⟨rfl, Below.refl _ _⟩
theorem r6div_u (q p : Option Addr) (n c m d : Nat) (xs ys zs rs : List Nat) (b : Bool) (hD : IsDiv xs ys zs rs b) (hn : n ≤ 1000000) (hm : m ≤ 1000000) (hnc : n ≤ c) (w : World) (hx : Bs w q n xs) (hy : Bs w p m ys) :
    Calls Tryz.prog 10 #[.slice q n c, .slice p m d] w fun r w' => ∃ v1 v2, r = .returned (.tuple #[v1, v2, .bool b]) ∧ Ow w' w.heap.size v1 zs ∧ Ow w' w.heap.size v2 rs ∧ Below w.heap.size w w' := by
  rcases hD with ⟨rfl, hd, rfl, rfl⟩ | ⟨rfl, e, P1, P2, hd, h1, h2, h3, he⟩
  · refine (r6div_zero q p n c m d ys hd hm w hy).mono ?_
    rintro r w' ⟨rfl, hb⟩
    exact ⟨_, _, rfl, ow_nil _ _, ow_nil _ _, hb⟩
  · exact r6div_calls q p n c m d e xs ys zs rs P1 P2 hd h1 h2 h3 he hn hm hnc w hx hy
set_option maxRecDepth 100000 in
set_option maxHeartbeats 1000000 in
theorem r6mod_u (q p : Option Addr) (n c m d : Nat) (xs ys zs rs : List Nat) (b : Bool) (hD : IsDiv xs ys zs rs b) (hn : n ≤ 1000000) (hm : m ≤ 1000000) (hnc : n ≤ c) (w : World) (hx : Bs w q n xs) (hy : Bs w p m ys) :
    Calls Tryz.prog 33 #[.slice q n c, .slice p m d] w fun r w' => ∃ v, r = .returned (.tuple #[v, .bool b]) ∧ Ow w' w.heap.size v rs ∧ Below w.heap.size w w' := by
  have K1 := r6div_u q p n c m d xs ys zs rs b hD hn hm hnc w hx hy
  clear hD hn hm hnc hx hy
  go_enter Tryz.func33, Tryz.ntmps33
  go_wp2_with (go_at_call 10; refine K1.mono ?_; rintro r w1 ⟨v1, v2, rfl, hO1, hO2, hb⟩)
  go_ret2
  exact ⟨_, rfl, hO2, hb⟩
set_option maxRecDepth 100000 in
set_option maxHeartbeats 1000000 in
theorem r6exact_u (q p : Option Addr) (n c m d : Nat) (xs ys zs : List Nat) (b : Bool) (hD : IsEx xs ys zs b) (hn : n ≤ 1000000) (hm : m ≤ 1000000) (hnc : n ≤ c) (w : World) (hx : Bs w q n xs) (hy : Bs w p m ys) :
    Calls Tryz.prog 13 #[.slice q n c, .slice p m d] w fun r w' => ∃ v, r = .returned (.tuple #[v, .bool b]) ∧ Ow w' w.heap.size v zs ∧ Below w.heap.size w w' := by
  rcases hD with ⟨rfl, e, P1, hd, h1, he⟩ | ⟨rfl, rfl, hd⟩ | ⟨rfl, rfl, e, P1, P2, l1, l2, hd, h1, h2, h0, h3, he⟩
  · have K1 := r6div_calls q p n c m d e xs ys zs [] P1 Pol.zero hd h1 Pol.isN_nil (Pol.Bd.zero _) (by rw [Pol.add_zero]; exact he) hn hm hnc w hx hy
    clear hd h1 he hn hm hnc hx hy
    go_enter Tryz.func13, Tryz.ntmps13
    go_wp2_with (go_at_call 10; refine K1.mono ?_; rintro r w1 ⟨v1, v2, rfl, hO1, hO2, hb⟩; obtain ⟨q2, c2, rfl, -⟩ := hO2.tell (n := 0) Pol.byt_nil rfl)
    go_ret2
    exact ⟨_, rfl, hO1, hb⟩
  · have K1 := r6div_zero q p n c m d ys hd hm w hy
    clear hd hn hm hnc hx hy
    go_enter Tryz.func13, Tryz.ntmps13
    go_wp2_with (go_at_call 10; refine K1.mono ?_; rintro r w1 ⟨rfl, hb⟩)
    go_ret2
    exact ⟨_, rfl, ow_nil _ _, hb⟩
  · have K1 := r6div_calls q p n c m d e xs ys l1 l2 P1 P2 hd h1 h2 h3 he hn hm hnc w hx hy
    obtain ⟨l, hl⟩ : ∃ l, l2.length = l := ⟨_, rfl⟩
    have hl0 : (0 : Int) < (l : Int) := by
      rcases Nat.eq_zero_or_pos l with e0 | e0
      · exact absurd (h2.nil_iff.1 (hl.trans e0)) h0
      · omega
    have HR : Hid (Byt l2 ∧ l2.length = l) := ⟨h2.byt, hl⟩
    clear hd h1 h2 h0 h3 he hn hm hnc hx hy hl
    go_enter Tryz.func13, Tryz.ntmps13
    go_wp2_with (go_at_call 10; refine K1.mono ?_; rintro r w1 ⟨v1, v2, rfl, hO1, hO2, hb⟩; obtain ⟨q2, c2, rfl, -⟩ := hO2.tell (n := l) HR.out.1 HR.out.2)
    go_ret2
    exact ⟨_, rfl, ow_nil _ _, hb⟩
set_option maxRecDepth 100000 in
set_option maxHeartbeats 1000000 in
theorem r6monic_u (q : Option Addr) (n c : Nat) (xs zs : List Nat) (hD : IsMo xs zs) (hn : n ≤ 1000000) (w : World) (hs : Bs w q n xs) :
    Calls Tryz.prog 15 #[.slice q n c] w fun r w' => ∃ v, r = .returned v ∧ Ow w' w.heap.size v zs ∧ Below w.heap.size w w' := by
  rcases hD with ⟨hd, rfl⟩ | ⟨e, hd, h1⟩
  · have K1 : Calls Tryz.prog 25 #[.slice q n c] w fun r w' => r = .returned (.int .i64 (-1)) ∧ w' = w := rdeg_calls q n c xs 0 hd (by omega) w hs
    clear hd hs hn
    go_enter Tryz.func15, Tryz.ntmps15
    go_wp2_with fail
    refine K1.mono ?_
    rintro r w0 ⟨rfl, hw⟩
    subst w0
    go_wp2
    go_ret
    exact ⟨_, rfl, ow_nil _ _, Below.refl _ _⟩
  · have K1 : Calls Tryz.prog 25 #[.slice q n c] w fun r w' => r = .returned (.int .i64 (e : Int)) ∧ w' = w :=
      (rdeg_calls q n c xs (e + 1) hd (by omega) w hs).mono (by rintro r w' ⟨rfl, h⟩; exact ⟨by congr 2; omega, h⟩)
    have hen : e + 1 ≤ n := by have := hd.le (Pol.ofL_bd xs); rwa [hs.len] at this
    have heni : (e : Int) < (n : Int) := by omega
    obtain ⟨ad, rfl, -, hc⟩ := hs.cell e (by omega)
    have hx8 := hs.byte e
    rw [← of_inv_top hs.byt e] at h1
    obtain ⟨x, hxe⟩ : ∃ x, xs.getD e 0 = x := ⟨_, rfl⟩
    rw [hxe] at hc hx8 h1
    have K2 := rscale_calls (Gf.inv x) n c (some ad) xs zs (Gf.inv_lt _ hx8) h1 (by omega) w hs
    clear hd hs hn h1 hen hxe
    go_enter Tryz.func15, Tryz.ntmps15
    go_wp2_with fail
    refine K1.mono ?_
    rintro r w0 ⟨rfl, hw⟩
    subst w0
    go_wp2_with fail
    refine (rinv_calls x hx8 w).mono ?_
    rintro r w0 ⟨rfl, hw⟩
    subst w0
    go_wp2_with fail
    refine K2.mono ?_
    rintro r w1 ⟨v, rfl, hO, hb⟩
    go_wp2
    go_ret
    exact ⟨_, rfl, hO, hb⟩

/-- Between two steps. -/
structure HI (R : Nat) (w : World) (i : Nat) (v u : Value) (us vs zs : List Nat) (W : World) : Prop where
  ou : Ow W R v us
  ov : Ow W R u vs
  bu : Byt us
  bv : Byt vs
  lu : us.length ≤ 1000000
  lv : vs.length ≤ 1000000
  nv : IsN vs (ofL vs)
  gc : IsGc us vs zs
  len : vs.length = i
  below : Below R w W
theorem IsGc.step {us vs zs ls rs : List Nat} (h : IsGc us vs zs) (hD : IsDiv us vs ls rs true) : IsGc vs rs zs := by
  rcases hD with ⟨h, _⟩ | ⟨_, e, P1, P2, hd, h1, h2, h3, he⟩
  · cases h
  · rcases h with ⟨_, h, _⟩ | ⟨e', g, a1, a2, a3, a4⟩
    · exact absurd (hd.unique h) (by omega)
    · exact .inr ⟨e', g, a1, a2, by rw [h2.eq]; exact a3.back h1.dg.fin he, .inl hd.ne_zero⟩
theorem IsGc.last {us zs : List Nat} (h : IsGc us [] zs) : IsMo us zs := by
  rcases h with ⟨h, _, rfl⟩ | ⟨e, g, a1, a2, a3, a4⟩
  · exact .inl ⟨h, rfl⟩
  · obtain ⟨d, hd⟩ := (Pol.Fin.ofL us).dg
    rw [Pol.ofL_nil] at a3 a4
    cases d with
    | zero => exact absurd hd.eq_zero (a4.elim id (fun h => absurd rfl h))
    | succ d => exact .inr ⟨d, hd, by rw [Pol.monic_of_gcd a2 hd a3]; exact a1⟩
set_option maxRecDepth 100000 in
set_option maxHeartbeats 2000000 in
theorem r6gcd_u (q p : Option Addr) (n c m d : Nat) (xs ys zs : List Nat) (hD : IsGc xs ys zs) (hn : n ≤ 1000000) (hm : m ≤ 1000000) (hnc : n ≤ c) (hmd : m ≤ d) (w : World) (hx : Bs w q n xs) (hy : Bs w p m ys) :
    Calls Tryz.prog 17 #[.slice q n c, .slice p m d] w fun r w' => ∃ v, r = .returned v ∧ Ow w' w.heap.size v zs ∧ Below w.heap.size w w' := by
  obtain ⟨us, hu, bu⟩ := Pol.isN_norm xs
  obtain ⟨vs, hv, bv⟩ := Pol.isN_norm ys
  rw [hx.len] at bu
  rw [hy.len] at bv
  have K1 := rnorm_calls q n c xs us hu (by omega) hnc w hx
  have K2 : Hid (∀ W, Bs W p m ys → Calls Tryz.prog 19 #[.slice p m d] W fun e w' => ∃ v, e = .returned v ∧ Ow w' W.heap.size v vs ∧ Below W.heap.size W w') := fun W hW => rnorm_calls p m d ys vs hv (by omega) hmd W hW
  have hgc : IsGc us vs zs := by
    rcases hD with ⟨h1, h2, h3⟩ | ⟨e, g, h1, h2, h3, h4⟩
    · exact .inl ⟨hu.eq ▸ h1, hv.eq ▸ h2, h3⟩
    · exact .inr ⟨e, g, h1, h2, by rw [hu.eq, hv.eq]; exact h3, by rw [hu.eq, hv.eq]; exact h4⟩
  have HY : Hid (Bs w p m ys) := hy
  have HA : Hid (IsGc us vs zs ∧ Byt us ∧ Byt vs ∧ us.length ≤ 1000000 ∧ vs.length ≤ 1000000 ∧ IsN vs (ofL vs)) := ⟨hgc, hu.byt, hv.byt, by omega, by omega, hv.nrm, hv.byt, rfl⟩
  clear hD hn hm hnc hmd hx hy hu hv bu bv hgc
  go_enter Tryz.func17, Tryz.ntmps17
  go_wp2_with fail
  refine K1.mono ?_
  rintro r w1 ⟨v1, rfl, hO1, hb1⟩
  clear K1
  go_wp2_with fail
  refine (K2.out w1 (HY.out.below hb1)).mono ?_
  rintro r w2 ⟨v2, rfl, hO2, hb2⟩
  have H0 : Hid (HI w.heap.size w vs.length v1 v2 us vs zs w2) := ⟨hO1.below hb2, hO2.mono hb1.size, HA.out.2.1, HA.out.2.2.1, HA.out.2.2.2.1, HA.out.2.2.2.2.1, HA.out.2.2.2.2.2, HA.out.1, rfl, hb1.trans (hb2.mono hb1.size)⟩
  clear K2 hO1 hb1 hO2 hb2
  obtain ⟨L, hL⟩ : ∃ L, vs.length = L := ⟨_, rfl⟩
  rw [hL] at H0
  clear hL
  go_wp2
  go_loopg [5, 6] L (fun i v u wr => ∃ us vs, HI w.heap.size w i v u us vs zs wr)
  case atStart => exact ⟨us, vs, H0.out⟩
  case round =>
    clear H0 HA
    obtain ⟨us, vs, hi⟩ := hrel
    obtain ⟨nu, hnu⟩ : ∃ nu, us.length = nu := ⟨_, rfl⟩
    obtain ⟨q1, c1, rfl, S1, C1, -⟩ := hi.ou.tell (n := nu) hi.bu hnu
    obtain ⟨q2, c2, rfl, S2, C2, -⟩ := hi.ov.tell hi.bv hi.len
    have hsz := hi.below.size
    have hlu := hi.lu
    have hlv := hi.lv
    have hlen := hi.len
    cases gk with
    | zero =>
      have hv0 : vs = [] := List.length_eq_zero_iff.1 hlen
      have K := r6monic_u q1 nu c1 us zs ((hv0 ▸ hi.gc : IsGc us [] zs).last) (by omega) wr S1
      have HB : Hid (Below w.heap.size w wr) := hi.below
      clear hi S1 S2 C1 C2 hv0 hsz hlu hlv hlen hnu HY
      go_wp2_with fail
      refine K.mono ?_
      rintro r w3 ⟨v, rfl, hO, hb⟩
      go_wp2
      go_ret
      exact ⟨_, rfl, hO.mono HB.out.size, HB.out.trans (hb.mono HB.out.size)⟩
    | succ i =>
      obtain ⟨as', rs, b, hD, ba, br⟩ := isDiv_exists us vs
      have hb : b = true := by
        rcases hD with ⟨_, h, _⟩ | ⟨h, _⟩
        · exact absurd (hi.nv.dg.unique h) (by omega)
        · exact h
      subst hb
      have hrn : IsN rs (ofL rs) ∧ rs.length ≤ i := by
        rcases hD with ⟨h, _⟩ | ⟨_, e, P1, P2, hd, h1, h2, h3, he⟩
        · cases h
        · refine ⟨⟨h2.nrm, h2.byt, rfl⟩, ?_⟩
          have e1 := h2.dg.le h3
          have e2 := hi.nv.dg.unique hd
          omega
      obtain ⟨nr, hnr⟩ : ∃ nr, rs.length = nr := ⟨_, rfl⟩
      have K := r6mod_u q1 q2 nu c1 (i + 1) c2 us vs as' rs true hD (by omega) (by omega) C1 wr S1 S2
      have HI' : Hid (HI w.heap.size w (i + 1) (.slice q1 nu c1) (.slice q2 (i + 1) c2) us vs zs wr ∧ IsGc vs rs zs ∧ IsN rs (ofL rs) ∧ rs.length = nr ∧ nr ≤ i) := ⟨hi, hi.gc.step hD, hrn.1, hnr, by omega⟩
      have hpos : (0 : Int) < ((i + 1 : Nat) : Int) := by omega
      obtain ⟨i1, hi1⟩ : ∃ i1, i + 1 = i1 := ⟨_, rfl⟩
      rw [hi1] at hpos K HI' ⊢
      have HE : Hid (i + 1 = i1) := hi1
      clear hi S1 S2 C1 C2 hsz hlu hlv hlen hnu hD ba br hrn hnr hi1 HY
      go_wp2_with fail
      refine K.mono ?_
      rintro r w3 ⟨v, rfl, hO, hb⟩
      obtain ⟨q3, c3, rfl, -⟩ := hO.tell (n := nr) HI'.out.2.2.1.byt HI'.out.2.2.2.1
      have HO : Hid (Ow w3 wr.heap.size (.slice q3 nr c3) rs ∧ Below wr.heap.size wr w3) := ⟨hO, hb⟩
      clear hO hb K
      go_wp2
      go_roundg nr
      case measure => have := HI'.out.2.2.2.2; have := HE.out; omega
      case rel =>
        have hi := HI'.out.1
        have hsz := hi.below.size
        exact ⟨vs, rs, hi.ov.below HO.out.2, HO.out.1.mono hsz, hi.bv, HI'.out.2.2.1.byt, hi.lv, by have := HI'.out.2.2.2; have := HE.out; have := hi.len; have := hi.lv; omega, HI'.out.2.2.1, HI'.out.2.1, HI'.out.2.2.2.1, hi.below.trans (HO.out.2.mono hsz)⟩
end Go.Proofs
