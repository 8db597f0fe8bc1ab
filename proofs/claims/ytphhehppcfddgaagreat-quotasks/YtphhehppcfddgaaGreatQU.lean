/- What Div, Mod, Exact, Monic and Gcd tell of any lists, in one word each. Conditions: as those of the walks. -/
import Derived.Test.YtphhehppcfddgaaGreatQGcd
namespace Go.Proofs
open Go.RowKit Go.ChangeShapes Go.WideShapes
open Pol (IsN Dg ofL Byt Mon)

/-- A division: zs times, rs is left; b: there was something to divide by. -/
def IsDiv (xs ys zs rs : List Nat) (b : Bool) : Prop := (b = false ∧ Dg 0 (ofL ys) ∧ zs = [] ∧ rs = []) ∨ (b = true ∧ ∃ e P1 P2, Dg (e + 1) (ofL ys) ∧ IsN zs P1 ∧ IsN rs P2 ∧ Pol.Bd e P2 ∧ ofL xs = Pol.add (Pol.mul P1 (ofL ys)) P2)
theorem IsDiv.byt {xs ys zs rs : List Nat} {b : Bool} (h : IsDiv xs ys zs rs b) : Byt zs ∧ Byt rs := by
  rcases h with ⟨_, _, rfl, rfl⟩ | ⟨_, e, P1, P2, _, h1, h2, _⟩
  · exact ⟨Pol.byt_nil, Pol.byt_nil⟩
  · exact ⟨h1.byt, h2.byt⟩
theorem isDiv_exists (xs ys : List Nat) : ∃ zs rs b, IsDiv xs ys zs rs b ∧ zs.length ≤ xs.length ∧ rs.length ≤ ys.length := by
  obtain ⟨d, hd, hg⟩ := Pol.dg_list ys
  cases d with
  | zero => exact ⟨[], [], false, .inl ⟨rfl, hg, rfl, rfl⟩, by simp, by simp⟩
  | succ e =>
    obtain ⟨P1, P2, h1, h2, he⟩ := Pol.div_exists hg xs.length (ofL xs) (Pol.ofL_bd xs)
    obtain ⟨zs, hz, bz⟩ := Pol.isN_of_bd h1
    obtain ⟨rs, hr, br⟩ := Pol.isN_of_bd h2
    exact ⟨zs, rs, true, .inr ⟨rfl, e, P1, P2, hg, hz, hr, h2, he⟩, bz, by omega⟩
/-- A division without a rest: zs times; b: there is none. -/
def IsEx (xs ys zs : List Nat) (b : Bool) : Prop := (b = true ∧ ∃ e P1, Dg (e + 1) (ofL ys) ∧ IsN zs P1 ∧ ofL xs = Pol.mul P1 (ofL ys)) ∨ (b = false ∧ zs = [] ∧ Dg 0 (ofL ys)) ∨ (b = false ∧ zs = [] ∧ ∃ e P1 P2 l1 l2, Dg (e + 1) (ofL ys) ∧ IsN l1 P1 ∧ IsN l2 P2 ∧ P2 ≠ Pol.zero ∧ Pol.Bd e P2 ∧ ofL xs = Pol.add (Pol.mul P1 (ofL ys)) P2)
theorem IsEx.byt {xs ys zs : List Nat} {b : Bool} (h : IsEx xs ys zs b) : Byt zs := by
  rcases h with ⟨_, e, P1, _, h1, _⟩ | ⟨_, rfl, _⟩ | ⟨_, rfl, _⟩
  · exact h1.byt
  · exact Pol.byt_nil
  · exact Pol.byt_nil
theorem isEx_exists (xs ys : List Nat) : ∃ zs b, IsEx xs ys zs b ∧ zs.length ≤ xs.length := by
  obtain ⟨d, hd, hg⟩ := Pol.dg_list ys
  cases d with
  | zero => exact ⟨[], false, .inr (.inl ⟨rfl, rfl, hg⟩), by simp⟩
  | succ e =>
    obtain ⟨P1, P2, h1, h2, he⟩ := Pol.div_exists hg xs.length (ofL xs) (Pol.ofL_bd xs)
    obtain ⟨zs, hz, bz⟩ := Pol.isN_of_bd h1
    obtain ⟨rs, hr, br⟩ := Pol.isN_of_bd h2
    by_cases h0 : P2 = Pol.zero
    · subst h0
      exact ⟨zs, true, .inl ⟨rfl, e, P1, hg, hz, by rw [he, Pol.add_zero]⟩, bz⟩
    · exact ⟨[], false, .inr (.inr ⟨rfl, rfl, e, P1, P2, zs, rs, hg, hz, hr, h0, h2, he⟩), by simp⟩
/-- Made monic. -/
def IsMo (xs zs : List Nat) : Prop := (Dg 0 (ofL xs) ∧ zs = []) ∨ ∃ e, Dg (e + 1) (ofL xs) ∧ IsN zs (Pol.smul (GF.inv (ofL xs e)) (ofL xs))
theorem IsMo.byt {xs zs : List Nat} (h : IsMo xs zs) : Byt zs := by
  rcases h with ⟨_, rfl⟩ | ⟨_, _, h⟩
  · exact Pol.byt_nil
  · exact h.byt
theorem isMo_exists (xs : List Nat) : ∃ zs, IsMo xs zs ∧ zs.length ≤ xs.length := by
  obtain ⟨d, hd, hg⟩ := Pol.dg_list xs
  cases d with
  | zero => exact ⟨[], .inl ⟨hg, rfl⟩, by simp⟩
  | succ e =>
    obtain ⟨zs, hz, bz⟩ := Pol.isN_smul (GF.inv (ofL xs e)) xs
    exact ⟨zs, .inr ⟨e, hg, hz⟩, bz⟩
/-- The greatest that divides both. -/
def IsGc (xs ys zs : List Nat) : Prop := (Dg 0 (ofL xs) ∧ Dg 0 (ofL ys) ∧ zs = []) ∨ ∃ e g, IsN zs g ∧ Mon e g ∧ Pol.IsGcd g (ofL xs) (ofL ys) ∧ (ofL xs ≠ Pol.zero ∨ ofL ys ≠ Pol.zero)
theorem IsGc.byt {xs ys zs : List Nat} (h : IsGc xs ys zs) : Byt zs := by
  rcases h with ⟨_, _, rfl⟩ | ⟨_, _, h, _⟩
  · exact Pol.byt_nil
  · exact h.byt
theorem isGc_exists (xs ys : List Nat) : ∃ zs, IsGc xs ys zs ∧ zs.length ≤ xs.length + ys.length := by
  obtain ⟨d1, hd1, g1⟩ := Pol.dg_list xs
  obtain ⟨d2, hd2, g2⟩ := Pol.dg_list ys
  by_cases h0 : d1 = 0 ∧ d2 = 0
  · obtain ⟨rfl, rfl⟩ := h0
    exact ⟨[], .inl ⟨g1, g2, rfl⟩, by simp⟩
  · have ne : ofL xs ≠ Pol.zero ∨ ofL ys ≠ Pol.zero := by
      cases d1 with
      | succ d1 => exact .inl g1.ne_zero
      | zero =>
        cases d2 with
        | succ d2 => exact .inr g2.ne_zero
        | zero => exact absurd ⟨rfl, rfl⟩ h0
    obtain ⟨e, g, hM, hG⟩ := Pol.gcd_exists _ (ofL xs) (ofL ys) (Pol.ofL_bd ys) (Pol.Fin.ofL xs) ne
    refine ⟨_, .inr ⟨e, g, Pol.isN_of_dg hM.dg, hM, hG, ne⟩, ?_⟩
    rw [Pol.toL_length]
    cases d1 with
    | succ d1 => have := Pol.Dvd.deg hM.dg g1 hG.left; omega
    | zero =>
      cases d2 with
      | succ d2 => have := Pol.Dvd.deg hM.dg g2 hG.right; omega
      | zero => exact absurd ⟨rfl, rfl⟩ h0

theorem qdiv_u (k B T n c m d : Nat) (q p : Option Addr) (xs ys zs rs : List Nat) (b : Bool) (hD : IsDiv xs ys zs rs b) (hn : n ≤ 1000000000) (hm : m ≤ 1000000000) (hnc : n ≤ c) (hmd : m ≤ d) (w : World) (h : Fd k B T w) (hx : Bs w q n xs) (hy : Bs w p m ys) (hq : Off T n q) (hp : Off T m p) :
    Calls Tryz.prog 8 #[.pointer (some ⟨B, 0, none⟩), .slice q n c, .slice p m d] w fun r w' => ∃ v1 v2, r = .returned (.tuple #[v1, v2, .bool b]) ∧ Ow w' w.heap.size v1 zs ∧ Ow w' w.heap.size v2 rs ∧ Fd k B T w' ∧ But (· = T) w w' := by
  rcases hD with ⟨rfl, hd, rfl, rfl⟩ | ⟨rfl, e, P1, P2, hd, h1, h2, h3, he⟩
  · refine (qdiv_zero k B T n c m d q p ys hd w h hy).mono ?_
    rintro r w' ⟨rfl, hF, hb⟩
    exact ⟨_, _, rfl, ow_nil _ _, ow_nil _ _, hF, hb⟩
  · exact qdiv_calls k B T n c m d e q p xs ys zs rs P1 P2 hd h1 h2 h3 he hn hm hnc hmd w h hx hy hq hp
theorem qmod_u (k B T n c m d : Nat) (q p : Option Addr) (xs ys zs rs : List Nat) (b : Bool) (hD : IsDiv xs ys zs rs b) (hn : n ≤ 1000000000) (hm : m ≤ 1000000000) (hnc : n ≤ c) (hmd : m ≤ d) (w : World) (h : Fd k B T w) (hx : Bs w q n xs) (hy : Bs w p m ys) (hq : Off T n q) (hp : Off T m p) :
    Calls Tryz.prog 11 #[.pointer (some ⟨B, 0, none⟩), .slice q n c, .slice p m d] w fun r w' => ∃ v, r = .returned (.tuple #[v, .bool b]) ∧ Ow w' w.heap.size v rs ∧ Fd k B T w' ∧ But (· = T) w w' := by
  rcases hD with ⟨rfl, hd, rfl, rfl⟩ | ⟨rfl, e, P1, P2, hd, h1, h2, h3, he⟩
  · refine (qmod_zero k B T n c m d q p ys hd w h hy).mono ?_
    rintro r w' ⟨rfl, hF, hb⟩
    exact ⟨_, rfl, ow_nil _ _, hF, hb⟩
  · exact qmod_calls k B T n c m d e q p xs ys zs rs P1 P2 hd h1 h2 h3 he hn hm hnc hmd w h hx hy hq hp
theorem qexact_u (k B T n c m d : Nat) (q p : Option Addr) (xs ys zs : List Nat) (b : Bool) (hD : IsEx xs ys zs b) (hn : n ≤ 1000000000) (hm : m ≤ 1000000000) (hnc : n ≤ c) (hmd : m ≤ d) (w : World) (h : Fd k B T w) (hx : Bs w q n xs) (hy : Bs w p m ys) (hq : Off T n q) (hp : Off T m p) :
    Calls Tryz.prog 12 #[.pointer (some ⟨B, 0, none⟩), .slice q n c, .slice p m d] w fun r w' => ∃ v, r = .returned (.tuple #[v, .bool b]) ∧ Ow w' w.heap.size v zs ∧ Fd k B T w' ∧ But (· = T) w w' := by
  rcases hD with ⟨rfl, e, P1, hd, h1, he⟩ | ⟨rfl, rfl, hd⟩ | ⟨rfl, rfl, e, P1, P2, l1, l2, hd, h1, h2, h0, h3, he⟩
  · exact qexact_calls k B T n c m d e q p xs ys zs P1 hd h1 he hn hm hnc hmd w h hx hy hq hp
  · refine (qexact_zero k B T n c m d q p ys hd w h hy).mono ?_
    rintro r w' ⟨rfl, hF, hb⟩
    exact ⟨_, rfl, ow_nil _ _, hF, hb⟩
  · refine (qexact_no k B T n c m d e q p xs ys l1 l2 P1 P2 hd h1 h2 h0 h3 he hn hm hnc hmd w h hx hy hq hp).mono ?_
    rintro r w' ⟨rfl, hF, hb⟩
    exact ⟨_, rfl, ow_nil _ _, hF, hb⟩
theorem qmonic_u (k B T n c : Nat) (q : Option Addr) (xs zs : List Nat) (hD : IsMo xs zs) (hn : n ≤ 1000000000) (hnc : n ≤ c) (w : World) (h : Fd k B T w) (hs : Bs w q n xs) (hq : Off T n q) :
    Calls Tryz.prog 14 #[.pointer (some ⟨B, 0, none⟩), .slice q n c] w fun r w' => ∃ v, r = .returned v ∧ Ow w' w.heap.size v zs ∧ Fd k B T w' ∧ But (· = T) w w' := by
  rcases hD with ⟨hd, rfl⟩ | ⟨e, hd, h1⟩
  · refine (qmonic_zero k B T n c q xs hd w h hs).mono ?_
    rintro r w' ⟨rfl, hF, hb⟩
    exact ⟨_, rfl, ow_nil _ _, hF, hb⟩
  · exact qmonic_calls k B T n c e q xs zs hd h1 hn hnc w h hs hq
theorem qgcd_u (k B T n c m d : Nat) (q p : Option Addr) (xs ys zs : List Nat) (hD : IsGc xs ys zs) (hn : n ≤ 1000000000) (hm : m ≤ 1000000000) (hnc : n ≤ c) (hmd : m ≤ d) (w : World) (h : Fd k B T w) (hx : Bs w q n xs) (hy : Bs w p m ys) (hq : Off T n q) (hp : Off T m p) :
    Calls Tryz.prog 16 #[.pointer (some ⟨B, 0, none⟩), .slice q n c, .slice p m d] w fun r w' => ∃ v, r = .returned v ∧ Ow w' w.heap.size v zs ∧ Fd k B T w' ∧ But (· = T) w w' := by
  rcases hD with ⟨h1, h2, rfl⟩ | ⟨e, g, h1, h2, h3, h4⟩
  · refine (qgcd_zero k B T n c m d q p xs ys h1 h2 w h hx hy hq).mono ?_
    rintro r w' ⟨rfl, hF, hb⟩
    exact ⟨_, rfl, ow_nil _ _, hF, hb⟩
  · exact qgcd_calls k B T n c m d q p xs ys zs g e h1 h2 h3 h4 hn hm hnc hmd w h hx hy hq hp
end Go.Proofs
