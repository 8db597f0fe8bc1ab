/- The walks of quot.Div by nothing or without a field, of Mod and of Exact. Conditions: as Div's. -/
import Derived.Test.YtphhehppcfddgaaGreatQDiv
namespace Go.Proofs
open Go.RowKit Go.ChangeShapes Go.WideShapes
open Pol (IsN Dg ofL Byt Mon)

set_option maxRecDepth 100000 in
set_option maxHeartbeats 1000000 in
theorem qdiv_zero (k B T n c m d : Nat) (q p : Option Addr) (ys : List Nat) (hd : Dg 0 (ofL ys)) (w : World) (h : Fd k B T w) (hy : Bs w p m ys) :
    Calls Tryz.prog 8 #[.pointer (some ⟨B, 0, none⟩), .slice q n c, .slice p m d] w fun r w' => r = .returned (.tuple #[.slice none 0 0, .slice none 0 0, .bool false]) ∧ Fd k B T w' ∧ But (· = T) w w' := by
  have K1 := qtop_zero k B T m d p ys hd w h hy
  clear hy hd h
  go_enter Tryz.func8, Tryz.ntmps8
  go_wp2_with (go_at_call 21; refine K1.mono ?_; rintro r w1 ⟨rfl, hF, hb⟩)
  go_ret3
  exact ⟨rfl, hF, hb⟩
set_option maxRecDepth 100000 in
set_option maxHeartbeats 1000000 in
theorem qdiv_nil (n c m d : Nat) (q p : Option Addr) (ys : List Nat) (w : World) (hy : Bs w p m ys) :
    Calls Tryz.prog 8 #[.pointer none, .slice q n c, .slice p m d] w fun r w' => r = .returned (.tuple #[.slice none 0 0, .slice none 0 0, .bool false]) ∧ Below w.heap.size w w' := by
  have K1 := qtop_nil m d p ys w hy
  clear hy
  go_enter Tryz.func8, Tryz.ntmps8
  go_wp2_with (go_at_call 21; refine K1.mono ?_; rintro r w1 ⟨rfl, hb⟩)
  go_ret3
  exact ⟨rfl, hb⟩

set_option maxRecDepth 100000 in
set_option maxHeartbeats 1000000 in
theorem qmod_calls (k B T n c m d e : Nat) (q p : Option Addr) (xs ys zs rs : List Nat) (P1 P2 : Pol) (hd : Dg (e + 1) (ofL ys)) (ha : IsN zs P1) (hr : IsN rs P2) (h2 : Pol.Bd e P2) (he : ofL xs = Pol.add (Pol.mul P1 (ofL ys)) P2)
    (hn : n ≤ 1000000000) (hm : m ≤ 1000000000) (hnc : n ≤ c) (hmd : m ≤ d) (w : World) (h : Fd k B T w) (hx : Bs w q n xs) (hy : Bs w p m ys) (hq : Off T n q) (hp : Off T m p) :
    Calls Tryz.prog 11 #[.pointer (some ⟨B, 0, none⟩), .slice q n c, .slice p m d] w fun r w' => ∃ v2, r = .returned (.tuple #[v2, .bool true]) ∧ Ow w' w.heap.size v2 rs ∧ Fd k B T w' ∧ But (· = T) w w' := by
  have K1 := qdiv_calls k B T n c m d e q p xs ys zs rs P1 P2 hd ha hr h2 he hn hm hnc hmd w h hx hy hq hp
  clear hd ha hr h2 he hn hm hnc hmd h hx hy hq hp
  go_enter Tryz.func11, Tryz.ntmps11
  go_wp2_with (go_at_call 8; refine K1.mono ?_; rintro r w1 ⟨v1, v2, rfl, hO1, hO2, hF, hb⟩)
  go_ret2
  exact ⟨_, rfl, hO2, hF, hb⟩
set_option maxRecDepth 100000 in
set_option maxHeartbeats 1000000 in
theorem qmod_zero (k B T n c m d : Nat) (q p : Option Addr) (ys : List Nat) (hd : Dg 0 (ofL ys)) (w : World) (h : Fd k B T w) (hy : Bs w p m ys) :
    Calls Tryz.prog 11 #[.pointer (some ⟨B, 0, none⟩), .slice q n c, .slice p m d] w fun r w' => r = .returned (.tuple #[.slice none 0 0, .bool false]) ∧ Fd k B T w' ∧ But (· = T) w w' := by
  have K1 := qdiv_zero k B T n c m d q p ys hd w h hy
  clear hy hd h
  go_enter Tryz.func11, Tryz.ntmps11
  go_wp2_with (go_at_call 8; refine K1.mono ?_; rintro r w1 ⟨rfl, hF, hb⟩)
  go_ret2
  exact ⟨rfl, hF, hb⟩
set_option maxRecDepth 100000 in
set_option maxHeartbeats 1000000 in
theorem qmod_nil (n c m d : Nat) (q p : Option Addr) (ys : List Nat) (w : World) (hy : Bs w p m ys) :
    Calls Tryz.prog 11 #[.pointer none, .slice q n c, .slice p m d] w fun r w' => r = .returned (.tuple #[.slice none 0 0, .bool false]) ∧ Below w.heap.size w w' := by
  have K1 := qdiv_nil n c m d q p ys w hy
  clear hy
  go_enter Tryz.func11, Tryz.ntmps11
  go_wp2_with (go_at_call 8; refine K1.mono ?_; rintro r w1 ⟨rfl, hb⟩)
  go_ret2
  exact ⟨rfl, hb⟩
set_option maxRecDepth 100000 in
set_option maxHeartbeats 1000000 in
/-- Nothing is left. -/
theorem qexact_calls (k B T n c m d e : Nat) (q p : Option Addr) (xs ys zs : List Nat) (P1 : Pol) (hd : Dg (e + 1) (ofL ys)) (ha : IsN zs P1) (he : ofL xs = Pol.mul P1 (ofL ys))
    (hn : n ≤ 1000000000) (hm : m ≤ 1000000000) (hnc : n ≤ c) (hmd : m ≤ d) (w : World) (h : Fd k B T w) (hx : Bs w q n xs) (hy : Bs w p m ys) (hq : Off T n q) (hp : Off T m p) :
    Calls Tryz.prog 12 #[.pointer (some ⟨B, 0, none⟩), .slice q n c, .slice p m d] w fun r w' => ∃ v1, r = .returned (.tuple #[v1, .bool true]) ∧ Ow w' w.heap.size v1 zs ∧ Fd k B T w' ∧ But (· = T) w w' := by
  have K1 := qdiv_calls k B T n c m d e q p xs ys zs [] P1 Pol.zero hd ha Pol.isN_nil (Pol.Bd.zero _) (by rw [Pol.add_zero]; exact he) hn hm hnc hmd w h hx hy hq hp
  clear hd ha he hn hm hnc hmd h hx hy hq hp
  go_enter Tryz.func12, Tryz.ntmps12
  go_wp2_with (go_at_call 8; refine K1.mono ?_; rintro r w1 ⟨v1, v2, rfl, hO1, hO2, hF, hb⟩; obtain ⟨q2, c2, rfl, -⟩ := hO2.tell (n := 0) Pol.byt_nil rfl)
  go_ret2
  exact ⟨_, rfl, hO1, hF, hb⟩
set_option maxRecDepth 100000 in
set_option maxHeartbeats 1000000 in
/-- Something is left. -/
theorem qexact_no (k B T n c m d e : Nat) (q p : Option Addr) (xs ys zs rs : List Nat) (P1 P2 : Pol) (hd : Dg (e + 1) (ofL ys)) (ha : IsN zs P1) (hr : IsN rs P2) (h0 : P2 ≠ Pol.zero) (h2 : Pol.Bd e P2) (he : ofL xs = Pol.add (Pol.mul P1 (ofL ys)) P2)
    (hn : n ≤ 1000000000) (hm : m ≤ 1000000000) (hnc : n ≤ c) (hmd : m ≤ d) (w : World) (h : Fd k B T w) (hx : Bs w q n xs) (hy : Bs w p m ys) (hq : Off T n q) (hp : Off T m p) :
    Calls Tryz.prog 12 #[.pointer (some ⟨B, 0, none⟩), .slice q n c, .slice p m d] w fun r w' => r = .returned (.tuple #[.slice none 0 0, .bool false]) ∧ Fd k B T w' ∧ But (· = T) w w' := by
  have K1 := qdiv_calls k B T n c m d e q p xs ys zs rs P1 P2 hd ha hr h2 he hn hm hnc hmd w h hx hy hq hp
  obtain ⟨l, hl⟩ : ∃ l, rs.length = l := ⟨_, rfl⟩
  have hl0 : (0 : Int) < (l : Int) := by
    rcases Nat.eq_zero_or_pos l with e0 | e0
    · exact absurd (hr.nil_iff.1 (hl.trans e0)) h0
    · omega
  have HR : Hid (Byt rs ∧ rs.length = l) := ⟨hr.byt, hl⟩
  clear hd ha hr h0 h2 he hn hm hnc hmd h hx hy hq hp hl
  go_enter Tryz.func12, Tryz.ntmps12
  go_wp2_with (go_at_call 8; refine K1.mono ?_; rintro r w1 ⟨v1, v2, rfl, hO1, hO2, hF, hb⟩; obtain ⟨q2, c2, rfl, -⟩ := hO2.tell (n := l) HR.out.1 HR.out.2)
  go_ret2
  exact ⟨rfl, hF, hb⟩
set_option maxRecDepth 100000 in
set_option maxHeartbeats 1000000 in
theorem qexact_zero (k B T n c m d : Nat) (q p : Option Addr) (ys : List Nat) (hd : Dg 0 (ofL ys)) (w : World) (h : Fd k B T w) (hy : Bs w p m ys) :
    Calls Tryz.prog 12 #[.pointer (some ⟨B, 0, none⟩), .slice q n c, .slice p m d] w fun r w' => r = .returned (.tuple #[.slice none 0 0, .bool false]) ∧ Fd k B T w' ∧ But (· = T) w w' := by
  have K1 := qdiv_zero k B T n c m d q p ys hd w h hy
  clear hy hd h
  go_enter Tryz.func12, Tryz.ntmps12
  go_wp2_with (go_at_call 8; refine K1.mono ?_; rintro r w1 ⟨rfl, hF, hb⟩)
  go_ret2
  exact ⟨rfl, hF, hb⟩
end Go.Proofs
