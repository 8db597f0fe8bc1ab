/- The walks of poly.Norm, Coef, Cut, Same and Scale. Conditions: lists of at most a thousand million bytes, no longer than their capacities. -/
import Derived.Test.YtphhehppcfddgaaGreatPDeg
import Derived.Test.YtphhehppcfddgaaGreatApp2
import Derived.Test.YtphhehppcfddgaaGreatFdL
import Derived.Laws.BytesArg
import Derived.Laws.Strings
namespace Go.Proofs
open Go.RowKit Go.ChangeShapes Go.WideShapes
attribute [local go_sem ↓ high] builtin_ap
attribute [local go_sem] ap_sem
open Pol (IsN Dg ofL Byt)

theorem Bs.byt {W : World} {q : Option Addr} {n : Nat} {xs : List Nat} (h : Bs W q n xs) : Byt xs := h.byte
set_option maxHeartbeats 1000000 in
theorem pnorm_calls (q : Option Addr) (n c : Nat) (xs zs : List Nat) (hz : IsN zs (ofL xs)) (hn : n ≤ 1000000000) (hnc : n ≤ c) (w : World) (hs : Bs w q n xs) :
    Calls Tryz.prog 23 #[.slice q n c] w fun e w' => ∃ v, e = .returned v ∧ Ow w' w.heap.size v zs ∧ Below w.heap.size w w' := by
  obtain ⟨d, hd, hg⟩ := Pol.dg_list xs
  rw [hs.len] at hd
  have K := pnormal_calls q n c xs d hg hnc w hs
  obtain rfl := hz.unique (Pol.isN_take hs.byt hg)
  have HS : Hid (Bs w q d (xs.take d)) := bs_take hs d hd
  clear hs hz hg
  obtain ⟨zs, hzs⟩ : ∃ zs, xs.take d = zs := ⟨_, rfl⟩
  rw [hzs] at HS ⊢
  clear hzs
  go_enter Tryz.func23, Tryz.ntmps23
  go_wp2_with (go_at_call 40; refine K.mono ?_; rintro e w1 ⟨rfl, hb⟩; obtain ⟨v1, W1, hap, hO, hg⟩ := run_append_list w1 w.heap.size (.slice none 0 0) [] q d c zs (ow_nil _ _) (HS.out.below hb) (by simp; omega) hb.size; have ha1 := ap_ok hap; have ha2 := ap_v hap; have ha3 := ap_w hap)
  go_ret
  exact ⟨_, rfl, hO, hb.grown hg hb.size (fun k hk => by cases hk)⟩

/-- A coefficient. -/
def cof (xs : List Nat) (i : Int) : Nat := if 0 ≤ i then xs.getD i.toNat 0 else 0
set_option maxHeartbeats 1000000 in
theorem pcoef_calls (q : Option Addr) (n c : Nat) (xs : List Nat) (i : Int) (w : World) (hs : Bs w q n xs) :
    Calls Tryz.prog 37 #[.slice q n c, .int .i64 i] w fun e w' => e = .returned (.int .u8 (cof xs i : Nat)) ∧ w' = w := by
  have hmax := hs.max
  rcases Int.lt_or_le i 0 with h | h
  · have e : cof xs i = 0 := by unfold cof; rw [if_neg (by omega)]
    rw [e]
    go_enter Tryz.func37, Tryz.ntmps37
    go_wp2
    go_ret
    exact ⟨rfl, rfl⟩
  · obtain ⟨k, rfl⟩ := Int.eq_ofNat_of_zero_le h
    have e : cof xs (k : Int) = xs.getD k 0 := by unfold cof; rw [if_pos (by omega)]; rfl
    rw [e]
    by_cases hk : k < n
    · obtain ⟨a, rfl, _, hc⟩ := hs.cell k hk
      obtain ⟨x, hx⟩ : ∃ x, xs.getD k 0 = x := ⟨_, rfl⟩
      rw [hx] at hc ⊢
      clear hs
      have h1 : ¬ (k : Int) < 0 := by omega
      have h2 : ¬ (n : Int) ≤ (k : Int) := by omega
      have h3 : (k : Int) < (n : Int) := by omega
      go_enter Tryz.func37, Tryz.ntmps37
      go_wp2
      go_ret
      exact ⟨rfl, rfl⟩
    · have hl := hs.len
      have e2 : xs.getD k 0 = 0 := by simp [List.getD, List.getElem?_eq_none (show xs.length ≤ k by omega)]
      rw [e2]
      have h1 : ¬ (k : Int) < 0 := by omega
      have h2 : (n : Int) ≤ (k : Int) := by omega
      clear hs
      go_enter Tryz.func37, Tryz.ntmps37
      go_wp2
      go_ret
      exact ⟨rfl, rfl⟩
theorem cof_lt {xs : List Nat} (h : Byt xs) (i : Int) : cof xs i < 256 := by unfold cof; split; exact h _; decide


/-- The string of bytes. -/
def strB (xs : List Nat) : ByteArray := ⟨(xs.map UInt8.ofNat).toArray⟩
theorem strB_inj {xs ys : List Nat} (hx : Byt xs) (hy : Byt ys) (h : strB xs = strB ys) : xs = ys := by
  have h1 : xs.map UInt8.ofNat = ys.map UInt8.ofNat := by
    have := congrArg (fun s => s.data.toList) h
    simpa [strB] using this
  have hl : xs.length = ys.length := by simpa using congrArg List.length h1
  apply List.ext_getElem?
  intro i
  have h2 := congrArg (fun l => l[i]?) h1
  simp only [List.getElem?_map] at h2
  by_cases hi : i < xs.length
  · have hj : i < ys.length := by omega
    have b1 := hx i
    have b2 := hy i
    simp only [List.getD, List.getElem?_eq_getElem hi, List.getElem?_eq_getElem hj, Option.getD_some, Option.map_some, Option.some.injEq] at h2 b1 b2 ⊢
    have h3 := congrArg UInt8.toNat h2
    simp only [UInt8.toNat_ofNat'] at h3
    omega
  · rw [List.getElem?_eq_none (by omega), List.getElem?_eq_none (by omega)]
theorem conv_bytes (w : World) (q : Option Addr) (n c : Nat) (xs : List Nat) (hs : Bs w q n xs) : (convert 22 9 (.slice q n c)).run Tryz.prog w = .ok (.string (strB xs)) w := by
  cases q with
  | none =>
    have h0 : n = 0 := by
      rcases Nat.eq_zero_or_pos n with h | h
      · exact h
      · obtain ⟨_, e, _⟩ := hs.cell 0 h; cases e
    have hl := hs.len
    rw [h0] at hl
    rw [List.length_eq_zero_iff.1 hl]
    exact run_convert_bytes_nil w _ _ Tryz.underlying22 Tryz.underlying5 n c _ Tryz.underlying9
  | some a =>
    have hl := hs.len
    rw [run_convert_bytes_string w _ _ _ _ n c Tryz.underlying22 Tryz.underlying5 Tryz.underlying9]
    have h2 : (loadCells a n).run Tryz.prog w = .ok ((xs.map Int.ofNat).map (Value.int .u8)).toArray w := by
      have := run_loadCells_list (P := Tryz.prog) w a ((xs.map Int.ofNat).map (Value.int .u8)) (fun j v hj => by
        have hjl : j < xs.length := by
          rcases Nat.lt_or_ge j xs.length with h | h
          · exact h
          · rw [List.getElem?_eq_none (by simpa using h)] at hj; cases hj
        obtain ⟨a', e, _, hc⟩ := hs.cell j (by omega)
        cases e
        rw [hc]
        simp [hjl] at hj
        simp [List.getD, hjl, ← hj])
      simpa [hl] using this
    rw [run_bytesToString w a n c _ h2, foldl_push_bytes]
    simp [strB, ByteArray.empty, ByteArray.emptyWithCapacity]
    rfl

/-- The front of a list that a call has made. -/
theorem Ow.front {W : World} {base : Nat} {v : Value} {q : Option Addr} {n c d : Nat} {xs : List Nat} (h : Ow W base v xs) (e : v = .slice q n c) (hd : d ≤ n) : Ow W base (.slice q d c) (xs.take d) := by
  subst e
  obtain ⟨h1, h2⟩ := h
  rcases h2 with ⟨e, h0⟩ | ⟨g, cap, cur, e, hb, hg, hle, hm, hc, ht⟩
  · cases e
    obtain rfl : d = 0 := by omega
    rw [List.take_zero]
    exact ow_nil W base
  · cases e
    have hn : d ≤ xs.length := hd
    refine ⟨by simp [ob], .inr ⟨g, _, cur, ?_, hb, hg, ?_, hm, hc, ?_⟩⟩
    · rw [List.length_take]; congr 1; omega
    · rw [List.length_take]; omega
    · rw [List.length_take, Nat.mul_one, Nat.min_eq_left hn]
      have : ob (xs.take d) = (ob xs).take d := by simp [ob, List.map_take]
      rw [this, ← ht, List.take_take, Nat.mul_one, Nat.min_eq_left hn]
set_option maxHeartbeats 1000000 in
theorem pscale_calls (k B T a n c : Nat) (q : Option Addr) (xs zs : List Nat) (ha : a < 256) (hz : IsN zs (Pol.smul (GF.of a) (ofL xs))) (hn : n ≤ 1000000000) (hnc : n ≤ c) (w : World) (h : Fd k B T w) (hs : Bs w q n xs) (hq : Off T n q) :
    Calls Tryz.prog 24 #[.pointer (some ⟨B, 0, none⟩), .int .u8 a, .slice q n c] w fun e w' => ∃ v, e = .returned v ∧ Ow w' w.heap.size v zs ∧ Fd k B T w' ∧ But (· = T) w w' := by
  have K := feach_calls k B T a n c q xs ha hn hnc w h hs hq
  have e1 : ofL (xs.map (Gf.mul a)) = Pol.smul (GF.of a) (ofL xs) := Pol.ofL_map a ha hs.byt
  have hby := map_byte a xs ha
  have hlm : (xs.map (Gf.mul a)).length = n := by rw [List.length_map]; exact hs.len
  obtain ⟨ys, hys⟩ : ∃ ys, xs.map (Gf.mul a) = ys := ⟨_, rfl⟩
  rw [hys] at K e1 hby hlm
  clear hys h hs hq
  obtain ⟨d, hd, hg⟩ := Pol.dg_list ys
  rw [hlm] at hd
  obtain rfl := hz.unique (e1 ▸ Pol.isN_take (show Byt ys from hby) hg)
  have K2 : Hid (∀ W p C, n ≤ C → Bs W p n ys → Calls Tryz.prog 40 #[.slice p n C] W fun e w' => e = .returned (.slice p d C) ∧ Below W.heap.size W w') := fun W p C hC hW => pnormal_calls p n C ys d hg hC W hW
  clear hz e1 hg
  go_enter Tryz.func24, Tryz.ntmps24
  go_wp2_with fail
  refine K.mono ?_
  rintro e w1 ⟨v, rfl, hO, hF, hb⟩
  obtain ⟨p, C, rfl, hS, hC, -⟩ := hO.told hby
  rw [hlm] at hS hC hO ⊢
  clear K
  go_wp2_with fail
  refine (K2.out w1 p C hC hS).mono ?_
  rintro e w2 ⟨rfl, hb2⟩
  clear K2
  go_wp2
  go_ret
  exact ⟨_, rfl, (hO.front rfl hd).below hb2, hF.below hb2, hb.trans (But.of_below hb2)⟩
end Go.Proofs
