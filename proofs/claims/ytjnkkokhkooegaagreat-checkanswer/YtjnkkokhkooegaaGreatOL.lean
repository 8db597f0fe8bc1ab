/- slices.Sort of integers, off the shelf of contracts; synd.Sorted. Conditions: a list that is no great one. -/
import Derived.Shelf.Sort.AssemblyIn
import Derived.Sort.EveryDepth
import Derived.Sort.OwnSortedInts
import Derived.Test.YtjnkkokhkooegaaGreatOK
namespace Go.Proofs
open Go.RowKit Go.ChangeShapes Go.WideShapes

def sortz_ren : Go.Shelf.Ren := ⟨fun | 125 => 76 | 128 => 96 | 129 => 97 | 189 => 58 | 215 => 77 | 216 => 59 | 257 => 75 | 294 => 88 | 295 => 89 | 296 => 90 | 297 => 91 | 298 => 92 | 299 => 93 | 300 => 94 | 301 => 95 | 328 => 101 | 329 => 102 | 330 => 103 | 331 => 104 | 332 => 105 | 343 => 106 | n => n, fun | 0 => 0 | 3 => 3 | 4 => 4 | 5 => 5 | 9 => 9 | 28 => 33 | 46 => 111 | 51 => 86 | 53 => 149 | 131 => 79 | 182 => 141 | 183 => 142 | 218 => 152 | 222 => 156 | 228 => 158 | 229 => 159 | n => n, fun n => n⟩
theorem sortz : Lays.n189 Tryz.prog sortz_ren := {
  mixed := by kernel_rfl,
  f125 := Tryz.func76.trans (congrArg some (by kernel_rfl)),
  f128 := Tryz.func96.trans (congrArg some (by kernel_rfl)),
  f129 := Tryz.func97.trans (congrArg some (by kernel_rfl)),
  f189 := Tryz.func58.trans (congrArg some (by kernel_rfl)),
  f215 := Tryz.func77.trans (congrArg some (by kernel_rfl)),
  f216 := Tryz.func59.trans (congrArg some (by kernel_rfl)),
  f257 := Tryz.func75.trans (congrArg some (by kernel_rfl)),
  f294 := Tryz.func88.trans (congrArg some (by kernel_rfl)),
  f295 := Tryz.func89.trans (congrArg some (by kernel_rfl)),
  f296 := Tryz.func90.trans (congrArg some (by kernel_rfl)),
  f297 := Tryz.func91.trans (congrArg some (by kernel_rfl)),
  f298 := Tryz.func92.trans (congrArg some (by kernel_rfl)),
  f299 := Tryz.func93.trans (congrArg some (by kernel_rfl)),
  f300 := Tryz.func94.trans (congrArg some (by kernel_rfl)),
  f301 := Tryz.func95.trans (congrArg some (by kernel_rfl)),
  f328 := Tryz.func101.trans (congrArg some (by kernel_rfl)),
  f329 := Tryz.func102.trans (congrArg some (by kernel_rfl)),
  f330 := Tryz.func103.trans (congrArg some (by kernel_rfl)),
  f331 := Tryz.func104.trans (congrArg some (by kernel_rfl)),
  f332 := Tryz.func105.trans (congrArg some (by kernel_rfl)),
  f343 := Tryz.func106.trans (congrArg some (by kernel_rfl)),
  t0 := Tryz.underlying0,
  a0 := Tryz.isAgg0,
  z0 := Tryz.sizeOf0,
  v0 := Tryz.zeroValue0,
  t3 := Tryz.underlying3,
  a3 := Tryz.isAgg3,
  z3 := Tryz.sizeOf3,
  v3 := Tryz.zeroValue3,
  t4 := Tryz.underlying4,
  a4 := Tryz.isAgg4,
  z4 := Tryz.sizeOf4,
  v4 := Tryz.zeroValue4,
  t5 := Tryz.underlying5,
  a5 := Tryz.isAgg5,
  z5 := Tryz.sizeOf5,
  v5 := Tryz.zeroValue5,
  t9 := Tryz.underlying9,
  a9 := Tryz.isAgg9,
  z9 := Tryz.sizeOf9,
  v9 := Tryz.zeroValue9,
  t28 := Tryz.underlying33,
  a28 := Tryz.isAgg33,
  z28 := Tryz.sizeOf33,
  v28 := Tryz.zeroValue33,
  t46 := Tryz.underlying111,
  a46 := Tryz.isAgg111,
  z46 := Tryz.sizeOf111,
  v46 := Tryz.zeroValue111,
  t51 := Tryz.underlying86,
  a51 := Tryz.isAgg86,
  z51 := Tryz.sizeOf86,
  v51 := Tryz.zeroValue86,
  t53 := Tryz.underlying149,
  a53 := Tryz.isAgg149,
  z53 := Tryz.sizeOf149,
  v53 := Tryz.zeroValue149,
  t131 := Tryz.underlying79,
  a131 := Tryz.isAgg79,
  z131 := Tryz.sizeOf79,
  v131 := Tryz.zeroValue79,
  t182 := Tryz.underlying141,
  a182 := Tryz.isAgg141,
  z182 := Tryz.sizeOf141,
  v182 := Tryz.zeroValue141,
  t183 := Tryz.underlying142,
  a183 := Tryz.isAgg142,
  z183 := Tryz.sizeOf142,
  v183 := Tryz.zeroValue142,
  t218 := Tryz.underlying152,
  a218 := Tryz.isAgg152,
  z218 := Tryz.sizeOf152,
  v218 := Tryz.zeroValue152,
  t222 := Tryz.underlying156,
  a222 := Tryz.isAgg156,
  z222 := Tryz.sizeOf156,
  v222 := Tryz.zeroValue156,
  t228 := Tryz.underlying158,
  a228 := Tryz.isAgg158,
  z228 := Tryz.sizeOf158,
  v228 := Tryz.zeroValue158,
  t229 := Tryz.underlying159,
  a229 := Tryz.isAgg159,
  z229 := Tryz.sizeOf159,
  v229 := Tryz.zeroValue159 }
theorem sort_calls (g cap : Nat) (zs : List Int) (w : World) (hH : Sort.Holds (Value.int .i64) w g 0 zs.toArray) (hg : g < w.heap.size) (hsz : zs.length < 4611686018427387904) :
    Calls Tryz.prog 58 #[.slice (some ⟨g, 0, none⟩) zs.length cap] w fun e w' =>
      e = .returned (.tuple #[]) ∧ ∃ n os, w' = Sort.grow (Sort.putRow (Value.int .i64) (Sort.ahead w n) g 0 (zs.mergeSort fun x y => decide (x ≤ y)).toArray) os :=
  calls_of_every_depth fun D => AnyS.slices_Sort_int_in sortz D g 0 cap zs w hH hg hsz
/-- Where nothing is to be sorted. -/
theorem len0_calls (w : World) : Calls Tryz.prog 76 #[.int .u64 0] w fun e w' => e = .returned (.int .i64 0) ∧ Below w.heap.size w w' :=
  (calls_of_every_depth fun D => Any.lenWalkInAll { sortz with } D 0 w (by omega)).mono fun e w' ⟨h, hw⟩ => ⟨h.trans (by kernel_rfl), hw ▸ Below.refl _ _⟩
set_option maxRecDepth 100000 in
theorem ins0_calls (w : World) : Calls Tryz.prog 88 #[.slice none 0 0, .int .i64 0, .int .i64 0] w fun e w' => e = .returned (.tuple #[]) ∧ Below w.heap.size w w' := by
  go_enter Tryz.func88, Tryz.ntmps88
  go_wp2
  go_loopw [6] (fun i wr => i = .int .i64 1 ∧ Below w.heap.size w wr) (fun _ _ => 0)
  case atStart => exact ⟨rfl, Below.refl _ _⟩
  case round =>
    obtain ⟨rfl, hB⟩ := hrel
    go_wp2
    refine bodyPost_end (results_none rfl _ _ _) rfl ?_
    exact ⟨rfl, hB⟩
set_option maxRecDepth 100000 in
theorem pdq0_calls (w : World) : Calls Tryz.prog 75 #[.slice none 0 0, .int .i64 0, .int .i64 0, .int .i64 0] w fun e w' => e = .returned (.tuple #[]) ∧ Below w.heap.size w w' := by
  have K : Hid (∀ W, Calls Tryz.prog 88 #[.slice none 0 0, .int .i64 0, .int .i64 0] W fun e w' => e = .returned (.tuple #[]) ∧ Below W.heap.size W w') := ins0_calls
  go_enter Tryz.func75, Tryz.ntmps75
  go_wp2
  go_loopw [1, 2] (fun x y wr => x = .int .i64 0 ∧ y = .int .i64 0 ∧ Below w.heap.size w wr) (fun _ _ _ => 0)
  case atStart => exact ⟨rfl, rfl, Below.refl _ _⟩
  case round =>
    obtain ⟨rfl, rfl, hB⟩ := hrel
    go_wp2_with (go_at_call 88; refine (K.out _).mono ?_; rintro e w1 ⟨rfl, hb⟩)
    (try simp only [Exit.inBlock, Exit.then])
    refine bodyPost_ret (results_none rfl _ _ _) rfl ?_
    exact ⟨rfl, hB.trans (hb.mono hB.size)⟩
set_option maxRecDepth 100000 in
theorem sort0_calls (w : World) : Calls Tryz.prog 58 #[.slice none 0 0] w fun e w' => e = .returned (.tuple #[]) ∧ Below w.heap.size w w' := by
  have K1 := len0_calls w
  have K2 : Hid (∀ W, Calls Tryz.prog 75 #[.slice none 0 0, .int .i64 0, .int .i64 0, .int .i64 0] W fun e w' => e = .returned (.tuple #[]) ∧ Below W.heap.size W w') := pdq0_calls
  go_enter Tryz.func58, Tryz.ntmps58
  go_wp2_with (first | (go_at_call 76; refine K1.mono ?_; rintro e w1 ⟨rfl, hb⟩) | (go_at_call 75; refine (K2.out _).mono ?_; rintro e w2 ⟨rfl, hb2⟩))
  refine bodyPost_end (results_none rfl _ _ _) rfl ?_
  exact ⟨rfl, hb.trans (hb2.mono hb.size)⟩
/-- What a call owns, sorted. -/
theorem sort_own (base : Nat) (v : Value) (zs : List Int) (hz : zs.length ≤ 1000000) (w : World) (h : OwZ w base v zs) (hbs : base ≤ w.heap.size) :
    Calls Tryz.prog 58 #[v] w fun e w' => e = .returned (.tuple #[]) ∧ OwZ w' base v (zs.mergeSort fun x y => decide (x ≤ y)) ∧ Below base w w' := by
  rcases h.2 with ⟨rfl, h0⟩ | ⟨g, cap, cur, rfl, hbase, hb, h1, h2, h3, h4⟩
  · obtain rfl : zs = [] := by rw [oz_length] at h0; exact List.length_eq_zero_iff.1 h0
    exact (sort0_calls w).mono fun e w' ⟨he, hb⟩ => ⟨he, by rw [List.mergeSort_nil]; exact owV_nil _ _ _, hb.mono hbs⟩
  · rw [oz_length] at h1 h4 ⊢
    have hH : Sort.Holds (Value.int .i64) w g 0 zs.toArray := holds_of_blockI hb (by simpa [oz] using h4)
    have hg : g < w.heap.size := (Array.getElem?_eq_some_iff.1 hb).1
    refine (sort_calls g cap zs w hH hg (by omega)).mono ?_
    rintro e w' ⟨rfl, nn, os, rfl⟩
    have hl : (zs.mergeSort fun x y => decide (x ≤ y)).length = zs.length := List.length_mergeSort _
    have ho := ownsRow_sortedI (n := nn) (os := os) (ts := zs.mergeSort fun x y => decide (x ≤ y)) hl hbase hb h1 h2 h3
    refine ⟨rfl, ?_, (Below.refl base w).grown (grownBy_sortedI _) ?_ (fun k e => by cases e; exact hbase)⟩
    · unfold OwZ OwV
      rw [oz_length, hl]
      exact ho
    · omega
set_option maxRecDepth 100000 in
set_option maxHeartbeats 1000000 in
theorem sorted_calls (q : Option Addr) (n c : Nat) (zs : List Int) (hn : n ≤ 1000000) (w : World) (hs : Ns .i64 w q n zs) :
    Calls Tryz.prog 41 #[.slice q n c] w fun e w' => ∃ v, e = .returned v ∧ OwZ w' w.heap.size v (sorL zs) ∧ Below w.heap.size w w' := by
  have K := once_calls q n c zs hn w hs
  have hl : (onceL zs).length ≤ 1000000 := Nat.le_trans (onceL_length_le zs) (by have := hs.len; omega)
  clear hs hn
  go_enter Tryz.func41, Tryz.ntmps41
  go_wp2_with fail
  refine K.mono ?_
  rintro e w1 ⟨v, rfl, hO, hb⟩
  have K2 := sort_own _ v (onceL zs) hl w1 hO hb.size
  clear K hO hl
  go_wp2_with (go_at_call 58; refine K2.mono ?_; rintro e w2 ⟨rfl, hO2, hb2⟩)
  go_ret
  exact ⟨_, rfl, hO2, hb.trans (hb2.mono (Nat.le_refl _))⟩
end Go.Proofs
