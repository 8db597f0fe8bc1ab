/- slices.Sort of integers, off the shelf of contracts; synd.Sorted. Conditions: a list that is no great one. -/
import Derived.Shelf.Sort.AssemblyIn
import Derived.Sort.EveryDepth
import Derived.Sort.OwnSortedInts
import Derived.Test.YtddhefhabhgdfaaGreatOK
namespace Go.Proofs
open Go.RowKit Go.ChangeShapes Go.WideShapes

def sortz_ren : Go.Shelf.Ren := ⟨fun | 125 => 73 | 128 => 93 | 129 => 94 | 189 => 55 | 215 => 103 | 216 => 90 | 257 => 72 | 294 => 84 | 295 => 85 | 296 => 86 | 297 => 87 | 298 => 88 | 299 => 89 | 300 => 91 | 301 => 92 | 328 => 98 | 329 => 99 | 330 => 100 | 331 => 101 | 332 => 102 | 343 => 104 | n => n, fun | 0 => 0 | 3 => 3 | 4 => 4 | 5 => 5 | 9 => 9 | 28 => 25 | 46 => 122 | 51 => 94 | 53 => 137 | 131 => 133 | 182 => 127 | 183 => 128 | 218 => 140 | 222 => 144 | 228 => 146 | 229 => 147 | n => n, fun n => n⟩
theorem sortz : Lays.n189 Tryz.prog sortz_ren := {
  mixed := by kernel_rfl,
  f125 := Tryz.func73.trans (congrArg some (by kernel_rfl)),
  f128 := Tryz.func93.trans (congrArg some (by kernel_rfl)),
  f129 := Tryz.func94.trans (congrArg some (by kernel_rfl)),
  f189 := Tryz.func55.trans (congrArg some (by kernel_rfl)),
  f215 := Tryz.func103.trans (congrArg some (by kernel_rfl)),
  f216 := Tryz.func90.trans (congrArg some (by kernel_rfl)),
  f257 := Tryz.func72.trans (congrArg some (by kernel_rfl)),
  f294 := Tryz.func84.trans (congrArg some (by kernel_rfl)),
  f295 := Tryz.func85.trans (congrArg some (by kernel_rfl)),
  f296 := Tryz.func86.trans (congrArg some (by kernel_rfl)),
  f297 := Tryz.func87.trans (congrArg some (by kernel_rfl)),
  f298 := Tryz.func88.trans (congrArg some (by kernel_rfl)),
  f299 := Tryz.func89.trans (congrArg some (by kernel_rfl)),
  f300 := Tryz.func91.trans (congrArg some (by kernel_rfl)),
  f301 := Tryz.func92.trans (congrArg some (by kernel_rfl)),
  f328 := Tryz.func98.trans (congrArg some (by kernel_rfl)),
  f329 := Tryz.func99.trans (congrArg some (by kernel_rfl)),
  f330 := Tryz.func100.trans (congrArg some (by kernel_rfl)),
  f331 := Tryz.func101.trans (congrArg some (by kernel_rfl)),
  f332 := Tryz.func102.trans (congrArg some (by kernel_rfl)),
  f343 := Tryz.func104.trans (congrArg some (by kernel_rfl)),
  t0 := Tryz.underlying0,
  a0 := Tryz.isAgg0,
  z0 := Tryz.sizeOf0,
  v0 := Tryz.zeroValue0,
  t3 := Tryz.underlying3,
  a3 := Tryz.isAgg3,
  z3 := Tryz.sizeOf3,
  v3 := Tryz.zeroValue3,
  t4 := Tryz.underlying4,
  a4 := Tryz.isAgg4,
  z4 := Tryz.sizeOf4,
  v4 := Tryz.zeroValue4,
  t5 := Tryz.underlying5,
  a5 := Tryz.isAgg5,
  z5 := Tryz.sizeOf5,
  v5 := Tryz.zeroValue5,
  t9 := Tryz.underlying9,
  a9 := Tryz.isAgg9,
  z9 := Tryz.sizeOf9,
  v9 := Tryz.zeroValue9,
  t28 := Tryz.underlying25,
  a28 := Tryz.isAgg25,
  z28 := Tryz.sizeOf25,
  v28 := Tryz.zeroValue25,
  t46 := Tryz.underlying122,
  a46 := Tryz.isAgg122,
  z46 := Tryz.sizeOf122,
  v46 := Tryz.zeroValue122,
  t51 := Tryz.underlying94,
  a51 := Tryz.isAgg94,
  z51 := Tryz.sizeOf94,
  v51 := Tryz.zeroValue94,
  t53 := Tryz.underlying137,
  a53 := Tryz.isAgg137,
  z53 := Tryz.sizeOf137,
  v53 := Tryz.zeroValue137,
  t131 := Tryz.underlying133,
  a131 := Tryz.isAgg133,
  z131 := Tryz.sizeOf133,
  v131 := Tryz.zeroValue133,
  t182 := Tryz.underlying127,
  a182 := Tryz.isAgg127,
  z182 := Tryz.sizeOf127,
  v182 := Tryz.zeroValue127,
  t183 := Tryz.underlying128,
  a183 := Tryz.isAgg128,
  z183 := Tryz.sizeOf128,
  v183 := Tryz.zeroValue128,
  t218 := Tryz.underlying140,
  a218 := Tryz.isAgg140,
  z218 := Tryz.sizeOf140,
  v218 := Tryz.zeroValue140,
  t222 := Tryz.underlying144,
  a222 := Tryz.isAgg144,
  z222 := Tryz.sizeOf144,
  v222 := Tryz.zeroValue144,
  t228 := Tryz.underlying146,
  a228 := Tryz.isAgg146,
  z228 := Tryz.sizeOf146,
  v228 := Tryz.zeroValue146,
  t229 := Tryz.underlying147,
  a229 := Tryz.isAgg147,
  z229 := Tryz.sizeOf147,
  v229 := Tryz.zeroValue147 }
theorem sort_calls (g cap : Nat) (zs : List Int) (w : World) (hH : Sort.Holds (Value.int .i64) w g 0 zs.toArray) (hg : g < w.heap.size) (hsz : zs.length < 4611686018427387904) :
    Calls Tryz.prog 55 #[.slice (some ⟨g, 0, none⟩) zs.length cap] w fun e w' =>
      e = .returned (.tuple #[]) ∧ ∃ n os, w' = Sort.grow (Sort.putRow (Value.int .i64) (Sort.ahead w n) g 0 (zs.mergeSort fun x y => decide (x ≤ y)).toArray) os :=
  calls_of_every_depth fun D => AnyS.slices_Sort_int_in sortz D g 0 cap zs w hH hg hsz
/-- Where nothing is to be sorted. -/
theorem len0_calls (w : World) : Calls Tryz.prog 73 #[.int .u64 0] w fun e w' => e = .returned (.int .i64 0) ∧ Below w.heap.size w w' :=
  (calls_of_every_depth fun D => Any.lenWalkInAll { sortz with } D 0 w (by omega)).mono fun e w' ⟨h, hw⟩ => ⟨h.trans (by kernel_rfl), hw ▸ Below.refl _ _⟩
set_option maxRecDepth 100000 in
theorem ins0_calls (w : World) : Calls Tryz.prog 84 #[.slice none 0 0, .int .i64 0, .int .i64 0] w fun e w' => e = .returned (.tuple #[]) ∧ Below w.heap.size w w' := by
  go_enter Tryz.func84, Tryz.ntmps84
  go_wp2
  go_loopw [6] (fun i wr => i = .int .i64 1 ∧ Below w.heap.size w wr) (fun _ _ => 0)
  case atStart => exact ⟨rfl, Below.refl _ _⟩
  case round =>
    obtain ⟨rfl, hB⟩ := hrel
    go_wp2
    refine bodyPost_end (results_none rfl _ _ _) rfl ?_
    exact ⟨rfl, hB⟩
set_option maxRecDepth 100000 in
theorem pdq0_calls (w : World) : Calls Tryz.prog 72 #[.slice none 0 0, .int .i64 0, .int .i64 0, .int .i64 0] w fun e w' => e = .returned (.tuple #[]) ∧ Below w.heap.size w w' := by
  have K : Hid (∀ W, Calls Tryz.prog 84 #[.slice none 0 0, .int .i64 0, .int .i64 0] W fun e w' => e = .returned (.tuple #[]) ∧ Below W.heap.size W w') := ins0_calls
  go_enter Tryz.func72, Tryz.ntmps72
  go_wp2
  go_loopw [1, 2] (fun x y wr => x = .int .i64 0 ∧ y = .int .i64 0 ∧ Below w.heap.size w wr) (fun _ _ _ => 0)
  case atStart => exact ⟨rfl, rfl, Below.refl _ _⟩
  case round =>
    obtain ⟨rfl, rfl, hB⟩ := hrel
    go_wp2_with (go_at_call 84; refine (K.out _).mono ?_; rintro e w1 ⟨rfl, hb⟩)
    (try simp only [Exit.inBlock, Exit.then])
    refine bodyPost_ret (results_none rfl _ _ _) rfl ?_
    exact ⟨rfl, hB.trans (hb.mono hB.size)⟩
set_option maxRecDepth 100000 in
theorem sort0_calls (w : World) : Calls Tryz.prog 55 #[.slice none 0 0] w fun e w' => e = .returned (.tuple #[]) ∧ Below w.heap.size w w' := by
  have K1 := len0_calls w
  have K2 : Hid (∀ W, Calls Tryz.prog 72 #[.slice none 0 0, .int .i64 0, .int .i64 0, .int .i64 0] W fun e w' => e = .returned (.tuple #[]) ∧ Below W.heap.size W w') := pdq0_calls
  go_enter Tryz.func55, Tryz.ntmps55
  go_wp2_with (first | (go_at_call 73; refine K1.mono ?_; rintro e w1 ⟨rfl, hb⟩) | (go_at_call 72; refine (K2.out _).mono ?_; rintro e w2 ⟨rfl, hb2⟩))
  refine bodyPost_end (results_none rfl _ _ _) rfl ?_
  exact ⟨rfl, hb.trans (hb2.mono hb.size)⟩
/-- What a call owns, sorted. -/
theorem sort_own (base : Nat) (v : Value) (zs : List Int) (hz : zs.length ≤ 1000000) (w : World) (h : OwZ w base v zs) (hbs : base ≤ w.heap.size) :
    Calls Tryz.prog 55 #[v] w fun e w' => e = .returned (.tuple #[]) ∧ OwZ w' base v (zs.mergeSort fun x y => decide (x ≤ y)) ∧ Below base w w' := by
  rcases h.2 with ⟨rfl, h0⟩ | ⟨g, cap, cur, rfl, hbase, hb, h1, h2, h3, h4⟩
  · obtain rfl : zs = [] := by rw [oz_length] at h0; exact List.length_eq_zero_iff.1 h0
    exact (sort0_calls w).mono fun e w' ⟨he, hb⟩ => ⟨he, by rw [List.mergeSort_nil]; exact owV_nil _ _ _, hb.mono hbs⟩
  · rw [oz_length] at h1 h4 ⊢
    have hH : Sort.Holds (Value.int .i64) w g 0 zs.toArray := holds_of_blockI hb (by simpa [oz] using h4)
    have hg : g < w.heap.size := (Array.getElem?_eq_some_iff.1 hb).1
    refine (sort_calls g cap zs w hH hg (by omega)).mono ?_
    rintro e w' ⟨rfl, nn, os, rfl⟩
    have hl : (zs.mergeSort fun x y => decide (x ≤ y)).length = zs.length := List.length_mergeSort _
    have ho := ownsRow_sortedI (n := nn) (os := os) (ts := zs.mergeSort fun x y => decide (x ≤ y)) hl hbase hb h1 h2 h3
    refine ⟨rfl, ?_, (Below.refl base w).grown (grownBy_sortedI _) ?_ (fun k e => by cases e; exact hbase)⟩
    · unfold OwZ OwV
      rw [oz_length, hl]
      exact ho
    · omega
set_option maxRecDepth 100000 in
set_option maxHeartbeats 1000000 in
theorem sorted_calls (q : Option Addr) (n c : Nat) (zs : List Int) (hn : n ≤ 1000000) (w : World) (hs : Ns .i64 w q n zs) :
    Calls Tryz.prog 30 #[.slice q n c] w fun e w' => ∃ v, e = .returned v ∧ OwZ w' w.heap.size v (sorL zs) ∧ Below w.heap.size w w' := by
  have K := once_calls q n c zs hn w hs
  have hl : (onceL zs).length ≤ 1000000 := Nat.le_trans (onceL_length_le zs) (by have := hs.len; omega)
  clear hs hn
  go_enter Tryz.func30, Tryz.ntmps30
  go_wp2_with fail
  refine K.mono ?_
  rintro e w1 ⟨v, rfl, hO, hb⟩
  have K2 := sort_own _ v (onceL zs) hl w1 hO hb.size
  clear K hO hl
  go_wp2_with (go_at_call 55; refine K2.mono ?_; rintro e w2 ⟨rfl, hO2, hb2⟩)
  go_ret
  exact ⟨_, rfl, hO2, hb.trans (hb2.mono (Nat.le_refl _))⟩
end Go.Proofs
