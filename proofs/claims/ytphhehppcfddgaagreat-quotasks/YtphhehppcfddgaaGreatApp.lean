/- append of bytes, walked by its run's own result: ahead of the walk its result is told; in the walk it is put in. Conditions: bounds on lengths. -/
import Derived.Test.YtphhehppcfddgaaGreatOwn
namespace Go.Proofs
open Go.RowKit

/-- What an append tells, and the world behind it. -/
def apV (P : Program) (ats : Array TypeId) (ty : TypeId) (args : Array Value) (W : World) : Value := match (Builtin.append_ ats ty args).run P W with | .ok v _ => v | _ => undef
def apW (P : Program) (ats : Array TypeId) (ty : TypeId) (args : Array Value) (W : World) : World := match (Builtin.append_ ats ty args).run P W with | .ok _ W' => W' | _ => W
/-- An append that goes through. -/
def ApOk (P : Program) (ats : Array TypeId) (ty : TypeId) (args : Array Value) (W : World) : Prop := ∃ v W', (Builtin.append_ ats ty args).run P W = .ok v W'
section
variable {P : Program} {ats : Array TypeId} {ty : TypeId} {args : Array Value} {W W' : World} {v : Value}
def apSem (ats : Array TypeId) (ty : TypeId) (args : Array Value) : Sem Next := do pure (.value (← Builtin.append_ ats ty args))
theorem builtin_ap (cs : Array Bool) : builtin .append ats ty cs args = apSem ats ty args := rfl
theorem ap_sem (h : ApOk P ats ty args W) : (apSem ats ty args).run P W = .ok (.value (apV P ats ty args W)) (apW P ats ty args W) := by
  obtain ⟨v, W', e⟩ := h
  unfold apSem apV apW
  simp [e, Result.andThen]
theorem ap_run (h : ApOk P ats ty args W) : (Builtin.append_ ats ty args).run P W = .ok (apV P ats ty args W) (apW P ats ty args W) := by
  obtain ⟨v, W', e⟩ := h
  rw [e]; unfold apV apW; rw [e]
theorem ap_ok (h : (Builtin.append_ ats ty args).run P W = .ok v W') : ApOk P ats ty args W := ⟨v, W', h⟩
theorem ap_v (h : (Builtin.append_ ats ty args).run P W = .ok v W') : apV P ats ty args W = v := by unfold apV; rw [h]
theorem ap_w (h : (Builtin.append_ ats ty args).run P W = .ok v W') : apW P ats ty args W = W' := by unfold apW; rw [h]
end
/-- 'append(xs, ys[:m]...)' of a slice that is owned: the run itself, ahead of the walk. -/
theorem run_append_bytes (W : World) (base : Nat) (v : Value) (xs : List Nat) (ad : Addr) (c : Nat) (ys : List Nat) (hown : Ow W base v xs)
    (hc : ∀ j, j < ys.length → W.cell? (ad.add j) = some (.int .u8 (ys.getD j 0 : Nat))) (hn : xs.length + ys.length ≤ 10000000000) (hb : base ≤ W.heap.size) :
    ∃ v' W', (Builtin.append_ #[22, 22] 22 #[v, .slice (some ad) ys.length c]).run Tryz.prog W = .ok v' W' ∧ Ow W' base v' (xs ++ ys) ∧ W.grownBy W' v.ownBlock := by
  obtain ⟨i, hi, hz, hsz, hby⟩ := info_parts info_u8
  obtain ⟨v', W', h1, h2, h3, _⟩ := run_append_own (P := Tryz.prog) W base 22 22 5 i (.int .u8 0) 1 1 Tryz.underlying22 hi hz hsz hby rfl (by decide) v xs.length (ob xs) hown ad ys.length c (ob ys) (by rw [ob_length, Nat.mul_one]) (fun j u hj => by
      have hl : j < ys.length := by
        rw [← ob_length ys]
        exact (List.getElem?_eq_some_iff.1 hj).1
      rw [hc j hl]
      rw [ob_at ys j hl] at hj
      exact hj) (fun u hu => by
      simp [ob] at hu
      obtain ⟨x, _, rfl⟩ := hu
      rfl) (by unfold maxLen; omega) (by omega) hb
  refine ⟨v', W', h1, ?_, h3⟩
  unfold Ow
  have e : ob (xs ++ ys) = ob xs ++ ob ys := by simp [ob]
  rw [e, List.length_append]
  exact h2

end Go.Proofs
