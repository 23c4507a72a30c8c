/-
  The document's own functions of layer 10: what is told, what is kept of some values. Conditions: as each theorem names them.
-/
import Derived.Test.YtilakddhljbipaaAKit
namespace Go.Proofs.Ytilakddhljbipaa.Ag
set_option linter.unusedVariables false
set_option linter.unusedSimpArgs false
open Go.RowKit

set_option maxRecDepth 20000 in
set_option maxHeartbeats 1000000 in
theorem rvalue_at {k v e : Int} {a : Ac} (h : vl k a = (v, e)) (w : World) : Calls Try.prog 8 #[.int .i64 k, acV a] w fun e' w' => e' = .returned (.tuple #[.int .i64 v, .int .i64 e]) ∧ Below w.heap.size w w' := by
  have hb0 : Below w.heap.size w (w.alloc (.cells (acC a) 24)) := (Below.refl _ _).alloc (Nat.le_refl _) _
  have HB0 := Lib.hid hb0
  have HL : Hid (∀ cs : Array Value, Below w.heap.size w ((w.alloc (.cells (acC a) 24)).alloc (.cells cs 3))) := Lib.hid (fun cs => hb0.alloc hb0.size _)
  clear hb0
  unfold vl at h
  by_cases h1 : k < 1
  · rw [if_pos (.inl h1)] at h
    obtain ⟨rfl, rfl⟩ := Prod.mk.inj h
    clear h
    go_enter Try.func8, Try.ntmps8
    go_wp2
    go_ret2
    exact ⟨rfl, HB0.out⟩
  · by_cases h2 : 4 < k
    · rw [if_pos (.inr h2)] at h
      obtain ⟨rfl, rfl⟩ := Prod.mk.inj h
      clear h
      go_enter Try.func8, Try.ntmps8
      go_wp2
      go_ret2
      exact ⟨rfl, HB0.out⟩
    · rw [if_neg (by omega)] at h
      by_cases h3 : a.c = 0
      · rw [if_pos h3] at h
        obtain ⟨rfl, rfl⟩ := Prod.mk.inj h
        have e0 : (a.c == 0) = true := ibeq h3
        clear h h3
        go_enter Try.func8, Try.ntmps8
        go_wp2
        go_ret2
        exact ⟨rfl, HB0.out⟩
      · rw [if_neg h3] at h
        have e0 : (a.c == 0) = false := ibne h3
        have hk : k = 1 ∨ k = 2 ∨ k = 3 ∨ k = 4 := by omega
        clear h3 h1 h2
        rcases hk with rfl | rfl | rfl | rfl
        all_goals
          simp at h
          obtain ⟨rfl, rfl⟩ := h
          go_enter Try.func8, Try.ntmps8
          go_wp2
          go_ret2
          exact ⟨rfl, HL.out _⟩
end Go.Proofs.Ytilakddhljbipaa.Ag
