/-
  Text, Size, Eval of an expression, and of none. Conditions: the expression lies in memory.
-/
import Derived.Test.YtlkaaembeakicaaDoorEParse
namespace Go.Proofs.YtlkaaembeakicaaDoor.Ex
open Go.RowKit
theorem ExAt.facts {w : World} {b : Nat} {T : Tree} (h : ExAt w b T) : ∃ f c, w.cell? ⟨b, 0, none⟩ = some (.func (.func f) #[] c) ∧ w.cell? ⟨b, 1, none⟩ = some (.string ⟨T.text.toArray⟩) ∧ w.cell? ⟨b, 2, none⟩ = some (.int .i64 T.size) ∧ b < w.heap.size ∧ Clos w T (.func (.func f) #[] c) := by
  obtain ⟨f, c, h1, h2⟩ := h
  refine ⟨f, c, ?_, ?_, ?_, lt_of_heap h1, h2⟩ <;> rw [cell_of_heap h1] <;> rfl
set_option maxHeartbeats 1000000 in
theorem text_any {w : World} {b : Nat} {T : Tree} (h : ExAt w b T) : Calls Tryd.prog 13 #[ptr b] w fun e w' => e = .returned (.string ⟨T.text.toArray⟩) ∧ w = w' := by
  obtain ⟨f, c, c0, c1, c2, hb, -⟩ := h.facts
  clear h
  go_enter Tryd.func13, Tryd.ntmps13
  go_wp2
  go_ret
  exact ⟨rfl, rfl⟩
set_option maxHeartbeats 1000000 in
theorem size_any {w : World} {b : Nat} {T : Tree} (h : ExAt w b T) : Calls Tryd.prog 15 #[ptr b] w fun e w' => e = .returned (.int .i64 T.size) ∧ w = w' := by
  obtain ⟨f, c, c0, c1, c2, hb, -⟩ := h.facts
  clear h
  go_enter Tryd.func15, Tryd.ntmps15
  go_wp2
  go_ret
  exact ⟨rfl, rfl⟩
theorem equalIn_func_nil (w : World) (d f : Nat) (c : Array Value) : (Op.equalIn (d + 1) 61 (.func (.func f) #[] c) .nilFunc).run Tryd.prog w = .ok false w := by
  simp [Op.equalIn, run_underlying Tryd.underlying61]
theorem eql_func_nil (f : Nat) (c : Array Value) (w : World) : (binOp .eql 61 (.func (.func f) #[] c) .nilFunc).run Tryd.prog w = .ok (.bool false) w := by
  simp only [binOp]
  simp [Op.equal, Op.maxDepth, equalIn_func_nil w 9999 f c]
set_option maxHeartbeats 1000000 in
theorem eval_any {w : World} {b : Nat} {T : Tree} (n t v : Int) (h : ExAt w b T) : Calls Tryd.prog 17 #[ptr b, .int .i64 n, .int .i64 t, .int .i64 v] w fun e w' => e = .returned (.int .i64 (T.eval n t v)) ∧ ∃ m, w' = w.drewN m := by
  obtain ⟨f, c, c0, c1, c2, hb, hC⟩ := h.facts
  obtain ⟨f', c', e, hcf, hcall⟩ := clos_comp n t v hC
  cases e
  have hc0 : Calls Tryd.prog f (#[.int .i64 n, .int .i64 t, .int .i64 v] ++ c) w fun e w' => e = .returned (.int .i64 (T.eval n t v)) ∧ ∃ m, w' = w.drewN m := hcall 0
  generalize T.eval n t v = z at hc0
  have HC := Lib.hid hc0
  clear hc0
  clear h hC hcall c1 c2
  have hq := eql_func_nil f c
  go_enter Tryd.func17, Tryd.ntmps17
  go_wp2_with fail
  refine HC.out.mono ?_
  rintro e w' ⟨rfl, m, rfl⟩
  go_wp2
  go_ret
  exact ⟨rfl, m, rfl⟩
set_option maxHeartbeats 1000000 in
theorem nil_text (w : World) : Calls Tryd.prog 13 #[.pointer none] w fun e w' => e = .returned (.string ⟨#[]⟩) ∧ w = w' := by
  go_enter Tryd.func13, Tryd.ntmps13
  go_wp2
  go_ret
  exact ⟨rfl, rfl⟩
set_option maxHeartbeats 1000000 in
theorem nil_size (w : World) : Calls Tryd.prog 15 #[.pointer none] w fun e w' => e = .returned (.int .i64 0) ∧ w = w' := by
  go_enter Tryd.func15, Tryd.ntmps15
  go_wp2
  go_ret
  exact ⟨rfl, rfl⟩
set_option maxHeartbeats 1000000 in
theorem nil_eval (n t v : Int) (w : World) : Calls Tryd.prog 17 #[.pointer none, .int .i64 n, .int .i64 t, .int .i64 v] w fun e w' => e = .returned (.int .i64 0) ∧ w = w' := by
  go_enter Tryd.func17, Tryd.ntmps17
  go_wp2
  go_ret
  exact ⟨rfl, rfl⟩
end Go.Proofs.YtlkaaembeakicaaDoor.Ex
