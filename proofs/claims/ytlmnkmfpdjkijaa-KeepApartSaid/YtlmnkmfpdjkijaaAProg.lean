/-
  The program's own functions of layer 10. Conditions: as each theorem names them.
-/
import Derived.Test.YtlmnkmfpdjkijaaAKit
namespace Go.Proofs.Ytlmnkmfpdjkijaa.Ag
set_option linter.unusedVariables false
set_option linter.unusedSimpArgs false
open Go.RowKit

theorem run_min_p (a b : Int) (ts : Array TypeId) (t : TypeId) (W : World) : (Builtin.min_ ts t #[.int .i64 a, .int .i64 b]).run Try.prog W = .ok (.int .i64 (min a b)) W := by
  rw [run_min_int2]
  congr 2
  split <;> omega
theorem run_max_p (a b : Int) (ts : Array TypeId) (t : TypeId) (W : World) : (Builtin.max_ ts t #[.int .i64 a, .int .i64 b]).run Try.prog W = .ok (.int .i64 (max a b)) W := by
  rw [run_max_int2]
  congr 2
  split <;> omega
attribute [local go_sem ↓] run_min_p run_max_p
theorem w64p (n : Int) : IntKind.i64.wrap n = wrap64 n := by rw [IntKind.wrap_i64, wrap64]
theorem below1 (w : World) (o : Obj) : Below w.heap.size w (w.alloc o) := (Below.refl _ _).alloc (Nat.le_refl _) _
theorem below2 (w : World) (o p : Obj) : Below w.heap.size w ((w.alloc o).alloc p) := (below1 w o).alloc (below1 w o).size _
theorem below3 (w : World) (o p q : Obj) : Below w.heap.size w (((w.alloc o).alloc p).alloc q) := (below2 w o p).alloc (below2 w o p).size _

set_option maxRecDepth 20000 in
set_option maxHeartbeats 1000000 in
theorem one_at {v : Int} {r : Ac} (h : one v = r) (w : World) : Calls Try.prog 31 #[.int .i64 v] w fun e w' => e = .returned (acV r) ∧ Below w.heap.size w w' := by
  subst h
  go_enter Try.func31, Try.ntmps31
  go_wp2
  exact bodyPost_ret (v := acV (one v)) (by simp [acV, one, results, Try.results31, go_sem]) rfl ⟨rfl, below1 _ _⟩
set_option maxRecDepth 20000 in
set_option maxHeartbeats 2000000 in
theorem join_at {a b r : Ac} (h : jn a b = r) (w : World) : Calls Try.prog 49 #[acV a, acV b] w fun e w' => e = .returned (acV r) ∧ Below w.heap.size w w' := by
  obtain ⟨a0, a1, a2, a3⟩ := a
  obtain ⟨b0, b1, b2, b3⟩ := b
  unfold acV
  unfold jn at h
  simp only at h
  by_cases h1 : a0 = 0
  · rw [if_pos h1] at h
    have e1 : (a0 == 0) = true := ibeq h1
    by_cases h2 : b0 = 0
    · rw [if_pos h2] at h
      have e2 : (b0 == 0) = true := ibeq h2
      have HJ := Lib.hid h
      clear h h1 h2
      go_enter Try.func49, Try.ntmps49
      go_wp2
      exact bodyPost_ret (v := acV r) (by rw [← HJ.out]; simp [acV, zer, results, Try.results49, go_sem]) rfl ⟨rfl, below3 _ _ _ _⟩
    · rw [if_neg h2] at h
      have e2 : (b0 == 0) = false := ibne h2
      have HJ := Lib.hid h
      clear h h1 h2
      go_enter Try.func49, Try.ntmps49
      go_wp2
      exact bodyPost_ret (v := acV r) (by rw [← HJ.out]; simp [acV, results, Try.results49, go_sem]) rfl ⟨rfl, below3 _ _ _ _⟩
  · rw [if_neg h1] at h
    have e1 : (a0 == 0) = false := ibne h1
    by_cases h2 : b0 = 0
    · rw [if_pos h2] at h
      have e2 : (b0 == 0) = true := ibeq h2
      have HJ := Lib.hid h
      clear h h1 h2
      go_enter Try.func49, Try.ntmps49
      go_wp2
      exact bodyPost_ret (v := acV r) (by rw [← HJ.out]; simp [acV, results, Try.results49, go_sem]) rfl ⟨rfl, below3 _ _ _ _⟩
    · rw [if_neg h2] at h
      have e2 : (b0 == 0) = false := ibne h2
      have HJ := Lib.hid h
      clear h h1 h2
      go_enter Try.func49, Try.ntmps49
      go_wp2
      exact bodyPost_ret (v := acV r) (by rw [← HJ.out]; simp [acV, results, Try.results49, go_sem, wr, w64p]) rfl ⟨rfl, below3 _ _ _ _⟩
set_option maxRecDepth 20000 in
set_option maxHeartbeats 2000000 in
theorem value_at {k v e : Int} {a : Ac} (h : vl k a = (v, e)) (w : World) : Calls Try.prog 54 #[.int .i64 k, acV a] w fun e' w' => e' = .returned (.tuple #[.int .i64 v, .int .i64 e]) ∧ Below w.heap.size w w' := by
  have HL : Hid (∀ cs : Array Value, Below w.heap.size w ((w.alloc (.cells (acC a) 47)).alloc (.cells cs 3))) := Lib.hid (fun cs => below2 w _ _)
  unfold vl at h
  by_cases h1 : k < 1 ∨ 4 < k
  · rw [if_pos h1] at h
    obtain ⟨rfl, rfl⟩ := Prod.mk.inj h
    have e1 : (k == 1) = false := ibne (by omega)
    have e2 : (k == 2) = false := ibne (by omega)
    have e3 : (k == 3) = false := ibne (by omega)
    have e4 : (k == 4) = false := ibne (by omega)
    clear h h1
    go_enter Try.func54, Try.ntmps54
    go_wp2
    go_ret2
    exact ⟨rfl, HL.out _⟩
  · rw [if_neg h1] at h
    have hk : k = 1 ∨ k = 2 ∨ k = 3 ∨ k = 4 := by omega
    clear h1
    by_cases h3 : a.c = 0
    · rw [if_pos h3] at h
      obtain ⟨rfl, rfl⟩ := Prod.mk.inj h
      have e0 : (a.c == 0) = true := ibeq h3
      clear h h3
      rcases hk with rfl | rfl | rfl | rfl
      all_goals
        go_enter Try.func54, Try.ntmps54
        go_wp2
        go_ret2
        exact ⟨rfl, HL.out _⟩
    · rw [if_neg h3] at h
      have e0 : (a.c == 0) = false := ibne h3
      clear h3
      rcases hk with rfl | rfl | rfl | rfl
      all_goals
        simp at h
        obtain ⟨rfl, rfl⟩ := h
        go_enter Try.func54, Try.ntmps54
        go_wp2
        go_ret2
        exact ⟨rfl, HL.out _⟩
end Go.Proofs.Ytlmnkmfpdjkijaa.Ag
