/-
  Small functions: is it a number of one of n things, may there be n of a thing, whose is a group. Conditions: as each theorem names them.
-/
import Derived.Test.YtamcocdkhjplfaaHKit
namespace Go.Proofs.Ytamcocdkhjplfaa.Gp
set_option linter.unusedVariables false
set_option linter.unusedSimpArgs false
open Go.RowKit

def okI (i n : Int) : Bool := decide (0 ≤ i) && decide (i < n)
def okC (n m : Int) : Bool := decide (1 ≤ n) && decide (n ≤ m)
set_option maxHeartbeats 400000 in
theorem isIndex_any (i n : Int) (w : World) : Calls Try.prog 20 #[.int .i64 i, .int .i64 n] w fun e w' => e = .returned (.bool (okI i n)) ∧ w = w' := by
  unfold okI
  go_enter Try.func20, Try.ntmps20
  go_wp2
  all_goals go_ret
  all_goals exact ⟨ret_bool (by rw [Bool.eq_iff_iff]; simp; try omega), rfl⟩
set_option maxHeartbeats 400000 in
theorem isCount_any (n m : Int) (w : World) : Calls Try.prog 21 #[.int .i64 n, .int .i64 m] w fun e w' => e = .returned (.bool (okC n m)) ∧ w = w' := by
  unfold okC
  go_enter Try.func21, Try.ntmps21
  go_wp2
  all_goals go_ret
  all_goals exact ⟨ret_bool (by rw [Bool.eq_iff_iff]; simp; try omega), rfl⟩
theorem isIndex_at {i n : Int} {b : Bool} (h : okI i n = b) (w : World) : Calls Try.prog 20 #[.int .i64 i, .int .i64 n] w fun e w' => e = .returned (.bool b) ∧ w = w' := by
  subst h; exact isIndex_any i n w
theorem isCount_at {n m : Int} {b : Bool} (h : okC n m = b) (w : World) : Calls Try.prog 21 #[.int .i64 n, .int .i64 m] w fun e w' => e = .returned (.bool b) ∧ w = w' := by
  subst h; exact isCount_any n m w
set_option maxHeartbeats 400000 in
theorem sub_any (n : Int) (w : World) : Calls Try.prog 15 #[.int .i64 n] w fun e w' => e = .returned (.bool (okC n 8)) ∧ w = w' := by
  unfold okC
  go_enter Try.func15, Try.ntmps15
  go_wp2
  all_goals go_ret
  all_goals exact ⟨ret_bool (by rw [Bool.eq_iff_iff]; simp; try omega), rfl⟩
theorem sub_at {n : Int} {b : Bool} (h : okC n 8 = b) (w : World) : Calls Try.prog 15 #[.int .i64 n] w fun e w' => e = .returned (.bool b) ∧ w = w' := by
  subst h; exact sub_any n w
theorem mul_small {g n : Nat} (hg : g < 16) (hn : n ≤ 8) : g * n ≤ 120 := by
  have := Nat.mul_le_mul (show g ≤ 15 by omega) hn
  omega
set_option maxHeartbeats 400000 in
theorem ownerOf_at {g n : Nat} (hg : g < 16) (hn : n ≤ 8) (w : World) : Calls Try.prog 22 #[.int .i64 g, .int .i64 n] w fun e w' => e = .returned (.int .i64 (ow g n : Nat)) ∧ w = w' := by
  have := mul_small hg hn
  go_enter Try.func22, Try.ntmps22
  go_wp2
  go_ret
  exact ⟨ret_int (by unfold ow; omega), rfl⟩
set_option maxHeartbeats 400000 in
theorem rowner_at {g n : Nat} (hg : g < 16) (hn : n ≤ 8) (w : World) : Calls Try.prog 16 #[.int .i64 g, .int .i64 n] w fun e w' => e = .returned (.int .i64 (ow g n : Nat)) ∧ w = w' := by
  have := mul_small hg hn
  go_enter Try.func16, Try.ntmps16
  go_wp2
  go_ret
  exact ⟨ret_int (by unfold ow; omega), rfl⟩
end Go.Proofs.Ytamcocdkhjplfaa.Gp
