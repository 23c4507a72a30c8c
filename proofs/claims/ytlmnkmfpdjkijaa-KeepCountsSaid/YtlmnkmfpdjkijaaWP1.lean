/-
  The program's small functions of layer 9: which windows may be, when a span is over, a span from a time, an empty span, which begins first, what two spans share. Conditions: as each theorem names them.
-/
import Derived.Test.YtlmnkmfpdjkijaaWSame
import Derived.Test.YtlmnkmfpdjkijaaWPut0
import Derived.Sort.Grow
namespace Go.Proofs.Ytlmnkmfpdjkijaa.Wi
set_option linter.unusedVariables false
set_option linter.unusedSimpArgs false
open Go.RowKit

attribute [local go_sem ↓] run_min_z run_max_z
theorem run_wn (w : World) (a b c d e f : Int) : (Op.equalIn 10000 23 (.agg #[.int .i64 a, .int .i64 b, .int .i64 c]) (.agg #[.int .i64 d, .int .i64 e, .int .i64 f])).run Try.prog w = .ok (a == d && (b == e && c == f)) w := by
  rw [run_equalIn_struct w 9999 _ _ _ (by kernel_rfl) (by kernel_rfl)]
  have hf : (Try.prog.fieldsOf 23).toList.map (fun f => (f.name, f.type, f.offset)) = [("Kind", 3, 0), ("Size", 3, 1), ("Slide", 3, 2)] := by kernel_rfl
  generalize (Try.prog.fieldsOf 23).toList = fs at hf
  match fs with
  | [] => simp at hf
  | [_] => simp at hf
  | [_, _] => simp at hf
  | _ :: _ :: _ :: _ :: _ => simp at hf
  | [p, q, r] =>
    simp only [List.map_cons, List.map_nil, List.cons.injEq, Prod.mk.injEq, and_true] at hf
    obtain ⟨⟨p1, p2, p3⟩, ⟨q1, q2, q3⟩, r1, r2, r3⟩ := hf
    have hp : Try.prog.plainKey 3 = true := by kernel_rfl
    have h0 : ∀ (x y z : Value) (w : World), (part 3 #[x, y, z] 0).run Try.prog w = .ok x w := fun x y z w => run_part_plain w hp rfl
    have h1 : ∀ (x y z : Value) (w : World), (part 3 #[x, y, z] 1).run Try.prog w = .ok y w := fun x y z w => run_part_plain w hp rfl
    have h2 : ∀ (x y z : Value) (w : World), (part 3 #[x, y, z] 2).run Try.prog w = .ok z w := fun x y z w => run_part_plain w hp rfl
    have he : ∀ (x y : Int) (w : World), (Op.equalIn 9999 3 (.int .i64 x) (.int .i64 y)).run Try.prog w = .ok (x == y) w := fun x y w => run_equalIn_int w 9998 3 .i64 .i64 x y Try.underlying3
    cases ha : (a == d) <;> cases hb : (b == e) <;> cases hc : (c == f) <;> simp [Op.eqFields, p1, p2, p3, q1, q2, q3, r1, r2, r3, Sem.run_bind, Result.andThen_ok, h0, h1, h2, he, ha, hb, hc]
attribute [local go_sem] run_wn
set_option maxRecDepth 20000 in
set_option maxHeartbeats 4000000 in
theorem right_any (k s l : Int) (w : World) : Calls Try.prog 26 #[wnV k s l] w fun e w' => e = .returned (.bool (okW k s l)) ∧ Below w.heap.size w w' := by
  have HB : Hid (Below w.heap.size w (w.alloc (.cells #[.int .i64 k, .int .i64 s, .int .i64 l] 23))) := Lib.hid ((Below.refl _ _).alloc (Nat.le_refl _) _)
  unfold okW
  by_cases h0 : k = 0
  · subst h0
    rw [if_pos rfl]
    go_enter Try.func26, Try.ntmps26
    go_wp2
    all_goals go_ret
    all_goals exact ⟨ret_bool (by first | rfl | (rw [Bool.eq_iff_iff] <;> simp <;> omega) | (rw [Bool.eq_iff_iff] <;> simp)), (Below.refl _ _).alloc (Nat.le_refl _) _⟩
  · rw [if_neg h0]
    have e0 : (k == 0) = false := ibne h0
    by_cases h1 : k = 1 ∨ k = 3
    · rw [if_pos h1]
      rcases h1 with rfl | rfl
      · clear h0 e0
        go_enter Try.func26, Try.ntmps26
        go_wp2
        all_goals go_ret
        all_goals exact ⟨ret_bool (by first | rfl | (rw [Bool.eq_iff_iff] <;> simp <;> omega) | (rw [Bool.eq_iff_iff] <;> simp)), (Below.refl _ _).alloc (Nat.le_refl _) _⟩
      · clear h0 e0
        go_enter Try.func26, Try.ntmps26
        go_wp2
        all_goals go_ret
        all_goals exact ⟨ret_bool (by first | rfl | (rw [Bool.eq_iff_iff] <;> simp <;> omega) | (rw [Bool.eq_iff_iff] <;> simp)), (Below.refl _ _).alloc (Nat.le_refl _) _⟩
    · rw [if_neg h1]
      by_cases h2 : k = 2
      · subst h2
        rw [if_pos rfl]
        clear h0 h1 e0
        go_enter Try.func26, Try.ntmps26
        go_wp2
        all_goals go_ret
        all_goals exact ⟨ret_bool (by first | rfl | (rw [Bool.eq_iff_iff] <;> simp <;> omega) | (rw [Bool.eq_iff_iff] <;> simp)), (Below.refl _ _).alloc (Nat.le_refl _) _⟩
      · rw [if_neg h2]
        have e1 : (k == 1) = false := ibne (by omega)
        have e2 : (k == 2) = false := ibne h2
        have e3 : (k == 3) = false := ibne (by omega)
        clear h1
        go_enter Try.func26, Try.ntmps26
        go_wp2
        all_goals go_ret
        all_goals exact ⟨ret_bool (by first | rfl | simp), HB.out⟩
theorem right_at {k s l : Int} {b : Bool} (h : okW k s l = b) (w : World) : Calls Try.prog 26 #[wnV k s l] w fun e w' => e = .returned (.bool b) ∧ Below w.heap.size w w' := by
  subst h; exact right_any k s l w
set_option maxHeartbeats 1000000 in
theorem due_at {s : Sp} {m : Int} {b : Bool} (h : (decide (s.2 ≤ m) || decide (m = 1000000001)) = b) (w : World) : Calls Try.prog 52 #[spV s, .int .i64 m] w fun e w' => e = .returned (.bool b) ∧ Below w.heap.size w w' := by
  have HB : Hid (Below w.heap.size w (w.alloc (.cells #[.int .i64 s.1, .int .i64 s.2] 49))) := Lib.hid ((Below.refl _ _).alloc (Nat.le_refl _) _)
  subst h
  go_enter Try.func52, Try.ntmps52
  go_wp2
  all_goals go_ret
  all_goals exact ⟨ret_bool (by first | rfl | (rw [Bool.eq_iff_iff] <;> simp <;> omega) | (rw [Bool.eq_iff_iff] <;> simp)), (Below.refl _ _).alloc (Nat.le_refl _) _⟩
set_option maxHeartbeats 1000000 in
theorem spanFrom_at {f s : Int} (h1 : -9000000000000 ≤ f) (h2 : f ≤ 9000000000000) (h3 : 0 ≤ s) (h4 : s ≤ 9000000000000) (w : World) : Calls Try.prog 47 #[.int .i64 f, .int .i64 s] w fun e w' => e = .returned (spV (f, f + s)) ∧ Below w.heap.size w w' := by
  have HB : Hid (Below w.heap.size w (w.alloc (.cells #[.int .i64 f, .int .i64 (f + s)] 49))) := Lib.hid ((Below.refl _ _).alloc (Nat.le_refl _) _)
  go_enter Try.func47, Try.ntmps47
  go_wp2
  refine bodyPost_ret (v := spV (f, f + s)) (by simp [results, Try.results47, go_sem]) rfl ⟨rfl, HB.out⟩
/-- What two spans share; none: the span of zeros. -/
def cm (a b : Sp) : Sp := if min a.2 b.2 ≤ max a.1 b.1 then (0, 0) else (max a.1 b.1, min a.2 b.2)
/-- Which begins first, as a number. -/
def cmpI (a b : Int) : Int := if a < b then -1 else if b < a then 1 else 0
theorem isNaN_at (x : Int) (w : World) : Calls Try.prog 89 #[.int .i64 x] w fun e w' => e = .returned (.bool false) ∧ w' = w := by
  go_enter Try.func89, Try.ntmps89
  go_wp2
  go_ret
  exact ⟨by simp, rfl⟩
set_option maxHeartbeats 1000000 in
theorem cmp_at (x y : Int) (w : World) : Calls Try.prog 59 #[.int .i64 x, .int .i64 y] w fun e w' => e = .returned (.int .i64 (cmpI x y)) ∧ w' = w := by
  unfold cmpI
  go_enter Try.func59, Try.ntmps59
  go_wp2_with (go_at_call 89; refine (isNaN_at _ _).mono ?_; rintro e w' ⟨rfl, hw⟩; rw [hw])
  all_goals go_ret
  all_goals refine ⟨ret_int ?_, rfl⟩
  all_goals (repeat' split) <;> omega
end Go.Proofs.Ytlmnkmfpdjkijaa.Wi
