/-
  The document's operator of two values. Conditions: the sign is one of the thirteen.
-/
import Derived.Test.YtlkaaembeakicaaDoorELaid
namespace Go.Proofs.YtlkaaembeakicaaDoor.Ex
open Go.RowKit
set_option maxHeartbeats 400000 in
theorem rbit_any (b : Bool) (w : World) : Calls Tryd.prog 29 #[.bool b] w fun e w' => e = .returned (.int .i64 (bit b)) ∧ w = w' := by
  cases b
  all_goals
    go_enter Tryd.func29, Tryd.ntmps29
    go_wp2
    go_ret
    exact ⟨rfl, rfl⟩
set_option maxHeartbeats 1000000 in
theorem rtwo_124_124 (a b : Int) (w : World) : Calls Tryd.prog 19 #[.string ⟨#[124, 124]⟩, .int .i64 a, .int .i64 b] w fun e w' => e = .returned (.int .i64 (two [124, 124] a b)) ∧ w = w' := by
  go_enter Tryd.func19, Tryd.ntmps19
  go_wp2_with (go_at_call 29; refine (rbit_any _ _).mono ?_; rintro e w' ⟨rfl, rfl⟩)
  all_goals go_ret
  all_goals exact ⟨ret_int (by first | rfl | simp [two, bit, *]), rfl⟩
set_option maxHeartbeats 1000000 in
theorem rtwo_38_38 (a b : Int) (w : World) : Calls Tryd.prog 19 #[.string ⟨#[38, 38]⟩, .int .i64 a, .int .i64 b] w fun e w' => e = .returned (.int .i64 (two [38, 38] a b)) ∧ w = w' := by
  go_enter Tryd.func19, Tryd.ntmps19
  go_wp2_with (go_at_call 29; refine (rbit_any _ _).mono ?_; rintro e w' ⟨rfl, rfl⟩)
  all_goals go_ret
  all_goals exact ⟨ret_int (by first | rfl | simp [two, bit, *]), rfl⟩
set_option maxHeartbeats 1000000 in
theorem rtwo_61_61 (a b : Int) (w : World) : Calls Tryd.prog 19 #[.string ⟨#[61, 61]⟩, .int .i64 a, .int .i64 b] w fun e w' => e = .returned (.int .i64 (two [61, 61] a b)) ∧ w = w' := by
  go_enter Tryd.func19, Tryd.ntmps19
  go_wp2_with (go_at_call 29; refine (rbit_any _ _).mono ?_; rintro e w' ⟨rfl, rfl⟩)
  all_goals go_ret
  all_goals exact ⟨ret_int (by first | rfl | simp [two, bit, *]), rfl⟩
set_option maxHeartbeats 1000000 in
theorem rtwo_33_61 (a b : Int) (w : World) : Calls Tryd.prog 19 #[.string ⟨#[33, 61]⟩, .int .i64 a, .int .i64 b] w fun e w' => e = .returned (.int .i64 (two [33, 61] a b)) ∧ w = w' := by
  go_enter Tryd.func19, Tryd.ntmps19
  go_wp2_with (go_at_call 29; refine (rbit_any _ _).mono ?_; rintro e w' ⟨rfl, rfl⟩)
  all_goals go_ret
  all_goals exact ⟨ret_int (by first | rfl | simp [two, bit, *]), rfl⟩
set_option maxHeartbeats 1000000 in
theorem rtwo_60_61 (a b : Int) (w : World) : Calls Tryd.prog 19 #[.string ⟨#[60, 61]⟩, .int .i64 a, .int .i64 b] w fun e w' => e = .returned (.int .i64 (two [60, 61] a b)) ∧ w = w' := by
  go_enter Tryd.func19, Tryd.ntmps19
  go_wp2_with (go_at_call 29; refine (rbit_any _ _).mono ?_; rintro e w' ⟨rfl, rfl⟩)
  all_goals go_ret
  all_goals exact ⟨ret_int (by first | rfl | simp [two, bit, *]), rfl⟩
set_option maxHeartbeats 1000000 in
theorem rtwo_62_61 (a b : Int) (w : World) : Calls Tryd.prog 19 #[.string ⟨#[62, 61]⟩, .int .i64 a, .int .i64 b] w fun e w' => e = .returned (.int .i64 (two [62, 61] a b)) ∧ w = w' := by
  go_enter Tryd.func19, Tryd.ntmps19
  go_wp2_with (go_at_call 29; refine (rbit_any _ _).mono ?_; rintro e w' ⟨rfl, rfl⟩)
  all_goals go_ret
  all_goals exact ⟨ret_int (by first | rfl | simp [two, bit, *]), rfl⟩
set_option maxHeartbeats 1000000 in
theorem rtwo_60 (a b : Int) (w : World) : Calls Tryd.prog 19 #[.string ⟨#[60]⟩, .int .i64 a, .int .i64 b] w fun e w' => e = .returned (.int .i64 (two [60] a b)) ∧ w = w' := by
  go_enter Tryd.func19, Tryd.ntmps19
  go_wp2_with (go_at_call 29; refine (rbit_any _ _).mono ?_; rintro e w' ⟨rfl, rfl⟩)
  all_goals go_ret
  all_goals exact ⟨ret_int (by first | rfl | simp [two, bit, *]), rfl⟩
set_option maxHeartbeats 1000000 in
theorem rtwo_62 (a b : Int) (w : World) : Calls Tryd.prog 19 #[.string ⟨#[62]⟩, .int .i64 a, .int .i64 b] w fun e w' => e = .returned (.int .i64 (two [62] a b)) ∧ w = w' := by
  go_enter Tryd.func19, Tryd.ntmps19
  go_wp2_with (go_at_call 29; refine (rbit_any _ _).mono ?_; rintro e w' ⟨rfl, rfl⟩)
  all_goals go_ret
  all_goals exact ⟨ret_int (by first | rfl | simp [two, bit, *]), rfl⟩
set_option maxHeartbeats 1000000 in
theorem rtwo_43 (a b : Int) (w : World) : Calls Tryd.prog 19 #[.string ⟨#[43]⟩, .int .i64 a, .int .i64 b] w fun e w' => e = .returned (.int .i64 (two [43] a b)) ∧ w = w' := by
  go_enter Tryd.func19, Tryd.ntmps19
  go_wp2_with (go_at_call 29; refine (rbit_any _ _).mono ?_; rintro e w' ⟨rfl, rfl⟩)
  all_goals go_ret
  all_goals exact ⟨ret_int (by first | rfl | simp [two, bit, *]), rfl⟩
set_option maxHeartbeats 1000000 in
theorem rtwo_45 (a b : Int) (w : World) : Calls Tryd.prog 19 #[.string ⟨#[45]⟩, .int .i64 a, .int .i64 b] w fun e w' => e = .returned (.int .i64 (two [45] a b)) ∧ w = w' := by
  go_enter Tryd.func19, Tryd.ntmps19
  go_wp2_with (go_at_call 29; refine (rbit_any _ _).mono ?_; rintro e w' ⟨rfl, rfl⟩)
  all_goals go_ret
  all_goals exact ⟨ret_int (by first | rfl | simp [two, bit, *]), rfl⟩
set_option maxHeartbeats 1000000 in
theorem rtwo_42 (a b : Int) (w : World) : Calls Tryd.prog 19 #[.string ⟨#[42]⟩, .int .i64 a, .int .i64 b] w fun e w' => e = .returned (.int .i64 (two [42] a b)) ∧ w = w' := by
  go_enter Tryd.func19, Tryd.ntmps19
  go_wp2_with (go_at_call 29; refine (rbit_any _ _).mono ?_; rintro e w' ⟨rfl, rfl⟩)
  all_goals go_ret
  all_goals exact ⟨ret_int (by first | rfl | simp [two, bit, *]), rfl⟩
set_option maxHeartbeats 1000000 in
theorem rtwo_47 (a b : Int) (w : World) : Calls Tryd.prog 19 #[.string ⟨#[47]⟩, .int .i64 a, .int .i64 b] w fun e w' => e = .returned (.int .i64 (two [47] a b)) ∧ w = w' := by
  have H : Hid (two [47] a b = if b = 0 then 0 else wrap64 (a.tdiv b)) := Lib.hid (by simp [two])
  by_cases h : b = 0
  · have h1 : (b == 0) = true := by simpa using h
    rw [show two [47] a b = 0 by rw [H.out, if_pos h]]
    clear h
    go_enter Tryd.func19, Tryd.ntmps19
    go_wp2
    go_ret
    exact ⟨rfl, rfl⟩
  · have h1 : (b == 0) = false := by simpa using h
    rw [show two [47] a b = wrap64 (a.tdiv b) by rw [H.out, if_neg h]]
    go_enter Tryd.func19, Tryd.ntmps19
    go_wp2
    all_goals go_ret
    all_goals exact ⟨ret_int (by first | rfl | simp [wrap64]), rfl⟩
set_option maxHeartbeats 1000000 in
theorem rtwo_37 (a b : Int) (w : World) : Calls Tryd.prog 19 #[.string ⟨#[37]⟩, .int .i64 a, .int .i64 b] w fun e w' => e = .returned (.int .i64 (two [37] a b)) ∧ w = w' := by
  have H : Hid (two [37] a b = if b = 0 then 0 else a.tmod b) := Lib.hid (by simp [two])
  by_cases h : b = 0
  · have h1 : (b == 0) = true := by simpa using h
    rw [show two [37] a b = 0 by rw [H.out, if_pos h]]
    clear h
    go_enter Tryd.func19, Tryd.ntmps19
    go_wp2
    go_ret
    exact ⟨rfl, rfl⟩
  · have h1 : (b == 0) = false := by simpa using h
    rw [show two [37] a b = a.tmod b by rw [H.out, if_neg h]]
    go_enter Tryd.func19, Tryd.ntmps19
    go_wp2
    all_goals go_ret
    all_goals exact ⟨ret_int (by first | rfl | simp [wrap64]), rfl⟩
theorem rtwo_any {s : ByteArray} (hs : s.data.toList ∈ ops) (a b : Int) (w : World) : Calls Tryd.prog 19 #[.string s, .int .i64 a, .int .i64 b] w fun e w' => e = .returned (.int .i64 (two s.data.toList a b)) ∧ w = w' := by
  rcases op_mem hs with rfl | rfl | rfl | rfl | rfl | rfl | rfl | rfl | rfl | rfl | rfl | rfl | rfl
  · exact rtwo_124_124 a b w
  · exact rtwo_38_38 a b w
  · exact rtwo_61_61 a b w
  · exact rtwo_33_61 a b w
  · exact rtwo_60_61 a b w
  · exact rtwo_62_61 a b w
  · exact rtwo_60 a b w
  · exact rtwo_62 a b w
  · exact rtwo_43 a b w
  · exact rtwo_45 a b w
  · exact rtwo_42 a b w
  · exact rtwo_47 a b w
  · exact rtwo_37 a b w
end Go.Proofs.YtlkaaembeakicaaDoor.Ex
