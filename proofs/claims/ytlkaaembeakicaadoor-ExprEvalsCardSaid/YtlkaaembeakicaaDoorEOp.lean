/-
  What the signs do to values. Conditions: none.
-/
import Derived.Test.YtlkaaembeakicaaDoorEMeas
namespace Go.Proofs.YtlkaaembeakicaaDoor.Ex
open Go.RowKit
def opFn (s : Bs) : Nat :=
  if s = [42] then 67 else
  if s = [47] then 68 else
  if s = [37] then 69 else
  if s = [43] then 70 else
  if s = [45] then 71 else
  if s = [61, 61] then 72 else
  if s = [33, 61] then 73 else
  if s = [60, 61] then 74 else
  if s = [62, 61] then 75 else
  if s = [60] then 76 else
  if s = [62] then 77 else
  if s = [38, 38] then 78 else
  79
theorem bit_true : bit true = 1 := rfl
theorem bit_false : bit false = 0 := rfl
set_option maxHeartbeats 400000 in
theorem truth_any (b : Bool) (w : World) : Calls Tryd.prog 66 #[.bool b] w fun e w' => e = .returned (.int .i64 (bit b)) ∧ w = w' := by
  cases b
  all_goals
    go_enter Tryd.func66, Tryd.ntmps66
    go_wp2
    go_ret
    exact ⟨rfl, rfl⟩
theorem truth_at (b : Bool) (w : World) {z : Int} (h : bit b = z) : Calls Tryd.prog 66 #[.bool b] w fun e w' => e = .returned (.int .i64 z) ∧ w = w' := by subst h; exact truth_any b w
set_option maxHeartbeats 400000 in
theorem negative_any (x : Int) (w : World) : Calls Tryd.prog 57 #[.int .i64 x] w fun e w' => e = .returned (.int .i64 (wrap64 (-x))) ∧ w = w' := by
  go_enter Tryd.func57, Tryd.ntmps57
  go_wp2
  go_ret
  exact ⟨ret_int (by simp [wrap64]), rfl⟩
set_option maxHeartbeats 400000 in
theorem not_any (x : Int) (w : World) : Calls Tryd.prog 58 #[.int .i64 x] w fun e w' => e = .returned (.int .i64 (bit (x == 0))) ∧ w = w' := by
  go_enter Tryd.func58, Tryd.ntmps58
  go_wp2_with (go_at_call 66; refine (truth_any _ _).mono ?_; rintro e w' ⟨rfl, rfl⟩)
  go_ret
  exact ⟨rfl, rfl⟩
set_option maxHeartbeats 400000 in
theorem quotient_any (a b : Int) (w : World) : Calls Tryd.prog 68 #[.int .i64 a, .int .i64 b] w fun e w' => e = .returned (.int .i64 (two [47] a b)) ∧ w = w' := by
  have H : Hid (two [47] a b = if b = 0 then 0 else wrap64 (a.tdiv b)) := Lib.hid (by simp [two])
  by_cases h : b = 0
  · have h1 : (b == 0) = true := by simpa using h
    rw [show two [47] a b = 0 by rw [H.out, if_pos h]]
    clear h
    go_enter Tryd.func68, Tryd.ntmps68
    go_wp2
    go_ret
    exact ⟨rfl, rfl⟩
  · have h1 : (b == 0) = false := by simpa using h
    rw [show two [47] a b = wrap64 (a.tdiv b) by rw [H.out, if_neg h]]
    go_enter Tryd.func68, Tryd.ntmps68
    go_wp2
    all_goals go_ret
    all_goals exact ⟨ret_int (by simp [wrap64]), rfl⟩
set_option maxHeartbeats 400000 in
theorem remainder_any (a b : Int) (w : World) : Calls Tryd.prog 69 #[.int .i64 a, .int .i64 b] w fun e w' => e = .returned (.int .i64 (two [37] a b)) ∧ w = w' := by
  have H : Hid (two [37] a b = if b = 0 then 0 else a.tmod b) := Lib.hid (by simp [two])
  by_cases h : b = 0
  · have h1 : (b == 0) = true := by simpa using h
    rw [show two [37] a b = 0 by rw [H.out, if_pos h]]
    clear h
    go_enter Tryd.func69, Tryd.ntmps69
    go_wp2
    go_ret
    exact ⟨rfl, rfl⟩
  · have h1 : (b == 0) = false := by simpa using h
    rw [show two [37] a b = a.tmod b by rw [H.out, if_neg h]]
    go_enter Tryd.func69, Tryd.ntmps69
    go_wp2
    all_goals go_ret
    all_goals exact ⟨ret_int (by simp [wrap64]), rfl⟩
set_option maxHeartbeats 400000 in
theorem op67_any (a b : Int) (w : World) : Calls Tryd.prog 67 #[.int .i64 a, .int .i64 b] w fun e w' => e = .returned (.int .i64 (two [42] a b)) ∧ w = w' := by
  go_enter Tryd.func67, Tryd.ntmps67
  go_wp2_with (go_at_call 66; refine (truth_any _ _).mono ?_; rintro e w' ⟨rfl, rfl⟩)
  all_goals go_ret
  all_goals exact ⟨ret_int (by first | rfl | simp [two, bit, *]), rfl⟩
set_option maxHeartbeats 400000 in
theorem op70_any (a b : Int) (w : World) : Calls Tryd.prog 70 #[.int .i64 a, .int .i64 b] w fun e w' => e = .returned (.int .i64 (two [43] a b)) ∧ w = w' := by
  go_enter Tryd.func70, Tryd.ntmps70
  go_wp2_with (go_at_call 66; refine (truth_any _ _).mono ?_; rintro e w' ⟨rfl, rfl⟩)
  all_goals go_ret
  all_goals exact ⟨ret_int (by first | rfl | simp [two, bit, *]), rfl⟩
set_option maxHeartbeats 400000 in
theorem op71_any (a b : Int) (w : World) : Calls Tryd.prog 71 #[.int .i64 a, .int .i64 b] w fun e w' => e = .returned (.int .i64 (two [45] a b)) ∧ w = w' := by
  go_enter Tryd.func71, Tryd.ntmps71
  go_wp2_with (go_at_call 66; refine (truth_any _ _).mono ?_; rintro e w' ⟨rfl, rfl⟩)
  all_goals go_ret
  all_goals exact ⟨ret_int (by first | rfl | simp [two, bit, *]), rfl⟩
set_option maxHeartbeats 400000 in
theorem op72_any (a b : Int) (w : World) : Calls Tryd.prog 72 #[.int .i64 a, .int .i64 b] w fun e w' => e = .returned (.int .i64 (two [61, 61] a b)) ∧ w = w' := by
  go_enter Tryd.func72, Tryd.ntmps72
  go_wp2_with (go_at_call 66; refine (truth_any _ _).mono ?_; rintro e w' ⟨rfl, rfl⟩)
  all_goals go_ret
  all_goals exact ⟨ret_int (by first | rfl | simp [two, bit, *]), rfl⟩
set_option maxHeartbeats 400000 in
theorem op73_any (a b : Int) (w : World) : Calls Tryd.prog 73 #[.int .i64 a, .int .i64 b] w fun e w' => e = .returned (.int .i64 (two [33, 61] a b)) ∧ w = w' := by
  go_enter Tryd.func73, Tryd.ntmps73
  go_wp2_with (go_at_call 66; refine (truth_any _ _).mono ?_; rintro e w' ⟨rfl, rfl⟩)
  all_goals go_ret
  all_goals exact ⟨ret_int (by first | rfl | simp [two, bit, *]), rfl⟩
set_option maxHeartbeats 400000 in
theorem op74_any (a b : Int) (w : World) : Calls Tryd.prog 74 #[.int .i64 a, .int .i64 b] w fun e w' => e = .returned (.int .i64 (two [60, 61] a b)) ∧ w = w' := by
  go_enter Tryd.func74, Tryd.ntmps74
  go_wp2_with (go_at_call 66; refine (truth_any _ _).mono ?_; rintro e w' ⟨rfl, rfl⟩)
  all_goals go_ret
  all_goals exact ⟨ret_int (by first | rfl | simp [two, bit, *]), rfl⟩
set_option maxHeartbeats 400000 in
theorem op75_any (a b : Int) (w : World) : Calls Tryd.prog 75 #[.int .i64 a, .int .i64 b] w fun e w' => e = .returned (.int .i64 (two [62, 61] a b)) ∧ w = w' := by
  go_enter Tryd.func75, Tryd.ntmps75
  go_wp2_with (go_at_call 66; refine (truth_any _ _).mono ?_; rintro e w' ⟨rfl, rfl⟩)
  all_goals go_ret
  all_goals exact ⟨ret_int (by first | rfl | simp [two, bit, *]), rfl⟩
set_option maxHeartbeats 400000 in
theorem op76_any (a b : Int) (w : World) : Calls Tryd.prog 76 #[.int .i64 a, .int .i64 b] w fun e w' => e = .returned (.int .i64 (two [60] a b)) ∧ w = w' := by
  go_enter Tryd.func76, Tryd.ntmps76
  go_wp2_with (go_at_call 66; refine (truth_any _ _).mono ?_; rintro e w' ⟨rfl, rfl⟩)
  all_goals go_ret
  all_goals exact ⟨ret_int (by first | rfl | simp [two, bit, *]), rfl⟩
set_option maxHeartbeats 400000 in
theorem op77_any (a b : Int) (w : World) : Calls Tryd.prog 77 #[.int .i64 a, .int .i64 b] w fun e w' => e = .returned (.int .i64 (two [62] a b)) ∧ w = w' := by
  go_enter Tryd.func77, Tryd.ntmps77
  go_wp2_with (go_at_call 66; refine (truth_any _ _).mono ?_; rintro e w' ⟨rfl, rfl⟩)
  all_goals go_ret
  all_goals exact ⟨ret_int (by first | rfl | simp [two, bit, *]), rfl⟩
set_option maxHeartbeats 400000 in
theorem op78_any (a b : Int) (w : World) : Calls Tryd.prog 78 #[.int .i64 a, .int .i64 b] w fun e w' => e = .returned (.int .i64 (two [38, 38] a b)) ∧ w = w' := by
  go_enter Tryd.func78, Tryd.ntmps78
  go_wp2_with (go_at_call 66; refine (truth_any _ _).mono ?_; rintro e w' ⟨rfl, rfl⟩)
  all_goals go_ret
  all_goals exact ⟨ret_int (by first | rfl | simp [two, bit, *]), rfl⟩
set_option maxHeartbeats 400000 in
theorem op79_any (a b : Int) (w : World) : Calls Tryd.prog 79 #[.int .i64 a, .int .i64 b] w fun e w' => e = .returned (.int .i64 (two [124, 124] a b)) ∧ w = w' := by
  go_enter Tryd.func79, Tryd.ntmps79
  go_wp2_with (go_at_call 66; refine (truth_any _ _).mono ?_; rintro e w' ⟨rfl, rfl⟩)
  all_goals go_ret
  all_goals exact ⟨ret_int (by first | rfl | simp [two, bit, *]), rfl⟩
theorem opFn_any {s : Bs} (hs : s ∈ ops) (a b : Int) (w : World) : Calls Tryd.prog (opFn s) #[.int .i64 a, .int .i64 b] w fun e w' => e = .returned (.int .i64 (two s a b)) ∧ w = w' := by
  simp only [ops, List.mem_cons, List.not_mem_nil, or_false] at hs
  rcases hs with rfl | rfl | rfl | rfl | rfl | rfl | rfl | rfl | rfl | rfl | rfl | rfl | rfl
  · exact op79_any a b w
  · exact op78_any a b w
  · exact op72_any a b w
  · exact op73_any a b w
  · exact op74_any a b w
  · exact op75_any a b w
  · exact op76_any a b w
  · exact op77_any a b w
  · exact op70_any a b w
  · exact op71_any a b w
  · exact op67_any a b w
  · exact quotient_any a b w
  · exact remainder_any a b w
theorem opFn_enters {s : Bs} (hs : s ∈ ops) : ∀ args w, (callFunc (opFn s) args).run Tryd.prog w = .ok (.enter (opFn s) args) w := by
  simp only [ops, List.mem_cons, List.not_mem_nil, or_false] at hs
  rcases hs with rfl | rfl | rfl | rfl | rfl | rfl | rfl | rfl | rfl | rfl | rfl | rfl | rfl
  · exact enters_of Tryd.func79 (by kernel_rfl) rfl
  · exact enters_of Tryd.func78 (by kernel_rfl) rfl
  · exact enters_of Tryd.func72 (by kernel_rfl) rfl
  · exact enters_of Tryd.func73 (by kernel_rfl) rfl
  · exact enters_of Tryd.func74 (by kernel_rfl) rfl
  · exact enters_of Tryd.func75 (by kernel_rfl) rfl
  · exact enters_of Tryd.func76 (by kernel_rfl) rfl
  · exact enters_of Tryd.func77 (by kernel_rfl) rfl
  · exact enters_of Tryd.func70 (by kernel_rfl) rfl
  · exact enters_of Tryd.func71 (by kernel_rfl) rfl
  · exact enters_of Tryd.func67 (by kernel_rfl) rfl
  · exact enters_of Tryd.func68 (by kernel_rfl) rfl
  · exact enters_of Tryd.func69 (by kernel_rfl) rfl
set_option maxHeartbeats 2000000 in
theorem operation_any {s : ByteArray} (hs : s.data.toList ∈ ops) (w : World) : Calls Tryd.prog 60 #[.string s] w fun e w' => e = .returned (.func (.func (opFn s.data.toList)) #[] #[]) ∧ w = w' := by
  rcases op_mem hs with rfl | rfl | rfl | rfl | rfl | rfl | rfl | rfl | rfl | rfl | rfl | rfl | rfl
  all_goals
    go_enter Tryd.func60, Tryd.ntmps60
    go_wp2
    go_ret
    exact ⟨rfl, rfl⟩
end Go.Proofs.YtlkaaembeakicaaDoor.Ex
