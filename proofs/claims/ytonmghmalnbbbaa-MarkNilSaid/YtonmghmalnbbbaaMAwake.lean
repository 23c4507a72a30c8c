/-
  The law's look at the document's examples of layer 8: they come out. Conditions: none.
-/
import Derived.Test.YtonmghmalnbbbaaMProg
import Derived.Deep.DeepCutAuto
namespace Go.Proofs.Ytonmghmalnbbbaa.Mk
set_option linter.unusedVariables false
set_option linter.unusedSimpArgs false
open Go.RowKit

/-- Raised, told as a store into one's own block. -/
theorem grown_below {W w w' : World} {b : Nat} (hB : Below W.heap.size W w) (hb : W.heap.size ≤ b) (hg : w.grownBy w' (some b)) : Below W.heap.size W w' := hB.grown hg hB.size (fun k e => by cases e; exact hb)
theorem next_ex (w : World) : Calls Try.prog 7 #[.int .i64 0, .int .i64 3, .int .i64 10] w fun e w' => e = .returned (.tuple #[.int .i64 7, .int .i64 0]) ∧ w = w' := by
  have := next_ok (m := 0) (b := 3) (t := 10) (by decide) (by omega) (by omega) (by decide) w
  rwa [show nx 0 3 10 = 7 by decide] at this
theorem late_ex1 (w : World) : Calls Try.prog 8 #[.int .i64 5, .int .i64 4] w fun e w' => e = .returned (.bool true) ∧ w = w' := late_any 5 4 w
theorem late_ex2 (w : World) : Calls Try.prog 8 #[.int .i64 5, .int .i64 5] w fun e w' => e = .returned (.bool false) ∧ w = w' := late_any 5 5 w
theorem new_ex (w : World) : Calls Try.prog 13 #[.int .i64 2] w fun e w' => ∃ b, e = .returned (.tuple #[.pointer (some ⟨b, 0, none⟩), .int .i64 0]) ∧ Mks w' b 2 (fun _ => 0) ∧ w.heap.size ≤ b ∧ Below w.heap.size w w' :=
  new_ok (n := 2) (by omega) (by omega) w
theorem raise_ex1 {w : World} {b : Nat} (h : Mks w b 2 (fun _ => 0)) : Calls Try.prog 15 #[.pointer (some ⟨b, 0, none⟩), .int .i64 0, .int .i64 5] w fun e w' =>
    e = .returned (.tuple #[.int .i64 0, .bool false, .int .i64 0]) ∧ Mks w' b 2 (up (fun _ => 0) 0 5) ∧ w.grownBy w' (some b) :=
  raise_ok h (i := 0) (v := 5) (m := 0) (m' := 0) (by omega) (by omega) (by decide) (by decide)
theorem raise_ex2 {w : World} {b : Nat} (h : Mks w b 2 (up (fun _ => 0) 0 5)) : Calls Try.prog 15 #[.pointer (some ⟨b, 0, none⟩), .int .i64 1, .int .i64 3] w fun e w' =>
    e = .returned (.tuple #[.int .i64 3, .bool true, .int .i64 0]) ∧ Mks w' b 2 (up (up (fun _ => 0) 0 5) 1 3) ∧ w.grownBy w' (some b) :=
  raise_ok h (i := 1) (v := 3) (m := 0) (m' := 3) (by omega) (by omega) (by decide) (by decide)
set_option maxRecDepth 20000 in
set_option maxHeartbeats 4000000 in
theorem awake_any (w : World) : Calls Try.prog 11 #[] w fun e w' => e = .returned (.bool true) ∧ Below w.heap.size w w' := by
  go_enter Try.func11, Try.ntmps11
  go_wp2_with (first
    | (go_at_call 13; refine (new_ex _).mono ?_; rintro e w2 ⟨b, rfl, hk2, hsb, hb2⟩; have HK2 := Lib.hid hk2; have HB2 := Lib.hid hb2; clear hk2 hb2)
    | (go_at_call 15; with_reducible refine (raise_ex1 HK2.out).mono ?_; rintro e w3 ⟨rfl, hk3, hg3⟩; have HK3 := Lib.hid hk3; have HB3 := Lib.hid (grown_below HB2.out hsb hg3); clear hk3 hg3 HK2)
    | (go_at_call 15; with_reducible refine (raise_ex2 HK3.out).mono ?_; rintro e w4 ⟨rfl, hk4, hg4⟩; have HB4 := Lib.hid (grown_below HB3.out hsb hg4); clear hk4 hg4)
    | (go_at_call 7; refine (next_ex _).mono ?_; rintro e w5 ⟨rfl, rfl⟩)
    | (go_at_call 8; with_reducible refine (late_ex1 _).mono ?_; rintro e w5 ⟨rfl, rfl⟩)
    | (go_at_call 8; with_reducible refine (late_ex2 _).mono ?_; rintro e w5 ⟨rfl, rfl⟩))
  go_ret
  exact ⟨rfl, HB4.out⟩
end Go.Proofs.Ytonmghmalnbbbaa.Mk
