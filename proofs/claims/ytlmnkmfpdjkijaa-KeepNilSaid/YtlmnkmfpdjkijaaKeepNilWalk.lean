/-
  KeepNil: the walk of the law. Conditions: none.
-/
import Derived.Test.YtlmnkmfpdjkijaaKAwake
namespace Go.Proofs.Ytlmnkmfpdjkijaa.Ke
set_option linter.unusedVariables false
set_option linter.unusedSimpArgs false
open Go.RowKit

set_option maxRecDepth 20000 in
set_option maxHeartbeats 1000000 in
theorem keepNil_walk (r : Rc) (x : Int) (v : Value) (w : World) : Calls Try.prog 6 #[rcV r, .int .i64 x, v] w fun e w' => e = .returned (.bool true) ∧ Below w.heap.size w w' := by
  have HB0 := Lib.hid ((Below.refl w.heap.size w).alloc (Nat.le_refl _) (.cells #[kyV r.k, .int .i64 r.t, .int .i64 r.v] 32))
  go_enter Try.func6, Try.ntmps6
  go_wp2_with (first
    | (go_at_call 13; refine (put_nil r _).mono ?_; rintro e w1 ⟨rfl, hb1⟩; have HB1 := Lib.hid (grow_below HB0.out hb1); clear hb1)
    | (go_at_call 16; refine (mark_nil x _).mono ?_; rintro e w2 ⟨rfl, hb2⟩; have HB2 := Lib.hid (grow_below HB1.out hb2); clear hb2)
    | (go_at_call 21; refine (save_nil x _).mono ?_; rintro e w3 ⟨rfl, hb3⟩; have HB3 := Lib.hid (grow_below HB2.out hb3); clear hb3)
    | (go_at_call 12; refine (awake_any _).mono ?_; rintro e w4 ⟨rfl, hb4⟩; have HB4 := Lib.hid (grow_below HB3.out hb4); clear hb4)
    | (go_at_call 23; refine (load_nil v _).mono ?_; rintro e w5 ⟨rfl, hb5⟩; have HB5 := Lib.hid (grow_below HB4.out hb5); clear hb5)
    | (go_at_call 14; refine (at_nil _).mono ?_; rintro e w6 ⟨rfl, hb6⟩; have HB6 := Lib.hid (grow_below HB5.out hb6); clear hb6)
    | (go_at_call 17; refine (open_nil _).mono ?_; rintro e w7 ⟨rfl, hb7⟩; have HB7 := Lib.hid (grow_below HB6.out hb7); clear hb7))
  go_ret
  exact ⟨rfl, HB7.out⟩
end Go.Proofs.Ytlmnkmfpdjkijaa.Ke
