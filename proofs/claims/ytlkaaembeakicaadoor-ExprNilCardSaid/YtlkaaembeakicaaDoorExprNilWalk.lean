/-
  ExprNil's walk: no expression answers 0, the empty text, 0. Conditions: the library's table of powers holds what it was laid with.
-/
import Derived.Test.YtlkaaembeakicaaDoorELaid
namespace Go.Proofs.YtlkaaembeakicaaDoor.Ex
open Go.RowKit
set_option maxHeartbeats 1000000 in
theorem exprNil_walk (n t v : Int) (w : World) (hT : Tab w) : Calls Tryd.prog 7 #[.int .i64 n, .int .i64 t, .int .i64 v] w fun e w' => e = .returned (.bool true) ∧ Below w.heap.size w w' := by
  have HT := Lib.hid hT
  clear hT
  go_enter Tryd.func7, Tryd.ntmps7
  go_wp2_with (first
    | (go_at_call 12; refine (awake_any HT.out).mono ?_; rintro e w1 ⟨rfl, hb1⟩; have HB1 := Lib.hid hb1; clear hb1)
    | (go_at_call 17; refine (nil_eval _ _ _ _).mono ?_; rintro e w' ⟨rfl, rfl⟩)
    | (go_at_call 13; refine (nil_text _).mono ?_; rintro e w' ⟨rfl, rfl⟩)
    | (go_at_call 15; refine (nil_size _).mono ?_; rintro e w' ⟨rfl, rfl⟩))
  go_ret
  exact ⟨rfl, HB1.out⟩
end Go.Proofs.YtlkaaembeakicaaDoor.Ex
