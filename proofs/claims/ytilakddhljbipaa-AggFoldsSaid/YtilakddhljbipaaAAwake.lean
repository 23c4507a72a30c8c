/-
  The law's look at the document's examples of layer 10: they come out. Conditions: none.
-/
import Derived.Test.YtilakddhljbipaaAProg
import Derived.Deep.DeepCutAuto
namespace Go.Proofs.Ytilakddhljbipaa.Ag
set_option linter.unusedVariables false
set_option linter.unusedSimpArgs false
open Go.RowKit

theorem ex_join : jn ⟨1, 5, 5, 5⟩ ⟨1, -2, -2, -2⟩ = ⟨2, 3, -2, 5⟩ := ac_ext (by decide +kernel) (by decide +kernel) (by decide +kernel) (by decide +kernel)
attribute [local go_sem] run_acc
set_option maxRecDepth 20000 in
set_option maxHeartbeats 1000000 in
theorem awake_any (w : World) : Calls Try.prog 9 #[] w fun e w' => e = .returned (.bool true) ∧ Below w.heap.size w w' := by
  go_enter Try.func9, Try.ntmps9
  go_upto_region 2 with (first
    | (go_at_call 12; with_reducible refine (one_at (v := 5) (r := ⟨1, 5, 5, 5⟩) rfl _).mono ?_; rintro e w1 ⟨rfl, hb1⟩; have HB1 := Lib.hid hb1; clear hb1)
    | (go_at_call 12; with_reducible refine (one_at (v := -2) (r := ⟨1, -2, -2, -2⟩) rfl _).mono ?_; rintro e w2 ⟨rfl, hb2⟩; have HB2 := Lib.hid (grow_below HB1.out hb2); clear hb2)
    | (go_at_call 11; refine (join_at ex_join _).mono ?_; rintro e w3 ⟨rfl, hb3⟩; have HB3 := Lib.hid (grow_below HB2.out hb3); clear hb3))
  have HA4 : Hid (AcAt (w3.alloc (.cells (acC ⟨2, 3, -2, 5⟩) 24)) w3.heap.size ⟨2, 3, -2, 5⟩) := Lib.hid (ac_new _ _)
  have HB4 := Lib.hid (grow_below HB3.out ((Below.refl _ _).alloc (Nat.le_refl _) (.cells (acC ⟨2, 3, -2, 5⟩) 24)))
  obtain ⟨g, hg⟩ : ∃ g, w3.heap.size = g := ⟨_, rfl⟩
  rw [hg] at HA4 ⊢
  clear HB1 HB2 HB3 hg
  generalize w3.alloc (.cells (acC ⟨2, 3, -2, 5⟩) 24) = w4 at HA4 HB4 ⊢
  obtain ⟨c0, c1, c2, c3⟩ := HA4.out.cells
  go_upto_region 3 with (go_at_call 7; refine (value_at (k := 3) (a := ⟨2, 3, -2, 5⟩) (v := -2) (e := 0) rfl _).mono ?_; rintro e w5 ⟨rfl, hb5⟩; have HA5 := Lib.hid (HA4.out.grow hb5); have HB5 := Lib.hid (grow_below HB4.out hb5); clear hb5)
  clear c0 c1 c2 c3
  obtain ⟨c0, c1, c2, c3⟩ := HA5.out.cells
  go_upto_region 4 with (go_at_call 7; refine (value_at (k := 0) (a := ⟨2, 3, -2, 5⟩) (v := 0) (e := 1) rfl _).mono ?_; rintro e w6 ⟨rfl, hb6⟩; have HA6 := Lib.hid (HA5.out.grow hb6); have HB6 := Lib.hid (grow_below HB5.out hb6); clear hb6)
  clear c0 c1 c2 c3
  go_upto_region 5 with (go_at_call 7; refine (value_at (k := 2) (a := zer) (v := 0) (e := 6) rfl _).mono ?_; rintro e w7 ⟨rfl, hb7⟩; have HA7 := Lib.hid (HA6.out.grow hb7); have HB7 := Lib.hid (grow_below HB6.out hb7); clear hb7)
  obtain ⟨c0, c1, c2, c3⟩ := HA7.out.cells
  clear HA4 HA5 HA6 HB4 HB5 HB6
  go_wp2
  go_ret
  exact ⟨rfl, HB7.out⟩
end Go.Proofs.Ytilakddhljbipaa.Ag
