/-
  The law's look at the document's examples of layer 9: they come out. Conditions: none.
-/
import Derived.Test.YtfkdkcdknpjoeaaWProg
import Derived.Deep.DeepCutAuto
namespace Go.Proofs.Ytfkdkcdknpjoeaa.Wi
set_option linter.unusedVariables false
set_option linter.unusedSimpArgs false
open Go.RowKit

theorem grow_below {W w w' : World} (h : Below W.heap.size W w) (hb : Below w.heap.size w w') : Below W.heap.size W w' := h.trans (hb.mono h.size)
theorem ex1 : ofS 2 10 5 3 = [(-5, 5), (0, 10)] := by decide +kernel
theorem ex2 : ofS 1 10 0 25 = [(20, 30)] := by decide +kernel
theorem ex3 : mg [(5, 9), (1, 3), (8, 12), (3, 4)] = [(1, 3), (3, 4), (5, 12)] := by decide +kernel
set_option maxRecDepth 20000 in
set_option maxHeartbeats 4000000 in
theorem awake_any (w : World) : Calls Try.prog 16 #[] w fun e w' => e = .returned (.bool true) ∧ Below w.heap.size w w' := by
  go_enter Try.func16, Try.ntmps16
  go_upto_region 2 with (go_at_call 10; refine (of_ok (k := 2) (s := 10) (l := 5) (t := 3) (by decide) (by decide) ex1 _).mono ?_; rintro e w1 ⟨v1, rfl, hi1, hb1⟩; have HA1 := Lib.hid hi1; have HB1 := Lib.hid hb1; clear hi1 hb1)
  go_upto_region 3 with (go_at_call 10; refine (of_ok (k := 1) (s := 10) (l := 0) (t := 25) (by decide) (by decide) ex2 _).mono ?_; rintro e w2 ⟨v2, rfl, hi2, hb2⟩; have HA2 := Lib.hid (HA1.out.grow hb2); have HC2 := Lib.hid hi2; have HB2 := Lib.hid (grow_below HB1.out hb2); clear hi2 hb2)
  clear HA1 HB1
  go_upto_region 4 with (go_at_call 18; refine (merge_ok (L := [(5, 9), (1, 3), (8, 12), (3, 4)]) (spans_block (heap_alloc_new _ _) rfl rfl (by decide)) (by decide) (by decide) ex3).mono ?_; rintro e w3 ⟨v3, rfl, hi3, hb3⟩; have hb3 := ((Below.refl w2.heap.size w2).alloc (Nat.le_refl _) (.cells #[.int .i64 5, .int .i64 9, .int .i64 1, .int .i64 3, .int .i64 8, .int .i64 12, .int .i64 3, .int .i64 4] 34)).trans (hb3.mono (by simp)); have HA3 := Lib.hid (HA2.out.grow hb3); have HC3 := Lib.hid (HC2.out.grow hb3); have HD3 := Lib.hid hi3; have HB3 := Lib.hid (grow_below HB2.out hb3); clear hi3 hb3)
  clear HA2 HC2 HB2
  go_upto_region 5 with (go_at_call 18; refine (merge_arg (L := [(3, 3)]) (spans_block (heap_alloc_new _ _) rfl rfl (by decide)) (by decide) (by decide)).mono ?_; rintro e w4 ⟨v4, rfl, hi4, hb4⟩; have hb4 := ((Below.refl w3.heap.size w3).alloc (Nat.le_refl _) (.cells #[.int .i64 3, .int .i64 3] 34)).trans (hb4.mono (by simp)); have HA4 := Lib.hid (HA3.out.grow hb4); have HC4 := Lib.hid (HC3.out.grow hb4); have HD4 := Lib.hid (HD3.out.grow hb4); have HB4 := Lib.hid (grow_below HB3.out hb4); clear hi4 hb4)
  clear HA3 HC3 HD3 HB3
  go_wp2_with (first
    | (go_at_call 14; refine (same_at (M := [(-5, 5), (0, 10)]) (HA4.out.grow ((Below.refl _ _).alloc (Nat.le_refl _) _)) (spans_block (heap_alloc_new _ _) rfl rfl (by decide)) (decide_eq_true rfl)).mono ?_; rintro e w5 ⟨rfl, hb5⟩; have hb5 := ((Below.refl w4.heap.size w4).alloc (Nat.le_refl _) (.cells #[.int .i64 (-5), .int .i64 5, .int .i64 0, .int .i64 10] 34)).trans (hb5.mono (by simp)); have HC5 := Lib.hid (HC4.out.grow hb5); have HD5 := Lib.hid (HD4.out.grow hb5); have HB5 := Lib.hid (grow_below HB4.out hb5); clear hb5 HA4)
    | (go_at_call 14; refine (same_at (M := [(20, 30)]) (HC5.out.grow ((Below.refl _ _).alloc (Nat.le_refl _) _)) (spans_block (heap_alloc_new _ _) rfl rfl (by decide)) (decide_eq_true rfl)).mono ?_; rintro e w6 ⟨rfl, hb6⟩; have hb6 := ((Below.refl w5.heap.size w5).alloc (Nat.le_refl _) (.cells #[.int .i64 20, .int .i64 30] 34)).trans (hb6.mono (by simp)); have HD6 := Lib.hid (HD5.out.grow hb6); have HB6 := Lib.hid (grow_below HB5.out hb6); clear hb6 HC5)
    | (go_at_call 14; refine (same_at (M := [(1, 3), (3, 4), (5, 12)]) (HD6.out.grow ((Below.refl _ _).alloc (Nat.le_refl _) _)) (spans_block (heap_alloc_new _ _) rfl rfl (by decide)) (decide_eq_true rfl)).mono ?_; rintro e w7 ⟨rfl, hb7⟩; have hb7 := ((Below.refl w6.heap.size w6).alloc (Nat.le_refl _) (.cells #[.int .i64 1, .int .i64 3, .int .i64 3, .int .i64 4, .int .i64 5, .int .i64 12] 34)).trans (hb7.mono (by simp)); have HB7 := Lib.hid (grow_below HB6.out hb7); clear hb7 HD6)
    | (go_at_call 15; with_reducible refine (due_at (s := (20, 30)) (m := 30) (b := true) (by decide) _).mono ?_; rintro e w8 ⟨rfl, hb8⟩; have HB8 := Lib.hid (grow_below HB7.out hb8); clear hb8 HB7)
    | (go_at_call 15; with_reducible refine (due_at (s := (20, 30)) (m := 29) (b := false) (by decide) _).mono ?_; rintro e w9 ⟨rfl, hb9⟩; have HB9 := Lib.hid (grow_below HB8.out hb9); clear hb9 HB8))
  go_ret
  exact ⟨rfl, HB9.out⟩
end Go.Proofs.Ytfkdkcdknpjoeaa.Wi
