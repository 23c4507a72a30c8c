/-
  The chapter's examples: awake answers true. Conditions: the library's table of powers holds what it was laid with.
-/
import Derived.Test.YtlkaaembeakicaaDoorEMeth
namespace Go.Proofs.YtlkaaembeakicaaDoor.Ex
open Go.RowKit
theorem parse_ok {s : ByteArray} {w : World} {T : Tree} (hs : s.size ≤ maxLen) (hT : Tab w) (h : parse s.data.toList = .ok T) : Calls Tryd.prog 10 #[.string s] w fun e w' => ∃ b, e = .returned (.tuple #[ptr b, .int .i64 0, .int .i64 0]) ∧ ExAt w' b T ∧ Below w.heap.size w w' := by
  refine (parse_any hs hT).mono ?_
  rw [h]
  rintro e w' ⟨hb, _, _, b, rfl, hx⟩
  exact ⟨b, rfl, hx, hb⟩
theorem parse_err {s : ByteArray} {w : World} {pos n : Nat} (hs : s.size ≤ maxLen) (hT : Tab w) (h : parse s.data.toList = .err pos n) : Calls Tryd.prog 10 #[.string s] w fun e w' => e = .returned (.tuple #[.pointer none, .int .i64 pos, .int .i64 n]) ∧ Below w.heap.size w w' := by
  refine (parse_any hs hT).mono ?_
  rw [h]
  rintro e w' ⟨hb, he⟩
  exact ⟨he, hb⟩
def T0 : Tree := .bin [43] (.name 118) (.bin [42] (.num 1) (.name 116))
theorem T0_text : T0.text = [40, 118, 32, 43, 32, 40, 49, 32, 42, 32, 116, 41, 41] := by
  simp [T0, Tree.text, Lib.decDigits_one]
theorem T0_size : T0.size = 5 := rfl
theorem T0_eval : T0.eval 0 3 4 = 7 := by simp [T0, Tree.eval, two, wrap64]
theorem p1 : parse (⟨#[118, 43, 49, 42, 116]⟩ : ByteArray).data.toList = .ok T0 := by decide
theorem p2 : parse (⟨#[118, 32, 61, 32, 49]⟩ : ByteArray).data.toList = .err 2 40 := by decide
theorem p3 : parse (⟨#[118, 32, 43]⟩ : ByteArray).data.toList = .err 3 41 := by decide
set_option maxHeartbeats 2000000 in
theorem awake_any {w : World} (hT : Tab w) : Calls Tryd.prog 12 #[] w fun e w' => e = .returned (.bool true) ∧ Below w.heap.size w w' := by
  have HT := Lib.hid hT
  have HX : Hid (T0.text = [40, 118, 32, 43, 32, 40, 49, 32, 42, 32, 116, 41, 41] ∧ T0.size = 5 ∧ T0.eval 0 3 4 = 7) := Lib.hid ⟨T0_text, T0_size, T0_eval⟩
  clear hT
  go_enter Tryd.func12, Tryd.ntmps12
  go_wp2_with (go_at_call 10; refine (parse_ok (by decide) HT.out p1).mono ?_; rintro e w1 ⟨b, rfl, hx1, hb1⟩; have HX1 := Lib.hid hx1; have HB1 := Lib.hid hb1; have hT1 := Lib.hid (HT.out.below hb1); clear hx1 hb1; refine Hid.out ?_)
  refine Lib.hid ?_
  go_wp2_with (go_at_call 10; refine (parse_err (by decide) hT1.out p2).mono ?_; rintro e w2 ⟨rfl, hb2⟩; have HX2 := Lib.hid (HX1.out.grow hb2); have HB2 := Lib.hid (HB1.out.trans (hb2.mono HB1.out.size)); have hT2 := Lib.hid (hT1.out.below hb2); clear hb2; refine Hid.out ?_)
  refine Lib.hid ?_
  go_wp2_with (go_at_call 10; refine (parse_err (by decide) hT2.out p3).mono ?_; rintro e w3 ⟨rfl, hb3⟩; have HX3 := Lib.hid (HX2.out.grow hb3); have HB3 := Lib.hid (HB2.out.trans (hb3.mono HB2.out.size)); clear hb3; refine Hid.out ?_)
  refine Lib.hid ?_
  go_wp2_with (first
    | (go_at_call 13; refine (text_any HX3.out).mono ?_; rw [HX.out.1]; rintro e w' ⟨rfl, rfl⟩)
    | (go_at_call 15; refine (size_any HX3.out).mono ?_; rw [HX.out.2.1]; rintro e w' ⟨rfl, rfl⟩)
    | (go_at_call 17; refine (eval_any 0 3 4 HX3.out).mono ?_; rw [HX.out.2.2]; rintro e w' ⟨rfl, m, rfl⟩))
  go_ret
  exact ⟨rfl, below_drewN HB3.out _⟩
end Go.Proofs.YtlkaaembeakicaaDoor.Ex
