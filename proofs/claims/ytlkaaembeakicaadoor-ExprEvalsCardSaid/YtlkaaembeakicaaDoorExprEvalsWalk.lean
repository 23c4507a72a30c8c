/-
  ExprEvals's walk: both values are alike. Conditions: the library's table of powers holds what it was laid with.
-/
import Derived.Test.YtlkaaembeakicaaDoorRBoth
namespace Go.Proofs.YtlkaaembeakicaaDoor.Ex
open Go.RowKit
set_option maxHeartbeats 2000000 in
theorem exprEvals_walk (s : ByteArray) (n t v : Int) (w : World) (hT : Tab w) (hs : s.size ≤ maxLen) : Calls Tryd.prog 4 #[.string s, .int .i64 n, .int .i64 t, .int .i64 v] w fun e w' => e = .returned (.bool true) ∧ Below w.heap.size w w' := by
  have HT := Lib.hid hT
  have HS := Lib.hid hs
  clear hT hs
  cases hp : parse s.data.toList with
  | err pos k =>
    have HP := Lib.hid hp
    clear hp
    go_enter Tryd.func4, Tryd.ntmps4
    go_wp2_with (first
      | (go_at_call 10; refine (parse_err HS.out HT.out HP.out).mono ?_; rintro e w1 ⟨rfl, hb1⟩; have HB1 := Lib.hid hb1; have HT1 := Lib.hid (HT.out.below hb1); clear hb1)
      | (go_at_call 11; refine (rparse_err HS.out HP.out).mono ?_; rintro e w2 ⟨rfl, hb2⟩; have HB2 := Lib.hid (HB1.out.trans (hb2.mono HB1.out.size)); have HT2 := Lib.hid (HT1.out.below hb2); clear hb2)
      | (go_at_call 12; refine (awake_any HT2.out).mono ?_; rintro e w3 ⟨rfl, hb3⟩; have HB3 := Lib.hid (HB2.out.trans (hb3.mono HB2.out.size)); clear hb3))
    go_ret
    exact ⟨rfl, HB3.out⟩
  | ok T =>
    obtain ⟨z, hz⟩ : ∃ z, T.eval n t v = z := ⟨_, rfl⟩
    have HP := Lib.hid hp
    have HZ := Lib.hid hz
    clear hp hz
    go_enter Tryd.func4, Tryd.ntmps4
    go_wp2_with (go_at_call 10; refine (parse_ok HS.out HT.out HP.out).mono ?_; rintro e w1 ⟨b, rfl, hx1, hb1⟩; have HB1 := Lib.hid hb1; have HT1 := Lib.hid (HT.out.below hb1); have HX1 := Lib.hid hx1; clear hb1 hx1; refine Hid.out ?_)
    refine Lib.hid ?_
    go_wp2_with (go_at_call 11; refine (rparse_ok HS.out HP.out).mono ?_; rintro e w2 ⟨x, rfl, hr2, h64, hb2⟩; have HB2 := Lib.hid (HB1.out.trans (hb2.mono HB1.out.size)); have HT2 := Lib.hid (HT1.out.below hb2); have HX2 := Lib.hid (HX1.out.grow hb2); have HR2 := Lib.hid hr2; have H64 := Lib.hid h64; clear hb2 hr2 h64; refine Hid.out ?_)
    refine Lib.hid ?_
    go_wp2_with (first
      | (go_at_call 12; refine (awake_any HT2.out).mono ?_; rintro e w3 ⟨rfl, hb3⟩; have HB3 := Lib.hid (HB2.out.trans (hb3.mono HB2.out.size)); have HX3 := Lib.hid (HX2.out.grow hb3); have HR3 := Lib.hid (HR2.out.grow hb3); clear hb3)
      | (go_at_call 17; refine (peval_at HX3.out HZ.out).mono ?_; rintro e w' ⟨rfl, m, rfl⟩)
      | (go_at_call 18; refine (reval_at (HR3.out.drewN m) H64.out HZ.out).mono ?_; rintro e w4 ⟨rfl, hb4⟩; have HB4 := Lib.hid ((below_drewN HB3.out m).trans (hb4.mono (below_drewN HB3.out m).size)); clear hb4))
    go_ret
    exact ⟨rfl, HB4.out⟩
end Go.Proofs.YtlkaaembeakicaaDoor.Ex
