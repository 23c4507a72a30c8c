/-
  GraphOrders's walk: the program's order is the document's, or its error is. Conditions: the plan lies in memory; the library's table of powers holds what it was laid with.
-/
import Derived.Test.YtfoenfipefhpoaaGreatDoorJG5
import Derived.Test.YtfoenfipefhpoaaGreatDoorJG3
import Derived.Test.YtfoenfipefhpoaaGreatDoorJQ2
set_option linter.unusedVariables false
set_option linter.unusedSimpArgs false
namespace Go.Proofs.YtfoenfipefhpoaaGreatDoor.Gr
open Go.RowKit Go.Proofs.YtfoenfipefhpoaaGreatDoor.Ex Go.Proofs.YtfoenfipefhpoaaGreatDoor.Pl

set_option maxRecDepth 20000 in
set_option maxHeartbeats 4000000 in
theorem graphOrders_walk {v : Value} {p : Pln} (w : World) (hT : Tab w) (hp : PlnAt w v p) : Calls Tryz.prog 3 #[v] w fun e w' => e = .returned (.bool true) ∧ Below w.heap.size w w' := by
  obtain ⟨a, n, c, b, m, d, rfl⟩ := pln_two hp
  obtain ⟨l, hl⟩ : ∃ l, (check p).1 = l := ⟨_, rfl⟩
  obtain ⟨E, hE⟩ : ∃ E, (check p).2 = E := ⟨_, rfl⟩
  have hc : check p = (l, E) := by rw [← hl, ← hE]
  obtain ⟨O, hO⟩ : ∃ O, order (srcOf p.flws) p.flws.length = O := ⟨_, rfl⟩
  have hg : gOrder p = if E = 0 then ordRes O else ([], E) := by unfold gOrder; rw [hE, hO]
  have HC := Lib.hid hc
  have HO := Lib.hid hO
  have HG := Lib.hid hg
  clear hl hE hc hO hg
  obtain ⟨W, hW⟩ : ∃ W, w.alloc (.cells #[.slice a n c, .slice b m d] 25) = W := ⟨_, rfl⟩
  have hx : PBox W w.heap.size (.slice a n c) (.slice b m d) := by rw [← hW]; exact heap_alloc_new w _
  have hbw : Below w.heap.size w W := by rw [← hW]; exact (Below.refl _ _).alloc (Nat.le_refl _) _
  obtain ⟨p0, p1⟩ := hx.cells
  have HX := Lib.hid hx
  have HT := Lib.hid (hT.below hbw)
  have HP := Lib.hid (hp.grow hbw)
  have HB := Lib.hid hbw
  clear hx hbw hT hp
  go_enter Tryz.func3, Tryz.ntmps3
  go_wp2_with (go_at_call 6; refine (small_at HP.out).mono ?_; rintro e w1 ⟨bb, rfl, hsm, hb1⟩; have HS := Lib.hid hsm; have HX1 := Lib.hid (HX.out.grow hb1); have HT1 := Lib.hid (HT.out.below hb1); have HP1 := Lib.hid (HP.out.grow hb1); have HB1 := Lib.hid (HB.out.trans (hb1.mono HB.out.size)); clear hsm hb1; refine Hid.out ?_)
  clear HX HT HP HB p0 p1 hW
  cases bb with
  | false =>
    refine Lib.hid ?_
    go_wp2
    go_ret
    exact ⟨rfl, HB1.out⟩
  | true =>
    have hm100 : p.flws.length ≤ 100 := (HS.out rfl).flws
    clear HS
    obtain ⟨p0, p1⟩ := HX1.out.cells
    refine Lib.hid ?_
    by_cases hE0 : E = 0
    · subst hE0
      have hg := HG.out
      rw [if_pos rfl] at hg
      cases O with
      | none =>
        have HG2 : Hid (gOrder p = ([], 60)) := Lib.hid hg
        clear hg
        go_wp2_with (first
          | (go_at_call 7; refine (rcheck_at HP1.out HC.out).mono ?_; rintro e w2 ⟨rfl, hb2⟩; obtain ⟨q0, q1⟩ := (HX1.out.grow hb2).cells; have HX2 := Lib.hid (HX1.out.grow hb2); have HT2 := Lib.hid (HT1.out.below hb2); have HP2 := Lib.hid (HP1.out.grow hb2); have HB2 := Lib.hid (HB1.out.trans (hb2.mono HB1.out.size)); clear hb2)
          | (go_at_call 8; refine (porder_at HP2.out HT2.out HG2.out).mono ?_; rintro e w3 ⟨u3, rfl, hi3, hb3⟩; obtain ⟨a3, c3, rfl⟩ := ints_form hi3; obtain ⟨r0, r1⟩ := (HX2.out.grow hb3).cells; have HT3 := Lib.hid (HT2.out.below hb3); have HP3 := Lib.hid (HP2.out.grow hb3); have HB3 := Lib.hid (HB2.out.trans (hb3.mono HB2.out.size)); clear hb3 hi3)
          | (go_at_call 10; (refine (rorder_at HP3.out hm100 HO.out).mono ?_; rintro e w4 ⟨hr4, hb4⟩; replace hr4 : e = .returned (.tuple #[.slice none 0 0, .bool false]) := hr4; subst hr4; have HT4 := Lib.hid (HT3.out.below hb4); have HB4 := Lib.hid (HB3.out.trans (hb4.mono HB3.out.size)); clear hb4))
          | (go_at_call 9; refine (awake_any HT4.out).mono ?_; rintro e w5 ⟨rfl, hb5⟩; have HB5 := Lib.hid (HB4.out.trans (hb5.mono HB4.out.size)); clear hb5))
        go_ret
        exact ⟨rfl, HB5.out⟩
      | some L =>
        have HG2 : Hid (gOrder p = (L, 0)) := Lib.hid hg
        clear hg
        go_wp2_with (first
          | (go_at_call 7; refine (rcheck_at HP1.out HC.out).mono ?_; rintro e w2 ⟨rfl, hb2⟩; obtain ⟨q0, q1⟩ := (HX1.out.grow hb2).cells; have HX2 := Lib.hid (HX1.out.grow hb2); have HT2 := Lib.hid (HT1.out.below hb2); have HP2 := Lib.hid (HP1.out.grow hb2); have HB2 := Lib.hid (HB1.out.trans (hb2.mono HB1.out.size)); clear hb2)
          | (go_at_call 8; refine (porder_at HP2.out HT2.out HG2.out).mono ?_; rintro e w3 ⟨u3, rfl, hi3, hb3⟩; obtain ⟨a3, c3, rfl⟩ := ints_form hi3; obtain ⟨r0, r1⟩ := (HX2.out.grow hb3).cells; have HI3 := Lib.hid hi3; have HT3 := Lib.hid (HT2.out.below hb3); have HP3 := Lib.hid (HP2.out.grow hb3); have HB3 := Lib.hid (HB2.out.trans (hb3.mono HB2.out.size)); clear hb3 hi3)
          | (go_at_call 10; refine (rorder_at HP3.out hm100 HO.out).mono ?_; rintro e w4 ⟨hr4, hb4⟩; obtain ⟨u4, rfl, hi4⟩ := hr4; obtain ⟨a4, c4, rfl⟩ := ints_form hi4; have HI4 := Lib.hid (Lst.grow HI3.out hb4); have HJ4 := Lib.hid hi4; have HT4 := Lib.hid (HT3.out.below hb4); have HB4 := Lib.hid (HB3.out.trans (hb4.mono HB3.out.size)); clear hb4 hi4)
          | (go_at_call 9; refine (awake_any HT4.out).mono ?_; rintro e w5 ⟨rfl, hb5⟩; have HI5 := Lib.hid (Lst.grow HI4.out hb5); have HJ5 := Lib.hid (Lst.grow HJ4.out hb5); have HB5 := Lib.hid (HB4.out.trans (hb5.mono HB4.out.size)); clear hb5)
          | (go_at_call 11; refine (same_at HI5.out HJ5.out (decide_eq_true rfl)).mono ?_; rintro e w6 ⟨rfl, hb6⟩; have HB6 := Lib.hid (HB5.out.trans (hb6.mono HB5.out.size)); clear hb6))
        go_ret
        exact ⟨rfl, HB6.out⟩
    · have hg := HG.out
      rw [if_neg hE0] at hg
      have HG2 : Hid (gOrder p = ([], E)) := Lib.hid hg
      have e0 := inebt hE0
      clear hg hE0
      go_wp2_with (first
        | (go_at_call 7; refine (rcheck_at HP1.out HC.out).mono ?_; rintro e w2 ⟨rfl, hb2⟩; obtain ⟨q0, q1⟩ := (HX1.out.grow hb2).cells; have HT2 := Lib.hid (HT1.out.below hb2); have HP2 := Lib.hid (HP1.out.grow hb2); have HB2 := Lib.hid (HB1.out.trans (hb2.mono HB1.out.size)); clear hb2)
        | (go_at_call 8; refine (porder_at HP2.out HT2.out HG2.out).mono ?_; rintro e w3 ⟨u3, rfl, hi3, hb3⟩; obtain ⟨a3, c3, rfl⟩ := ints_form hi3; have HT3 := Lib.hid (HT2.out.below hb3); have HB3 := Lib.hid (HB2.out.trans (hb3.mono HB2.out.size)); clear hb3 hi3)
        | (go_at_call 9; refine (awake_any HT3.out).mono ?_; rintro e w5 ⟨rfl, hb5⟩; have HB5 := Lib.hid (HB3.out.trans (hb5.mono HB3.out.size)); clear hb5))
      go_ret
      exact ⟨by simp, HB5.out⟩
end Go.Proofs.YtfoenfipefhpoaaGreatDoor.Gr
