/-
  PlanTexts's walk: the program's and the document's text of a plan are the same, or both refuse it with the same error. Conditions: the plan lies in memory; the library's tables hold what they were laid with; a variable of bytealg is a number.
-/
import Derived.Test.YtogcickcodlepaaGreatDoorJP9
import Derived.Test.YtogcickcodlepaaGreatDoorJQ1
import Derived.Test.YtogcickcodlepaaGreatDoorJQ5
import Derived.Test.YtogcickcodlepaaGreatDoorJQ3
set_option linter.unusedVariables false
set_option linter.unusedSimpArgs false
namespace Go.Proofs.YtogcickcodlepaaGreatDoor.Pl
open Go.RowKit Go.Proofs.YtogcickcodlepaaGreatDoor.Ex

/-- What is told of a plan's text. -/
def textOf (p : Pln) : Bs := if (check p).2 = 0 then planText p else []
theorem ptext_any {w : World} {v : Value} {p : Pln} {T : Bs} {E : Int} (h : PlnAt w v p) (hT : Tab w) (ht : textOf p = T) (hE : (check p).2 = E) : Calls Tryz.prog 15 #[v] w fun e w' => e = .returned (.tuple #[sv T, .int .i64 E]) ∧ Below w.heap.size w w' := by
  have hc : check p = ((check p).1, E) := by rw [← hE]
  unfold textOf at ht
  by_cases h0 : E = 0
  · rw [if_pos (by rw [hE]; exact h0)] at ht
    rw [h0] at hc ⊢
    exact text_good h hT hc ht
  · rw [if_neg (by rw [hE]; exact h0)] at ht
    subst ht
    exact text_bad h hT hc h0
theorem rtext_any {w : World} {v : Value} {p : Pln} {T : Bs} {E : Int} (h : PlnAt w v p) (ht : textOf p = T) (hE : (check p).2 = E) : Calls Tryz.prog 16 #[v] w fun e w' => e = .returned (.tuple #[sv T, .int .i64 E]) ∧ Below w.heap.size w w' := by
  have HFD : FlowDoes := fun ht hf hi hts _ hR => rflow_at ht hf hi rfl hts hR
  have hc : check p = ((check p).1, E) := by rw [← hE]
  unfold textOf at ht
  by_cases h0 : E = 0
  · rw [if_pos (by rw [hE]; exact h0)] at ht
    rw [h0] at hc ⊢
    exact rtext_good HFD h hc ht
  · rw [if_neg (by rw [hE]; exact h0)] at ht
    subst ht
    exact rtext_bad HFD h hc h0
set_option maxRecDepth 20000 in
set_option maxHeartbeats 4000000 in
theorem planTexts_walk {v : Value} {p : Pln} (w : World) (hL : Lb w) (hp : PlnAt w v p) : Calls Tryz.prog 5 #[v] w fun e w' => e = .returned (.bool true) ∧ Below w.heap.size w w' := by
  obtain ⟨a, n, c, b, m, d, rfl⟩ := hp.two
  obtain ⟨T, hT⟩ : ∃ T, textOf p = T := ⟨_, rfl⟩
  obtain ⟨E, hE⟩ : ∃ E, (check p).2 = E := ⟨_, rfl⟩
  have HTE := Lib.hid (And.intro hT hE)
  clear hT hE
  obtain ⟨W, hW⟩ : ∃ W, w.alloc (.cells #[.slice a n c, .slice b m d] 25) = W := ⟨_, rfl⟩
  have hx : PBox W w.heap.size (.slice a n c) (.slice b m d) := by rw [← hW]; exact heap_alloc_new w _
  have hbw : Below w.heap.size w W := by rw [← hW]; exact (Below.refl _ _).alloc (Nat.le_refl _) _
  obtain ⟨p0, p1⟩ := hx.cells
  have HX := Lib.hid hx
  have HL := Lib.hid (hL.below hbw)
  have HP := Lib.hid (hp.grow hbw)
  have HB := Lib.hid hbw
  clear hx hbw hL hp
  go_enter Tryz.func5, Tryz.ntmps5
  go_wp2_with (go_at_call 7; refine (small_at HP.out).mono ?_; rintro e w1 ⟨bb, rfl, hsm, hb1⟩; have HX1 := Lib.hid (HX.out.grow hb1); have HL1 := Lib.hid (HL.out.below hb1); have HP1 := Lib.hid (HP.out.grow hb1); have HB1 := Lib.hid (HB.out.trans (hb1.mono HB.out.size)); clear hsm hb1; refine Hid.out ?_)
  clear HX HL HP HB p0 p1 hW
  cases bb with
  | false =>
    refine Lib.hid ?_
    go_wp2
    go_ret
    exact ⟨rfl, HB1.out⟩
  | true =>
    obtain ⟨p0, p1⟩ := HX1.out.cells
    refine Lib.hid ?_
    go_wp2_with (first
      | (go_at_call 15; refine (ptext_any HP1.out HL1.out.1 HTE.out.1 HTE.out.2).mono ?_; rintro e w4 ⟨rfl, hb4⟩; obtain ⟨q0, q1⟩ := (HX1.out.grow hb4).cells; have HL4 := Lib.hid (HL1.out.below hb4); have HP4 := Lib.hid (HP1.out.grow hb4); have HB4 := Lib.hid (HB1.out.trans (hb4.mono HB1.out.size)); clear hb4 p0 p1)
      | (go_at_call 16; refine (rtext_any HP4.out HTE.out.1 HTE.out.2).mono ?_; rintro e w5 ⟨rfl, hb5⟩; have HL5 := Lib.hid (HL4.out.below hb5); have HB5 := Lib.hid (HB4.out.trans (hb5.mono HB4.out.size)); clear hb5 q0 q1)
      | (go_at_call 11; refine (awake_any HL5.out).mono ?_; rintro e w6 ⟨rfl, hb6⟩; have HB6 := Lib.hid (HB5.out.trans (hb6.mono HB5.out.size)); clear hb6))
    go_ret
    exact ⟨rfl, HB6.out⟩
end Go.Proofs.YtogcickcodlepaaGreatDoor.Pl
