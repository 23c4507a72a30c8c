/-
  PlanChecks's walk: the program's and the document's first error of a plan are the same, and the copy that was handed in stays. Conditions: the plan lies in memory; the library's tables hold what they were laid with; a variable of bytealg is a number.
-/
import Derived.Test.YtogcickcodlepaaGreatDoorJP9
import Derived.Test.YtogcickcodlepaaGreatDoorJQ2
import Derived.Test.YtogcickcodlepaaGreatDoorJQ1
import Derived.Test.YtogcickcodlepaaGreatDoorJQ3
set_option linter.unusedVariables false
set_option linter.unusedSimpArgs false
namespace Go.Proofs.YtogcickcodlepaaGreatDoor.Pl
open Go.RowKit Go.Proofs.YtogcickcodlepaaGreatDoor.Ex

theorem rcheck_at {w : World} {v : Value} {p : Pln} {l : Nat} {E : Int} (h : PlnAt w v p) (hc : check p = (l, E)) : Calls Tryz.prog 10 #[v] w fun e w' => e = .returned (.tuple #[.int .i64 l, .int .i64 E]) ∧ Below w.heap.size w w' := by
  refine (rcheck_any (fun ht hf hi hts _ hR => rflow_at ht hf hi rfl hts hR) h).mono ?_
  rintro e w' ⟨h1, h2⟩
  rw [hc] at h1
  exact ⟨h1, h2⟩
theorem pcheck_at {w : World} {v : Value} {p : Pln} {l : Nat} {E : Int} (h : PlnAt w v p) (hT : Tab w) (hc : check p = (l, E)) : Calls Tryz.prog 9 #[v] w fun e w' => e = .returned (.tuple #[.int .i64 l, .int .i64 E]) ∧ Below w.heap.size w w' := by
  refine (check_any h hT).mono ?_
  rintro e w' ⟨h1, h2⟩
  rw [hc] at h1
  exact ⟨h1, h2⟩
set_option maxRecDepth 20000 in
set_option maxHeartbeats 4000000 in
theorem planChecks_walk {v : Value} {p : Pln} (w : World) (hL : Lb w) (hp : PlnAt w v p) : Calls Tryz.prog 3 #[v] w fun e w' => e = .returned (.bool true) ∧ Below w.heap.size w w' := by
  obtain ⟨a, n, c, b, m, d, rfl⟩ := hp.two
  obtain ⟨l, hl⟩ : ∃ l, (check p).1 = l := ⟨_, rfl⟩
  obtain ⟨E, hE⟩ : ∃ E, (check p).2 = E := ⟨_, rfl⟩
  have HC : Hid (check p = (l, E)) := Lib.hid (by rw [← hl, ← hE])
  clear hl hE
  obtain ⟨W, hW⟩ : ∃ W, w.alloc (.cells #[.slice a n c, .slice b m d] 25) = W := ⟨_, rfl⟩
  have hx : PBox W w.heap.size (.slice a n c) (.slice b m d) := by rw [← hW]; exact heap_alloc_new w _
  have hbw : Below w.heap.size w W := by rw [← hW]; exact (Below.refl _ _).alloc (Nat.le_refl _) _
  obtain ⟨p0, p1⟩ := hx.cells
  have HX := Lib.hid hx
  have HL := Lib.hid (hL.below hbw)
  have HP := Lib.hid (hp.grow hbw)
  have HB := Lib.hid hbw
  clear hx hbw hL hp
  go_enter Tryz.func3, Tryz.ntmps3
  go_wp2_with (go_at_call 7; refine (small_at HP.out).mono ?_; rintro e w1 ⟨bb, rfl, hsm, hb1⟩; have HS := Lib.hid hsm; have HX1 := Lib.hid (HX.out.grow hb1); have HL1 := Lib.hid (HL.out.below hb1); have HP1 := Lib.hid (HP.out.grow hb1); have HB1 := Lib.hid (HB.out.trans (hb1.mono HB.out.size)); clear hsm hb1; refine Hid.out ?_)
  clear HX HL HP HB p0 p1 hW
  cases bb with
  | false =>
    refine Lib.hid ?_
    go_wp2
    go_ret
    exact ⟨rfl, HB1.out⟩
  | true =>
    obtain ⟨p0, p1⟩ := HX1.out.cells
    refine Lib.hid ?_
    go_wp2_with (go_at_call 8; refine (copy_at HP1.out (HS.out rfl)).mono ?_; rintro e w2 ⟨v2, rfl, hp2, hb2⟩; obtain ⟨a2, n2, c2, b2, m2, d2, rfl⟩ := hp2.two; have HX2 := Lib.hid (HX1.out.grow hb2); have HL2 := Lib.hid (HL1.out.below hb2); have HP2 := Lib.hid (HP1.out.grow hb2); have HQ2 := Lib.hid hp2; have HB2 := Lib.hid (HB1.out.trans (hb2.mono HB1.out.size)); clear hp2 hb2; refine Hid.out ?_)
    obtain ⟨W3, hW3⟩ : ∃ W3, w2.alloc (.cells #[.slice a2 n2 c2, .slice b2 m2 d2] 25) = W3 := ⟨_, rfl⟩
    have hx2 : PBox W3 w2.heap.size (.slice a2 n2 c2) (.slice b2 m2 d2) := by rw [← hW3]; exact heap_alloc_new w2 _
    have hbw : Below w2.heap.size w2 W3 := by rw [← hW3]; exact (Below.refl _ _).alloc (Nat.le_refl _) _
    have HY := Lib.hid hx2
    have HX3 := Lib.hid (HX2.out.grow hbw)
    have HL3 := Lib.hid (HL2.out.below hbw)
    have HP3 := Lib.hid (HP2.out.grow hbw)
    have HQ3 := Lib.hid (HQ2.out.grow hbw)
    have HB3 := Lib.hid (HB2.out.trans (hbw.mono HB2.out.size))
    obtain ⟨q0, q1⟩ := hx2.cells
    clear hx2 hbw HX2 HL2 HP2 HQ2 HB2 p0 p1 HX1 HL1 HP1 HB1
    refine Lib.hid ?_
    go_wp2_with (first
      | (go_at_call 9; refine (pcheck_at HQ3.out HL3.out.1 HC.out).mono ?_; rintro e w4 ⟨rfl, hb4⟩; obtain ⟨p0, p1⟩ := (HX3.out.grow hb4).cells; have HY4 := Lib.hid (HY.out.grow hb4); have HX4 := Lib.hid (HX3.out.grow hb4); have HL4 := Lib.hid (HL3.out.below hb4); have HP4 := Lib.hid (HP3.out.grow hb4); have HQ4 := Lib.hid (HQ3.out.grow hb4); have HB4 := Lib.hid (HB3.out.trans (hb4.mono HB3.out.size)); clear hb4 q0 q1)
      | (go_at_call 10; refine (rcheck_at HP4.out HC.out).mono ?_; rintro e w5 ⟨rfl, hb5⟩; have HY5 := Lib.hid (HY4.out.grow hb5); have HX5 := Lib.hid (HX4.out.grow hb5); have HL5 := Lib.hid (HL4.out.below hb5); have HP5 := Lib.hid (HP4.out.grow hb5); have HQ5 := Lib.hid (HQ4.out.grow hb5); have HB5 := Lib.hid (HB4.out.trans (hb5.mono HB4.out.size)); clear hb5 p0 p1)
      | (go_at_call 11; refine (awake_any HL5.out).mono ?_; rintro e w6 ⟨rfl, hb6⟩; obtain ⟨x0, x1⟩ := (HX5.out.grow hb6).cells; obtain ⟨y0, y1⟩ := (HY5.out.grow hb6).cells; have HR1 := Lib.hid (HQ5.out.grow hb6); have HR2 := Lib.hid (HP5.out.grow hb6); have HB6 := Lib.hid (HB5.out.trans (hb6.mono HB5.out.size)); clear hb6)
      | (go_at_call 12; refine (same_yes HR1.out HR2.out).mono ?_; rintro e w7 ⟨rfl, hb7⟩; have HB7 := Lib.hid (HB6.out.trans (hb7.mono HB6.out.size)); clear hb7))
    go_ret
    exact ⟨rfl, HB7.out⟩
end Go.Proofs.YtogcickcodlepaaGreatDoor.Pl
