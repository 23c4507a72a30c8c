/-
  PlanParses's walk: the program and the document read any text alike: the same plan, or the same error at the same line. Conditions: the library's tables hold what they were laid with; a variable of bytealg is a number.
-/
import Derived.Test.YtogcickcodlepaaGreatDoorJP9
import Derived.Test.YtogcickcodlepaaGreatDoorJQ7
import Derived.Test.YtogcickcodlepaaGreatDoorJQ2
set_option linter.unusedVariables false
set_option linter.unusedSimpArgs false
namespace Go.Proofs.YtogcickcodlepaaGreatDoor.Pl
open Go.RowKit Go.Proofs.YtogcickcodlepaaGreatDoor.Ex

theorem rparse_any {s : ByteArray} {w : World} {R : PRes} (hp : parsePlan s.data.toList = R) : Calls Tryz.prog 14 #[.string s] w (ParseR R w) := by
  have HFD : FlowDoes := fun ht hf hi hts _ hR => rflow_at ht hf hi rfl hts hR
  by_cases hs : s.size ≤ 4096
  · exact rparse_short HFD s hs hp
  · have e : R = .err 0 2 := by rw [← hp]; unfold parsePlan; rw [if_pos (by simp; omega)]
    rw [e]
    exact rparse_long s (by omega)
set_option maxRecDepth 20000 in
set_option maxHeartbeats 4000000 in
theorem planParses_walk (s : ByteArray) (w : World) (hL : Lb w) (_hs : s.size ≤ maxLen) : Calls Tryz.prog 4 #[.string s] w fun e w' => e = .returned (.bool true) ∧ Below w.heap.size w w' := by
  obtain ⟨R, hR⟩ : ∃ R, parsePlan s.data.toList = R := ⟨_, rfl⟩
  obtain ⟨l, hl⟩ : ∃ l, R.line = l := ⟨_, rfl⟩
  obtain ⟨E, hE⟩ : ∃ E, R.num = E := ⟨_, rfl⟩
  obtain ⟨p, hp⟩ : ∃ p, R.plan = p := ⟨_, rfl⟩
  have HC1 : Hid (∀ W, Lb W → Calls Tryz.prog 13 #[.string s] W fun e w' => ∃ v, e = .returned (.tuple #[v, .int .i64 l, .int .i64 E]) ∧ PlnAt w' v p ∧ Below W.heap.size W w') := Lib.hid (fun W hW => by rw [← hl, ← hE, ← hp]; exact pparse_any hW hR)
  have HC2 : Hid (∀ W, Calls Tryz.prog 14 #[.string s] W fun e w' => ∃ v, e = .returned (.tuple #[v, .int .i64 l, .int .i64 E]) ∧ PlnAt w' v p ∧ Below W.heap.size W w') := Lib.hid (fun W => by rw [← hl, ← hE, ← hp]; exact rparse_any hR)
  have HL := Lib.hid hL
  clear hR hl hE hp hL
  go_enter Tryz.func4, Tryz.ntmps4
  go_wp2_with (go_at_call 13; refine (HC1.out _ HL.out).mono ?_; rintro e w1 ⟨v1, rfl, hp1, hb1⟩; obtain ⟨a1, n1, c1, b1, m1, d1, rfl⟩ := hp1.two; have HL1 := Lib.hid (HL.out.below hb1); have HP1 := Lib.hid hp1; have HB1 := Lib.hid hb1; clear hp1 hb1; refine Hid.out ?_)
  obtain ⟨W2, hW2⟩ : ∃ W2, w1.alloc (.cells #[.slice a1 n1 c1, .slice b1 m1 d1] 25) = W2 := ⟨_, rfl⟩
  have hx1 : PBox W2 w1.heap.size (.slice a1 n1 c1) (.slice b1 m1 d1) := by rw [← hW2]; exact heap_alloc_new w1 _
  have hbw : Below w1.heap.size w1 W2 := by rw [← hW2]; exact (Below.refl _ _).alloc (Nat.le_refl _) _
  have HX2 := Lib.hid hx1
  have HL2 := Lib.hid (HL1.out.below hbw)
  have HP2 := Lib.hid (HP1.out.grow hbw)
  have HB2 := Lib.hid (HB1.out.trans (hbw.mono HB1.out.size))
  clear hx1 hbw HL HC1 HL1 HP1 HB1
  refine Lib.hid ?_
  go_wp2_with (go_at_call 14; refine (HC2.out _).mono ?_; rintro e w3 ⟨v3, rfl, hp3, hb3⟩; obtain ⟨a3, n3, c3, b3, m3, d3, rfl⟩ := hp3.two; have HX3 := Lib.hid (HX2.out.grow hb3); have HL3 := Lib.hid (HL2.out.below hb3); have HP3 := Lib.hid (HP2.out.grow hb3); have HQ3 := Lib.hid hp3; have HB3 := Lib.hid (HB2.out.trans (hb3.mono HB2.out.size)); clear hp3 hb3; refine Hid.out ?_)
  obtain ⟨W4, hW4⟩ : ∃ W4, w3.alloc (.cells #[.slice a3 n3 c3, .slice b3 m3 d3] 25) = W4 := ⟨_, rfl⟩
  have hx2 : PBox W4 w3.heap.size (.slice a3 n3 c3) (.slice b3 m3 d3) := by rw [← hW4]; exact heap_alloc_new w3 _
  have hbw : Below w3.heap.size w3 W4 := by rw [← hW4]; exact (Below.refl _ _).alloc (Nat.le_refl _) _
  have HY := Lib.hid hx2
  have HX4 := Lib.hid (HX3.out.grow hbw)
  have HL4 := Lib.hid (HL3.out.below hbw)
  have HP4 := Lib.hid (HP3.out.grow hbw)
  have HQ4 := Lib.hid (HQ3.out.grow hbw)
  have HB4 := Lib.hid (HB3.out.trans (hbw.mono HB3.out.size))
  clear hx2 hbw HX2 HL2 HP2 HB2 HX3 HL3 HP3 HQ3 HB3 HC2
  refine Lib.hid ?_
  go_wp2_with (first
    | (go_at_call 11; refine (awake_any HL4.out).mono ?_; rintro e w5 ⟨rfl, hb5⟩; obtain ⟨x0, x1⟩ := (HX4.out.grow hb5).cells; obtain ⟨y0, y1⟩ := (HY.out.grow hb5).cells; have HR1 := Lib.hid (HP4.out.grow hb5); have HR2 := Lib.hid (HQ4.out.grow hb5); have HB5 := Lib.hid (HB4.out.trans (hb5.mono HB4.out.size)); clear hb5)
    | (go_at_call 12; refine (same_yes HR1.out HR2.out).mono ?_; rintro e w6 ⟨rfl, hb6⟩; have HB6 := Lib.hid (HB5.out.trans (hb6.mono HB5.out.size)); clear hb6))
  go_ret
  exact ⟨rfl, HB6.out⟩
end Go.Proofs.YtogcickcodlepaaGreatDoor.Pl
