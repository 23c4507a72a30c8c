/-
  MarkNexts: the walk of the law. Conditions: none.
-/
import Derived.Test.YtonmghmalnbbbaaMAwake
namespace Go.Proofs.Ytonmghmalnbbbaa.Mk
set_option linter.unusedVariables false
set_option linter.unusedSimpArgs false
open Go.RowKit

theorem late_is {m t : Int} {b : Bool} (h : decide (t < m) = b) (w : World) : Calls Try.prog 8 #[.int .i64 m, .int .i64 t] w fun e w' => e = .returned (.bool b) ∧ w = w' := by
  subst h; exact late_any m t w
theorem next_is {m b t x : Int} (hm : okM m = true) (hb1 : -1 ≤ b) (hb2 : b ≤ 1000000) (ht : okT t = true) (hx : nx m b t = x) (w : World) : Calls Try.prog 7 #[.int .i64 m, .int .i64 b, .int .i64 t] w fun e w' => e = .returned (.tuple #[.int .i64 x, .int .i64 0]) ∧ w = w' := by
  subst hx; exact next_ok hm hb1 hb2 ht w
theorem rnext_is {m b t x : Int} (hm : okM m = true) (hb1 : -1 ≤ b) (hb2 : b ≤ 1000000) (ht : okT t = true) (hx : nx m b t = x) (w : World) : Calls Try.prog 12 #[.int .i64 m, .int .i64 b, .int .i64 t] w fun e w' => e = .returned (.int .i64 x) ∧ w = w' := by
  subst hx; exact rnext_any hm hb1 hb2 ht w
set_option maxRecDepth 20000 in
set_option maxHeartbeats 4000000 in
theorem markNexts_walk (m b t : Int) (w : World) : Calls Try.prog 3 #[.int .i64 m, .int .i64 b, .int .i64 t] w fun e w' => e = .returned (.bool true) ∧ Below w.heap.size w w' := by
  obtain ⟨tm, htm⟩ : ∃ v, okM m = v := ⟨_, rfl⟩
  obtain ⟨tt, htt⟩ : ∃ v, okT t = v := ⟨_, rfl⟩
  have HM := Lib.hid htm
  have HT := Lib.hid htt
  have hlate : ∀ v : Bool, decide (t < m) = v → (v != v) = false := fun v _ => by cases v <;> rfl
  obtain ⟨lv, hlv⟩ : ∃ v, decide (t < m) = v := ⟨_, rfl⟩
  have HLV := Lib.hid hlv
  have hl2 : (lv != decide (t < m)) = false := by rw [hlv]; cases lv <;> rfl
  by_cases hok : okM m = true ∧ -1 ≤ b ∧ b ≤ 1000000 ∧ okT t = true
  · obtain ⟨h1, h2, h3, h4⟩ := hok
    rw [htm] at h1
    rw [htt] at h4
    subst h1 h4
    obtain ⟨x, hx⟩ : ∃ x, nx m b t = x := ⟨_, rfl⟩
    have HX := Lib.hid hx
    clear htm htt hx hlate
    go_enter Try.func3, Try.ntmps3
    go_wp2_with (first
      | (go_at_call 7; refine (next_is HM.out h2 h3 HT.out HX.out _).mono ?_; rintro e w2 ⟨rfl, rfl⟩)
      | (go_at_call 8; refine (late_is HLV.out _).mono ?_; rintro e w2 ⟨rfl, rfl⟩)
      | (go_at_call 9; refine (ris_at HM.out _).mono ?_; rintro e w2 ⟨rfl, rfl⟩)
      | (go_at_call 10; refine (rtime_at HT.out _).mono ?_; rintro e w2 ⟨rfl, rfl⟩)
      | (go_at_call 12; refine (rnext_is HM.out h2 h3 HT.out HX.out _).mono ?_; rintro e w2 ⟨rfl, rfl⟩)
      | (go_at_call 11; refine (awake_any _).mono ?_; rintro e w2 ⟨rfl, hb2⟩; have HB2 := Lib.hid hb2; clear hb2))
    all_goals go_ret
    all_goals exact ⟨rfl, HB2.out⟩
  · have hno : okM m = false ∨ b < -1 ∨ 1000000 < b ∨ okT t = false := by
      cases h1 : okM m with
      | false => exact .inl rfl
      | true =>
        cases h4 : okT t with
        | false => exact .inr (.inr (.inr rfl))
        | true =>
          by_cases h2 : b < -1
          · exact .inr (.inl h2)
          · exact .inr (.inr (.inl (Int.not_le.1 fun h3 => hok ⟨h1, by omega, h3, h4⟩)))
    have HN := Lib.hid hno
    rw [htm, htt] at hno
    clear hok htm htt hlate
    cases tm with
    | false =>
      clear hno
      go_enter Try.func3, Try.ntmps3
      go_wp2_with (first
        | (go_at_call 7; refine (next_no HN.out _).mono ?_; rintro e w2 ⟨rfl, rfl⟩)
        | (go_at_call 8; refine (late_is HLV.out _).mono ?_; rintro e w2 ⟨rfl, rfl⟩)
        | (go_at_call 9; refine (ris_at HM.out _).mono ?_; rintro e w2 ⟨rfl, rfl⟩)
        | (go_at_call 10; refine (rtime_at HT.out _).mono ?_; rintro e w2 ⟨rfl, rfl⟩)
        | (go_at_call 11; refine (awake_any _).mono ?_; rintro e w2 ⟨rfl, hb2⟩; have HB2 := Lib.hid hb2; clear hb2))
      all_goals go_ret
      all_goals exact ⟨rfl, HB2.out⟩
    | true =>
      cases tt with
      | false =>
        clear hno
        by_cases h2 : b < -1
        · skip
          go_enter Try.func3, Try.ntmps3
          go_wp2_with (first
            | (go_at_call 7; refine (next_no HN.out _).mono ?_; rintro e w2 ⟨rfl, rfl⟩)
            | (go_at_call 8; refine (late_is HLV.out _).mono ?_; rintro e w2 ⟨rfl, rfl⟩)
            | (go_at_call 9; refine (ris_at HM.out _).mono ?_; rintro e w2 ⟨rfl, rfl⟩)
            | (go_at_call 10; refine (rtime_at HT.out _).mono ?_; rintro e w2 ⟨rfl, rfl⟩)
            | (go_at_call 11; refine (awake_any _).mono ?_; rintro e w2 ⟨rfl, hb2⟩; have HB2 := Lib.hid hb2; clear hb2))
          all_goals go_ret
          all_goals exact ⟨rfl, HB2.out⟩
        · by_cases h3 : 1000000 < b
          · skip
            go_enter Try.func3, Try.ntmps3
            go_wp2_with (first
              | (go_at_call 7; refine (next_no HN.out _).mono ?_; rintro e w2 ⟨rfl, rfl⟩)
              | (go_at_call 8; refine (late_is HLV.out _).mono ?_; rintro e w2 ⟨rfl, rfl⟩)
              | (go_at_call 9; refine (ris_at HM.out _).mono ?_; rintro e w2 ⟨rfl, rfl⟩)
              | (go_at_call 10; refine (rtime_at HT.out _).mono ?_; rintro e w2 ⟨rfl, rfl⟩)
              | (go_at_call 11; refine (awake_any _).mono ?_; rintro e w2 ⟨rfl, hb2⟩; have HB2 := Lib.hid hb2; clear hb2))
            all_goals go_ret
            all_goals exact ⟨rfl, HB2.out⟩
          · skip
            go_enter Try.func3, Try.ntmps3
            go_wp2_with (first
              | (go_at_call 7; refine (next_no HN.out _).mono ?_; rintro e w2 ⟨rfl, rfl⟩)
              | (go_at_call 8; refine (late_is HLV.out _).mono ?_; rintro e w2 ⟨rfl, rfl⟩)
              | (go_at_call 9; refine (ris_at HM.out _).mono ?_; rintro e w2 ⟨rfl, rfl⟩)
              | (go_at_call 10; refine (rtime_at HT.out _).mono ?_; rintro e w2 ⟨rfl, rfl⟩)
              | (go_at_call 11; refine (awake_any _).mono ?_; rintro e w2 ⟨rfl, hb2⟩; have HB2 := Lib.hid hb2; clear hb2))
            all_goals go_ret
            all_goals exact ⟨rfl, HB2.out⟩
      | true =>
        have hno : b < -1 ∨ 1000000 < b := by simpa using hno
        rcases hno with h2 | h3
        · skip
          go_enter Try.func3, Try.ntmps3
          go_wp2_with (first
            | (go_at_call 7; refine (next_no HN.out _).mono ?_; rintro e w2 ⟨rfl, rfl⟩)
            | (go_at_call 8; refine (late_is HLV.out _).mono ?_; rintro e w2 ⟨rfl, rfl⟩)
            | (go_at_call 9; refine (ris_at HM.out _).mono ?_; rintro e w2 ⟨rfl, rfl⟩)
            | (go_at_call 10; refine (rtime_at HT.out _).mono ?_; rintro e w2 ⟨rfl, rfl⟩)
            | (go_at_call 11; refine (awake_any _).mono ?_; rintro e w2 ⟨rfl, hb2⟩; have HB2 := Lib.hid hb2; clear hb2))
          all_goals go_ret
          all_goals exact ⟨rfl, HB2.out⟩
        · have h2 : ¬ b < -1 := by omega
          go_enter Try.func3, Try.ntmps3
          go_wp2_with (first
            | (go_at_call 7; refine (next_no HN.out _).mono ?_; rintro e w2 ⟨rfl, rfl⟩)
            | (go_at_call 8; refine (late_is HLV.out _).mono ?_; rintro e w2 ⟨rfl, rfl⟩)
            | (go_at_call 9; refine (ris_at HM.out _).mono ?_; rintro e w2 ⟨rfl, rfl⟩)
            | (go_at_call 10; refine (rtime_at HT.out _).mono ?_; rintro e w2 ⟨rfl, rfl⟩)
            | (go_at_call 11; refine (awake_any _).mono ?_; rintro e w2 ⟨rfl, hb2⟩; have HB2 := Lib.hid hb2; clear hb2))
          all_goals go_ret
          all_goals exact ⟨rfl, HB2.out⟩
end Go.Proofs.Ytonmghmalnbbbaa.Mk
