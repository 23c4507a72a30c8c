/-
  The program's Of: the spans of a time, or none. Conditions: as each theorem names them.
-/
import Derived.Test.YtlmnkmfpdjkijaaWP2
import Derived.Test.YtlmnkmfpdjkijaaWBox
namespace Go.Proofs.Ytlmnkmfpdjkijaa.Wi
set_option linter.unusedVariables false
set_option linter.unusedSimpArgs false
open Go.RowKit

theorem sl_tum {t s : Int} (t0 : 0 ≤ t) (s1 : 1 ≤ s) : sl t s s 20 (t - s - (t - s) % s) = [(t - t % s, t - t % s + s)] := by
  have g0 := Int.emod_nonneg t (show s ≠ 0 by omega)
  have g1 := Int.emod_lt_of_pos t (show 0 < s by omega)
  have e : (t - s) % s = t % s := Int.sub_emod_right t s
  rw [e, sl_by (by omega) (by omega), show t - s - t % s + s = t - t % s by omega, sl_in (by omega) (by omega), sl_out (by omega)]
set_option maxRecDepth 20000 in
set_option maxHeartbeats 4000000 in
theorem of_ok {k s l t : Int} (h : okW k s l = true) (ht : okT t = true) {L : List Sp} (hL : ofS k s l t = L) (w : World) : Calls Try.prog 28 #[wnV k s l, .int .i64 t] w fun e w' => ∃ v, e = .returned (.tuple #[v, .int .i64 0]) ∧ SpansAt w' v L ∧ Below w.heap.size w w' := by
  have HW := Lib.hid h
  have HL := Lib.hid hL
  obtain ⟨t0, t1⟩ := okT_is ht
  have HB0 : Hid (Below w.heap.size w (w.alloc (.cells #[.int .i64 k, .int .i64 s, .int .i64 l] 23))) := Lib.hid ((Below.refl _ _).alloc (Nat.le_refl _) _)
  have HX0 := Lib.hid (wb_new w k s l)
  have hc := okW_cases h
  clear h ht hL
  rcases hc with ⟨rfl, rfl, rfl⟩ | ⟨rfl, s1, s2, rfl⟩ | ⟨rfl, s1, s2, l1, l2, l3⟩ | ⟨rfl, s1, s2, rfl⟩
  · have HN : Hid (L = []) := Lib.hid (by rw [← HL.out]; rfl)
    go_enter Try.func28, Try.ntmps28
    go_wp2_with (go_at_call 26; refine (right_at HW.out _).mono ?_; rintro e w1 ⟨rfl, hb1⟩; have HB1 := Lib.hid (HB0.out.trans (hb1.mono HB0.out.size)); have HX1 := Lib.hid (HX0.out.grow hb1); obtain ⟨c0, c1, c2⟩ := HX1.out.cells; clear hb1)
    go_ret2
    exact ⟨_, rfl, by rw [HN.out]; exact nil_spans _, HB1.out⟩
  · have HN : Hid (sl t s s 20 (t - s - (t - s) % s) = L) := Lib.hid (by rw [← HL.out, sl_tum t0 s1]; rfl)
    clear HL
    go_enter Try.func28, Try.ntmps28
    go_wp2_with (first
      | (go_at_call 26; refine (right_at HW.out _).mono ?_; rintro e w1 ⟨rfl, hb1⟩; have HB1 := Lib.hid (HB0.out.trans (hb1.mono HB0.out.size)); have HX1 := Lib.hid (HX0.out.grow hb1); obtain ⟨c0, c1, c2⟩ := HX1.out.cells; clear hb1)
      | (go_at_call 46; refine (around_at t0 t1 s1 (Int.le_refl s) s2 (by omega) HN.out _).mono ?_; rintro e w2 ⟨v2, rfl, hi2, hb2⟩; have HI2 := Lib.hid hi2; have HB2 := Lib.hid (HB1.out.trans (hb2.mono HB1.out.size)); clear hb2 hi2))
    go_ret2
    exact ⟨_, rfl, HI2.out, HB2.out⟩
  · have HN : Hid (sl t s l 20 (t - s - (t - s) % l) = L) := Lib.hid (by rw [← HL.out]; rfl)
    clear HL
    go_enter Try.func28, Try.ntmps28
    go_wp2_with (first
      | (go_at_call 26; refine (right_at HW.out _).mono ?_; rintro e w1 ⟨rfl, hb1⟩; have HB1 := Lib.hid (HB0.out.trans (hb1.mono HB0.out.size)); have HX1 := Lib.hid (HX0.out.grow hb1); obtain ⟨c0, c1, c2⟩ := HX1.out.cells; clear hb1)
      | (go_at_call 46; refine (around_at t0 t1 l1 l2 s2 l3 HN.out _).mono ?_; rintro e w2 ⟨v2, rfl, hi2, hb2⟩; have HI2 := Lib.hid hi2; have HB2 := Lib.hid (HB1.out.trans (hb2.mono HB1.out.size)); clear hb2 hi2))
    go_ret2
    exact ⟨_, rfl, HI2.out, HB2.out⟩
  · have HN : Hid (L = [(t, t + s)]) := Lib.hid (by rw [← HL.out]; rfl)
    clear HL
    go_enter Try.func28, Try.ntmps28
    go_wp2_with (first
      | (go_at_call 26; refine (right_at HW.out _).mono ?_; rintro e w1 ⟨rfl, hb1⟩; have HB1 := Lib.hid (HB0.out.trans (hb1.mono HB0.out.size)); have HX1 := Lib.hid (HX0.out.grow hb1); obtain ⟨c0, c1, c2⟩ := HX1.out.cells; clear hb1)
      | (go_at_call 47; refine (spanFrom_at (by omega) (by omega) (by omega) (by omega) _).mono ?_; rintro e w2 ⟨rfl, hb2⟩; have HB2 := Lib.hid (HB1.out.trans (hb2.mono HB1.out.size)); clear hb2))
    go_ret2
    exact ⟨_, rfl, by rw [HN.out]; exact spans_block (heap_alloc_new w2 _) rfl rfl (by decide), HB2.out.trans (((Below.refl _ _).alloc (Nat.le_refl _) _).mono HB2.out.size)⟩
set_option maxHeartbeats 1000000 in
theorem of_no {k s l t : Int} (h : (okW k s l && okT t) = false) (w : World) : Calls Try.prog 28 #[wnV k s l, .int .i64 t] w fun e w' => ∃ v, e = .returned (.tuple #[v, .int .i64 1]) ∧ SpansAt w' v [] ∧ Below w.heap.size w w' := by
  have HB0 : Hid (Below w.heap.size w (w.alloc (.cells #[.int .i64 k, .int .i64 s, .int .i64 l] 23))) := Lib.hid ((Below.refl _ _).alloc (Nat.le_refl _) _)
  cases hw : okW k s l with
  | false =>
    have HW := Lib.hid hw
    clear h hw
    go_enter Try.func28, Try.ntmps28
    go_wp2_with (go_at_call 26; refine (right_at HW.out _).mono ?_; rintro e w1 ⟨rfl, hb1⟩; have HB1 := Lib.hid (HB0.out.trans (hb1.mono HB0.out.size)); clear hb1)
    go_ret2
    exact ⟨_, rfl, nil_spans _, HB1.out⟩
  | true =>
    have HW := Lib.hid hw
    have ht : t < 0 ∨ 1000000000 < t := by
      rw [hw] at h
      unfold okT at h
      simp at h
      omega
    clear h hw
    rcases ht with ht | ht
    · go_enter Try.func28, Try.ntmps28
      go_wp2_with (go_at_call 26; refine (right_at HW.out _).mono ?_; rintro e w1 ⟨rfl, hb1⟩; have HB1 := Lib.hid (HB0.out.trans (hb1.mono HB0.out.size)); clear hb1)
      go_ret2
      exact ⟨_, rfl, nil_spans _, HB1.out⟩
    · have ht2 : ¬ t < 0 := by omega
      go_enter Try.func28, Try.ntmps28
      go_wp2_with (go_at_call 26; refine (right_at HW.out _).mono ?_; rintro e w1 ⟨rfl, hb1⟩; have HB1 := Lib.hid (HB0.out.trans (hb1.mono HB0.out.size)); clear hb1)
      go_ret2
      exact ⟨_, rfl, nil_spans _, HB1.out⟩
end Go.Proofs.Ytlmnkmfpdjkijaa.Wi
