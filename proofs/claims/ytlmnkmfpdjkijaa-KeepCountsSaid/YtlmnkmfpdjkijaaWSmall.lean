/-
  Small functions of layer 9: may windows be so, do two spans share a time, the greatest multiple below, are two rows the same. Conditions: as each theorem names them.
-/
import Derived.Test.YtlmnkmfpdjkijaaWKit
namespace Go.Proofs.Ytlmnkmfpdjkijaa.Wi
set_option linter.unusedVariables false
set_option linter.unusedSimpArgs false
open Go.RowKit

abbrev wnV (k s l : Int) : Value := .agg #[.int .i64 k, .int .i64 s, .int .i64 l]
set_option maxHeartbeats 400000 in
theorem rtime_any (n : Int) (w : World) : Calls Try.prog 33 #[.int .i64 n] w fun e w' => e = .returned (.bool (okT n)) ∧ w = w' := by
  unfold okT
  go_enter Try.func33, Try.ntmps33
  go_wp2
  all_goals go_ret
  all_goals exact ⟨ret_bool (by rw [Bool.eq_iff_iff]; simp; try omega), rfl⟩
theorem rtime_at {n : Int} {b : Bool} (h : okT n = b) (w : World) : Calls Try.prog 33 #[.int .i64 n] w fun e w' => e = .returned (.bool b) ∧ w = w' := by
  subst h; exact rtime_any n w
set_option maxHeartbeats 2000000 in
theorem win_any (k s l : Int) (w : World) : Calls Try.prog 51 #[wnV k s l, .int .i64 (if k = 0 then 0 else 1)] w fun e w' => e = .returned (.bool (okW k s l)) ∧ Below w.heap.size w w' := by
  have HB : Hid (Below w.heap.size w (w.alloc (.cells #[.int .i64 k, .int .i64 s, .int .i64 l] 23))) := Lib.hid ((Below.refl _ _).alloc (Nat.le_refl _) _)
  unfold okW
  by_cases h0 : k = 0
  · subst h0
    rw [if_pos rfl, if_pos rfl]
    go_enter Try.func51, Try.ntmps51
    go_wp2
    all_goals go_ret
    all_goals exact ⟨ret_bool (by first | (rw [Bool.eq_iff_iff]; simp; omega) | (rw [Bool.eq_iff_iff]; simp; done) | (simp; done) | rfl), (Below.refl _ _).alloc (Nat.le_refl _) _⟩
  · rw [if_neg h0, if_neg h0]
    have e0 : (k == 0) = false := ibne h0
    by_cases h1 : s < 1 ∨ 1000000 < s
    · rw [if_pos h1]
      rcases h1 with h1 | h1
      · go_enter Try.func51, Try.ntmps51
        go_wp2
        go_ret
        exact ⟨rfl, (Below.refl _ _).alloc (Nat.le_refl _) _⟩
      · go_enter Try.func51, Try.ntmps51
        go_wp2
        go_ret
        exact ⟨rfl, (Below.refl _ _).alloc (Nat.le_refl _) _⟩
    · rw [if_neg h1]
      have h1a : ¬ s < 1 := by omega
      have h1b : ¬ 1000000 < s := by omega
      clear h1
      by_cases h2 : k = 1 ∨ k = 3
      · rw [if_pos h2]
        rcases h2 with rfl | rfl
        · clear h0
          go_enter Try.func51, Try.ntmps51
          go_wp2
          go_ret
          exact ⟨ret_bool (by first | (rw [Bool.eq_iff_iff]; simp; done) | rfl), (Below.refl _ _).alloc (Nat.le_refl _) _⟩
        · clear h0
          go_enter Try.func51, Try.ntmps51
          go_wp2
          go_ret
          exact ⟨ret_bool (by first | (rw [Bool.eq_iff_iff]; simp; done) | rfl), (Below.refl _ _).alloc (Nat.le_refl _) _⟩
      · rw [if_neg h2]
        have e1 : (k == 1) = false := ibne (fun h => h2 (.inl h))
        have e3 : (k == 3) = false := ibne (fun h => h2 (.inr h))
        clear h2
        by_cases h4 : k = 2
        · subst h4
          rw [if_pos rfl]
          clear h0 e0 e1 e3
          by_cases h5 : 1 ≤ l
          · by_cases h6 : l ≤ s
            · go_enter Try.func51, Try.ntmps51
              go_wp2
              all_goals go_ret
              all_goals exact ⟨ret_bool (by first | (rw [Bool.eq_iff_iff]; simp; omega) | (rw [Bool.eq_iff_iff]; simp; done) | (simp; done) | rfl), (Below.refl _ _).alloc (Nat.le_refl _) _⟩
            · go_enter Try.func51, Try.ntmps51
              go_wp2
              all_goals go_ret
              all_goals exact ⟨ret_bool (by first | (rw [Bool.eq_iff_iff]; simp; omega) | (rw [Bool.eq_iff_iff]; simp; done) | (simp; done) | rfl), (Below.refl _ _).alloc (Nat.le_refl _) _⟩
          · go_enter Try.func51, Try.ntmps51
            go_wp2
            all_goals go_ret
            all_goals exact ⟨ret_bool (by first | (rw [Bool.eq_iff_iff]; simp; omega) | (rw [Bool.eq_iff_iff]; simp; done) | (simp; done) | rfl), (Below.refl _ _).alloc (Nat.le_refl _) _⟩
        · rw [if_neg h4]
          have e2 : (k == 2) = false := ibne h4
          clear h4 h0
          go_enter Try.func51, Try.ntmps51
          go_wp2
          go_ret
          exact ⟨rfl, (Below.refl _ _).alloc (Nat.le_refl _) _⟩
theorem win_is {k s l g : Int} (hg : (if k = 0 then 0 else 1) = g) {b : Bool} (h : okW k s l = b) (w : World) : Calls Try.prog 51 #[wnV k s l, .int .i64 g] w fun e w' => e = .returned (.bool b) ∧ Below w.heap.size w w' := by
  subst hg h; exact win_any k s l w
set_option maxHeartbeats 1000000 in
theorem rright_at {k s l : Int} {b : Bool} (h : okW k s l = b) (w : World) : Calls Try.prog 32 #[wnV k s l] w fun e w' => e = .returned (.bool b) ∧ Below w.heap.size w w' := by
  have HW := Lib.hid h
  have HB : Hid (Below w.heap.size w (w.alloc (.cells #[.int .i64 k, .int .i64 s, .int .i64 l] 23))) := Lib.hid ((Below.refl _ _).alloc (Nat.le_refl _) _)
  clear h
  by_cases h0 : k = 0
  · have HG : Hid ((if k = 0 then (0 : Int) else 1) = 0) := Lib.hid (by rw [if_pos h0])
    have e0 : (k == 0) = true := ibeq h0
    clear h0
    go_enter Try.func32, Try.ntmps32
    go_wp2_with (go_at_call 51; refine (win_is HG.out HW.out _).mono ?_; rintro e w2 ⟨rfl, hb2⟩; have HB2 := Lib.hid (HB.out.trans (hb2.mono HB.out.size)); clear hb2)
    go_ret
    exact ⟨rfl, HB2.out⟩
  · have HG : Hid ((if k = 0 then (0 : Int) else 1) = 1) := Lib.hid (by rw [if_neg h0])
    have e0 : (k == 0) = false := ibne h0
    clear h0
    go_enter Try.func32, Try.ntmps32
    go_wp2_with (go_at_call 51; refine (win_is HG.out HW.out _).mono ?_; rintro e w2 ⟨rfl, hb2⟩; have HB2 := Lib.hid (HB.out.trans (hb2.mono HB.out.size)); clear hb2)
    go_ret
    exact ⟨rfl, HB2.out⟩
end Go.Proofs.Ytlmnkmfpdjkijaa.Wi
