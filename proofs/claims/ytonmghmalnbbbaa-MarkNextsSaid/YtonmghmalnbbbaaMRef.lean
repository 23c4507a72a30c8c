/-
  The document's own functions of layer 8: is it a mark, a time; a mark behind a record; the least of all. Conditions: as each theorem names them.
-/
import Derived.Test.YtonmghmalnbbbaaMKit
namespace Go.Proofs.Ytonmghmalnbbbaa.Mk
set_option linter.unusedVariables false
set_option linter.unusedSimpArgs false
open Go.RowKit

def okM (n : Int) : Bool := decide (0 ≤ n) && decide (n ≤ 1000000001)
def okT (n : Int) : Bool := decide (0 ≤ n) && decide (n ≤ 1000000000)
set_option maxHeartbeats 400000 in
theorem ris_any (n : Int) (w : World) : Calls Try.prog 9 #[.int .i64 n] w fun e w' => e = .returned (.bool (okM n)) ∧ w = w' := by
  unfold okM
  go_enter Try.func9, Try.ntmps9
  go_wp2
  all_goals go_ret
  all_goals exact ⟨ret_bool (by rw [Bool.eq_iff_iff]; simp; try omega), rfl⟩
theorem ris_at {n : Int} {b : Bool} (h : okM n = b) (w : World) : Calls Try.prog 9 #[.int .i64 n] w fun e w' => e = .returned (.bool b) ∧ w = w' := by
  subst h; exact ris_any n w
set_option maxHeartbeats 400000 in
theorem rtime_any (n : Int) (w : World) : Calls Try.prog 10 #[.int .i64 n] w fun e w' => e = .returned (.bool (okT n)) ∧ w = w' := by
  unfold okT
  go_enter Try.func10, Try.ntmps10
  go_wp2
  all_goals go_ret
  all_goals exact ⟨ret_bool (by rw [Bool.eq_iff_iff]; simp; try omega), rfl⟩
theorem rtime_at {n : Int} {b : Bool} (h : okT n = b) (w : World) : Calls Try.prog 10 #[.int .i64 n] w fun e w' => e = .returned (.bool b) ∧ w = w' := by
  subst h; exact rtime_any n w
set_option maxHeartbeats 400000 in
theorem rnext_any {m b t : Int} (hm : okM m = true) (hb1 : -1 ≤ b) (hb2 : b ≤ 1000000) (ht : okT t = true) (w : World) : Calls Try.prog 12 #[.int .i64 m, .int .i64 b, .int .i64 t] w fun e w' => e = .returned (.int .i64 (nx m b t)) ∧ w = w' := by
  unfold okM at hm
  unfold okT at ht
  simp only [Bool.and_eq_true, decide_eq_true_eq] at hm ht
  obtain ⟨hm1, hm2⟩ := hm
  obtain ⟨ht1, ht2⟩ := ht
  unfold nx
  by_cases h1 : b < 0
  · rw [if_pos (.inl h1)]
    go_enter Try.func12, Try.ntmps12
    go_wp2
    go_ret
    exact ⟨rfl, rfl⟩
  · by_cases h2 : t - b < m
    · rw [if_pos (.inr h2)]
      go_enter Try.func12, Try.ntmps12
      go_wp2
      go_ret
      exact ⟨rfl, rfl⟩
    · rw [if_neg (by omega)]
      go_enter Try.func12, Try.ntmps12
      go_wp2
      go_ret
      exact ⟨rfl, rfl⟩
set_option maxRecDepth 20000 in
set_option maxHeartbeats 1000000 in
theorem rleast_at {w : World} {g n : Nat} {S : Nat → Nat} (hn : n ≤ 16) (h : w.heap[g]? = some (.cells (sn n S) 3 (0, 0))) {m : Nat} (hm : leastS S n = m) : Calls Try.prog 17 #[.slice (some ⟨g, 0, none⟩) n n] w fun e w' => e = .returned (.int .i64 (m : Int)) ∧ w = w' := by
  have HC : Hid (∀ p, p < n → w.cell? ⟨g, p, none⟩ = some (.int .i64 (S p : Int))) := Lib.hid (fun p hp => by rw [cell_of_heap h]; exact sn_get S hp)
  have HM := Lib.hid hm
  clear h hm
  go_enter Try.func17, Try.ntmps17
  go_wp2
  go_loop [3, 4] (fun x z => ∃ k a : Nat, k ≤ n ∧ x = .int .i64 a ∧ z = .int .i64 k ∧ Hid (leastS S k = a)) (fun _ z => n - (intOf z).toNat)
  case atStart => exact ⟨0, 1000000001, Nat.zero_le _, rfl, rfl, Lib.hid rfl⟩
  case round =>
    obtain ⟨k, a, hk, rfl, rfl, HA⟩ := hrel
    by_cases hlt : k < n
    · have c0 := HC.out k hlt
      obtain ⟨v, hv⟩ : ∃ v, S k = v := ⟨_, rfl⟩
      rw [hv] at c0
      have g0 : (0 : Int) ≤ (k : Int) := by omega
      have g1 : (k : Int) < (n : Int) := by omega
      by_cases hq : v < a
      · have HN : Hid (leastS S (k + 1) = v) := Lib.hid (by rw [leastS, HA.out, hv, if_pos hq])
        clear hv HA
        go_wp2
        go_round
        case rel => exact ⟨k + 1, v, by omega, rfl, by go_num, HN⟩
        case measure => simp [intOf]; omega
      · have HN : Hid (leastS S (k + 1) = a) := Lib.hid (by rw [leastS, HA.out, hv, if_neg hq])
        clear hv HA
        go_wp2
        go_round
        case rel => exact ⟨k + 1, a, by omega, rfl, by go_num, HN⟩
        case measure => simp [intOf]; omega
    · have HN : Hid (a = m) := Lib.hid (by rw [← HA.out, ← HM.out, show k = n by omega])
      clear HA
      go_wp2
      go_ret
      exact ⟨ret_int (by rw [HN.out]), rfl⟩
end Go.Proofs.Ytonmghmalnbbbaa.Mk
