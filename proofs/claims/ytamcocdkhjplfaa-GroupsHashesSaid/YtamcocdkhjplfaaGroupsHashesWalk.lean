/-
  GroupsHashes: the walk of the law. Conditions: none.
-/
import Derived.Test.YtamcocdkhjplfaaHAwake
namespace Go.Proofs.Ytamcocdkhjplfaa.Gp
set_option linter.unusedVariables false
set_option linter.unusedSimpArgs false
open Go.RowKit

set_option maxRecDepth 20000 in
set_option maxHeartbeats 1000000 in
theorem groupsHashes_walk (s : ByteArray) (w : World) : Calls Try.prog 3 #[.string s] w fun e w' => e = .returned (.bool true) ∧ Below w.heap.size w w' := by
  by_cases hs : s.size ≤ 4096
  · have hq := hs_lt s.data.toList
    obtain ⟨q, hqq⟩ : ∃ q, Gp.hs s.data.toList = q := ⟨_, rfl⟩
    rw [hqq] at hq
    have HQ := Lib.hid hqq
    clear hqq
    go_enter Try.func3, Try.ntmps3
    go_wp2_with (first
      | (go_at_call 7; refine (awake_any _).mono ?_; rintro e w2 ⟨rfl, hb2⟩; have HB2 := Lib.hid hb2; clear hb2)
      | (go_at_call 8; refine (hash_any s _ hs).mono ?_; rw [HQ.out]; rintro e w3 ⟨rfl, rfl⟩)
      | (go_at_call 9; refine (rhash_any s _ hs).mono ?_; rw [HQ.out]; rintro e w3 ⟨rfl, rfl⟩)
      | (go_at_call 10; refine (group_any s _ hs).mono ?_; rw [HQ.out]; rintro e w3 ⟨rfl, rfl⟩)
      | (go_at_call 11; refine (rgroup_any s _ hs).mono ?_; rw [HQ.out]; rintro e w3 ⟨rfl, rfl⟩))
    go_ret
    exact ⟨rfl, HB2.out⟩
  · go_enter Try.func3, Try.ntmps3
    go_wp2
    go_ret
    exact ⟨rfl, Below.refl _ _⟩
end Go.Proofs.Ytamcocdkhjplfaa.Gp
